/-
  CONTRACTS OF package postilionref02: bytes that are unpacked.
-/
import Derived.Test.YtocggnaekajdbaaPg
namespace Go.Proofs.Ytocggnaekajdbaa
open Go.RowKit
set_option linter.unusedVariables false
namespace PM
theorem BS.sub {w : World} {b off cap k n : Nat} {l : List UInt8} (h1 : l.length ≤ cap) (h2 : cap ≤ maxLen) (h3 : ∀ i x, l[i]? = Option.some x → w.cell? ⟨b, off + i, Option.none⟩ = Option.some (bv x)) (hk : k + n ≤ l.length) :
    BS w (.slice (Option.some ⟨b, off + k, Option.none⟩) n (cap - k)) ((l.drop k).take n) ∧ (cap = k → BS w (.slice (Option.some ⟨b, off, Option.none⟩) n (cap - k)) ((l.drop k).take n)) := by
  have hlen : ((l.drop k).take n).length = n := by rw [List.length_take, List.length_drop]; omega
  constructor
  · refine .inr (.inl ⟨b, off + k, cap - k, by rw [hlen], by rw [hlen]; omega, by omega, fun i x hi => ?_⟩)
    have hi' := (List.getElem?_eq_some_iff.1 hi).1
    rw [hlen] at hi'
    rw [List.getElem?_take_of_lt hi', List.getElem?_drop] at hi
    rw [Nat.add_assoc]
    exact h3 _ _ hi
  · intro e
    have hn : n = 0 := by omega
    subst hn
    exact .inr (.inr ⟨_, _, rfl, by simp, by omega⟩)
theorem getK_lt (l : List UInt8) : (getK l).1 < 2 ^ 64 ∧ (getK l).2 ≤ l.length := by
  unfold getK
  cases hg : getN l with
  | none => simp
  | some p => obtain ⟨n, r⟩ := p; have := getN_lt hg; simp only; omega
/-- the bytes that bytes begin with, and how many these have in all -/
def getB (l : List UInt8) (most : Int) : List UInt8 × Nat :=
  if (getK l).2 = 0 ∨ most < 0 ∨ most.toNat < (getK l).1 ∨ l.length - (getK l).2 < (getK l).1 then ([], 0) else ((l.drop (getK l).2).take (getK l).1, (getK l).2 + (getK l).1)
end PM
set_option maxHeartbeats 1000000 in
theorem rgetB_any (v : Value) (l : List UInt8) (most : Int) (w : World) (hv : PM.BS w v l) (hl : l.length ≤ 70368744177664) (hm1 : -9223372036854775808 ≤ most) (hm2 : most ≤ 9223372036854775807) :
    Calls Try.prog 76 #[v, .int .i64 most] w fun e w' => ∃ x, e = .returned (.tuple #[x, .int .i64 ((PM.getB l most).2 : Nat)]) ∧ PM.BS w' x (PM.getB l most).1 ∧ Below w.heap.size w w' := by
  have hv0 := hv
  have hlt := PM.getK_lt l
  have HE : Hid (PM.getB l most = if (PM.getK l).2 = 0 ∨ most < 0 ∨ most.toNat < (PM.getK l).1 ∨ l.length - (PM.getK l).2 < (PM.getK l).1 then ([], 0) else ((l.drop (PM.getK l).2).take (PM.getK l).1, (PM.getK l).2 + (PM.getK l).1)) := Lib.hid rfl
  obtain ⟨a, cap, rfl⟩ := hv.len
  go_enter Try.func76, Try.ntmps76
  go_wp2_with fail
  refine (rget_any _ l _ hv0 hl).mono ?_
  rintro e w1 ⟨rfl, hB⟩
  generalize PM.getK l = g at *
  obtain ⟨n, k⟩ := g
  simp only at hlt ⊢
  obtain ⟨hn, hk⟩ := hlt
  by_cases c1 : k = 0
  · subst c1
    have Hst : Hid (PM.getB l most = ([], 0)) := Lib.hid (by rw [HE.out]; simp)
    go_wp2
    go_ret2
    rw [Hst.out]
    exact ⟨_, rfl, PM.BS.nil _, hB⟩
  have c1' : ((k : Int) == 0) = false := by rw [beq_eq_false_iff_ne]; omega
  by_cases c2 : most < 0
  · have Hst : Hid (PM.getB l most = ([], 0)) := Lib.hid (by rw [HE.out]; simp [c2])
    go_wp2
    go_ret2
    rw [Hst.out]
    exact ⟨_, rfl, PM.BS.nil _, hB⟩
  obtain ⟨m, rfl⟩ := Int.eq_ofNat_of_zero_le (show 0 ≤ most by omega)
  by_cases c3 : m < n
  · have c3' : (m : Int) < (n : Int) := by omega
    have Hst : Hid (PM.getB l m = ([], 0)) := Lib.hid (by rw [HE.out]; simp [c3])
    go_wp2
    go_ret2
    rw [Hst.out]
    exact ⟨_, rfl, PM.BS.nil _, hB⟩
  have c3' : ¬ ((m : Int) < (n : Int)) := by omega
  by_cases c4 : l.length - k < n
  · have c4' : (l.length : Int) - (k : Int) < (n : Int) := by omega
    have Hst : Hid (PM.getB l m = ([], 0)) := Lib.hid (by rw [HE.out]; simp [c4])
    go_wp2
    go_ret2
    rw [Hst.out]
    exact ⟨_, rfl, PM.BS.nil _, hB⟩
  have c4' : ¬ ((l.length : Int) - (k : Int) < (n : Int)) := by omega
  have Hst : Hid (PM.getB l m = ((l.drop k).take n, k + n)) := Lib.hid (by rw [HE.out, if_neg (by simp only [Int.toNat_natCast]; omega)])
  rcases hv with ⟨he, rfl⟩ | ⟨vb, off, cap', he, hcap, hmax, hcell⟩ | ⟨x0, cap', he, rfl, hmax⟩
  · exact absurd (by simpa using hk) c1
  case inr.inr => exact absurd (by simpa using hk) c1
  simp at he
  obtain ⟨rfl, rfl⟩ := he
  have Hsub := Lib.hid (PM.BS.sub hcap hmax hcell (k := k) (n := n) (by omega))
  unfold maxLen at hmax
  clear hcell
  have e1 : wrap64 (n : Int) = (n : Int) := by unfold wrap64; omega
  have hn63 : n ≤ 70368744177664 := by omega
  by_cases hc : cap = k
  · have Hc := Lib.hid hc
    subst hc
    go_wp2
    go_ret2
    rw [Hst.out]
    have := (Hsub.out.2 (by first | trivial | rfl)).keep hB
    exact ⟨_, rfl, by simpa using this, hB⟩
  · go_wp2
    go_ret2
    rw [Hst.out]
    have := (Hsub.out.1).keep hB
    exact ⟨_, rfl, by simpa using this, hB⟩
end Go.Proofs.Ytocggnaekajdbaa
