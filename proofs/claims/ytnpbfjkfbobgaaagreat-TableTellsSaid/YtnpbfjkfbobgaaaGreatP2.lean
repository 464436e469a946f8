import Derived.Test.YtnpbfjkfbobgaaaGreatP1
import Derived.Test.YtnpbfjkfbobgaaaGreatR0
import Derived.Laws.OwnMore
import Derived.Test.YtnpbfjkfbobgaaaGreatP0
/-
  CONTRACTS OF package postilionref02: packing.
-/
namespace Go.Proofs.YtnpbfjkfbobgaaaGreat
open Go.RowKit
set_option linter.unusedVariables false
namespace PM
theorem OW.one {E : TypeId} {B : Nat} (W : World) (b : UInt8) (hB : B ≤ W.heap.size) : OW E B (W.alloc (.cells #[.int .u8 (b.toNat : Int)] E)) (.slice (Option.some ⟨W.heap.size, 0, Option.none⟩) 1 1) [b] :=
  World.ownsRow_lit W #[bv b] 1 hB (by unfold maxLen; omega) (by simp)
/-- append onto one byte that was just laid -/
theorem wpList_appl {P : Program} {w : World} {ops : Array Oper} {rest : List Oper} {o : Oper} {a : Act} {Q : Exit → Act → World → Prop} {T E : TypeId} (BT : ByteTy P T E) (B : Nat) (W : World) (hgd : o.guard = none) (s x : Operand)
    (ho : o.op = .call { callee := .builtin .append, args := #[s, x], argTypes := #[T, T] })
    (xv : Value) (l : List UInt8) (c : Int) (b : UInt8) (hs : a.eval s = .slice (Option.some ⟨W.heap.size, 0, Option.none⟩) 1 1) (hx : a.eval x = xv) (hw : w = W.alloc (.cells #[.int .u8 c] E)) (hc : c = (b.toNat : Int))
    (hb : BS W xv l) (hn : 1 + l.length ≤ 140737488355328) (hB : B ≤ W.heap.size)
    (h : ∀ v' w', OW E B w' v' (b :: l) → Below B W w' → wpList P ops Q rest (a.put o.dst v') w') : wpList P ops Q (o :: rest) a w := by
  subst hc
  subst hw
  have hb0 : Below W.heap.size W (W.alloc (.cells #[.int .u8 (b.toNat : Int)] E)) := (Below.refl _ _).alloc (Nat.le_refl _) _
  exact wpList_app BT B hgd s x ho _ _ [b] l hs hx (OW.one W b hB) (hb.keep hb0) (by simpa using hn) (Nat.le_trans hB hb0.size) fun v' w' h1 h2 _ => h v' w' h1 ((hb0.mono hB).trans h2)
theorem u8_mod' (n : Nat) : ((n : Int) % 256) = ((UInt8.ofNat n).toNat : Int) := by rw [u8_nat]; simp
theorem be_more (n j : Nat) : UInt8.ofNat (n / 256 ^ j) :: be n j = be n (j + 1) := by
  have e : be n (j + 1) = UInt8.ofNat (n / 2 ^ (8 * j)) :: be n j := by
    unfold be
    rw [List.range_succ_eq_map, List.map_cons, List.map_map]
    congr 1
    apply List.map_congr_left
    intro i hi
    simp only [Function.comp_def]
    congr 3
    omega
  rw [e, Nat.pow_mul]
end PM
end Go.Proofs.YtnpbfjkfbobgaaaGreat

/-
  CONTRACTS OF package postilionref02: unpacking.
-/
namespace Go.Proofs.YtnpbfjkfbobgaaaGreat
open Go.RowKit
set_option linter.unusedVariables false
namespace PM
/-- the number that bytes begin with, and how many bytes it has -/
def getK (l : List UInt8) : Nat × Nat := match getN l with | some (n, r) => (n, l.length - r.length) | none => (0, 0)
theorem getK_nil : getK [] = (0, 0) := rfl
theorem getK_no (s : UInt8) (r : List UInt8) (h : ¬ (s.toNat ≤ 8 ∧ s.toNat ≤ r.length ∧ wid (bval (r.take s.toNat)) = s.toNat)) : getK (s :: r) = (0, 0) := by
  unfold getK getN
  simp only [h, if_false]
theorem getK_yes (s : UInt8) (r : List UInt8) (h8 : s.toNat ≤ 8) (hr : s.toNat ≤ r.length) (hw : wid (bval (r.take s.toNat)) = s.toNat) : getK (s :: r) = (bval (r.take s.toNat), 1 + s.toNat) := by
  unfold getK getN
  simp only [h8, hr, hw, and_self, if_true]
  congr 1
  simp; omega
theorem numB_take (s : UInt8) (r : List UInt8) (h8 : s.toNat ≤ 8) (hr : s.toNat ≤ r.length) : numB (bval (r.take s.toNat)) = (s :: r).take (1 + s.toNat) ↔ wid (bval (r.take s.toNat)) = s.toNat := by
  have hlt := bval_lt (r.take s.toNat)
  have hle : (r.take s.toNat).length = s.toNat := List.length_take_of_le hr
  have hp : (256 : Nat) ^ (r.take s.toNat).length ≤ 256 ^ 8 := Nat.pow_le_pow_right (by omega) (by omega)
  constructor
  · intro h
    have h1 := congrArg List.length h
    rw [numB_length, List.length_take] at h1
    simp at h1
    omega
  · intro h
    have hg : getN (s :: r) = some (bval (r.take s.toNat), r.drop s.toNat) := by
      unfold getN; simp only [h8, hr, h, and_self, if_true]
    have h2 := getN_back hg
    have h3 : (numB (bval (r.take s.toNat))).length = 1 + s.toNat := by rw [numB_length, h]; omega
    rw [h2, ← h3, List.take_left]
end PM
end Go.Proofs.YtnpbfjkfbobgaaaGreat

/-
  CONTRACTS OF package postilionref02: bytes that are unpacked.
-/
namespace Go.Proofs.YtnpbfjkfbobgaaaGreat
open Go.RowKit
set_option linter.unusedVariables false
namespace PM
theorem BS.sub {w : World} {b off cap k n : Nat} {l : List UInt8} (h1 : l.length ≤ cap) (h2 : cap ≤ maxLen) (h3 : ∀ i x, l[i]? = Option.some x → w.cell? ⟨b, off + i, Option.none⟩ = Option.some (bv x)) (hk : k + n ≤ l.length) :
    BS w (.slice (Option.some ⟨b, off + k, Option.none⟩) n (cap - k)) ((l.drop k).take n) ∧ (cap = k → BS w (.slice (Option.some ⟨b, off, Option.none⟩) n (cap - k)) ((l.drop k).take n)) := by
  have hlen : ((l.drop k).take n).length = n := by rw [List.length_take, List.length_drop]; omega
  constructor
  · refine .inr (.inl ⟨b, off + k, cap - k, by rw [hlen], by rw [hlen]; omega, by omega, fun i x hi => ?_⟩)
    have hi' := (List.getElem?_eq_some_iff.1 hi).1
    rw [hlen] at hi'
    rw [List.getElem?_take_of_lt hi', List.getElem?_drop] at hi
    rw [Nat.add_assoc]
    exact h3 _ _ hi
  · intro e
    have hn : n = 0 := by omega
    subst hn
    exact .inr (.inr ⟨_, _, rfl, by simp, by omega⟩)
theorem getK_lt (l : List UInt8) : (getK l).1 < 2 ^ 64 ∧ (getK l).2 ≤ l.length := by
  unfold getK
  cases hg : getN l with
  | none => simp
  | some p => obtain ⟨n, r⟩ := p; have := getN_lt hg; simp only; omega
/-- the bytes that bytes begin with, and how many these have in all -/
def getB (l : List UInt8) (most : Int) : List UInt8 × Nat :=
  if (getK l).2 = 0 ∨ most < 0 ∨ most.toNat < (getK l).1 ∨ l.length - (getK l).2 < (getK l).1 then ([], 0) else ((l.drop (getK l).2).take (getK l).1, (getK l).2 + (getK l).1)
end PM
end Go.Proofs.YtnpbfjkfbobgaaaGreat

/-
  CONTRACTS OF package postilionref02: a value that is unpacked.
-/
namespace Go.Proofs.YtnpbfjkfbobgaaaGreat
open Go.RowKit
set_option linter.unusedVariables false
namespace PM
/-- the value that bytes begin with, and how many bytes it has in all -/
def getV (l : List UInt8) : (Int × Int × List UInt8) × Nat :=
  let a := getK l
  let c := getK (l.drop a.2)
  let d := getB (l.drop (a.2 + c.2)) 40
  if a.2 = 0 ∨ 3 < a.1 ∨ c.2 = 0 ∨ d.2 = 0 then ((0, 0, []), 0)
  else if may a.1 (pickZ a.1 c.1) d.1 = true then (((a.1 : Int), pickZ a.1 c.1, d.1), a.2 + c.2 + d.2) else ((0, 0, []), 0)
theorem getV_eq (l s : List UInt8) (n1 k1 n2 k2 k3 : Nat) (h1 : getK l = (n1, k1)) (h2 : getK (l.drop k1) = (n2, k2)) (h3 : getB (l.drop (k1 + k2)) 40 = (s, k3)) :
    getV l = if k1 = 0 ∨ 3 < n1 ∨ k2 = 0 ∨ k3 = 0 then ((0, 0, []), 0) else if may n1 (pickZ n1 n2) s = true then (((n1 : Int), pickZ n1 n2, s), k1 + k2 + k3) else ((0, 0, []), 0) := by
  unfold getV
  simp only [h1, h2, h3]
theorem getB_lt (l : List UInt8) (m : Int) : (getB l m).2 ≤ l.length ∧ (getB l m).1.length ≤ l.length := by
  have h := getK_lt l
  unfold getB
  split
  · simp
  · simp only [List.length_take, List.length_drop]; omega
end PM
end Go.Proofs.YtnpbfjkfbobgaaaGreat

/-
  CONTRACT OF postilionref02.GetValue.
-/
namespace Go.Proofs.YtnpbfjkfbobgaaaGreat
open Go.RowKit
set_option linter.unusedVariables false
end Go.Proofs.YtnpbfjkfbobgaaaGreat

/-
  PLAIN FACTS: a reader's steps are what the document's answers say.
-/
namespace Go.Proofs.YtnpbfjkfbobgaaaGreat
namespace PM
theorem getK_none {l : List UInt8} (h : (getK l).2 = 0) : getN l = none ∧ getK l = (0, 0) := by
  unfold getK at *
  cases hg : getN l with
  | none => exact ⟨rfl, rfl⟩
  | some p =>
    obtain ⟨n, r⟩ := p
    have := getN_lt hg
    rw [hg] at h
    simp only at h
    omega
theorem getK_some {l : List UInt8} (h : (getK l).2 ≠ 0) : getN l = some ((getK l).1, l.drop (getK l).2) := by
  unfold getK at *
  cases hg : getN l with
  | none => rw [hg] at h; simp at h
  | some p =>
    obtain ⟨n, r⟩ := p
    have hb := getN_back hg
    simp only
    congr 2
    have hl : l.length = (numB n).length + r.length := by rw [hb, List.length_append]
    rw [show l.length - r.length = (numB n).length from by omega, hb, List.drop_left]
theorem stepN_getK (l : List UInt8) : stepN l false = if (getK l).2 = 0 then (0, [], true) else ((getK l).1, l.drop (getK l).2, false) := by
  unfold stepN
  by_cases h : (getK l).2 = 0
  · rw [(getK_none h).1, if_pos h]; rfl
  · rw [getK_some h, if_neg h]; rfl
theorem stepB_getB (l : List UInt8) (most : Int) : stepB l false most = if (getB l most).2 = 0 then ([], [], true) else ((getB l most).1, l.drop (getB l most).2, false) := by
  unfold stepB
  rw [stepN_getK]
  by_cases h : (getK l).2 = 0
  · rw [if_pos h]
    have hb : getB l most = ([], 0) := by unfold getB; rw [if_pos (Or.inl h)]
    rw [hb]; simp
  · rw [if_neg h]
    by_cases hc : most < 0 ∨ most.toNat < (getK l).1 ∨ l.length - (getK l).2 < (getK l).1
    · have hb : getB l most = ([], 0) := by unfold getB; rw [if_pos (Or.inr hc)]
      rw [hb, if_pos (by simpa using hc)]; simp
    · have hb : getB l most = ((l.drop (getK l).2).take (getK l).1, (getK l).2 + (getK l).1) := by unfold getB; rw [if_neg (by simp only [h, false_or]; exact hc)]
      rw [hb, if_neg (by simpa using hc), if_neg (by simp only; omega)]
      simp only [List.drop_drop]
theorem getB_none {l : List UInt8} {most : Int} (h : (getB l most).2 = 0) : getB l most = ([], 0) := by
  unfold getB at *
  split
  · rfl
  · rename_i hc
    rw [if_neg hc] at h
    simp only at h
    omega
theorem may_big {n : Nat} {z : Int} {s : List UInt8} (h : 3 < n) : may (n : Int) z s = false := by
  unfold may
  rw [if_neg (by omega), if_neg (by omega), if_neg (by omega)]
theorem stepV_getV (l : List UInt8) : stepV l false = if (getV l).2 = 0 then ((0, 0, []), [], true) else ((getV l).1, l.drop (getV l).2, false) := by
  obtain ⟨n1, k1, g1⟩ : ∃ n k, getK l = (n, k) := ⟨_, _, rfl⟩
  obtain ⟨n2, k2, g2⟩ : ∃ n k, getK (l.drop k1) = (n, k) := ⟨_, _, rfl⟩
  obtain ⟨s3, k3, g3⟩ : ∃ s k, getB (l.drop (k1 + k2)) 40 = (s, k) := ⟨_, _, rfl⟩
  have hv := getV_eq l s3 n1 k1 n2 k2 k3 g1 g2 g3
  have e1 := stepN_getK l
  rw [g1] at e1
  have e2 := stepN_getK (l.drop k1)
  rw [g2, List.drop_drop] at e2
  have e3 := stepB_getB (l.drop (k1 + k2)) 40
  rw [g3, List.drop_drop] at e3
  simp only at e1 e2 e3
  by_cases c1 : k1 = 0
  · have hs := stepV_eq l false 0 0 [] [] [] [] true true true (by rw [e1, if_pos c1]) rfl (stepB_wr _ _)
    rw [hs, hv]
    simp [c1]
  rw [if_neg c1] at e1
  by_cases c2 : k2 = 0
  · have hs := stepV_eq l false n1 0 (l.drop k1) [] [] [] false true true e1 (by rw [e2, if_pos c2]) (stepB_wr _ _)
    rw [hs, hv]
    simp [c2]
  rw [if_neg c2] at e2
  by_cases c3 : k3 = 0
  · have hs := stepV_eq l false n1 n2 (l.drop k1) (l.drop (k1 + k2)) [] [] false false true e1 e2 (by rw [e3, if_pos c3])
    rw [hs, hv]
    simp [c3]
  rw [if_neg c3] at e3
  have hs := stepV_eq l false n1 n2 (l.drop k1) (l.drop (k1 + k2)) (l.drop (k1 + k2 + k3)) s3 false false false e1 e2 e3
  rw [hs, hv]
  by_cases c4 : 3 < n1
  · rw [if_pos (show k1 = 0 ∨ 3 < n1 ∨ k2 = 0 ∨ k3 = 0 from by omega), may_big c4]
    simp
  · rw [if_neg (show ¬ (false = true ∨ 2147483647 < n1) from by simp; omega), if_neg (show ¬ (k1 = 0 ∨ 3 < n1 ∨ k2 = 0 ∨ k3 = 0) from by omega)]
    by_cases hm : may n1 (pickZ n1 n2) s3 = true
    · simp only [if_pos hm]
      rw [if_neg (by omega)]
    · simp [hm]
end PM
end Go.Proofs.YtnpbfjkfbobgaaaGreat
