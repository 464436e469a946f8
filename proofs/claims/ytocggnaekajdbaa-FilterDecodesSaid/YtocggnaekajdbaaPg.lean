/-
  CONTRACTS OF package postilionref02: unpacking.
-/
import Derived.Test.YtocggnaekajdbaaPt
import Derived.Test.YtocggnaekajdbaaPo
import Derived.Test.YtocggnaekajdbaaRr
namespace Go.Proofs.Ytocggnaekajdbaa
open Go.RowKit
set_option linter.unusedVariables false
namespace PM
/-- the number that bytes begin with, and how many bytes it has -/
def getK (l : List UInt8) : Nat × Nat := match getN l with | some (n, r) => (n, l.length - r.length) | none => (0, 0)
theorem getK_nil : getK [] = (0, 0) := rfl
theorem getK_no (s : UInt8) (r : List UInt8) (h : ¬ (s.toNat ≤ 8 ∧ s.toNat ≤ r.length ∧ wid (bval (r.take s.toNat)) = s.toNat)) : getK (s :: r) = (0, 0) := by
  unfold getK getN
  simp only [h, if_false]
theorem getK_yes (s : UInt8) (r : List UInt8) (h8 : s.toNat ≤ 8) (hr : s.toNat ≤ r.length) (hw : wid (bval (r.take s.toNat)) = s.toNat) : getK (s :: r) = (bval (r.take s.toNat), 1 + s.toNat) := by
  unfold getK getN
  simp only [h8, hr, hw, and_self, if_true]
  congr 1
  simp; omega
theorem numB_take (s : UInt8) (r : List UInt8) (h8 : s.toNat ≤ 8) (hr : s.toNat ≤ r.length) : numB (bval (r.take s.toNat)) = (s :: r).take (1 + s.toNat) ↔ wid (bval (r.take s.toNat)) = s.toNat := by
  have hlt := bval_lt (r.take s.toNat)
  have hle : (r.take s.toNat).length = s.toNat := List.length_take_of_le hr
  have hp : (256 : Nat) ^ (r.take s.toNat).length ≤ 256 ^ 8 := Nat.pow_le_pow_right (by omega) (by omega)
  constructor
  · intro h
    have h1 := congrArg List.length h
    rw [numB_length, List.length_take] at h1
    simp at h1
    omega
  · intro h
    have hg : getN (s :: r) = some (bval (r.take s.toNat), r.drop s.toNat) := by
      unfold getN; simp only [h8, hr, h, and_self, if_true]
    have h2 := getN_back hg
    have h3 : (numB (bval (r.take s.toNat))).length = 1 + s.toNat := by rw [numB_length, h]; omega
    rw [h2, ← h3, List.take_left]
end PM
set_option maxHeartbeats 1000000 in
theorem rget_any (v : Value) (l : List UInt8) (w : World) (hv : PM.BS w v l) (hl : l.length ≤ 70368744177664) :
    Calls Try.prog 69 #[v] w fun e w' => e = .returned (.tuple #[.int .u64 ((PM.getK l).1 : Nat), .int .i64 ((PM.getK l).2 : Nat)]) ∧ Below w.heap.size w w' := by
  rcases l with _ | ⟨s, r⟩
  · obtain ⟨a, cap, rfl⟩ := hv.len
    go_enter Try.func69, Try.ntmps69
    go_wp2
    go_ret2
    exact ⟨rfl, Below.refl _ _⟩
  rcases hv with ⟨_, hc⟩ | ⟨vb, off, cap, rfl, hcap, hmax, hcell⟩ | ⟨_, _, _, hc, _⟩
  · cases hc
  case inr.inr => cases hc
  have e0 : w.cell? ⟨vb, off, none⟩ = some (.int .u8 (s.toNat : Int)) := hcell 0 s rfl
  have hne : (((s :: r).length : Int) == 0) = false := by simp; omega
  have hs256 := s.toNat_lt
  have hL : ((s :: r).length : Int) = (r.length : Int) + 1 := by simp
  have hne2 : (((r.length : Int) + 1) == 0) = false := by rw [beq_eq_false_iff_ne]; omega
  have hp0 : (0 : Int) < ((s :: r).length : Int) := by rw [hL]; omega
  unfold maxLen at hmax
  have hrl : r.length < 9223372036854775807 := by simp at hcap; omega
  by_cases h8 : s.toNat ≤ 8
  case neg =>
    have h8' : (8 : Int) < (s.toNat : Int) := by omega
    rw [PM.getK_no s r (fun h => h8 h.1)]
    go_enter Try.func69, Try.ntmps69
    go_wp2
    go_ret2
    exact ⟨rfl, Below.refl _ _⟩
  have h8' : ¬ ((8 : Int) < (s.toNat : Int)) := by omega
  by_cases hr : s.toNat ≤ r.length
  case neg =>
    have hr' : ((s :: r).length : Int) < 1 + (s.toNat : Int) := by rw [hL]; omega
    have hr2 : (r.length : Int) + 1 < 1 + (s.toNat : Int) := by omega
    rw [PM.getK_no s r (fun h => hr h.2.1)]
    go_enter Try.func69, Try.ntmps69
    go_wp2
    go_ret2
    exact ⟨rfl, Below.refl _ _⟩
  have hr' : ¬ (((s :: r).length : Int) < 1 + (s.toNat : Int)) := by rw [hL]; omega
  have hr2 : ¬ ((r.length : Int) + 1 < 1 + (s.toNat : Int)) := by omega
  have hpow : (256 : Nat) ^ s.toNat ≤ 256 ^ 8 := Nat.pow_le_pow_right (by omega) h8
  have hbl : ∀ k, k ≤ s.toNat → PM.bval (r.take k) < 256 ^ k := fun k hk => by
    have := PM.bval_lt (r.take k)
    rwa [List.length_take_of_le (by omega)] at this
  have HBL := Lib.hid hbl
  have Hcmp : Hid ((PM.numB (PM.bval (r.take s.toNat)) == (s :: r).take (1 + s.toNat)) = decide (PM.wid (PM.bval (r.take s.toNat)) = s.toNat)) := Lib.hid (by rw [Bool.eq_iff_iff, beq_iff_eq, decide_eq_true_eq]; exact PM.numB_take s r h8 hr)
  have hcap2 : r.length + 1 ≤ cap := by simpa using hcap
  have Htake := Lib.hid (PM.BS.take (w := w) (k := 1 + s.toNat) hcap (by unfold maxLen; exact hmax) hcell (by simp; omega))
  have HC := Lib.hid hcell
  clear hbl hcell
  go_enter Try.func69, Try.ntmps69
  go_wp2_with fail
  go_loop [4, 5] (fun n i => ∃ k : Nat, k ≤ s.toNat ∧ i = .int .i64 (1 + (k : Int)) ∧ n = .int .u64 (PM.bval (r.take k) : Nat)) (fun _ i => 1 + s.toNat - (intOf i).toNat)
  case atStart => exact ⟨0, by omega, rfl, rfl⟩
  case round =>
    obtain ⟨k, hk, rfl, rfl⟩ := hrel
    by_cases hlt : k < s.toNat
    · have hb1 := HBL.out k hk
      have hp : (256 : Nat) ^ k ≤ 256 ^ 7 := Nat.pow_le_pow_right (by omega) (by omega)
      have hb2 : PM.bval (r.take k) < 72057594037927936 := by omega
      clear hb1 hp
      have hkr : k < r.length := by omega
      have hck : w.cell? ⟨vb, off + (1 + k), none⟩ = some (.int .u8 ((r[k]).toNat : Int)) := HC.out (1 + k) r[k] (by rw [Nat.add_comm 1 k]; simp [hkr])
      have hx := (r[k]).toNat_lt
      have hi1 : (1 + (k : Int)).toNat = 1 + k := by omega
      have hi2 : 1 + (k : Int) ≤ (s.toNat : Int) := by omega
      have hi3 : 1 + (k : Int) < (r.length : Int) + 1 := by omega
      go_wp2_with fail
      go_round
      case rel => exact ⟨k + 1, by omega, by go_num, by rw [PM.take_snoc r k hkr, PM.bval_snoc]; go_num⟩
      case measure => simp [intOf]; omega
    · obtain rfl : k = s.toNat := by omega
      have hb1 := HBL.out s.toNat (by omega)
      have hb64 : PM.bval (r.take s.toNat) < 2 ^ 64 := by omega
      have hi2 : ¬ (1 + (s.toNat : Int) ≤ (s.toNat : Int)) := by omega
      clear hb1 hpow
      go_wp2_with fail
      refine PM.wp_region_st [some 47, some 48, some 49, some 50, some 51, some 52, some 53, some 54] [fun x _ => x = .int .u64 (PM.bval (r.take s.toNat) : Nat), fun x w' => PM.BS w' x (PM.numB (PM.bval (r.take s.toNat))), fun x _ => x = .string ⟨(PM.numB (PM.bval (r.take s.toNat))).toArray⟩, fun x _ => x = .slice (some ⟨vb, off, none⟩) (s :: r).length cap, fun x _ => x = .int .i64 (1 + (s.toNat : Int)), fun x w' => PM.BS w' x ((s :: r).take (1 + s.toNat)), fun x _ => x = .string ⟨((s :: r).take (1 + s.toNat)).toArray⟩, fun x _ => x = .bool (!decide (PM.wid (PM.bval (r.take s.toNat)) = s.toNat))] (by kernel_rfl) (by kernel_rfl) (by kernel_rfl) ?_ ?_ ?_
      · simp only [List.forall_mem_cons]
        refine ⟨?_, ?_, ?_, ?_, ?_, ?_, ?_, ?_, by simp⟩
        all_goals (intro x W W' h hb; first | exact h | exact PM.BS.keep hb h | exact PM.OW.keep hb h)
      · refine ⟨?_, ?_, ?_, ?_, ?_, ?_, ?_, ?_, trivial⟩
        all_goals
          intro a W hB hF hd
          have k0 := hF 0 rfl
          have k4 := hF 4 rfl
          have k6 := hF 6 rfl
          clear hF
          simp [PM.depsL, PM.spec, PM.sl, Region.binds] at hd k0 k4 k6
          simp only [PM.wantL, PM.spec]
          try simp only [PM.sl]
          first | (have kc := PM.run_str bty Try.underlying9 hd) | (have kc := PM.run_str bty Try.underlying9 hd.1) | skip
          go_simp
        all_goals try exact Below.refl _ _
        · refine (rfnumber_any _ hb64 W).mono ?_
          rintro e w' ⟨v', rfl, ho, hb⟩
          exact ⟨hb, v', rfl, ho.bs⟩
        · have hT := (Htake.out).keep hB
          have e1 : (1 + (s.toNat : Int)) = ((1 + s.toNat : Nat) : Int) := by omega
          rw [if_pos (show 0 ≤ 1 + (s.toNat : Int) ∧ 1 + (s.toNat : Int) ≤ (cap : Int) from by omega), show (1 + (s.toNat : Int)).toNat = 1 + s.toNat from by omega]
          exact ⟨Below.refl _ _, _, rfl, hT⟩
        · refine ⟨Below.refl _ _, ?_⟩
          rw [Hcmp.out]
      · intro G W hB hF hS
        simp [PM.allSp, PM.spec] at hS
        have q4 := hF 4 rfl
        have q6 := hF 6 rfl
        have q54 : G 54 = .bool (!decide (PM.wid (PM.bval (r.take s.toNat)) = s.toNat)) := by simp [hS]
        simp [PM.sl] at q4 q6
        rw [show ((List.range (Array.size _)).map G).toArray = #[G 0, G 1, G 2, G 3, G 4, G 5, G 6, G 7, G 8, G 9, G 10, G 11, G 12, G 13, G 14, G 15, G 16, G 17, G 18, G 19, G 20, G 21, G 22, G 23, G 24, G 25, G 26, G 27, G 28, G 29, G 30, G 31, G 32, G 33, G 34, G 35, G 36, G 37, G 38, G 39, G 40, G 41, G 42, G 43, G 44, G 45, G 46, G 47, G 48, G 49, G 50, G 51, G 52, G 53, G 54, G 55, G 56] from rfl, q4, q6, q54]
        clear hF hS q4 q6 q54
        by_cases hw : PM.wid (PM.bval (r.take s.toNat)) = s.toNat
        · have hwB : (!decide (PM.wid (PM.bval (r.take s.toNat)) = s.toNat)) = false := by simp [hw]
          rw [hwB]
          go_wp2
          go_ret2
          rw [PM.getK_yes s r h8 hr hw]
          exact ⟨by simp, hB⟩
        · have hwB : (!decide (PM.wid (PM.bval (r.take s.toNat)) = s.toNat)) = true := by simp [hw]
          rw [hwB]
          go_wp2
          go_ret2
          rw [PM.getK_no s r (fun h => hw h.2.2)]
          exact ⟨rfl, hB⟩

end Go.Proofs.Ytocggnaekajdbaa
