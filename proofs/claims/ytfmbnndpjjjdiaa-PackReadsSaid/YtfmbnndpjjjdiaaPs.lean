/-
  THE WALK OF LAYER 2's STATEMENT ON WHAT IS READ.
-/
import Derived.Test.YtfmbnndpjjjdiaaPd
import Derived.Test.YtfmbnndpjjjdiaaPk
import Derived.Test.YtfmbnndpjjjdiaaAs
namespace Go.Proofs.Ytfmbnndpjjjdiaa
open Go.RowKit
set_option linter.unusedVariables false
theorem PM.getV_lt (l : List UInt8) : (PM.getV l).2 ≤ l.length := by
  obtain ⟨n1, k1, g1⟩ : ∃ n k, PM.getK l = (n, k) := ⟨_, _, rfl⟩
  obtain ⟨n2, k2, g2⟩ : ∃ n k, PM.getK (l.drop k1) = (n, k) := ⟨_, _, rfl⟩
  obtain ⟨s3, k3, g3⟩ : ∃ s k, PM.getB (l.drop (k1 + k2)) 40 = (s, k) := ⟨_, _, rfl⟩
  have lt1 := (PM.getK_lt l).2
  have lt2 := (PM.getK_lt (l.drop k1)).2
  have lt3 := (PM.getB_lt (l.drop (k1 + k2)) 40).1
  rw [g1] at lt1
  rw [g2, List.length_drop] at lt2
  rw [g3, List.length_drop] at lt3
  simp only at lt1 lt2 lt3
  rw [PM.getV_eq l s3 n1 k1 n2 k2 k3 g1 g2 g3]
  split
  · simp
  · split
    · simp only; omega
    · simp
theorem readU_any (b : Nat) (l m : List UInt8) (wr : Bool) (v : Value) (k most : Int) (w : World) (h : PM.RD 71 w b l wr) (hv : PM.BS w v m) (hl : m.length ≤ 70368744177664) (hll : l.length ≤ 70368744177664) (h0 : wr = false → m = l) (hm1 : -9223372036854775808 ≤ most) (hm2 : most ≤ 9223372036854775807) (hk : k = 1 ∨ k = 2 ∨ k = 3) :
    Calls Try.prog 33 #[.pointer (some ⟨b, 0, none⟩), v, .agg #[.int .i64 k, .int .i64 most], .bool wr] w fun e w' =>
      ∃ K : Nat, e = .returned (.tuple #[.bool true, .int .i64 (K : Nat)]) ∧ PM.RD 71 w' b (if K = 0 then [] else m.drop K) (decide (K = 0)) ∧ PM.Bx b w w' ∧ (K ≠ 0 → wr = false) ∧ K ≤ m.length := by
  obtain ⟨m0, hm0⟩ : ∃ m0, m0 = (if wr then ([] : List UInt8) else m) := ⟨_, rfl⟩
  have hs1 : wr = true → m0 = [] := fun e => by rw [hm0, if_pos e]
  have hs0 : wr = false → m0 = m := fun e => by rw [hm0, if_neg (by simp [e])]
  have hs2 : wr = false → m0 = l := fun e => by rw [hs0 e, h0 e]
  have hle : m0.length ≤ m.length := by rw [hm0]; split <;> simp
  have key : ∀ (K : Nat) (l' : List UInt8) (wr' : Bool), K ≤ m0.length → (l', wr') = (if K = 0 then ([], true) else (m0.drop K, false)) → l' = (if K = 0 then [] else m.drop K) ∧ wr' = decide (K = 0) ∧ (K ≠ 0 → wr = false) ∧ K ≤ m.length := by
    intro K l' wr' hK he
    by_cases hz : K = 0
    · rw [if_pos hz] at he
      obtain ⟨rfl, rfl⟩ := Prod.mk.inj he
      exact ⟨by rw [if_pos hz], by simp [hz], fun h => absurd hz h, by omega⟩
    · rw [if_neg hz] at he
      obtain ⟨rfl, rfl⟩ := Prod.mk.inj he
      have hw : wr = false := by
        cases wr
        · rfl
        · rw [hs1 rfl] at hK; simp at hK; omega
      exact ⟨by rw [if_neg hz, hs0 hw], by simp [hz], fun _ => hw, by omega⟩
  rcases hk with rfl | rfl | rfl
  · refine (read1_any b l m wr v most w h hv hl h0).mono ?_
    rintro e w' ⟨rfl, hr, hx⟩
    rw [← hm0]
    have hK := (PM.getK_lt m0).2
    have := key _ (PM.stepN l wr).2.1 (PM.stepN l wr).2.2 hK (by rw [PM.stepN_m l m0 wr hs1 hs2]; split <;> rfl)
    exact ⟨_, rfl, by rw [← this.1, ← this.2.1]; exact hr, hx, this.2.2.1, this.2.2.2⟩
  · refine (read2_any b l m wr v most w h hv hl hll h0 hm1 hm2).mono ?_
    rintro e w' ⟨rfl, hr, hx⟩
    rw [← hm0]
    have hK := (PM.getB_lt m0 most).1
    have := key _ (PM.stepB l wr most).2.1 (PM.stepB l wr most).2.2 hK (by rw [PM.stepB_m l m0 most wr hs1 hs2]; split <;> rfl)
    exact ⟨_, rfl, by rw [← this.1, ← this.2.1]; exact hr, hx, this.2.2.1, this.2.2.2⟩
  · refine (read3_any b l m wr v most w h hv hl hll h0).mono ?_
    rintro e w' ⟨rfl, hr, hx⟩
    rw [← hm0]
    have hK := PM.getV_lt m0
    have := key _ (PM.stepV l wr).2.1 (PM.stepV l wr).2.2 hK (by rw [PM.stepV_m l m0 wr hs1 hs2]; split <;> rfl)
    exact ⟨_, rfl, by rw [← this.1, ← this.2.1]; exact hr, hx, this.2.2.1, this.2.2.2⟩
end Go.Proofs.Ytfmbnndpjjjdiaa
