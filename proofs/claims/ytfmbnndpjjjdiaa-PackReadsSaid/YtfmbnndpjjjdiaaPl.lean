/-
  CONTRACT OF layer 2's own read.
-/
import Derived.Test.YtfmbnndpjjjdiaaPj
import Derived.Test.YtfmbnndpjjjdiaaPf
namespace Go.Proofs.Ytfmbnndpjjjdiaa
open Go.RowKit
set_option linter.unusedVariables false
namespace PM
/-- how many bytes an answer has -/
def askK (k most : Int) (m : List UInt8) : Nat := if k = 1 then (getK m).2 else if k = 2 then (getB m most).2 else if k = 3 then (getV m).2 else 0
theorem stepN_m (l m : List UInt8) (wr : Bool) (h1 : wr = true → m = []) (h0 : wr = false → m = l) : stepN l wr = if (getK m).2 = 0 then (0, [], true) else ((getK m).1, m.drop (getK m).2, false) := by
  cases wr
  · rw [h0 rfl]; exact stepN_getK l
  · rw [h1 rfl]; rfl
theorem stepB_m (l m : List UInt8) (most : Int) (wr : Bool) (h1 : wr = true → m = []) (h0 : wr = false → m = l) : stepB l wr most = if (getB m most).2 = 0 then ([], [], true) else ((getB m most).1, m.drop (getB m most).2, false) := by
  cases wr
  · rw [h0 rfl]; exact stepB_getB l most
  · rw [h1 rfl, stepB_wr, show getB [] most = ([], 0) from by unfold getB; rw [getK_nil]; simp]; rfl
end PM
set_option maxRecDepth 100000 in
set_option maxHeartbeats 2000000 in
theorem read1_any (b : Nat) (l m : List UInt8) (wr : Bool) (v : Value) (most : Int) (w : World) (h : PM.RD 71 w b l wr) (hv : PM.BS w v m) (hl : m.length ≤ 70368744177664) (h0 : wr = false → m = l) :
    Calls Try.prog 33 #[.pointer (some ⟨b, 0, none⟩), v, .agg #[.int .i64 1, .int .i64 most], .bool wr] w fun e w' =>
      e = .returned (.tuple #[.bool true, .int .i64 ((PM.getK (if wr then [] else m)).2 : Nat)]) ∧ PM.RD 71 w' b (PM.stepN l wr).2.1 (PM.stepN l wr).2.2 ∧ PM.Bx b w w' := by
  have HM : Hid (∃ m0, m0 = (if wr then ([] : List UInt8) else m)) := Lib.hid ⟨_, rfl⟩
  obtain ⟨m0, hm0⟩ := HM.out
  rw [← hm0]
  have hs1 : wr = true → m0 = [] := fun e => by rw [hm0, if_pos e]
  have hs0 : wr = false → m0 = l := fun e => by rw [hm0, if_neg (by simp [e]), h0 e]
  have SN := PM.stepN_m l m0 wr hs1 hs0
  have heq : (PM.stepN l wr).1 = (PM.getK m0).1 := by
    rw [SN]
    by_cases hk : (PM.getK m0).2 = 0
    · rw [if_pos hk, (PM.getK_none hk).2]
    · rw [if_neg hk]
  have Heq := Lib.hid heq
  have hml : m0.length ≤ 70368744177664 := by rw [hm0]; split <;> simp [hl]
  have Hm0 := Lib.hid hm0
  clear hm0 SN heq hs1 hs0 h0 HM
  go_enter Try.func33, Try.ntmps33
  cases wr
  all_goals
    go_wp2_with fail
    obtain ⟨wa, hwa⟩ : ∃ x, x = w.alloc (.cells #[.int .i64 1, .int .i64 most] 50) := ⟨_, rfl⟩
    have hBa : Below w.heap.size w wa := by rw [hwa]; go_grown
    rw [← hwa]
    clear hwa
    refine (rget_any _ m0 _ (by have := Hm0.out; first | (rw [show m0 = m from this]; exact hv.keep hBa) | (rw [show m0 = [] from this]; exact PM.BS.nil _)) hml).mono ?_
    rintro e w1 ⟨rfl, hB1⟩
    have h1 := (h.keep hBa).keep hB1
    replace hB1 := PM.chain hBa hB1
    go_wp2_with fail
    refine (rnumber_any b l _ _ h1).mono ?_
    rintro e w2 ⟨rfl, h2, hx2⟩
    rw [Heq.out]
    go_wp2_with fail
    go_ret2
    exact ⟨by simp, h2, (PM.Bx.of hB1).trans hx2⟩
set_option maxRecDepth 100000 in
set_option maxHeartbeats 4000000 in
theorem read2_any (b : Nat) (l m : List UInt8) (wr : Bool) (v : Value) (most : Int) (w : World) (h : PM.RD 71 w b l wr) (hv : PM.BS w v m) (hl : m.length ≤ 70368744177664) (hll : l.length ≤ 70368744177664) (h0 : wr = false → m = l) (hm1 : -9223372036854775808 ≤ most) (hm2 : most ≤ 9223372036854775807) :
    Calls Try.prog 33 #[.pointer (some ⟨b, 0, none⟩), v, .agg #[.int .i64 2, .int .i64 most], .bool wr] w fun e w' =>
      e = .returned (.tuple #[.bool true, .int .i64 ((PM.getB (if wr then [] else m) most).2 : Nat)]) ∧ PM.RD 71 w' b (PM.stepB l wr most).2.1 (PM.stepB l wr most).2.2 ∧ PM.Bx b w w' := by
  have HM : Hid (∃ m0, m0 = (if wr then ([] : List UInt8) else m)) := Lib.hid ⟨_, rfl⟩
  obtain ⟨m0, hm0⟩ := HM.out
  rw [← hm0]
  have hs1 : wr = true → m0 = [] := fun e => by rw [hm0, if_pos e]
  have hs0 : wr = false → m0 = l := fun e => by rw [hm0, if_neg (by simp [e]), h0 e]
  have SN := PM.stepB_m l m0 most wr hs1 hs0
  have heq : (PM.stepB l wr most).1 = (PM.getB m0 most).1 := by
    rw [SN]
    by_cases hk : (PM.getB m0 most).2 = 0
    · rw [if_pos hk, PM.getB_none hk]
    · rw [if_neg hk]
  have Heq := Lib.hid heq
  have hml : m0.length ≤ 70368744177664 := by rw [hm0]; split <;> simp [hl]
  have Hm0 := Lib.hid hm0
  clear hm0 SN heq hs1 hs0 h0 HM
  go_enter Try.func33, Try.ntmps33
  cases wr
  all_goals
    go_wp2_with fail
    obtain ⟨wa, hwa⟩ : ∃ x, x = w.alloc (.cells #[.int .i64 2, .int .i64 most] 50) := ⟨_, rfl⟩
    have hBa : Below w.heap.size w wa := by rw [hwa]; go_grown
    have ZA : PM.BK wa w.heap.size #[.int .i64 2, .int .i64 most] 50 := by rw [hwa]; exact PM.BK.new _ _ _
    rw [← hwa]
    clear hwa
    refine (rgetB_any _ m0 most _ (by have := Hm0.out; first | (rw [show m0 = m from this]; exact hv.keep hBa) | (rw [show m0 = [] from this]; exact PM.BS.nil _)) hml hm1 hm2).mono ?_
    rintro e w1 ⟨x1, rfl, hx1, hB1⟩
    have h1 := (h.keep hBa).keep hB1
    replace ZA := ZA.keep hB1
    replace hB1 := PM.chain hBa hB1
    have c1 := ZA.cell 1
    go_wp2_with fail
    have k1 := PM.run_str bty Try.underlying9 (hx1.keep (Below.drew (Below.refl _ _)))
    go_region_with (first | (go_at_call 37; go_must (refine (rbytes_any b l _ most _ (h1.keep (Below.drew (Below.refl _ _))) hll hm1 hm2).mono ?_; rintro e w2 ⟨v2, rfl, ho2, h2, hx2⟩; rw [Heq.out] at ho2; have k2 := PM.run_str bty Try.underlying9 ho2.bs; have k3 := PM.run_str bty Try.underlying9 ((hx1.keep (Below.drew (Below.refl _ _))).keepr hx2 (h1.keep (Below.drew (Below.refl _ _)))))) | fail)
    all_goals
      go_wp2_with fail
      go_ret2
      exact ⟨by first | (simp [Act.put]; done) | (simp; exact ⟨rfl, rfl⟩), h2, (PM.Bx.of hB1.drew).trans hx2⟩
end Go.Proofs.Ytfmbnndpjjjdiaa
