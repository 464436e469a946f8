/-
  CONTRACT OF layer 2's own read, for a value.
-/
import Derived.Test.YtfmbnndpjjjdiaaPl
namespace Go.Proofs.Ytfmbnndpjjjdiaa
open Go.RowKit
set_option linter.unusedVariables false
namespace PM
theorem getV_none {l : List UInt8} (h : (getV l).2 = 0) : getV l = ((0, 0, []), 0) := by
  obtain ⟨n1, k1, g1⟩ : ∃ n k, getK l = (n, k) := ⟨_, _, rfl⟩
  obtain ⟨n2, k2, g2⟩ : ∃ n k, getK (l.drop k1) = (n, k) := ⟨_, _, rfl⟩
  obtain ⟨s3, k3, g3⟩ : ∃ s k, getB (l.drop (k1 + k2)) 40 = (s, k) := ⟨_, _, rfl⟩
  have hv := getV_eq l s3 n1 k1 n2 k2 k3 g1 g2 g3
  by_cases hc : k1 = 0 ∨ 3 < n1 ∨ k2 = 0 ∨ k3 = 0
  · rw [hv, if_pos hc]
  · by_cases hm : may n1 (pickZ n1 n2) s3 = true
    · rw [if_neg hc, if_pos hm] at hv
      rw [hv] at h
      simp only at h
      omega
    · rw [hv, if_neg hc, if_neg hm]
theorem stepV_m (l m : List UInt8) (wr : Bool) (h1 : wr = true → m = []) (h0 : wr = false → m = l) : stepV l wr = if (getV m).2 = 0 then ((0, 0, []), [], true) else ((getV m).1, m.drop (getV m).2, false) := by
  cases wr
  · rw [h0 rfl]; exact stepV_getV l
  · rw [h1 rfl]
    have hs := stepV_eq l true 0 0 [] [] [] [] true true true rfl rfl (stepB_wr _ _)
    have hv : getV [] = ((0, 0, []), 0) := by decide
    rw [hs, hv]; simp
end PM
set_option maxRecDepth 100000 in
set_option maxHeartbeats 4000000 in
theorem read3_any (b : Nat) (l m : List UInt8) (wr : Bool) (v : Value) (most : Int) (w : World) (h : PM.RD 71 w b l wr) (hv : PM.BS w v m) (hl : m.length ≤ 70368744177664) (hll : l.length ≤ 70368744177664) (h0 : wr = false → m = l) :
    Calls Try.prog 33 #[.pointer (some ⟨b, 0, none⟩), v, .agg #[.int .i64 3, .int .i64 most], .bool wr] w fun e w' =>
      e = .returned (.tuple #[.bool true, .int .i64 ((PM.getV (if wr then [] else m)).2 : Nat)]) ∧ PM.RD 71 w' b (PM.stepV l wr).2.1 (PM.stepV l wr).2.2 ∧ PM.Bx b w w' := by
  have HM : Hid (∃ m0, m0 = (if wr then ([] : List UInt8) else m)) := Lib.hid ⟨_, rfl⟩
  obtain ⟨m0, hm0⟩ := HM.out
  rw [← hm0]
  have hs1 : wr = true → m0 = [] := fun e => by rw [hm0, if_pos e]
  have hs0 : wr = false → m0 = l := fun e => by rw [hm0, if_neg (by simp [e]), h0 e]
  have SN := PM.stepV_m l m0 wr hs1 hs0
  have heq : (PM.stepV l wr).1 = (PM.getV m0).1 := by
    rw [SN]
    by_cases hk : (PM.getV m0).2 = 0
    · rw [if_pos hk, PM.getV_none hk]
    · rw [if_neg hk]
  have Heq := Lib.hid heq
  have hml : m0.length ≤ 70368744177664 := by rw [hm0]; split <;> simp [hl]
  have Hm0 := Lib.hid hm0
  clear hm0 SN heq hs1 hs0 h0 HM
  go_enter Try.func33, Try.ntmps33
  cases wr
  all_goals
    go_wp2_with fail
    obtain ⟨wa, hwa⟩ : ∃ x, x = w.alloc (.cells #[.int .i64 3, .int .i64 most] 50) := ⟨_, rfl⟩
    have hBa : Below w.heap.size w wa := by rw [hwa]; go_grown
    rw [← hwa]
    clear hwa
    refine (rgetV_any _ m0 _ (by have := Hm0.out; first | (rw [show m0 = m from this]; exact hv.keep hBa) | (rw [show m0 = [] from this]; exact PM.BS.nil _)) hml).mono ?_
    rintro e w1 ⟨rfl, hB1⟩
    have h1 := (h.keep hBa).keep hB1
    replace hB1 := PM.chain hBa hB1
    obtain ⟨gk, gz, gs, gn, hG⟩ : ∃ gk gz gs gn, PM.getV m0 = ((gk, gz, gs), gn) := ⟨_, _, _, _, rfl⟩
    have Heq2 := Heq.out
    rw [hG] at Heq2
    clear Heq
    have Heq := Lib.hid Heq2
    have HG := Lib.hid hG
    rw [hG]
    clear hG Heq2
    go_wp2_with fail
    obtain ⟨wz, hwz⟩ : ∃ x, x = w1.alloc (.cells #[.int .i64 gk, .int .i64 gz, .string ⟨gs.toArray⟩] 24) := ⟨_, rfl⟩
    have hBz : Below w1.heap.size w1 wz := by rw [hwz]; go_grown
    have ZZ : PM.BK wz w1.heap.size #[.int .i64 gk, .int .i64 gz, .string ⟨gs.toArray⟩] 24 := by rw [hwz]; exact PM.BK.new _ _ _
    rw [← hwz]
    clear hwz
    have hbne : w1.heap.size ≠ b := by have := h1.lt; omega
    replace h1 := (h1.keep hBz).keep (Below.drew (Below.refl _ _))
    replace hB1 := (PM.chain hB1 hBz).drew
    replace ZZ := ZZ.keep (Below.drew (Below.refl _ _))
    have z0 := ZZ.cell 0
    have z1 := ZZ.cell 1
    have z2 := ZZ.cell 2
    go_region_with (first | (go_at_call 38; go_must (refine (rvalue_any b l _ _ h1 hll).mono ?_; rintro e w2 ⟨rfl, h2, hx2⟩; rw [Heq.out]; have ZZ2 := ZZ.keepx hx2 hbne; have y0 := ZZ2.cell 0; have y1 := ZZ2.cell 1; have y2 := ZZ2.cell 2)) | fail)
    all_goals
      go_wp2_with fail
      go_ret2
      rw [HG.out]
      exact ⟨by first | (simp [Act.put]; done) | (simp; exact ⟨rfl, rfl⟩), h2, (PM.Bx.of hB1).trans hx2⟩
end Go.Proofs.Ytfmbnndpjjjdiaa
