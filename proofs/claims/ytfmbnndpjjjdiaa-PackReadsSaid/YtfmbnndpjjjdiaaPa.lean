/-
  THE CALL AT THE HEAD OF ALL STATEMENTS OF LAYER 2.
-/
import Derived.Test.YtfmbnndpjjjdiaaPx
import Derived.Test.YtfmbnndpjjjdiaaPv
import Derived.Test.YtfmbnndpjjjdiaaRs
namespace Go.Proofs.Ytfmbnndpjjjdiaa
open Go.RowKit
set_option linter.unusedVariables false
set_option maxHeartbeats 1000000 in
theorem awake2 (w : World) :
    Calls Try.prog 25 #[] w fun e w' => e = .returned (.bool true) ∧ Below w.heap.size w w' := by
  have e1 : PM.valB 1 (-1) [] = [1, 1, 1, 1, 0] := by decide
  have e2 : PM.numB 258 = [2, 1, 2] := by decide
  have s1 : PM.stepN [2, 1, 2, 1, 97] false = (258, [1, 97], false) := by decide
  have s2 : PM.stepN [2, 0, 5] false = (0, [], true) := by decide
  have E1 := Lib.hid e1
  have E2 := Lib.hid e2
  have S1 := Lib.hid s1
  have S2 := Lib.hid s2
  clear e1 e2 s1 s2
  go_enter Try.func25, Try.ntmps25
  go_wp2_with fail
  refine (int_any _ _).mono ?_
  rintro e w1 ⟨rfl, hB1⟩
  go_wp2_with fail
  refine (value_any _ [] 1 (-1) ⟨#[]⟩ _ (PM.BS.nil _) (by simp) (by decide) (by decide) (by decide) (by decide) (by decide)).mono ?_
  rintro e w2 ⟨v2, rfl, ho2, hB2⟩
  have hs2 := ho2.bs
  rw [show ([] : List UInt8) ++ PM.valB 1 (-1) (⟨#[]⟩ : ByteArray).data.toList = [1, 1, 1, 1, 0] from E1.out] at hs2
  replace hB2 := PM.chain hB1 hB2
  go_wp2_with fail
  refine (new_any _ [2, 1, 2, 1, 97] _ (PM.BS.lit _ _ _ (by decide)) (by decide)).mono ?_
  rintro e w3 ⟨b1, rfl, hb1, hr1, hB3⟩
  have lt1 : w.heap.size ≤ b1 := by have := hB2.size; simp at hb1; omega
  have hal : Below w2.heap.size w2 (w2.alloc (.cells (List.map PM.bv [2, 1, 2, 1, 97]).toArray 5)) := (Below.refl _ _).alloc (Nat.le_refl _) _
  replace hs2 := (hs2.keep hal).keep hB3
  replace hB3 := PM.chain (PM.chain hB2 hal) hB3
  go_wp2_with fail
  refine (rnumber_any b1 _ _ _ hr1).mono ?_
  rintro e w4 ⟨rfl, R1, hx4⟩
  rw [S1.out] at R1 ⊢
  replace hs2 := hs2.keepr hx4 hr1
  have hB4 := hx4.below hB3 lt1 hB3.size
  go_wp2_with fail
  refine (done_any b1 _ _ _ R1).mono ?_
  rintro e w4' ⟨rfl, rfl⟩
  go_wp2_with fail
  refine (new_any _ [2, 0, 5] _ (PM.BS.lit _ _ _ (by decide)) (by decide)).mono ?_
  rintro e w5 ⟨b2, rfl, hb2, hr2, hB5⟩
  have hal4 : Below w4.heap.size w4 (w4.alloc (.cells (List.map PM.bv [2, 0, 5]).toArray 5)) := (Below.refl _ _).alloc (Nat.le_refl _) _
  have lt2 : w.heap.size ≤ b2 := by have := hB4.size; simp at hb2; omega
  have ne12 : b1 ≠ b2 := by have := R1.lt; simp at hb2; omega
  replace hs2 := (hs2.keep hal4).keep hB5
  replace R1 := (R1.keep hal4).keep hB5
  replace hB5 := PM.chain (PM.chain hB4 hal4) hB5
  go_wp2_with fail
  refine (rnumber_any b2 _ _ _ hr2).mono ?_
  rintro e w6 ⟨rfl, R2, hx6⟩
  rw [S2.out] at R2 ⊢
  replace hs2 := hs2.keepr hx6 hr2
  replace R1 := PM.RD.keepr hx6 ne12 hr2 R1
  have hB6 := hx6.below hB5 lt2 hB5.size
  go_wp2_with fail
  refine PM.wp_region_st [some 19, some 20, some 21, some 22, some 23, some 24, some 25, some 26, some 27, some 28, some 29, some 30, some 31, some 32, some 33, some 34, some 35, some 36, some 37, some 38, some 39, some 40, some 41, some 42, some 43, some 44, some 45, some 46, some 47, some 48, some 49, some 50, some 51, some 0] [fun x w' => PM.BS w' x [2, 1, 2], fun x _ => x = .string ⟨#[2, 1, 2]⟩, fun x w' => PM.BS w' x [2, 1, 2], fun x _ => x = .string ⟨#[2, 1, 2]⟩, fun x _ => x = .bool true, fun x _ => x = .bool true, fun x w' => PM.BS w' x [1, 1, 1, 1, 0], fun x _ => x = .string ⟨#[1, 1, 1, 1, 0]⟩, fun x w' => PM.BS w' x [1, 1, 1, 1, 0], fun x _ => x = .string ⟨#[1, 1, 1, 1, 0]⟩, fun x _ => x = .bool true, fun x _ => x = .bool true, fun x _ => x = .bool true, fun x _ => x = .int .u64 258, fun x _ => x = .bool true, fun x _ => x = .bool true, fun x _ => x = .bool true, fun x _ => x = .bool false, fun x _ => x = .bool true, fun x _ => x = .bool true, fun x _ => x = .bool true, fun x _ => x = .pointer (some ⟨b1, 0, none⟩), fun x _ => x = .bool false, fun x _ => x = .bool true, fun x _ => x = .bool true, fun x _ => x = .bool true, fun x _ => x = .int .u64 0, fun x _ => x = .bool true, fun x _ => x = .bool true, fun x _ => x = .bool true, fun x _ => x = .pointer (some ⟨b2, 0, none⟩), fun x _ => x = .bool true, fun x _ => x = .bool true, fun x _ => x = .bool true] (by kernel_rfl) (by kernel_rfl) (by kernel_rfl) ?_ ?_ ?_
  · simp only [List.forall_mem_cons]
    refine ⟨?_, ?_, ?_, ?_, ?_, ?_, ?_, ?_, ?_, ?_, ?_, ?_, ?_, ?_, ?_, ?_, ?_, ?_, ?_, ?_, ?_, ?_, ?_, ?_, ?_, ?_, ?_, ?_, ?_, ?_, ?_, ?_, ?_, ?_, by simp⟩
    all_goals (intro x W W' h hb; first | exact h | exact PM.BS.keep hb h | exact PM.OW.keep hb h | exact PM.RD.keep hb h)
  · refine ⟨?_, ?_, ?_, ?_, ?_, ?_, ?_, ?_, ?_, ?_, ?_, ?_, ?_, ?_, ?_, ?_, ?_, ?_, ?_, ?_, ?_, ?_, ?_, ?_, ?_, ?_, ?_, ?_, ?_, ?_, ?_, ?_, ?_, ?_, trivial⟩
    all_goals
      intro a W hB hF hd
      have k1 := hF 1 rfl
      have k2 := hF 2 rfl
      have k3 := hF 3 rfl
      have k4 := hF 4 rfl
      have k5 := hF 5 rfl
      have k6 := hF 6 rfl
      have R1' := R1.keep hB
      have R2' := R2.keep hB
      have hs2' := hs2.keep hB
      clear hF
      simp [PM.depsL, PM.spec, PM.sl, Region.binds] at hd k1 k2 k3 k4 k5 k6
      simp only [PM.wantL, PM.spec]
      try simp only [PM.sl]
      first | (have kc := PM.run_str bty Try.underlying9 hd) | (have kc := PM.run_str bty Try.underlying9 hd.1) | skip
      go_simp
    all_goals try exact Below.refl _ _
    · refine (number_c _ [] 258 258 rfl (by decide) W (PM.BS.nil W) (by simp)).mono ?_
      rintro e w' ⟨v', rfl, ho, hb⟩
      exact ⟨hb, v', rfl, by have := ho.bs; rwa [show [] ++ PM.numB 258 = [2, 1, 2] from E2.out] at this⟩
    · exact ⟨(Below.refl _ _).alloc (Nat.le_refl _) _, _, rfl, PM.BS.lit W _ [2, 1, 2] (by decide)⟩
    · exact ⟨Below.refl _ _, _, rfl, hs2'⟩
    · exact ⟨(Below.refl _ _).alloc (Nat.le_refl _) _, _, rfl, PM.BS.lit W _ [1, 1, 1, 1, 0] (by decide)⟩
    · refine (wrong_any b1 _ _ W R1').mono ?_
      rintro e w' ⟨rfl, rfl⟩
      exact ⟨Below.refl _ _, rfl⟩
    · refine (wrong_any b2 _ _ W R2').mono ?_
      rintro e w' ⟨rfl, rfl⟩
      exact ⟨Below.refl _ _, rfl⟩
  · intro G W hB hF hS
    simp [PM.allSp, PM.spec] at hS
    have h0 : G 0 = .bool true := by simp [hS]
    rw [show ((List.range (Array.size _)).map G).toArray = #[G 0, G 1, G 2, G 3, G 4, G 5, G 6, G 7, G 8, G 9, G 10, G 11, G 12, G 13, G 14, G 15, G 16, G 17, G 18, G 19, G 20, G 21, G 22, G 23, G 24, G 25, G 26, G 27, G 28, G 29, G 30, G 31, G 32, G 33, G 34, G 35, G 36, G 37, G 38, G 39, G 40, G 41, G 42, G 43, G 44, G 45, G 46, G 47, G 48, G 49, G 50, G 51] from rfl]
    clear hF hS
    go_wp2
    go_ret
    exact ⟨by simp [h0], PM.chain hB6 hB⟩
end Go.Proofs.Ytfmbnndpjjjdiaa
