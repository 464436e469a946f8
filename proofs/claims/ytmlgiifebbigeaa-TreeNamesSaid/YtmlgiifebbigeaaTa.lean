/-
  THE CALL AT THE HEAD OF ALL STATEMENTS OF LAYER 12.
-/
import Derived.Test.YtmlgiifebbigeaaTf
import Derived.Test.YtmlgiifebbigeaaTk
import Derived.Test.YtmlgiifebbigeaaVp
namespace Go.Proofs.Ytmlgiifebbigeaa
open Go.RowKit
set_option linter.unusedVariables false
theorem l0_tr : PM.Tr [-1, 0, 0, 1] := ⟨by decide, by decide, rfl, fun i h0 hi => by
  have : i = 1 ∨ i = 2 ∨ i = 3 := by simp at hi; omega
  rcases this with rfl | rfl | rfl <;> decide⟩
theorem l0_way32 : PM.way [-1, 0, 0, 1] 3 2 = [3, 1, 0, 2] := by
  rw [l0_tr.way_up (by decide) (by decide), show PM.pn [-1, 0, 0, 1] 3 = 1 from rfl, l0_tr.way_down (by decide) (by decide), show PM.pn [-1, 0, 0, 1] 2 = 0 from rfl, l0_tr.way_up (by decide) (by decide), show PM.pn [-1, 0, 0, 1] 1 = 0 from rfl, PM.way_same]
  rfl
theorem l0_up03 : PM.up [-1, 0, 0, 1] 0 3 = true := by
  unfold PM.up
  rw [show (0 : Int).toNat = 0 from rfl, show (3 : Int).toNat = 3 from rfl, l0_tr.upN_step (by decide) (by decide), show PM.pn [-1, 0, 0, 1] 3 = 1 from rfl, l0_tr.upN_step (by decide) (by decide), show PM.pn [-1, 0, 0, 1] 1 = 0 from rfl, PM.upN_self]
  rfl
theorem l0_up23 : PM.up [-1, 0, 0, 1] 2 3 = false := by
  unfold PM.up
  rw [show (2 : Int).toNat = 2 from rfl, show (3 : Int).toNat = 3 from rfl, l0_tr.upN_step (by decide) (by decide), show PM.pn [-1, 0, 0, 1] 3 = 1 from rfl, PM.upN_gt _ (by decide)]
  rfl
theorem l0_dep3 : PM.depI [-1, 0, 0, 1] 3 = 2 := by
  rw [l0_tr.dep_step (by decide), show PM.pa [-1, 0, 0, 1] 3 = 1 from rfl, l0_tr.dep_step (by decide), show PM.pa [-1, 0, 0, 1] 1 = 0 from rfl, l0_tr.dep_step (by decide), PM.pa_zero, PM.depI_neg _ (by decide)]
  rfl
set_option maxHeartbeats 1000000 in
theorem awake12 (w : World) :
    Calls Try.prog 9 #[] w fun e w' => e = .returned (.bool true) ∧ Below w.heap.size w w' := by
  have hal : ∀ (W : World) (o : Obj), Below W.heap.size W (W.alloc o) := fun W o => (Below.refl _ _).alloc (Nat.le_refl _) _
  have hlit : ∀ (W : World) (l : List Int) (E : TypeId), l.length ≤ 100 → PM.ES PM.iv (W.alloc (.cells (l.map PM.iv).toArray E)) (.slice (some ⟨W.heap.size, 0, none⟩) l.length l.length) l := fun W l E h => PM.ES.lit W E l (by simp only [maxLen]; omega)
  have hP0 : PT (w.alloc (.cells #[.int .i64 (-1), .int .i64 0, .int .i64 0, .int .i64 1] 3)) w.heap.size 0 4 [-1, 0, 0, 1] := by
    refine ⟨l0_tr, by decide, by decide, fun i hi => ?_⟩
    have : i = 0 ∨ i = 1 ∨ i = 2 ∨ i = 3 := by simp at hi; omega
    rcases this with rfl | rfl | rfl | rfl <;> (rw [World.cell?_alloc_new]; rfl)
  go_enter Try.func9, Try.ntmps9
  go_wp2_with fail
  have h1 := Way_any w.heap.size 0 4 [-1, 0, 0, 1] 3 2 _ hP0 (by decide) (by decide)
  rw [l0_way32] at h1
  refine h1.mono ?_
  rintro e w1 ⟨v1, rfl, ho1, hB1⟩
  have hP1 := hP0.keep hB1
  have hC1 := PM.chain (hal w _) hB1
  have hes1 := ho1.es
  obtain ⟨a1, c1, hv1⟩ : ∃ a c, v1 = .slice a 4 c := hes1.len
  subst hv1
  clear h1 hP0 hB1 ho1
  go_wp2_with fail
  refine (Step_any w.heap.size 0 4 [-1, 0, 0, 1] 3 2 1 [0, 2] w1 hP1 (by decide) (by decide) (by decide) l0_way32).mono ?_
  rintro e w2 ⟨rfl, hB2⟩
  have hP2 := hP1.keep hB2
  have hC2 := PM.chain hC1 hB2
  have hes2 := hes1.keep hB2
  clear hP1 hC1 hes1 hB2
  go_wp2_with fail
  refine (Step_same w.heap.size 0 4 [-1, 0, 0, 1] 3 w2 hP2 (by decide)).mono ?_
  rintro e w3 ⟨rfl, hB3⟩
  have hP3 := hP2.keep hB3
  have hC3 := PM.chain hC2 hB3
  have hes3 := hes2.keep hB3
  clear hP2 hC2 hes2 hB3
  go_wp2_with fail
  have h4 := Same_any _ _ _ [3, 1, 0, 2] _ (hes3.keep (hal w3 (.cells #[.int .i64 3, .int .i64 1, .int .i64 0, .int .i64 2] 3))) (hlit w3 [3, 1, 0, 2] _ (by decide))
  refine h4.mono ?_
  rintro e w4 ⟨rfl, hB4⟩
  have hC4 := PM.chain (PM.chain hC3 (hal w3 _)) hB4
  have hP4 := (hP3.keep (hal w3 _)).keep hB4
  clear h4 hB4 hC3 hP3 hes3
  go_wp2_with fail
  refine (Kids_any w.heap.size 0 4 [-1, 0, 0, 1] 0 w4 hP4 (by decide)).mono ?_
  rintro e w5 ⟨v5, rfl, ho5, hB5⟩
  have hC5 := PM.chain hC4 hB5
  have hP5 := hP4.keep hB5
  have hes5 := ho5.es
  replace hes5 : PM.ES PM.iv w5 v5 [1, 2] := hes5
  obtain ⟨a5, c5, hv5⟩ : ∃ a c, v5 = .slice a 2 c := hes5.len
  subst hv5
  clear hP4 hC4 hB5 ho5
  go_wp2_with fail
  have h6 := Same_any _ _ _ [1, 2] _ (hes5.keep (hal w5 (.cells #[.int .i64 1, .int .i64 2] 3))) (hlit w5 [1, 2] _ (by decide))
  refine h6.mono ?_
  rintro e w6 ⟨rfl, hB6⟩
  have hC6 := PM.chain (PM.chain hC5 (hal w5 _)) hB6
  have hP6 := (hP5.keep (hal w5 _)).keep hB6
  clear h6 hB6 hC5 hP5 hes5
  go_wp2_with fail
  refine (Up_any w.heap.size 0 4 [-1, 0, 0, 1] 0 3 w6 hP6).mono ?_
  rintro e w7 ⟨rfl, rfl⟩
  rw [l0_up03]
  go_wp2_with fail
  refine (Up_any w.heap.size 0 4 [-1, 0, 0, 1] 2 3 w7 hP6).mono ?_
  rintro e w8 ⟨rfl, rfl⟩
  rw [l0_up23]
  go_wp2_with fail
  refine (Depth_any w.heap.size 0 4 [-1, 0, 0, 1] 3 w8 hP6).mono ?_
  rintro e w9 ⟨rfl, rfl⟩
  rw [l0_dep3]
  go_wp2_with fail
  refine (Check_ok w.heap.size 0 4 [-1, 0, 0, 1] w9 hP6).mono ?_
  rintro e w10 ⟨rfl, rfl⟩
  go_wp2_with fail
  refine (Check_none none 0 w10).mono ?_
  rintro e w11 ⟨rfl, rfl⟩
  go_wp2_with fail
  go_ret
  exact ⟨rfl, hC6⟩
end Go.Proofs.Ytmlgiifebbigeaa
