/-
  THE CALL AT THE HEAD OF ALL STATEMENTS OF LAYER 1: it answers true, and makes memory of its own alone.
-/
import Derived.Test.YtfmbnndpjjjdiaaVc
namespace Go.Proofs.Ytfmbnndpjjjdiaa
open Go.RowKit
set_option linter.unusedVariables false

theorem awake1 (w : World) :
    Calls Try.prog 15 #[] w fun e w' => e = .returned (.bool true) ∧ Below w.heap.size w w' := by
  have f1 := fun (x y z : Value) (w : World) => field_1 x y z w
  have h1 : PM.ord 1 2 [] 1 10 [] = -1 := by decide
  have h2 : PM.ord 2 0 [98] 2 0 [97] = 1 := by decide
  have b1 : PM.beg 2 [97, 98, 99] 2 [97, 98] = true := by decide
  have b2 : PM.beg 1 [] 1 [] = false := by decide
  have m1 : PM.mayE 3 1 [] = 0 := by decide
  have m2 : PM.mayE 4 0 [] = 10 := by decide
  go_enter Try.func15, Try.ntmps15
  go_wp2_with (first | (go_at_call 22; refine (int_any _ _ ).mono ?_; rintro e w1 ⟨rfl, hb⟩; have hB := PM.chain (w := w) (by go_grown) hb; clear hb) | (go_at_call 23; refine (text_any _ _ ).mono ?_; rintro e w1 ⟨rfl, hb⟩; have hB := PM.chain (w := w) (by go_grown) hb; clear hb) | (go_at_call 24; refine (bool_any _ _ ).mono ?_; rintro e w1 ⟨rfl, hb⟩; have hB := PM.chain (w := w) (by go_grown) hb; clear hb) | (go_at_call 18; refine (order_any _ _ _ _ _ _ _ ).mono ?_; rintro e w1 ⟨rfl, hb⟩; have hB := PM.chain (w := w) (by go_grown) hb; clear hb) | (go_at_call 16; refine (check_any _ _ _ _ ).mono ?_; rintro e w1 ⟨rfl, hb⟩; have hB := PM.chain (w := w) (by go_grown) hb; clear hb) | (go_at_call 20; refine (begins_any _ _ _ _ _ _ _).mono ?_; rintro e w1 ⟨rfl, hb⟩; have hB := PM.chain (w := w) (by go_grown) hb; clear hb))
  go_ret
  exact ⟨rfl, by assumption⟩
end Go.Proofs.Ytfmbnndpjjjdiaa
