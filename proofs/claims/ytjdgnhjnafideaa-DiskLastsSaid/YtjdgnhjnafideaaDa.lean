/-
  THE CALL AT THE HEAD OF ALL STATEMENTS OF LAYER 9.
-/
import Derived.Test.YtjdgnhjnafideaaDd
namespace Go.Proofs.Ytjdgnhjnafideaa
open Go.RowKit
set_option linter.unusedVariables false
set_option maxHeartbeats 1000000 in
theorem awake9 (w : World) :
    Calls Try.prog 10 #[] w fun e w' => e = .returned (.bool true) ∧ Below w.heap.size w w' := by
  have kc := fun (W : World) (C : Array Value) (n c : Nat) => Lib.run_convert_bytes_const (P := Try.prog) W 31 5 C n c Try.underlying31 Try.underlying5
  have hal : ∀ (W : World) (cs : Array Value) (fr : Nat × Nat), Below W.heap.size W (W.alloc (.cells cs 5 fr)) := fun W cs fr => (Below.refl _ _).alloc (Nat.le_refl _) _
  go_enter Try.func10, Try.ntmps10
  go_wp2_with fail
  refine (dnew_any 10 (by decide) _).mono ?_
  rintro e w1 ⟨b, rfl, hb, hD, hB1⟩
  have D1 := hD w.heap.size
  clear hD
  go_wp2_with fail
  refine (append_any w.heap.size b [] [97, 98] 0 10 _ _ (D1.keep (hal _ _ _)) (PM.BS.litm _ _ _ _ (by decide)) (by decide) (by decide) (PM.chain hB1 (hal _ _ _)).size (by decide)).mono ?_
  rintro e w2 ⟨rfl, D2, hb2⟩
  have hB2 := (PM.chain hB1 (hal _ _ _)).below' hb2 hb (Nat.le_refl _)
  rw [show PM.appE [] [97, 98] 10 = 0 from by decide]
  rw [show PM.appL [] [97, 98] 10 = [97, 98] from by decide] at D2
  clear hb2 D1 hB1
  go_wp2_with fail
  refine (sync_any w.heap.size b [97, 98] 0 10 _ D2).mono ?_
  rintro e w3 ⟨rfl, D3, hb3⟩
  have hB3 := hB2.below' hb3 hb (Nat.le_refl _)
  clear D2 hB2 hb3
  go_wp2_with fail
  refine (append_any w.heap.size b [97, 98] [99, 100, 101] _ 10 _ _ (D3.keep (hal _ _ _)) (PM.BS.litm _ _ _ _ (by decide)) (by decide) (by decide) (PM.chain hB3 (hal _ _ _)).size (by decide)).mono ?_
  rintro e w4 ⟨rfl, D4, hb4⟩
  have hB4 := (PM.chain hB3 (hal _ _ _)).below' hb4 hb (Nat.le_refl _)
  rw [show PM.appE [97, 98] [99, 100, 101] 10 = 0 from by decide]
  rw [show PM.appL [97, 98] [99, 100, 101] 10 = [97, 98, 99, 100, 101] from by decide] at D4
  clear hb4 D3 hB3
  go_wp2_with fail
  refine (append_any w.heap.size b [97, 98, 99, 100, 101] [49, 50, 51, 52, 53, 54] _ 10 _ _ (D4.keep (hal _ _ _)) (PM.BS.litm _ _ _ _ (by decide)) (by decide) (by decide) (PM.chain hB4 (hal _ _ _)).size (by decide)).mono ?_
  rintro e w5 ⟨rfl, D5, hb5⟩
  have hB5 := (PM.chain hB4 (hal _ _ _)).below' hb5 hb (Nat.le_refl _)
  rw [show PM.appE [97, 98, 99, 100, 101] [49, 50, 51, 52, 53, 54] 10 = 90 from by decide]
  rw [show PM.appL [97, 98, 99, 100, 101] [49, 50, 51, 52, 53, 54] 10 = [97, 98, 99, 100, 101] from by decide] at D5
  clear hb5 D4 hB4
  go_wp2_with fail
  refine (crash_any w.heap.size b [97, 98, 99, 100, 101] _ 1 10 _ D5 (by decide) (by decide) (by decide) hB5.size (by decide) (by decide)).mono ?_
  rintro e w6 ⟨rfl, D6, hb6⟩
  have hB6 := hB5.below' hb6 hb (Nat.le_refl _)
  rw [show PM.left [97, 98, 99, 100, 101] (([97, 98] : List UInt8).length : Int) 1 = 3 from by decide, show ([97, 98, 99, 100, 101] : List UInt8).take (3 : Int).toNat = [97, 98, 99] from by decide] at D6
  clear hb6 D5 hB5
  go_wp2_with fail
  refine (read_any w.heap.size b [97, 98, 99] _ 10 _ D6 (by decide)).mono ?_
  rintro e w7 ⟨v7, rfl, ho7, hB7⟩
  have D7 := D6.keep hB7
  replace hB7 := PM.chain hB6 hB7
  have k7 := PM.run_str bty Try.underlying9 ho7.bs
  go_wp2_with fail
  refine (lasting_any w.heap.size b _ _ _ _ D7).mono ?_
  rintro e w8 ⟨rfl, rfl⟩
  go_wp2_with fail
  refine (cut_any w.heap.size b _ _ _ 9 _ D7).mono ?_
  rintro e w9 ⟨rfl, D9, hb9⟩
  have hB9 := hB7.below' hb9 hb (Nat.le_refl _)
  rw [show PM.cutE 9 ([97, 98, 99] : List UInt8) = 1 from by decide]
  clear hb9 D7 D6 D9 hB7 k7
  go_wp2_with fail
  go_ret
  exact ⟨rfl, hB9⟩
end Go.Proofs.Ytjdgnhjnafideaa
