/-
  THE WALKS OF LAYER 9's STATEMENTS: names, none.
-/
import Derived.Test.YtjdgnhjnafideaaDa
namespace Go.Proofs.Ytjdgnhjnafideaa
open Go.RowKit
set_option linter.unusedVariables false
theorem diskNames_walk (w : World) :
    Calls Try.prog 3 #[] w fun e w' => e = .returned (.bool true) ∧ Below w.heap.size w w' := by
  go_enter Try.func3, Try.ntmps3
  go_wp2_with (go_at_call 10; refine (awake9 _).mono ?_; rintro e w1 ⟨rfl, hb⟩)
  go_ret
  exact ⟨rfl, hb⟩
theorem diskNil_walk (n : Int) (v : Value) (l : List UInt8) (_ : (Lit.int .i64 n).wf = true) (w : World) (_ : PM.BS w v l) :
    Calls Try.prog 7 #[.int .i64 n, v] w fun e w' => e = .returned (.bool true) ∧ Below w.heap.size w w' := by
  go_enter Try.func7, Try.ntmps7
  go_wp2_with (first | (go_at_call 10; refine (awake9 _).mono ?_; rintro e w1 ⟨rfl, hb⟩) | (go_at_call 20; refine (crash_nil _ _).mono ?_; rintro e w2 ⟨rfl, rfl⟩) | (go_at_call 16; refine (append_nil _ _).mono ?_; rintro e w2 ⟨rfl, rfl⟩) | (go_at_call 17; refine (sync_nil _).mono ?_; rintro e w2 ⟨rfl, rfl⟩) | (go_at_call 18; refine (cut_nil _ _).mono ?_; rintro e w2 ⟨rfl, rfl⟩) | (go_at_call 19; refine (swap_nil _ _).mono ?_; rintro e w2 ⟨rfl, rfl⟩) | (go_at_call 14; refine (read_nil _).mono ?_; rintro e w2 ⟨rfl, rfl⟩) | (go_at_call 15; refine (lasting_nil _).mono ?_; rintro e w2 ⟨rfl, rfl⟩))
  go_ret
  exact ⟨rfl, hb⟩
end Go.Proofs.Ytjdgnhjnafideaa
