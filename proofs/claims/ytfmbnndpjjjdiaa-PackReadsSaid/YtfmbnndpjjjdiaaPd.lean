/-
  CONTRACT OF layer 2's own read, for any other kind.
-/
import Derived.Test.YtfmbnndpjjjdiaaPe
namespace Go.Proofs.Ytfmbnndpjjjdiaa
open Go.RowKit
set_option linter.unusedVariables false
theorem read4_any (b : Nat) (v : Value) (wr : Bool) (k most : Int) (w : World) (h1 : ¬ k = 1) (h2 : ¬ k = 2) (h3 : ¬ k = 3) :
    Calls Try.prog 33 #[.pointer (some ⟨b, 0, none⟩), v, .agg #[.int .i64 k, .int .i64 most], .bool wr] w fun e w' =>
      e = .returned (.tuple #[.bool true, .int .i64 0]) ∧ Below w.heap.size w w' := by
  go_enter Try.func33, Try.ntmps33
  cases wr
  all_goals
    go_wp2
    go_ret2
    exact ⟨rfl, by go_grown⟩
end Go.Proofs.Ytfmbnndpjjjdiaa
