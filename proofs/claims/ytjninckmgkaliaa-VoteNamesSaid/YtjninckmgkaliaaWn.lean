/-
  THE WALK OF VoteNames.
-/
import Derived.Test.YtjninckmgkaliaaWe
import Derived.Test.YtjninckmgkaliaaWt
namespace Go.Proofs.Ytjninckmgkaliaa
open Go.RowKit
set_option linter.unusedVariables false
theorem voteNames_walk (w : World) : Calls Try.prog 3 #[] w fun e w' => e = .returned (.bool true) ∧ Below w.heap.size w w' := by
  go_enter Try.func3, Try.ntmps3
  go_wp2_with fail
  refine (awake18_any w).mono ?_
  rintro e w1 ⟨rfl, hB⟩
  have hBB := PM.hid hB
  clear hB
  go_wp2_with fail
  go_ret
  exact ⟨rfl, hBB.out⟩
end Go.Proofs.Ytjninckmgkaliaa
