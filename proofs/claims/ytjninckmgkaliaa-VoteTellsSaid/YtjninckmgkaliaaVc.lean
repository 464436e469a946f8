/-
  CONTRACTS OF THE FUNCTIONS OF package value: each hands back what the plain function says; it makes memory of its own alone.
-/
import Derived.Test.YtjninckmgkaliaaProg
import Derived.Test.YtjninckmgkaliaaP0
import Derived.WalkKit
import Derived.WalkLawsBesides
import Derived.Handy
import Derived.Deep.QuietTactic
import Derived.BigQuiet
import Derived.Lib.Strings
namespace Go.Proofs.Ytjninckmgkaliaa
open Go.RowKit
set_option linter.unusedVariables false

theorem field_0 (x y z : Value) (w : World) : (Instr.field 85 (.agg #[x, y, z]) 0).run Try.prog w = .ok x w := by kernel_rfl
theorem field_1 (x y z : Value) (w : World) : (Instr.field 85 (.agg #[x, y, z]) 1).run Try.prog w = .ok y w := by kernel_rfl
theorem field_2 (x y z : Value) (w : World) : (Instr.field 85 (.agg #[x, y, z]) 2).run Try.prog w = .ok z w := by kernel_rfl
end Go.Proofs.Ytjninckmgkaliaa
