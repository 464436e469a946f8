/-
  CONTRACTS OF package event, postilionref04: Find.
-/
import Derived.Test.YtklgibkdbdhaiaaEc
namespace Go.Proofs.Ytklgibkdbdhaiaa
open Go.RowKit
set_option linter.unusedVariables false
namespace PM
/-- where a name is found: the first place that bears it, or none -/
def Found (nm : ByteArray) (es : List At) (i : Int) : Prop :=
  (i = -1 ∧ ∀ (j : Nat) (z : At), es[j]? = Option.some z → (z.name.toList == nm.toList) = false) ∨
  ∃ (k : Nat) (z : At), i = (k : Int) ∧ es[k]? = Option.some z ∧ (z.name.toList == nm.toList) = true ∧ ∀ (j : Nat) (y : At), j < k → es[j]? = Option.some y → (y.name.toList == nm.toList) = false
end PM
end Go.Proofs.Ytklgibkdbdhaiaa
