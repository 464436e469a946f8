/-
  CONTRACTS OF postilionref04: Find; of the law's package: Few.
-/
import Derived.Test.YtklgibkdbdhaiaaEg
namespace Go.Proofs.Ytklgibkdbdhaiaa
open Go.RowKit
set_option linter.unusedVariables false
end Go.Proofs.Ytklgibkdbdhaiaa
