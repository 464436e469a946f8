/-
  CONTRACTS OF postilionref04: Find; of the law's package: Few.
-/
import Derived.Test.YtbpajgejfnjaeaaEg
namespace Go.Proofs.Ytbpajgejfnjaeaa
open Go.RowKit
set_option linter.unusedVariables false
end Go.Proofs.Ytbpajgejfnjaeaa
