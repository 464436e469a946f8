/-
  CONTRACTS: slices.Index, slices.Contains over IDs and votes; fold.Aborted; vote.Says.
-/
import Derived.Test.YtnpbfjkfbobgaaaGreatVa
namespace Go.Proofs.YtnpbfjkfbobgaaaGreat
open Go.RowKit
set_option linter.unusedVariables false
set_option linter.unusedSimpArgs false
namespace PM
structure Vo where
  id : Id
  yes : Bool
  deriving DecidableEq
def voL (x : Vo) : List Value := [.int .i64 x.id.br, .int .u64 (x.id.life : Int), .int .u64 (x.id.ser : Int), .bool x.yes]
theorem voL_len (x : Vo) : (voL x).length = 4 := rfl
theorem voL_one (x : Vo) : ∀ u ∈ voL x, u.oneCell' = true := by intro u hu; simp [voL] at hu; rcases hu with rfl | rfl | rfl | rfl <;> rfl
end PM
end Go.Proofs.YtnpbfjkfbobgaaaGreat
