/-
  ATTRIBUTES AS ELEMENTS OF A ROW: where the events' texts have them already (stands in for Am).
-/
import Derived.Test.YtnpbfjkfbobgaaaEB
namespace Go.Proofs.Ytnpbfjkfbobgaaa
end Go.Proofs.Ytnpbfjkfbobgaaa
