/-
  ATTRIBUTES AS ELEMENTS OF A ROW: where the events' texts have them already (stands in for Am).
-/
import Derived.Test.YtnpbfjkfbobgaaaGreatEB
namespace Go.Proofs.YtnpbfjkfbobgaaaGreat
end Go.Proofs.YtnpbfjkfbobgaaaGreat
