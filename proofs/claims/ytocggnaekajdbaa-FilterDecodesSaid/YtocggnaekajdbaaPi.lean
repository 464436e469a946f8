/-
  CONTRACTS OF package postilionref02: a value that is unpacked.
-/
import Derived.Test.YtocggnaekajdbaaPh
import Derived.Test.YtocggnaekajdbaaPx
namespace Go.Proofs.Ytocggnaekajdbaa
open Go.RowKit
set_option linter.unusedVariables false
namespace PM
/-- the value that bytes begin with, and how many bytes it has in all -/
def getV (l : List UInt8) : (Int × Int × List UInt8) × Nat :=
  let a := getK l
  let c := getK (l.drop a.2)
  let d := getB (l.drop (a.2 + c.2)) 40
  if a.2 = 0 ∨ 3 < a.1 ∨ c.2 = 0 ∨ d.2 = 0 then ((0, 0, []), 0)
  else if may a.1 (pickZ a.1 c.1) d.1 = true then (((a.1 : Int), pickZ a.1 c.1, d.1), a.2 + c.2 + d.2) else ((0, 0, []), 0)
theorem getV_eq (l s : List UInt8) (n1 k1 n2 k2 k3 : Nat) (h1 : getK l = (n1, k1)) (h2 : getK (l.drop k1) = (n2, k2)) (h3 : getB (l.drop (k1 + k2)) 40 = (s, k3)) :
    getV l = if k1 = 0 ∨ 3 < n1 ∨ k2 = 0 ∨ k3 = 0 then ((0, 0, []), 0) else if may n1 (pickZ n1 n2) s = true then (((n1 : Int), pickZ n1 n2, s), k1 + k2 + k3) else ((0, 0, []), 0) := by
  unfold getV
  simp only [h1, h2, h3]
theorem getB_lt (l : List UInt8) (m : Int) : (getB l m).2 ≤ l.length ∧ (getB l m).1.length ≤ l.length := by
  have h := getK_lt l
  unfold getB
  split
  · simp
  · simp only [List.length_take, List.length_drop]; omega
end PM
end Go.Proofs.Ytocggnaekajdbaa
