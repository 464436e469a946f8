import Derived.Test.YtjninckmgkaliaaIA
import Derived.Test.YtjninckmgkaliaaEA
import Derived.Test.YtjninckmgkaliaaG0
import Derived.Test.YtjninckmgkaliaaVc
import Derived.Deep.CutRange
/-
  CONTRACTS OF package filter: One, Check.
-/
namespace Go.Proofs.Ytjninckmgkaliaa
open Go.RowKit
set_option linter.unusedVariables false
theorem PM.teE_no {z : PM.Te} (h : PM.teOk z = false) : PM.teE z = 50 := by unfold PM.teE; rw [h]; rfl
theorem PM.teE_yes {z : PM.Te} (h : PM.teOk z = true) : PM.teE z = 0 := by unfold PM.teE; rw [h]; rfl
theorem PM.mayE_yes {k n : Int} {s : List UInt8} (h : PM.may k n s = true) : PM.mayE k n s = 0 := by unfold PM.mayE; rw [if_pos h]
theorem PM.mayE_no {k n : Int} {s : List UInt8} (h : PM.may k n s = false) : PM.mayE k n s = 10 := by unfold PM.mayE; rw [h]; rfl
end Go.Proofs.Ytjninckmgkaliaa

/-
  CONTRACTS OF package filter: Check; asks.
-/
namespace Go.Proofs.Ytjninckmgkaliaa
open Go.RowKit
set_option linter.unusedVariables false
namespace PM
/-- the boxes that the closures hold -/
def Boxes (w : World) (p a b : Nat) (o k n : Int) (s : ByteArray) (k' n' : Int) (s' : ByteArray) : Prop :=
  BK w p #[.int .i64 o] 3 ∧ BK w a #[.int .i64 k, .int .i64 n, .string s] 85 ∧ BK w b #[.int .i64 k', .int .i64 n', .string s'] 85
theorem Boxes.keep {W w : World} {p a b : Nat} {o k n : Int} {s : ByteArray} {k' n' : Int} {s' : ByteArray} (hb : Below W.heap.size W w) (h : Boxes W p a b o k n s k' n' s') : Boxes w p a b o k n s k' n' s' :=
  ⟨h.1.keep hb, h.2.1.keep hb, h.2.2.keep hb⟩
end PM
end Go.Proofs.Ytjninckmgkaliaa
