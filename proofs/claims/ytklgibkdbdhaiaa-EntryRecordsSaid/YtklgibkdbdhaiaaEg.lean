/-
  CONTRACTS OF package event, postilionref04: Find.
-/
import Derived.Test.YtklgibkdbdhaiaaEf
namespace Go.Proofs.Ytklgibkdbdhaiaa
open Go.RowKit
set_option linter.unusedVariables false
namespace PM
/-- what Find gives -/
def FoundV (nm : ByteArray) (es : List At) (k n : Int) (s : ByteArray) (f : Bool) : Prop :=
  (f = false ∧ k = 0 ∧ n = 0 ∧ s = ⟨#[]⟩ ∧ Found nm es (-1)) ∨ ∃ (j : Nat) (z : At), f = true ∧ k = z.k ∧ n = z.n ∧ s = z.s ∧ es[j]? = Option.some z ∧ Found nm es (j : Int)
end PM
end Go.Proofs.Ytklgibkdbdhaiaa
