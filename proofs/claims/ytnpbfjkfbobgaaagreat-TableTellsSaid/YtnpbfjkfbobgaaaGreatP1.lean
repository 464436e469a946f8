import Derived.Test.YtnpbfjkfbobgaaaGreatVc
import Derived.Test.YtnpbfjkfbobgaaaGreatG0
import Derived.Test.YtnpbfjkfbobgaaaGreatP0
import Derived.Lib.Hide
import Derived.Deep.DeepMust
import Derived.Deep.RegionHeld3
import Derived.Test.YtnpbfjkfbobgaaaGreatR0
/-
  CONTRACTS OF package pack: numbers.
-/
namespace Go.Proofs.YtnpbfjkfbobgaaaGreat
open Go.RowKit
set_option linter.unusedVariables false

theorem wrap_u64_eq (n : Int) : IntKind.u64.wrap n = ((PM.u64 n : Nat) : Int) := by
  rw [IntKind.wrap_u64]; unfold PM.u64; omega
end Go.Proofs.YtnpbfjkfbobgaaaGreat

/-
  CONTRACT OF pack.Value.
-/
namespace Go.Proofs.YtnpbfjkfbobgaaaGreat
open Go.RowKit
set_option linter.unusedVariables false
end Go.Proofs.YtnpbfjkfbobgaaaGreat

/-
  CONTRACTS OF package pack: readers.
-/
namespace Go.Proofs.YtnpbfjkfbobgaaaGreat
open Go.RowKit
set_option linter.unusedVariables false

def RetR (T : TypeId) (W : World) (l : List UInt8) (e : Ending) (w' : World) : Prop := ∃ b, e = .returned (.pointer (some ⟨b, 0, none⟩)) ∧ W.heap.size ≤ b ∧ PM.RD T w' b l false ∧ Below W.heap.size W w'
end Go.Proofs.YtnpbfjkfbobgaaaGreat

/-
  CONTRACTS OF package pack: a reader's bytes.
-/
namespace Go.Proofs.YtnpbfjkfbobgaaaGreat
open Go.RowKit
set_option linter.unusedVariables false
def RetRB (T E : TypeId) (W : World) (b : Nat) (m l : List UInt8) (wr : Bool) (e : Ending) (w' : World) : Prop :=
  ∃ v, e = .returned v ∧ PM.OW E W.heap.size w' v m ∧ PM.RD T w' b l wr ∧ PM.Bx b W w'
end Go.Proofs.YtnpbfjkfbobgaaaGreat

/-
  CONTRACTS OF package pack: a reader's value, and what it tells of itself.
-/
namespace Go.Proofs.YtnpbfjkfbobgaaaGreat
open Go.RowKit
set_option linter.unusedVariables false
end Go.Proofs.YtnpbfjkfbobgaaaGreat

/-
  CONTRACTS OF package pack: a reader's value.
-/
namespace Go.Proofs.YtnpbfjkfbobgaaaGreat
open Go.RowKit
set_option linter.unusedVariables false
theorem wrap64_toI (n : Nat) (hn : n < 2 ^ 64) : wrap64 (n : Int) = PM.toI n := by
  unfold wrap64 PM.toI; split <;> omega
theorem wrap_toI (n : Nat) (hn : n < 2 ^ 64) : IntKind.i64.wrap (n : Int) = PM.toI n := by
  rw [IntKind.wrap_i64]; unfold PM.toI; split <;> omega
def RetRV (T : TypeId) (W : World) (b : Nat) (k n : Int) (s l : List UInt8) (wr : Bool) (e : Ending) (w' : World) : Prop :=
  e = .returned (.agg #[.int .i64 k, .int .i64 n, .string ⟨s.toArray⟩]) ∧ PM.RD T w' b l wr ∧ PM.Bx b W w'
end Go.Proofs.YtnpbfjkfbobgaaaGreat
