/-
  CONTRACTS: slices.Index, slices.Contains over IDs and votes; fold.Aborted; vote.Says.
-/
import Derived.Test.YtokfookandfemaaVa
namespace Go.Proofs.Ytokfookandfemaa
open Go.RowKit
set_option linter.unusedVariables false
set_option linter.unusedSimpArgs false
namespace PM
structure Vo where
  id : Id
  yes : Bool
  deriving DecidableEq
def voL (x : Vo) : List Value := [.int .i64 x.id.br, .int .u64 (x.id.life : Int), .int .u64 (x.id.ser : Int), .bool x.yes]
theorem voL_len (x : Vo) : (voL x).length = 4 := rfl
theorem voL_one (x : Vo) : ∀ u ∈ voL x, u.oneCell' = true := by intro u hu; simp [voL] at hu; rcases hu with rfl | rfl | rfl | rfl <;> rfl
end PM
set_option maxRecDepth 100000 in
set_option maxHeartbeats 400000 in
theorem veq_run (a b : PM.Vo) : ∀ w : World, Sem.run Try.prog (binOp .eql 53 (.agg #[.int .i64 a.id.br, .int .u64 (a.id.life : Int), .int .u64 (a.id.ser : Int), .bool a.yes]) (.agg #[.int .i64 b.id.br, .int .u64 (b.id.life : Int), .int .u64 (b.id.ser : Int), .bool b.yes])) w = .ok (.bool (decide (a = b))) w := by
  intro w
  rw [run_eql_struct, show (10000 : Nat) = 9999 + 1 from rfl, run_equalIn_agg w 9999 53 _ _ (by kernel_rfl) (by kernel_rfl)]
  simp only [Program.fieldsOf, Try.underlying53, Try.underlying45]
  go_simp
  obtain ⟨⟨a1, a2, a3⟩, a4⟩ := a
  obtain ⟨⟨b1, b2, b3⟩, b4⟩ := b
  simp only [PM.Vo.mk.injEq, PM.Id.mk.injEq]
  by_cases e1 : a1 = b1 <;> by_cases e2 : a2 = b2 <;> by_cases e3 : a3 = b3 <;> by_cases e4 : a4 = b4 <;> simp [e1, e2, e3, e4] <;> omega
end Go.Proofs.Ytokfookandfemaa
