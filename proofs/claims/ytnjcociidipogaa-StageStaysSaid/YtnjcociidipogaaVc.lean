/-
  CONTRACTS OF THE FUNCTIONS OF package value: each hands back what the plain function says; it makes memory of its own alone.
-/
import Derived.Test.YtnjcociidipogaaProg
import Derived.Test.YtnjcociidipogaaP0
import Derived.WalkKit
import Derived.WalkLawsBesides
import Derived.Handy
import Derived.Deep.QuietTactic
import Derived.BigQuiet
import Derived.Lib.Strings
namespace Go.Proofs.Ytnjcociidipogaa
open Go.RowKit
set_option linter.unusedVariables false

theorem field_0 (x y z : Value) (w : World) : (Instr.field 61 (.agg #[x, y, z]) 0).run Try.prog w = .ok x w := by kernel_rfl
theorem field_1 (x y z : Value) (w : World) : (Instr.field 61 (.agg #[x, y, z]) 1).run Try.prog w = .ok y w := by kernel_rfl
theorem field_2 (x y z : Value) (w : World) : (Instr.field 61 (.agg #[x, y, z]) 2).run Try.prog w = .ok z w := by kernel_rfl
theorem check_any (k n : Int) (s : ByteArray) (w : World) :
    Calls Try.prog 49 #[.agg #[.int .i64 k, .int .i64 n, .string s]] w fun e w' =>
      e = .returned (.int .i64 (PM.mayE k n s.data.toList)) ∧ Below w.heap.size w w' := by
  go_enter Try.func49, Try.ntmps49
  go_wp2
  all_goals (go_ret; refine ⟨PM.ret_int ?_, by go_grown⟩)
  all_goals (simp only [PM.isEmpty_iff, PM.size_len, beq_iff_eq, beq_eq_false_iff_ne, Bool.not_eq_true', decide_eq_true_eq, decide_eq_false_iff_not, Bool.not_eq_false'] at *)
  all_goals (simp_all [PM.mayE, PM.may_one, PM.may_two, PM.may_three, PM.may_other])
  all_goals omega
theorem int_any (n : Int) (w : World) :
    Calls Try.prog 20 #[.int .i64 n] w fun e w' => e = .returned (.agg #[.int .i64 1, .int .i64 n, .string ⟨#[]⟩]) ∧ Below w.heap.size w w' := by
  go_enter Try.func20, Try.ntmps20
  go_wp2
  exact bodyPost_ret (v := .agg #[.int .i64 1, .int .i64 n, .string ⟨#[]⟩]) (by simp [results, Try.results20, go_sem]) rfl ⟨rfl, by go_grown⟩
end Go.Proofs.Ytnjcociidipogaa
