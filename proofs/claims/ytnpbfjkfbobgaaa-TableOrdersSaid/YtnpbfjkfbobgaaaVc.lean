/-
  CONTRACTS OF THE FUNCTIONS OF package value: each hands back what the plain function says; it makes memory of its own alone.
-/
import Derived.Test.YtnpbfjkfbobgaaaProg
import Derived.Test.YtnpbfjkfbobgaaaP0
import Derived.WalkKit
import Derived.WalkLawsBesides
import Derived.Handy
import Derived.Deep.QuietTactic
import Derived.BigQuiet
import Derived.Lib.Strings
namespace Go.Proofs.Ytnpbfjkfbobgaaa
open Go.RowKit
set_option linter.unusedVariables false

theorem field_0 (x y z : Value) (w : World) : (Instr.field 53 (.agg #[x, y, z]) 0).run Try.prog w = .ok x w := by kernel_rfl
theorem field_1 (x y z : Value) (w : World) : (Instr.field 53 (.agg #[x, y, z]) 1).run Try.prog w = .ok y w := by kernel_rfl
theorem field_2 (x y z : Value) (w : World) : (Instr.field 53 (.agg #[x, y, z]) 2).run Try.prog w = .ok z w := by kernel_rfl
theorem place_int (a b : Int) (w : World) :
    Calls Try.prog 80 #[.int .i64 a, .int .i64 b] w fun e w' => e = .returned (.int .i64 (PM.plI a b)) ∧ w = w' := by
  go_enter Try.func80, Try.ntmps80
  go_wp2
  all_goals (go_ret; exact ⟨PM.ret_int (by unfold PM.plI; (repeat' split) <;> omega), rfl⟩)
theorem place_int64 (a b : Int) (w : World) :
    Calls Try.prog 81 #[.int .i64 a, .int .i64 b] w fun e w' => e = .returned (.int .i64 (PM.plI a b)) ∧ w = w' := by
  go_enter Try.func81, Try.ntmps81
  go_wp2
  all_goals (go_ret; exact ⟨PM.ret_int (by unfold PM.plI; (repeat' split) <;> omega), rfl⟩)
theorem place_string (a b : ByteArray) (w : World) :
    Calls Try.prog 82 #[.string a, .string b] w fun e w' => e = .returned (.int .i64 (PM.plS a.data.toList b.data.toList)) ∧ w = w' := by
  go_enter Try.func82, Try.ntmps82
  go_wp2
  all_goals (simp only [PM.bytesLess_eq, Lib.toList_data, decide_eq_true_eq, decide_eq_false_iff_not] at *; go_ret; refine ⟨PM.ret_int ?_, rfl⟩; unfold PM.plS; simp [*])
theorem order_any (k n : Int) (s : ByteArray) (k' n' : Int) (s' : ByteArray) (w : World) :
    Calls Try.prog 69 #[.agg #[.int .i64 k, .int .i64 n, .string s], .agg #[.int .i64 k', .int .i64 n', .string s']] w fun e w' =>
      e = .returned (.int .i64 (PM.ord k n s.data.toList k' n' s'.data.toList)) ∧ Below w.heap.size w w' := by
  go_enter Try.func69, Try.ntmps69
  go_wp2
  refine wp_scope_jumps 0 (fun a w' => Below w.heap.size w w' ∧ ∃ x : Int, x = PM.ord k n s.data.toList k' n' s'.data.toList ∧ ∃ u0 u1 u2 u3 u4 u6 u7 u8 u9 u10 u11 u12 u13 u14 u15 u16 u17 u18 u19 u20 u21 u22 u23 u24 u25 : Value, a = { tmps := #[u0, u1, u2, u3, u4, .int .i64 x, u6, u7, u8, u9, u10, u11, u12, u13, u14, u15, u16, u17, u18, u19, u20, u21, u22, u23, u24, u25], defers := [] }) (fun _ _ => 0) rfl ?_ ?_
  · go_wp2_with (first | (go_at_call 80; refine (place_int _ _ _).mono ?_; rintro e w' ⟨rfl, rfl⟩) | (go_at_call 81; refine (place_int64 _ _ _).mono ?_; rintro e w' ⟨rfl, rfl⟩) | (go_at_call 82; refine (place_string _ _ _).mono ?_; rintro e w' ⟨rfl, rfl⟩))
    · go_step3
      exact ⟨rfl, by go_grown, _, by simp_all [PM.ord], _, _, _, _, _, _, _, _, _, _, _, _, _, _, _, _, _, _, _, _, _, _, _, _, _, rfl⟩
    · go_step3
      exact ⟨rfl, by go_grown, _, by simp_all [PM.ord], _, _, _, _, _, _, _, _, _, _, _, _, _, _, _, _, _, _, _, _, _, _, _, _, _, rfl⟩
    · go_step3
      go_wp2
      simp only [Exit.jump]
      go_ret
      exact ⟨PM.ret_int (by simp_all [PM.ord]), by go_grown⟩
  · rintro a w' ⟨hb, x, rfl, u0, u1, u2, u3, u4, u6, u7, u8, u9, u10, u11, u12, u13, u14, u15, u16, u17, u18, u19, u20, u21, u22, u23, u24, u25, rfl⟩
    go_wp2
    simp only [Exit.jump]
    go_ret
    exact ⟨rfl, hb⟩
theorem check_any (k n : Int) (s : ByteArray) (w : World) :
    Calls Try.prog 64 #[.agg #[.int .i64 k, .int .i64 n, .string s]] w fun e w' =>
      e = .returned (.int .i64 (PM.mayE k n s.data.toList)) ∧ Below w.heap.size w w' := by
  go_enter Try.func64, Try.ntmps64
  go_wp2
  all_goals (go_ret; refine ⟨PM.ret_int ?_, by go_grown⟩)
  all_goals (simp only [PM.isEmpty_iff, PM.size_len, beq_iff_eq, beq_eq_false_iff_ne, Bool.not_eq_true', decide_eq_true_eq, decide_eq_false_iff_not, Bool.not_eq_false'] at *)
  all_goals (simp_all [PM.mayE, PM.may_one, PM.may_two, PM.may_three, PM.may_other])
  all_goals omega
theorem begins_any (k n : Int) (s : ByteArray) (k' n' : Int) (s' : ByteArray) (w : World) :
    Calls Try.prog 86 #[.agg #[.int .i64 k, .int .i64 n, .string s], .agg #[.int .i64 k', .int .i64 n', .string s']] w fun e w' =>
      e = .returned (.bool (PM.beg k s.data.toList k' s'.data.toList)) ∧ Below w.heap.size w w' := by
  go_enter Try.func86, Try.ntmps86
  go_wp2
  all_goals (go_ret; refine ⟨PM.ret_bool ?_, by go_grown⟩)
  · rename_i hk hk' hl; subst hk hk'; exact PM.beg_two _ _ hl
  · rename_i hk hk' hl; subst hk hk'; exact (PM.beg_short _ _ _ _ hl).symm
  · rename_i hk hk'; exact (PM.beg_not _ _ _ _ (fun h => hk' h.2)).symm
  · rename_i hk; exact (PM.beg_not _ _ _ _ (fun h => hk h.1)).symm
theorem int_any (n : Int) (w : World) :
    Calls Try.prog 18 #[.int .i64 n] w fun e w' => e = .returned (.agg #[.int .i64 1, .int .i64 n, .string ⟨#[]⟩]) ∧ Below w.heap.size w w' := by
  go_enter Try.func18, Try.ntmps18
  go_wp2
  exact bodyPost_ret (v := .agg #[.int .i64 1, .int .i64 n, .string ⟨#[]⟩]) (by simp [results, Try.results18, go_sem]) rfl ⟨rfl, by go_grown⟩
end Go.Proofs.Ytnpbfjkfbobgaaa
