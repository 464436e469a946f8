/-
  CONTRACTS OF THE FUNCTIONS OF package value: each hands back what the plain function says; it makes memory of its own alone.
-/
import Derived.Test.YtnpbfjkfbobgaaaGreatProg
import Derived.Test.YtnpbfjkfbobgaaaGreatP0
import Derived.WalkKit
import Derived.WalkLawsBesides
import Derived.Handy
import Derived.Deep.QuietTactic
import Derived.BigQuiet
import Derived.Lib.Strings
namespace Go.Proofs.YtnpbfjkfbobgaaaGreat
open Go.RowKit
set_option linter.unusedVariables false

theorem field_0 (x y z : Value) (w : World) : (Instr.field 48 (.agg #[x, y, z]) 0).run Tryz.prog w = .ok x w := by kernel_rfl
theorem field_1 (x y z : Value) (w : World) : (Instr.field 48 (.agg #[x, y, z]) 1).run Tryz.prog w = .ok y w := by kernel_rfl
theorem field_2 (x y z : Value) (w : World) : (Instr.field 48 (.agg #[x, y, z]) 2).run Tryz.prog w = .ok z w := by kernel_rfl
theorem place_int (a b : Int) (w : World) :
    Calls Tryz.prog 89 #[.int .i64 a, .int .i64 b] w fun e w' => e = .returned (.int .i64 (PM.plI a b)) ∧ w = w' := by
  go_enter Tryz.func89, Tryz.ntmps89
  go_wp2
  all_goals (go_ret; exact ⟨PM.ret_int (by unfold PM.plI; (repeat' split) <;> omega), rfl⟩)
theorem place_int64 (a b : Int) (w : World) :
    Calls Tryz.prog 90 #[.int .i64 a, .int .i64 b] w fun e w' => e = .returned (.int .i64 (PM.plI a b)) ∧ w = w' := by
  go_enter Tryz.func90, Tryz.ntmps90
  go_wp2
  all_goals (go_ret; exact ⟨PM.ret_int (by unfold PM.plI; (repeat' split) <;> omega), rfl⟩)
theorem place_string (a b : ByteArray) (w : World) :
    Calls Tryz.prog 91 #[.string a, .string b] w fun e w' => e = .returned (.int .i64 (PM.plS a.data.toList b.data.toList)) ∧ w = w' := by
  go_enter Tryz.func91, Tryz.ntmps91
  go_wp2
  all_goals (simp only [PM.bytesLess_eq, Lib.toList_data, decide_eq_true_eq, decide_eq_false_iff_not] at *; go_ret; refine ⟨PM.ret_int ?_, rfl⟩; unfold PM.plS; simp [*])
theorem order_any (k n : Int) (s : ByteArray) (k' n' : Int) (s' : ByteArray) (w : World) :
    Calls Tryz.prog 77 #[.agg #[.int .i64 k, .int .i64 n, .string s], .agg #[.int .i64 k', .int .i64 n', .string s']] w fun e w' =>
      e = .returned (.int .i64 (PM.ord k n s.data.toList k' n' s'.data.toList)) ∧ Below w.heap.size w w' := by
  go_enter Tryz.func77, Tryz.ntmps77
  go_wp2
  refine wp_scope_jumps 0 (fun a w' => Below w.heap.size w w' ∧ ∃ x : Int, x = PM.ord k n s.data.toList k' n' s'.data.toList ∧ ∃ u0 u1 u2 u3 u4 u6 u7 u8 u9 u10 u11 u12 u13 u14 u15 u16 u17 u18 u19 u20 u21 u22 u23 u24 u25 : Value, a = { tmps := #[u0, u1, u2, u3, u4, .int .i64 x, u6, u7, u8, u9, u10, u11, u12, u13, u14, u15, u16, u17, u18, u19, u20, u21, u22, u23, u24, u25], defers := [] }) (fun _ _ => 0) rfl ?_ ?_
  · go_wp2_with (first | (go_at_call 89; refine (place_int _ _ _).mono ?_; rintro e w' ⟨rfl, rfl⟩) | (go_at_call 90; refine (place_int64 _ _ _).mono ?_; rintro e w' ⟨rfl, rfl⟩) | (go_at_call 91; refine (place_string _ _ _).mono ?_; rintro e w' ⟨rfl, rfl⟩))
    · go_step3
      exact ⟨rfl, by go_grown, _, by simp_all [PM.ord], _, _, _, _, _, _, _, _, _, _, _, _, _, _, _, _, _, _, _, _, _, _, _, _, _, rfl⟩
    · go_step3
      exact ⟨rfl, by go_grown, _, by simp_all [PM.ord], _, _, _, _, _, _, _, _, _, _, _, _, _, _, _, _, _, _, _, _, _, _, _, _, _, rfl⟩
    · go_step3
      go_wp2
      simp only [Exit.jump]
      go_ret
      exact ⟨PM.ret_int (by simp_all [PM.ord]), by go_grown⟩
  · rintro a w' ⟨hb, x, rfl, u0, u1, u2, u3, u4, u6, u7, u8, u9, u10, u11, u12, u13, u14, u15, u16, u17, u18, u19, u20, u21, u22, u23, u24, u25, rfl⟩
    go_wp2
    simp only [Exit.jump]
    go_ret
    exact ⟨rfl, hb⟩
theorem check_any (k n : Int) (s : ByteArray) (w : World) :
    Calls Tryz.prog 73 #[.agg #[.int .i64 k, .int .i64 n, .string s]] w fun e w' =>
      e = .returned (.int .i64 (PM.mayE k n s.data.toList)) ∧ Below w.heap.size w w' := by
  go_enter Tryz.func73, Tryz.ntmps73
  go_wp2
  all_goals (go_ret; refine ⟨PM.ret_int ?_, by go_grown⟩)
  all_goals (simp only [PM.isEmpty_iff, PM.size_len, beq_iff_eq, beq_eq_false_iff_ne, Bool.not_eq_true', decide_eq_true_eq, decide_eq_false_iff_not, Bool.not_eq_false'] at *)
  all_goals (simp_all [PM.mayE, PM.may_one, PM.may_two, PM.may_three, PM.may_other])
  all_goals omega
theorem less_any (k n : Int) (s : ByteArray) (k' n' : Int) (s' : ByteArray) (w : World) :
    Calls Tryz.prog 101 #[.agg #[.int .i64 k, .int .i64 n, .string s], .agg #[.int .i64 k', .int .i64 n', .string s']] w fun e w' =>
      e = .returned (.bool (PM.lessV k n s.data.toList k' n' s'.data.toList)) ∧ Below w.heap.size w w' := by
  go_enter Tryz.func101, Tryz.ntmps101
  go_wp2
  all_goals (go_ret; refine ⟨PM.ret_bool ?_, by go_grown⟩)
  all_goals (simp only [PM.bytesLess_eq, Lib.toList_data, bne_iff_ne, bne_eq_false_iff_eq] at *; simp_all [PM.lessV])
theorem rorder_any (k n : Int) (s : ByteArray) (k' n' : Int) (s' : ByteArray) (w : World) :
    Calls Tryz.prog 92 #[.agg #[.int .i64 k, .int .i64 n, .string s], .agg #[.int .i64 k', .int .i64 n', .string s']] w fun e w' =>
      e = .returned (.int .i64 (PM.ord k n s.data.toList k' n' s'.data.toList)) ∧ Below w.heap.size w w' := by
  go_enter Tryz.func92, Tryz.ntmps92
  go_wp2_with (go_at_call 101; refine (less_any _ _ _ _ _ _ _).mono ?_; rintro e w1 ⟨rfl, hb⟩; have hB := PM.chain (w := w) (by go_grown) hb; obtain ⟨hc, hf⟩ := PM.bcell hb; clear hb)
  all_goals (go_ret; refine ⟨PM.ret_int ?_, by assumption⟩; simp [PM.ord_less, *])
theorem begins_any (k n : Int) (s : ByteArray) (k' n' : Int) (s' : ByteArray) (w : World) :
    Calls Tryz.prog 100 #[.agg #[.int .i64 k, .int .i64 n, .string s], .agg #[.int .i64 k', .int .i64 n', .string s']] w fun e w' =>
      e = .returned (.bool (PM.beg k s.data.toList k' s'.data.toList)) ∧ Below w.heap.size w w' := by
  go_enter Tryz.func100, Tryz.ntmps100
  go_wp2
  all_goals (go_ret; refine ⟨PM.ret_bool ?_, by go_grown⟩)
  · rename_i hk hk' hl; subst hk hk'; exact PM.beg_two _ _ hl
  · rename_i hk hk' hl; subst hk hk'; exact (PM.beg_short _ _ _ _ hl).symm
  · rename_i hk hk'; exact (PM.beg_not _ _ _ _ (fun h => hk' h.2)).symm
  · rename_i hk; exact (PM.beg_not _ _ _ _ (fun h => hk h.1)).symm
theorem rbegins_any (k n : Int) (s : ByteArray) (k' n' : Int) (s' : ByteArray) (w : World) (hs : s.size ≤ maxLen) (hs' : s'.size ≤ maxLen) :
    Calls Tryz.prog 102 #[.agg #[.int .i64 k, .int .i64 n, .string s], .agg #[.int .i64 k', .int .i64 n', .string s']] w fun e w' =>
      e = .returned (.bool (PM.beg k s.data.toList k' s'.data.toList)) ∧ Below w.heap.size w w' := by
  unfold maxLen at hs hs'
  by_cases hk : k = 2
  · by_cases hk' : k' = 2
    · subst hk hk'
      by_cases hl : s'.size ≤ s.size
      · have hL : ((s'.size : Int) ≤ (s.size : Int)) := by omega
        go_enter Tryz.func102, Tryz.ntmps102
        go_wp2
        go_quiet (fail)
        go_wp2
        go_ret
        exact ⟨PM.ret_bool (PM.beg_two _ _ hl), below_drewN (by go_grown) _⟩
      · have hL : decide ((s'.size : Int) ≤ (s.size : Int)) = false := by simpa using hl
        go_enter Tryz.func102, Tryz.ntmps102
        go_wp2
        go_quiet (fail)
        go_wp2
        go_ret
        exact ⟨PM.ret_bool (PM.beg_short _ _ _ _ hl).symm, below_drewN (by go_grown) _⟩
    · subst hk
      have hL : (k' == 2) = false := by simpa using hk'
      go_enter Tryz.func102, Tryz.ntmps102
      go_wp2
      go_quiet (fail)
      go_wp2
      go_ret
      exact ⟨PM.ret_bool (PM.beg_not _ _ _ _ (fun h => hk' h.2)).symm, below_drewN (by go_grown) _⟩
  · have hL : (k == 2) = false := by simpa using hk
    go_enter Tryz.func102, Tryz.ntmps102
    go_wp2
    go_quiet (fail)
    go_wp2
    go_ret
    exact ⟨PM.ret_bool (PM.beg_not _ _ _ _ (fun h => hk h.1)).symm, below_drewN (by go_grown) _⟩
theorem int_any (n : Int) (w : World) :
    Calls Tryz.prog 19 #[.int .i64 n] w fun e w' => e = .returned (.agg #[.int .i64 1, .int .i64 n, .string ⟨#[]⟩]) ∧ Below w.heap.size w w' := by
  go_enter Tryz.func19, Tryz.ntmps19
  go_wp2
  exact bodyPost_ret (v := .agg #[.int .i64 1, .int .i64 n, .string ⟨#[]⟩]) (by simp [results, Tryz.results19, go_sem]) rfl ⟨rfl, by go_grown⟩
end Go.Proofs.YtnpbfjkfbobgaaaGreat
