/-
  THE WALKS OF LAYER 1's STATEMENTS.
-/
import Derived.Test.YtfmbnndpjjjdiaaVa
import Derived.Lib.QuietBelow
namespace Go.Proofs.Ytfmbnndpjjjdiaa
open Go.RowKit Go.Sort
set_option linter.unusedVariables false

theorem valueNames_walk (w : World) :
    Calls Try.prog 3 #[] w fun e w' => e = .returned (.bool true) ∧ Below w.heap.size w w' := by
  go_enter Try.func3, Try.ntmps3
  go_wp2_with (go_at_call 15; refine (awake1 _).mono ?_; rintro e w1 ⟨rfl, hb⟩)
  go_ret
  exact ⟨rfl, hb⟩
theorem valueTells_walk (k n : Int) (s : ByteArray) (k' n' : Int) (s' : ByteArray) (_ : (Lit.int .i64 k).wf = true) (_ : (Lit.int .i64 n).wf = true) (hs : s.size ≤ maxLen) (_ : (Lit.int .i64 k').wf = true) (_ : (Lit.int .i64 n').wf = true) (hs' : s'.size ≤ maxLen) (w : World) :
    Calls Try.prog 4 #[.agg #[.int .i64 k, .int .i64 n, .string s], .agg #[.int .i64 k', .int .i64 n', .string s']] w fun e w' => e = .returned (.bool true) ∧ Below w.heap.size w w' := by
  go_enter Try.func4, Try.ntmps4
  go_wp2_with fail
  refine (awake1 _).mono ?_
  rintro e w1 ⟨rfl, hb⟩
  have hB := PM.chain (w := w) (by go_grown) hb
  obtain ⟨B0, B1⟩ := PM.Blk.two w #[.int .i64 k, .int .i64 n, .string s] #[.int .i64 k', .int .i64 n', .string s'] 24 24 (0, 0) (0, 0)
  replace B0 := B0.keep hb
  replace B1 := B1.keep hb
  have c0 := B0.cell 0
  have c1 := B0.cell 1
  have c2 := B0.cell 2
  have d0 := B1.cell 0
  have d1 := B1.cell 1
  have d2 := B1.cell 2
  clear hb B0 B1
  have hs0 := hs
  have hs1 := hs'
  unfold maxLen at hs hs'
  go_wp2_with fail
  all_goals try (go_ret; exact ⟨rfl, hB⟩)
  have k0 := cell_regrown c0
  have k1 := cell_regrown c1
  have k2 := cell_regrown c2
  have l0 := cell_regrown d0
  have l1 := cell_regrown d1
  have l2 := cell_regrown d2
  refine wp_region_quiet_below (by kernel_rfl) (by kernel_rfl) ?_
  repeat (quiet_step (first | (go_at_call 16; exact Calls.regrown_of (check_any _ _ _ _)) | (go_at_call 17; exact Calls.regrown_of (rcheck_any _ _ _ _)) | (go_at_call 18; exact Calls.regrown_of (order_any _ _ _ _ _ _ _)) | (go_at_call 19; exact Calls.regrown_of (rorder_any _ _ _ _ _ _ _)) | (go_at_call 20; exact Calls.regrown_of (begins_any _ _ _ _ _ _ _)) | (go_at_call 21; exact Calls.regrown_of (rbegins_any _ _ _ _ _ _ _ hs0 hs1))))
  refine wpQuiet_nil ?_
  intro _ hw'
  obtain ⟨⟨dq, osq⟩, hw''⟩ := hw'
  subst hw''
  go_wp2
  go_ret
  exact ⟨rfl, PM.chain hB (below_regrown _ _ _)⟩
end Go.Proofs.Ytfmbnndpjjjdiaa
