/-
  THE WALKS OF LAYER 2's STATEMENTS: names, none, and the rise.
-/
import Derived.Test.YtfmbnndpjjjdiaaPa
namespace Go.Proofs.Ytfmbnndpjjjdiaa
open Go.RowKit
set_option linter.unusedVariables false
theorem packNames_walk (w : World) :
    Calls Try.prog 8 #[] w fun e w' => e = .returned (.bool true) ∧ Below w.heap.size w w' := by
  go_enter Try.func8, Try.ntmps8
  go_wp2_with (go_at_call 25; refine (awake2 _).mono ?_; rintro e w1 ⟨rfl, hb⟩)
  go_ret
  exact ⟨rfl, hb⟩
theorem rnumber_nil (w : World) : Calls Try.prog 36 #[.pointer none] w fun e w' => e = .returned (.int .u64 0) ∧ w = w' := by
  go_enter Try.func36, Try.ntmps36
  go_wp2
  go_step3
  go_wp2
  rw [Exit.noGoto_ret]
  go_ret
  exact ⟨rfl, rfl⟩
theorem rbytes_nil (m : Int) (w : World) : Calls Try.prog 37 #[.pointer none, .int .i64 m] w fun e w' => e = .returned (.slice none 0 0) ∧ w = w' := by
  go_enter Try.func37, Try.ntmps37
  go_wp2
  go_step3
  go_wp2
  rw [Exit.noGoto_ret]
  go_ret
  exact ⟨rfl, rfl⟩
theorem rvalue_nil (w : World) : Calls Try.prog 38 #[.pointer none] w fun e w' => e = .returned (.agg #[.int .i64 0, .int .i64 0, .string ⟨#[]⟩]) ∧ Below w.heap.size w w' := by
  go_enter Try.func38, Try.ntmps38
  go_wp2
  go_step3
  go_wp2
  rw [Exit.noGoto_ret]
  exact bodyPost_ret (v := .agg #[.int .i64 0, .int .i64 0, .string ⟨#[]⟩]) (by simp [results, Try.results38, go_sem]) rfl ⟨rfl, by go_grown⟩
theorem packNil_walk (m : Int) (_ : (Lit.int .i64 m).wf = true) (w : World) :
    Calls Try.prog 13 #[.int .i64 m] w fun e w' => e = .returned (.bool true) ∧ Below w.heap.size w w' := by
  go_enter Try.func13, Try.ntmps13
  go_wp2_with (first | (go_at_call 25; refine (awake2 _).mono ?_; rintro e w1 ⟨rfl, hb⟩) | (go_at_call 36; refine (rnumber_nil _).mono ?_; rintro e w2 ⟨rfl, rfl⟩) | (go_at_call 37; refine (rbytes_nil _ _).mono ?_; rintro e w2 ⟨rfl, rfl⟩) | (go_at_call 34; refine (wrong_nil _).mono ?_; rintro e w2 ⟨rfl, rfl⟩) | (go_at_call 35; refine (done_nil _).mono ?_; rintro e w2 ⟨rfl, rfl⟩) | (go_at_call 38; refine (rvalue_nil _).mono ?_; rintro e w2 ⟨rfl, hv⟩))
  go_ret
  exact ⟨rfl, PM.chain hb hv⟩
end Go.Proofs.Ytfmbnndpjjjdiaa
