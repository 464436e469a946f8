/-
  CONTRACTS OF package event, postilionref04: Check.
-/
import Derived.Test.YtocggnaekajdbaaEn
import Derived.Test.YtocggnaekajdbaaVp
namespace Go.Proofs.Ytocggnaekajdbaa
open Go.RowKit
set_option linter.unusedVariables false
namespace PM
/-- whether an attribute may be -/
def atOk (x : At) : Bool := nameL x.name.data.toList && may x.k x.n x.s.data.toList
/-- whether an attribute may be where it stands -/
def okAt (es : List At) (i : Nat) : Prop := ∀ x, es[i]? = some x → atOk x = true ∧ ∀ y, 0 < i → es[i - 1]? = some y → y.name.data.toList < x.name.data.toList
/-- whether an event may be -/
def chkP (es : List At) : Prop := 1 ≤ es.length ∧ es.length ≤ 16 ∧ ∀ i, i < es.length → okAt es i
open Classical in
noncomputable def chk (es : List At) : Int := if chkP es then 0 else 40
theorem chk_yes {es : List At} (h : chkP es) : chk es = 0 := by unfold chk; rw [if_pos h]
theorem chk_no {es : List At} (h : ¬ chkP es) : chk es = 40 := by unfold chk; rw [if_neg h]
theorem leq_eq (a b : ByteArray) : (Op.bytesLess a.toList b.toList || a.toList == b.toList) = !decide (b.data.toList < a.data.toList) := by
  rw [bytesLess_eq, ByteArray.toList_eq, ByteArray.toList_eq, Bool.eq_iff_iff]
  simp only [Bool.or_eq_true, decide_eq_true_eq, beq_iff_eq, Bool.not_eq_true', decide_eq_false_iff_not]
  rw [List.not_lt, List.le_iff_lt_or_eq]
theorem dN' {B : Nat} {a w : World} (h : Below B a w) (n : Nat) : Below B a (w.drewN n) := h.trans ⟨rfl, rfl, rfl, Nat.le_refl _, fun _ _ => rfl⟩
end PM
theorem vcheck_any (k n : Int) (s : ByteArray) (w : World) :
    Calls Try.prog 37 #[.agg #[.int .i64 k, .int .i64 n, .string s]] w fun e w' =>
      e = .returned (.int .i64 (PM.mayE k n s.data.toList)) ∧ Below w.heap.size w w' := by
  go_enter Try.func37, Try.ntmps37
  go_wp2
  all_goals (go_ret; refine ⟨PM.ret_int ?_, by go_grown⟩)
  all_goals (simp only [PM.isEmpty_iff, PM.size_len, beq_iff_eq, beq_eq_false_iff_ne, Bool.not_eq_true', decide_eq_true_eq, decide_eq_false_iff_not, Bool.not_eq_false'] at *)
  all_goals (simp_all [PM.mayE, PM.may_one, PM.may_two, PM.may_three, PM.may_other])
  all_goals omega
end Go.Proofs.Ytocggnaekajdbaa
