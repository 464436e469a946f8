/-
  THE WALK of TableNone.
-/
import Derived.Test.YtnpbfjkfbobgaaaGreatBm
import Derived.Test.YtnpbfjkfbobgaaaGreatJO
namespace Go.Proofs.YtnpbfjkfbobgaaaGreat
open Go.RowKit
set_option linter.unusedVariables false
set_option linter.unusedSimpArgs false
namespace PM
theorem allL_nil (l : List Sb) : allL l [] = [] := by
  unfold allL
  rw [List.filter_eq_nil_iff.2 (fun x _ => by simp [pS]), List.map_nil]
theorem anyM_nil (e : List At) : anyM [] e = false := rfl
theorem cut_kind (ls : List (List Te)) (x : En) : (cutE ls x).kind = x.kind ∧ (cutE ls x).id = x.id ∧ (cutE ls x).fil = x.fil := by
  unfold cutE
  split <;> exact ⟨rfl, rfl, rfl⟩
theorem cut_len (ls : List (List Te)) (x : En) : (cutE ls x).evs.length ≤ x.evs.length := by
  unfold cutE
  split
  · exact List.length_filter_le _ _
  · exact Nat.le_refl _
theorem cut_mem {ls : List (List Te)} {x : En} {e : List At} (h : e ∈ (cutE ls x).evs) : e ∈ x.evs := by
  unfold cutE at h
  split at h
  · exact (List.mem_filter.1 h).1
  · exact h
theorem cut_nil {x : En} (h : x.kind = 1) : (cutE [] x).evs = [] := by
  unfold cutE
  rw [if_pos h]
  exact List.filter_eq_nil_iff.2 fun e _ => by rw [anyM_nil]; decide
theorem cut_id {ls : List (List Te)} {x : En} (h : ¬ x.kind = 1) : cutE ls x = x := by
  unfold cutE
  rw [if_neg h]
theorem EnS.cut {ls : List (List Te)} {x : En} (h : EnS x) : EnS (cutE ls x) := ⟨by rw [(cut_kind ls x).2.2]; exact h.1, Nat.le_trans (cut_len ls x) h.2.1, fun e he => h.2.2 e (cut_mem he)⟩
theorem En.wf.cut {ls : List (List Te)} {x : En} (h : x.wf) : (cutE ls x).wf := by
  unfold cutE
  split
  · obtain ⟨h1, h2, h3, h4, h5, h6⟩ := h
    exact ⟨h1, h2, h3, h4, h5, fun e he => h6 e (List.mem_filter.1 he).1⟩
  · exact h
/-- those of one client -/
def ownL (t : List Sb) (c : Int) : List Sb := t.filter fun x => decide (x.cl = c)
theorem all_own (t : List Sb) (c : Int) : allL (ownL t c) [c] = allL t [c] := by
  unfold allL ownL
  rw [List.filter_filter]
  congr 1
  apply List.filter_congr
  intro x _
  simp [pS]
theorem batch_own (t : List Sb) (c : Int) (x : En) : batchL t c x = batchL (ownL t c) c x := by unfold batchL; rw [all_own]
theorem batch_none {t : List Sb} {c : Int} {x : En} (h : ownL t c = []) : batchL t c x = [] := by
  rw [batch_own, h]
  unfold batchL
  split
  · exact List.filter_eq_nil_iff.2 fun e _ => by rw [show allL [] [c] = [] from rfl, anyM_nil]; decide
  · rfl
end PM
end Go.Proofs.YtnpbfjkfbobgaaaGreat
