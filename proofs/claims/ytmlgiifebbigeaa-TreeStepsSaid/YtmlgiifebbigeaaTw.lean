/-
  THE WALKS OF LAYER 12's STATEMENTS.
-/
import Derived.Test.YtmlgiifebbigeaaTa
namespace Go.Proofs.Ytmlgiifebbigeaa
open Go.RowKit
set_option linter.unusedVariables false
/-- what Check answers -/
noncomputable def chk (l : List Int) : Int := by classical exact if PM.Tr l then 0 else 120
theorem Check_es (v : Value) (l : List Int) (w : World) (h : PM.ES PM.iv w v l) :
    Calls Try.prog 10 #[v] w fun e w' => e = .returned (.int .i64 (chk l)) ∧ w' = w := by
  rcases h.cells with ⟨a, cap, rfl, rfl⟩ | ⟨b, off, cap, rfl, h0, h1, h2, h3⟩
  · rw [show chk [] = 120 from if_neg (fun h => by have := h.pos; simp at this)]
    exact Check_none a cap w
  · by_cases ht : PM.Tr l
    · rw [show chk l = 0 from if_pos ht]
      exact Check_ok b off cap l w ⟨ht, h1, h2, h3⟩
    · rw [show chk l = 120 from if_neg ht]
      exact Check_bad b off cap l w ht h0 h1 h2 h3
/-- parents that came in make no tree, or do -/
theorem es_tree (v : Value) (l : List Int) (w : World) (h : PM.ES PM.iv w v l) :
    (chk l = 120 ∧ ¬ PM.Tr l) ∨ (chk l = 0 ∧ ∃ b off cap, v = .slice (some ⟨b, off, none⟩) l.length cap ∧ PT w b off cap l) := by
  by_cases ht : PM.Tr l
  · refine .inr ⟨if_pos ht, ?_⟩
    rcases h.cells with ⟨a, cap, rfl, rfl⟩ | ⟨b, off, cap, rfl, h0, h1, h2, h3⟩
    · have := ht.pos; simp at this
    · exact ⟨b, off, cap, rfl, ht, h1, h2, h3⟩
  · exact .inl ⟨if_neg ht, ht⟩
theorem treeNames_walk (w : World) :
    Calls Try.prog 3 #[] w fun e w' => e = .returned (.bool true) ∧ Below w.heap.size w w' := by
  go_enter Try.func3, Try.ntmps3
  go_wp2_with (go_at_call 9; refine (awake12 _).mono ?_; rintro e w1 ⟨rfl, hb⟩)
  go_ret
  exact ⟨rfl, hb⟩
theorem up_tr {l : List Int} (h : PM.Tr l) (a b c : Int) (h1 : PM.up l a b = true) (h2 : PM.up l b c = true) : PM.up l a c = true := by
  simp only [PM.up, Bool.and_eq_true, decide_eq_true_eq] at *
  exact ⟨by omega, h.upN_trans h1.2 c.toNat (by omega) h2.2⟩
theorem up_an (l : List Int) (a b : Int) (h1 : PM.up l a b = true) (h2 : PM.up l b a = true) : a = b := by
  simp only [PM.up, Bool.and_eq_true, decide_eq_true_eq] at *
  have := PM.upN_le h1.2
  have := PM.upN_le h2.2
  omega
theorem up_ro {l : List Int} (h : PM.Tr l) (a : Int) : PM.up l 0 a = decide (0 ≤ a ∧ a < l.length) := by
  have hp := h.pos
  unfold PM.up
  by_cases ha : 0 ≤ a ∧ a < l.length
  · rw [decide_eq_true ha, decide_eq_true (by omega), show (0 : Int).toNat = 0 from rfl, h.upN_root a.toNat (by omega)]
    rfl
  · rw [decide_eq_false ha, decide_eq_false (by omega)]
    rfl
set_option maxHeartbeats 4000000 in
theorem treeAbove_walk (v : Value) (l : List Int) (a : Int) (b : Int) (c : Int) (wa : (Lit.int .i64 a).wf = true) (wb : (Lit.int .i64 b).wf = true) (wc : (Lit.int .i64 c).wf = true) (w : World) (h : PM.ES PM.iv w v l) :
    Calls Try.prog 7 #[v, .int .i64 a, .int .i64 b, .int .i64 c] w fun e w' => e = .returned (.bool true) ∧ Below w.heap.size w w' := by
  clear wa wb wc
  have hbd := h.bound
  by_cases g1 : (100 : Int) < l.length
  · obtain ⟨va, vc, rfl⟩ := h.len
    clear h
    go_enter Try.func7, Try.ntmps7
    go_wp2_with (go_at_call 9; refine (awake12 _).mono ?_; rintro e w1 ⟨rfl, hb⟩)
    go_ret
    exact ⟨rfl, hb⟩
  · rcases es_tree v l w h with ⟨e1, _⟩ | ⟨e1, bb, off, cap, rfl, hP⟩
    · obtain ⟨va, vc, rfl⟩ := h.len
      go_enter Try.func7, Try.ntmps7
      go_wp2_with fail
      refine (awake12 _).mono ?_
      rintro e w1 ⟨rfl, hb⟩
      have hC := Check_es _ l w1 (h.keep hb)
      rw [e1] at hC
      have hb' := PM.hid hb
      clear hb h
      go_wp2_with (go_at_call 10; refine hC.mono ?_; rintro e w2 ⟨rfl, rfl⟩)
      go_ret
      exact ⟨rfl, hb'.out⟩
    · clear h e1
      have ht := hP.1
      have hpos := ht.pos
      have hle := ht.le
      have hro := up_ro ht a
      have hc1 := PM.hid (up_tr ht a b c)
      have hc2 := PM.hid (up_an l a b)
      go_enter Try.func7, Try.ntmps7
      go_wp2_with fail
      refine (awake12 _).mono ?_
      rintro e w1 ⟨rfl, hb⟩
      have hC := Check_ok bb off cap l w1 (hP.keep hb)
      have hP1 := PM.hid (hP.keep hb)
      have hb' := PM.hid hb
      have hT := PM.hid ht
      clear hb hP ht
      have hU := fun n m => Up_any bb off cap l n m w1 hP1.out
      go_wp2_with (go_at_call 10; refine hC.mono ?_; rintro e w2 ⟨rfl, rfl⟩)
      cases h1 : PM.up l a b <;> cases h2 : PM.up l b c <;> cases h3 : PM.up l a c <;> cases h4 : PM.up l b a
      all_goals first | (exfalso; have := hc1.out h1 h2; rw [h3] at this; cases this; done) | skip
      all_goals first | (have hab := hc2.out h1 h4; subst hab) | skip
      all_goals clear hc1 hc2
      all_goals by_cases g5 : 0 ≤ a
      all_goals by_cases g6 : a < l.length
      all_goals first | rw [decide_eq_true (And.intro g5 g6)] at hro | rw [decide_eq_false (p := 0 ≤ a ∧ a < l.length) (by omega)] at hro
      all_goals
        go_wp2_with (go_at_call 15; refine (hU _ _).mono ?_; rintro e w2 ⟨rfl, rfl⟩)
        all_goals go_ret
        all_goals first | exact ⟨rfl, hb'.out⟩ | exact ⟨PM.ret_b (by simp [g6]), hb'.out⟩
end Go.Proofs.Ytmlgiifebbigeaa
