/-
  THE WALKS OF LAYER 12's STATEMENTS: steps.
-/
import Derived.Test.YtmlgiifebbigeaaTw
namespace Go.Proofs.Ytmlgiifebbigeaa
open Go.RowKit
set_option linter.unusedVariables false
set_option maxHeartbeats 4000000 in
theorem treeSteps_walk (v : Value) (l : List Int) (a : Int) (b : Int) (wa : (Lit.int .i64 a).wf = true) (wb : (Lit.int .i64 b).wf = true) (w : World) (h : PM.ES PM.iv w v l) :
    Calls Try.prog 8 #[v, .int .i64 a, .int .i64 b] w fun e w' => e = .returned (.bool true) ∧ Below w.heap.size w w' := by
  clear wa wb
  have hbd := h.bound
  by_cases g1 : (100 : Int) < l.length
  · obtain ⟨va, vc, rfl⟩ := h.len
    clear h
    go_enter Try.func8, Try.ntmps8
    go_wp2_with (go_at_call 9; refine (awake12 _).mono ?_; rintro e w1 ⟨rfl, hb⟩)
    go_ret
    exact ⟨rfl, hb⟩
  · rcases es_tree v l w h with ⟨e1, _⟩ | ⟨e1, bb, off, cap, rfl, hP⟩
    · obtain ⟨va, vc, rfl⟩ := h.len
      go_enter Try.func8, Try.ntmps8
      go_wp2_with fail
      refine (awake12 _).mono ?_
      rintro e w1 ⟨rfl, hb⟩
      have hC := Check_es _ l w1 (h.keep hb)
      rw [e1] at hC
      have hb' := PM.hid hb
      clear hb h
      go_wp2_with (go_at_call 10; refine hC.mono ?_; rintro e w2 ⟨rfl, rfl⟩)
      go_ret
      exact ⟨rfl, hb'.out⟩
    · clear h e1
      have ht := hP.1
      have hpos := ht.pos
      have hle := ht.le
      by_cases hab : 0 ≤ a ∧ a < l.length ∧ 0 ≤ b ∧ b < l.length
      · obtain ⟨m, rfl⟩ : ∃ m : Nat, a = m := ⟨a.toNat, by omega⟩
        obtain ⟨n, rfl⟩ : ∃ n : Nat, b = n := ⟨b.toNat, by omega⟩
        have hm : m < l.length := by omega
        have hn : n < l.length := by omega
        have hlen := ht.way_len hm hn
        have hne := ht.way_head hm hn
        go_enter Try.func8, Try.ntmps8
        go_wp2_with fail
        refine (awake12 _).mono ?_
        rintro e w1 ⟨rfl, hb⟩
        have hC := Check_ok bb off cap l w1 (hP.keep hb)
        have hP1 := PM.hid (hP.keep hb)
        have hb' := PM.hid hb
        have hT := PM.hid ht
        clear hb hP ht
        have hW := Way_any bb off cap l m n w1 hP1.out hm hn
        go_wp2_with (go_at_call 10; refine hC.mono ?_; rintro e w2 ⟨rfl, rfl⟩)
        refine hW.mono ?_
        rintro e w3 ⟨v, rfl, ho, hB3⟩
        obtain ⟨xa, xc, hv⟩ : ∃ xa xc, v = .slice xa (PM.way l m n).length xc := by obtain ⟨xa, xc, e⟩ := ho.es.len; exact ⟨xa, xc, by simpa using e⟩
        subst hv
        have hP3 := PM.hid (hP1.out.keep hB3)
        have hb3 := PM.hid (PM.chain hb'.out hB3)
        clear ho hB3 hP1 hb' hW hC
        have hpos2 : 0 < (PM.way l m n).length := by obtain ⟨r, hr⟩ := hne; rw [hr]; simp
        obtain ⟨L, hL⟩ : ∃ L, L = (PM.way l m n).length := ⟨_, rfl⟩
        rw [← hL] at hlen hpos2 ⊢
        clear hne
        have hLi : ((L : Int) - 1) = ((L - 1 : Nat) : Int) := by omega
        go_wp2
        go_loopw [10, 11] (fun x y wr => ∃ (i k : Nat), x = .int .i64 i ∧ y = .int .i64 k ∧ i < l.length ∧ k + (PM.way l i n).length = L ∧ PT wr bb off cap l ∧ Below w.heap.size w wr) (fun _ y _ => 40 - (intOf y).toNat)
        case atStart => exact ⟨m, 0, rfl, rfl, hm, by omega, hP3.out, hb3.out⟩
        case round =>
          obtain ⟨i, k, rfl, rfl, hi, hk, hPr, hbr⟩ := hrel
          have ht := hT.out
          by_cases hin : i = n
          · subst hin
            rw [PM.way_same] at hk
            have hk' : k = L - 1 := by simp at hk; omega
            subst hk'
            have hbr' := PM.hid hbr
            clear hPr hbr hk hP3 hb3 ht
            go_wp2
            go_ret
            exact ⟨PM.ret_b (by rw [beq_iff_eq]; omega), hbr'.out⟩
          · obtain ⟨s, hs, hw, _⟩ := ht.way_step i n hi hn hin
            obtain ⟨r, hr⟩ := ht.way_head hs hn
            have hSt := Step_any bb off cap l i n s r wr hPr hi hn hin (by rw [hw, hr])
            have hk2 : k + 1 + (PM.way l s n).length = L := by rw [hw] at hk; simp at hk; omega
            have hg : ((i : Int) != n) = true := by simp; omega
            have hg2 : (k : Int) < 40 := by omega
            have hS := PM.hid (And.intro hk2 (And.intro hPr hbr))
            clear hk hw hr hk2 hPr hbr hP3 hb3 ht
            go_wp2_with (go_at_call 12; refine hSt.mono ?_; rintro e w4 ⟨rfl, hB4⟩)
            obtain ⟨hk2, hPr, hbr⟩ := hS.out
            exact ⟨⟨s, k + 1, rfl, by go_num, hs, hk2, hPr.keep hB4, PM.chain hbr hB4⟩, by simp only [intOf]; omega⟩
      · skip
        go_enter Try.func8, Try.ntmps8
        go_wp2_with fail
        refine (awake12 _).mono ?_
        rintro e w1 ⟨rfl, hb⟩
        have hC := Check_ok bb off cap l w1 (hP.keep hb)
        have hP1 := PM.hid (hP.keep hb)
        have hb' := PM.hid hb
        have hT := PM.hid ht
        clear hb hP ht
        by_cases q1 : a < 0
        · go_wp2_with (go_at_call 10; refine hC.mono ?_; rintro e w2 ⟨rfl, rfl⟩)
          go_ret
          exact ⟨rfl, hb'.out⟩
        by_cases q2 : b < 0
        · go_wp2_with (go_at_call 10; refine hC.mono ?_; rintro e w2 ⟨rfl, rfl⟩)
          go_ret
          exact ⟨rfl, hb'.out⟩
        by_cases q3 : (l.length : Int) ≤ a
        · go_wp2_with (go_at_call 10; refine hC.mono ?_; rintro e w2 ⟨rfl, rfl⟩)
          go_ret
          exact ⟨rfl, hb'.out⟩
        have q4 : (l.length : Int) ≤ b := by omega
        go_wp2_with (go_at_call 10; refine hC.mono ?_; rintro e w2 ⟨rfl, rfl⟩)
        go_ret
        exact ⟨rfl, hb'.out⟩
end Go.Proofs.Ytmlgiifebbigeaa
