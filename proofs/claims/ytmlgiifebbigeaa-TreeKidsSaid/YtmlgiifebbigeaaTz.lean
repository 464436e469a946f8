/-
  THE WALKS OF LAYER 12's STATEMENTS: kids.
-/
import Derived.Test.YtmlgiifebbigeaaTw
namespace Go.Proofs.Ytmlgiifebbigeaa
open Go.RowKit
set_option linter.unusedVariables false
/-- how many kids the first brokers have -/
def ksum (l : List Int) (n : Nat) : Nat := ((List.range n).map fun j : Nat => (PM.kidsN l j).length).sum
theorem ksum_succ (l : List Int) (n : Nat) : ksum l (n + 1) = ksum l n + (PM.kidsN l n).length := by
  simp [ksum, List.range_succ]
theorem ksum_le {l : List Int} (h : PM.Tr l) (n : Nat) (hn : n ≤ l.length) : ksum l n ≤ l.length := by
  unfold ksum
  rw [h.kids_sum n hn]
  have := List.length_filter_le (fun k : Nat => decide (0 ≤ PM.pa l k ∧ PM.pa l k < n)) (List.range l.length)
  simp at this ⊢
  exact this
/-- what is known of a kid -/
theorem kid_facts {l : List Int} (h : PM.Tr l) {n k : Nat} (hk : k ∈ PM.kidsN l n) : n < k ∧ k < l.length ∧ l.getD k 0 = n ∧ PM.depI l k = PM.depI l n + 1 ∧ PM.up l n k = true ∧ PM.up l k n = false := by
  simp only [PM.kidsN, List.mem_filter, List.mem_range, decide_eq_true_eq] at hk
  obtain ⟨h1, h2⟩ := hk
  have h0 : 0 < k := by
    by_cases h0 : 0 < k
    · exact h0
    · have : k = 0 := by omega
      subst this
      rw [show ((0 : Nat) : Int) = 0 from rfl, PM.pa_zero] at h2
      omega
  have h3 := h.pa_nat h0 h1
  have h4 := h.pn_lt h0 h1
  have h5 := h.pn_eq h0 h1
  have h6 : PM.pn l k = n := by omega
  have h7 := h.dep_step (k := (k : Int)) (by omega)
  have h8 := h.upN_par h0 h1
  rw [h6] at h4 h8
  refine ⟨h4, h1, by rw [h5, h6], by rw [h7, h2]; omega, ?_, ?_⟩
  · unfold PM.up; simp [h8]; omega
  · unfold PM.up
    rw [show ((k : Int)).toNat = k by omega, show ((n : Int)).toNat = n by omega, PM.upN_gt l h4]
    simp
set_option maxRecDepth 100000 in
set_option maxHeartbeats 4000000 in
theorem treeKids_walk (v : Value) (l : List Int) (a : Int) (wa : (Lit.int .i64 a).wf = true) (w : World) (h : PM.ES PM.iv w v l) :
    Calls Try.prog 5 #[v, .int .i64 a] w fun e w' => e = .returned (.bool true) ∧ Below w.heap.size w w' := by
  clear wa
  have hbd := h.bound
  by_cases g1 : (100 : Int) < l.length
  · obtain ⟨va, vc, rfl⟩ := h.len
    clear h
    go_enter Try.func5, Try.ntmps5
    go_wp2_with (go_at_call 9; refine (awake12 _).mono ?_; rintro e w1 ⟨rfl, hb⟩)
    go_ret
    exact ⟨rfl, hb⟩
  · rcases es_tree v l w h with ⟨e1, _⟩ | ⟨e1, bb, off, cap, rfl, hP⟩
    · obtain ⟨va, vc, rfl⟩ := h.len
      go_enter Try.func5, Try.ntmps5
      go_wp2_with fail
      refine (awake12 _).mono ?_
      rintro e w1 ⟨rfl, hb⟩
      have hC := Check_es _ l w1 (h.keep hb)
      rw [e1] at hC
      have hb' := PM.hid hb
      clear hb h
      go_wp2_with (go_at_call 10; refine hC.mono ?_; rintro e w2 ⟨rfl, rfl⟩)
      go_ret
      exact ⟨rfl, hb'.out⟩
    · clear h e1
      have ht := hP.1
      have hpos := ht.pos
      have hle := ht.le
      have hall := ht.kids_all
      go_enter Try.func5, Try.ntmps5
      go_wp2_with fail
      refine (awake12 _).mono ?_
      rintro e w1 ⟨rfl, hb⟩
      have hC := Check_ok bb off cap l w1 (hP.keep hb)
      have hP1 := PM.hid (hP.keep hb)
      have hb' := PM.hid hb
      have hT := PM.hid ht
      clear hb hP ht
      have hP1 := hP1.out
      go_wp2_with (go_at_call 10; refine hC.mono ?_; rintro e w2 ⟨rfl, rfl⟩)
      have hP2 := PM.hid hP1
      clear hP1 hC
      go_loopw [6, 7] (fun c x wr => ∃ n : Nat, c = .int .i64 (ksum l n : Nat) ∧ x = .int .i64 n ∧ n ≤ l.length ∧ PT wr bb off cap l ∧ Below w.heap.size w wr) (fun _ x _ => l.length - (intOf x).toNat)
      case atStart => exact ⟨0, rfl, rfl, by omega, hP2.out, hb'.out⟩
      case round =>
        obtain ⟨n, rfl, rfl, hn, hPr, hbr⟩ := hrel
        have ht := hT.out
        have hks := ksum_le ht n hn
        have hs := ksum_succ l n
        by_cases hlt : n < l.length
        · have hks1 := ksum_le ht (n + 1) (by omega)
          have hK := Kids_any bb off cap l n wr hPr (by omega)
          have hPh := PM.hid hPr
          have hbh := PM.hid hbr
          clear hPr hbr hP2 hb' ht
          go_wp2_with fail
          refine hK.mono ?_
          rintro e w4 ⟨v, rfl, ho, hB4⟩
          have hes : PM.ES PM.iv w4 v ((PM.kidsN l n).map fun j : Nat => (j : Int)) := ho.es
          have hP4 := hPh.out.keep hB4
          have hb4 := PM.hid (PM.chain hbh.out hB4)
          obtain ⟨xa, xc, hv⟩ : ∃ xa xc, v = .slice xa (PM.kidsN l n).length xc := by obtain ⟨xa, xc, e⟩ := hes.len; exact ⟨xa, xc, by simpa using e⟩
          subst hv
          have hcell : ∀ (i k : Nat), (PM.kidsN l n)[i]? = some k → ∃ b o, xa = some ⟨b, o, none⟩ ∧ w4.cell? ⟨b, o + i, none⟩ = some (.int .i64 k) ∧ (PM.kidsN l n).length ≤ xc ∧ xc ≤ 9223372036854775807 := by
            intro i k hk
            have hil : i < (PM.kidsN l n).length := (List.getElem?_eq_some_iff.1 hk).1
            obtain ⟨b, o, c, e, h1, h2, h3⟩ := hes.open1 (by simp; omega)
            simp at e
            obtain ⟨rfl, rfl⟩ := e
            exact ⟨b, o, rfl, h3 i k (by rw [List.getElem?_map, hk]; rfl), by simpa using h1, h2⟩
          have hD := fun n => Depth_any bb off cap l n w4 hP4
          have hU := fun n m => Up_any bb off cap l n m w4 hP4
          have hP4' := PM.hid hP4
          clear ho hes hB4 hK hP4
          obtain ⟨K, hKe⟩ : ∃ K, K = (PM.kidsN l n).length := ⟨_, rfl⟩
          obtain ⟨S, hSe⟩ : ∃ S, S = ksum l n := ⟨_, rfl⟩
          obtain ⟨S', hSe'⟩ : ∃ S', S' = ksum l (n + 1) := ⟨_, rfl⟩
          rw [← hKe, ← hSe, ← hSe'] at hs
          rw [← hSe'] at hks1
          rw [← hSe] at hks ⊢
          rw [← hKe] at hcell ⊢
          have hKh := PM.hid hKe
          have hSh := PM.hid hSe'
          clear hKe hSe hSe'
          have hKb : K ≤ 16 := by omega
          have hs' : (S : Int) + (K : Int) = (S' : Int) := by omega
          have hsh := PM.hid hs
          clear hs hs'
          go_wp2
          go_loop [9] (fun y => ∃ i : Nat, y = .int .i64 i ∧ i ≤ K) (fun y => K - (intOf y).toNat)
          case atStart => exact ⟨0, rfl, by omega⟩
          case round =>
            obtain ⟨i, rfl, hi⟩ := hrel
            by_cases hik : i < K
            · obtain ⟨k, hk⟩ : ∃ k, (PM.kidsN l n)[i]? = some k := ⟨(PM.kidsN l n)[i]'(by rw [← hKh.out]; exact hik), List.getElem?_eq_getElem _⟩
              obtain ⟨b, o, rfl, hc, hxc, hxm⟩ := hcell i k hk
              obtain ⟨f1, f2, f3, f4, f5, f6⟩ := kid_facts hT.out (List.mem_of_getElem? hk)
              have hpc := hP4'.out.2.2.2 k f2
              rw [f3] at hpc
              have hcp := hP4'.out.2.1
              have hcm := hP4'.out.2.2.1
              simp only [maxLen] at hcm
              have hbd := hT.out.depI_bd n
              have htr := up_tr hT.out a n k
              rw [f5] at htr
              clear hcell hk f3
              obtain ⟨d, hd⟩ : ∃ d, PM.depI l n = d := ⟨_, rfl⟩
              rw [hd] at f4 hbd
              have q1 : (n : Int) < (k : Int) := by omega
              have q2 : (k : Int) < (l.length : Int) := by omega
              cases q3 : PM.up l a n
              · clear htr
                go_wp2_with (first | (go_at_call 14; refine (hD _).mono ?_; rintro e w5 ⟨rfl, rfl⟩) | (go_at_call 15; refine (hU _ _).mono ?_; rintro e w5 ⟨rfl, rfl⟩))
                exact ⟨⟨i + 1, by go_num, by omega⟩, by simp only [intOf]; omega⟩
              · have q4 := htr q3 rfl
                clear htr
                go_wp2_with (first | (go_at_call 14; refine (hD _).mono ?_; rintro e w5 ⟨rfl, rfl⟩) | (go_at_call 15; refine (hU _ _).mono ?_; rintro e w5 ⟨rfl, rfl⟩))
                exact ⟨⟨i + 1, by go_num, by omega⟩, by simp only [intOf]; omega⟩
            · have : i = K := by omega
              subst this
              clear hcell
              go_wp2
              refine ⟨⟨n + 1, ?_, by go_num, by omega, hP4'.out, hb4.out⟩, by simp only [intOf]; omega⟩
              rw [← hSh.out]
              have := hsh.out
              congr 1
              omega
        · have hnl : n = l.length := by omega
          subst hnl
          have e0 : ksum l l.length = l.length - 1 := by have : ksum l l.length + 1 = l.length := hall; omega
          rw [e0]
          have hg : (((l.length - 1 : Nat) : Int) == (l.length : Int) - 1) = true := by rw [beq_iff_eq]; omega
          have e1 : ((l.length - 1 : Nat) : Int) = (l.length : Int) - 1 := by omega
          rw [e1]
          have hD := fun n => Depth_any bb off cap l n wr hPr
          have hU := fun n m => Up_any bb off cap l n m wr hPr
          have d0 : PM.depI l 0 = 0 := by rw [ht.dep_step (by omega), PM.pa_zero, PM.depI_neg _ (by decide)]; rfl
          have u0 : PM.up l 0 ((l.length : Int) - 1) = true := by rw [up_ro ht]; simp; omega
          have hbh := PM.hid hbr
          clear hPr hbr hP2 hb' ht hs hall e0 hg e1
          go_wp2_with (first | (go_at_call 14; refine (hD _).mono ?_; rintro e w5 ⟨rfl, rfl⟩) | (go_at_call 15; refine (hU _ _).mono ?_; rintro e w5 ⟨rfl, rfl⟩))
          go_ret
          exact ⟨rfl, hbh.out⟩
end Go.Proofs.Ytmlgiifebbigeaa
