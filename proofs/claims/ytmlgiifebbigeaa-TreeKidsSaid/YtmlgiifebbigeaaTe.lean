/-
  CONTRACTS OF package tree, of parents that make a tree: Way, Step.
-/
import Derived.Test.YtmlgiifebbigeaaTd
namespace Go.Proofs.Ytmlgiifebbigeaa
open Go.RowKit
set_option linter.unusedVariables false
theorem ity : PM.ElTy Try.prog 23 3 8 := ⟨Try.underlying23, by
  refine ⟨_, _, rfl, rfl, ?_, ?_, ?_⟩ <;> kernel_rfl⟩
theorem Way_any (b off cap : Nat) (l : List Int) (m n : Nat) (w : World) (h : PT w b off cap l) (hm : m < l.length) (hn : n < l.length) :
    Calls Try.prog 11 #[.slice (some ⟨b, off, none⟩) l.length cap, .int .i64 m, .int .i64 n] w fun e w' => ∃ v, e = .returned (.tuple #[v, .int .i64 0]) ∧ PM.OE PM.iv 3 w.heap.size w' v ((PM.way l m n).map fun i : Nat => (i : Int)) ∧ Below w.heap.size w w' := by
  have hb1 := broker_any b off cap l m w h
  have hb2 := broker_any b off cap l n w h
  rw [decide_eq_true (by omega)] at hb1 hb2
  have hT := PM.hid h
  clear h
  go_enter Try.func11, Try.ntmps11
  go_wp2_with fail
  go_step3
  go_wp2_with fail
  refine hb1.mono ?_
  rintro e w1 ⟨rfl, rfl⟩
  clear hb1
  go_wp2_with fail
  refine hb2.mono ?_
  rintro e w2 ⟨rfl, rfl⟩
  clear hb2
  go_wp2_with fail
  go_step3
  go_wp2_with fail
  go_loopw [1, 2, 8, 9] (fun x y u d wr => ∃ (i j : Nat) (up down : List Nat), x = .int .i64 i ∧ y = .int .i64 j ∧ i < l.length ∧ j < l.length ∧ PM.OE PM.iv 3 w2.heap.size wr u (up.map fun i : Nat => (i : Int)) ∧ PM.OE PM.iv 3 w2.heap.size wr d (down.map fun i : Nat => (i : Int)) ∧ PM.Apart u d ∧ Below w2.heap.size w2 wr ∧
      up ++ PM.way l i j ++ down.reverse = PM.way l m n) (fun x y _ _ _ => (intOf x + intOf y).toNat)
  case atStart => exact ⟨m, n, [], [], rfl, rfl, hm, hn, PM.OE.nilrow _, PM.OE.nilrow _, PM.Apart.nil _ _ _, Below.refl _ _, by simp⟩
  case round =>
    obtain ⟨i, j, up, down, rfl, rfl, hi, hj, hu, hd, hap, hB, heq⟩ := hrel
    have hP := hT.out.keep hB
    have ht := hP.1
    have hlen := ht.way_len hm hn
    have hul : up.length ≤ 31 := by have := congrArg List.length heq; simp at this; omega
    have hdl : down.length ≤ 31 := by have := congrArg List.length heq; simp at this; omega
    have hBs := hB.size
    rcases Nat.lt_trichotomy i j with hij | hij | hij
    · skip
      have h1 := ht.pa_nat (n := j) (by omega) hj
      have h2 := ht.pn_lt (n := j) (by omega) hj
      have hw := ht.way_down hij hj
      have hbd : i ≤ 100 ∧ j ≤ 100 := by have := ht.le; omega
      have hS := PM.hid (And.intro heq (And.intro hw (And.intro h2 (And.intro hB (And.intro hu (And.intro hap h1))))))
      have hg : (i : Int) < (j : Int) := by omega
      clear heq hw h2 h1 hP ht hB hu hap hlen
      go_wp2_with (first | (at_builtin; refine PM.wpList_es1 ity w2.heap.size wr rfl _ _ rfl _ _ (j : Int) _ rfl rfl rfl rfl rfl hd ?_ ?_ hBs ?_))
      · simp; omega
      · simp [maxLen]; omega
      intro v' w' q1 q2 q3 q4
      obtain ⟨heq, hw, h2, hB, hu, hap, h1⟩ := hS.out
      have hp := parent_any b off cap l j w' (hT.out.keep (hB.trans q2))
      rw [h1] at hp
      have hu' := hu.kept q3 hap.symm
      have hap' := (hap.symm.sep q4 (fun k hk => (hu.lt k hk).2)).symm
      have hR := PM.hid (And.intro (show up ++ PM.way l i (PM.pn l j) ++ (down ++ [j]).reverse = PM.way l m n by rw [← heq, hw]; simp) (And.intro q1 (And.intro hu' (And.intro hap' (And.intro (hB.trans q2) h2)))))
      obtain ⟨xa, xcap, hv⟩ : ∃ xa xcap, v' = .slice xa (down.length + 1) xcap := by obtain ⟨xa, xcap, e⟩ := q1.es.len; exact ⟨xa, xcap, by simpa using e⟩
      subst hv
      clear hS heq hw h2 hB hu hap h1 hu' hap' q1 q2 q3 q4 hd hBs
      go_wp2_with (go_at_call 18; refine hp.mono ?_; rintro e w3 ⟨rfl, rfl⟩)
      obtain ⟨r1, r2, r3, r4, r5, r6⟩ := hR.out
      exact ⟨⟨i, PM.pn l j, up, down ++ [j], rfl, rfl, hi, by omega, r3, by simpa using r2, r4, r5, r1⟩, by simp only [intOf]; omega⟩
    · subst hij
      have hw := PM.way_same l i
      have hbd : i ≤ 100 := by have := ht.le; omega
      have hS := PM.hid (And.intro heq (And.intro hw (And.intro hB (And.intro hd hap))))
      clear heq hw hP ht hB hd hap hlen
      go_wp2_with (first | (at_builtin; refine PM.wpList_es1 ity w2.heap.size wr rfl _ _ rfl _ _ (i : Int) _ rfl rfl rfl rfl rfl hu ?_ ?_ hBs ?_))
      · simp; omega
      · simp [maxLen]; omega
      intro v' w' q1 q2 q3 q4
      obtain ⟨heq, hw, hB, hd, hap⟩ := hS.out
      have hd' := hd.kept q3 hap
      have hap' := hap.sep q4 (fun k hk => (hd.lt k hk).2)
      have hrev := Reverse_own w2.heap.size u9 _ w' hd' (by simp; omega)
      obtain ⟨xa, xcap, hv⟩ : ∃ xa xcap, v' = .slice xa (up.length + 1) xcap := by obtain ⟨xa, xcap, e⟩ := q1.es.len; exact ⟨xa, xcap, by simpa using e⟩
      subst hv
      have hR := PM.hid (And.intro (show (up ++ [i]) ++ down.reverse = PM.way l m n by rw [← heq, hw]) (And.intro q1 (And.intro hap' (hB.trans q2))))
      obtain ⟨xd, dcap, hv⟩ : ∃ xd dcap, u9 = .slice xd down.length dcap := by obtain ⟨xa, xcap, e⟩ := hd.es.len; exact ⟨xa, xcap, by simpa using e⟩
      subst hv
      clear hS heq hw hB hd hap hd' hap' q1 q2 q3 q4 hu hBs
      go_wp2_with fail
      refine hrev.mono ?_
      rintro e w3 ⟨rfl, g1, g2⟩
      obtain ⟨r1, r2, r3, r4⟩ := hR.out
      have r2' := r2.kept g2 r3.symm
      have hB3 : Below w2.heap.size w2 w3 := r4.grown g2 r4.size (fun k hk => (g1.lt k hk).1)
      have hes := g1.es
      have hlu : (up.map fun i : Nat => (i : Int)).length = up.length := by simp
      have hld : (down.map fun i : Nat => (i : Int)).length = down.length := by simp
      have hF := PM.hid (And.intro r1 hB3)
      have hBs3 := hB3.size
      clear hR r1 r2 r3 r4 g1 g2 hB3 hrev
      go_wp2_with (first | (at_builtin; refine PM.wpList_es ity w2.heap.size rfl _ _ rfl _ _ _ _ (fun _ _ => rfl) rfl rfl r2' hes ?_ ?_ hBs3 ?_))
      · simp; omega
      · simp [maxLen]; omega
      intro v4 w4 q1 q2 _ _
      obtain ⟨r1, hB3⟩ := hF.out
      have hlast := PM.hid (And.intro q1 (hB3.trans q2))
      obtain ⟨xa, xcap, rfl⟩ := q1.es.len
      clear q1 q2
      go_wp2
      rw [Exit.noGoto_ret]
      go_ret2
      obtain ⟨q1, q2⟩ := hlast.out
      refine ⟨_, rfl, ?_, q2⟩
      rw [← r1]
      simpa using q1
    · skip
      have h1 := ht.pa_nat (n := i) (by omega) hi
      have h2 := ht.pn_lt (n := i) (by omega) hi
      have hw := ht.way_up hij hi
      have hbd : i ≤ 100 ∧ j ≤ 100 := by have := ht.le; omega
      have hS := PM.hid (And.intro heq (And.intro hw (And.intro h2 (And.intro hB (And.intro hd (And.intro hap h1))))))
      have hg : (j : Int) < (i : Int) := by omega
      clear heq hw h2 h1 hP ht hB hd hap hlen
      go_wp2_with (first | (at_builtin; refine PM.wpList_es1 ity w2.heap.size wr rfl _ _ rfl _ _ (i : Int) _ rfl rfl rfl rfl rfl hu ?_ ?_ hBs ?_))
      · simp; omega
      · simp [maxLen]; omega
      intro v' w' q1 q2 q3 q4
      obtain ⟨heq, hw, h2, hB, hd, hap, h1⟩ := hS.out
      have hp := parent_any b off cap l i w' (hT.out.keep (hB.trans q2))
      rw [h1] at hp
      have hd' := hd.kept q3 hap
      have hap' := hap.sep q4 (fun k hk => (hd.lt k hk).2)
      have hR := PM.hid (And.intro (show (up ++ [i]) ++ PM.way l (PM.pn l i) j ++ down.reverse = PM.way l m n by rw [← heq, hw]; simp) (And.intro q1 (And.intro hd' (And.intro hap' (And.intro (hB.trans q2) h2)))))
      obtain ⟨xa, xcap, hv⟩ : ∃ xa xcap, v' = .slice xa (up.length + 1) xcap := by obtain ⟨xa, xcap, e⟩ := q1.es.len; exact ⟨xa, xcap, by simpa using e⟩
      subst hv
      clear hS heq hw h2 hB hd hap h1 hd' hap' q1 q2 q3 q4 hu hBs
      go_wp2_with (go_at_call 18; refine hp.mono ?_; rintro e w3 ⟨rfl, rfl⟩)
      obtain ⟨r1, r2, r3, r4, r5, r6⟩ := hR.out
      exact ⟨⟨PM.pn l i, j, up ++ [i], down, rfl, rfl, by omega, hj, by simpa using r2, r3, r4, r5, r1⟩, by simp only [intOf]; omega⟩
end Go.Proofs.Ytmlgiifebbigeaa
