/-
  THE WALKS OF LAYER 3's STATEMENTS: back.
-/
import Derived.Test.YtpilgbiedbhpeaaFy
namespace Go.Proofs.Ytpilgbiedbhpeaa
open Go.RowKit
set_option linter.unusedVariables false
namespace PM
/-- the texts that are wrapped -/
def goodB (ls : List (List UInt8)) : List (List UInt8) := ls.filter fun z => decide (0 < z.length ∧ z.length ≤ 1000)
theorem goodB_hit (ls : List (List UInt8)) (k : Nat) (z : List UInt8) (h : ls[k]? = some z) (h1 : 0 < z.length) (h2 : z.length ≤ 1000) : goodB (ls.take (k + 1)) = goodB (ls.take k) ++ [z] := by
  rw [List.take_add_one, h, goodB, goodB, List.filter_append]
  simp [h1, h2]
theorem goodB_miss (ls : List (List UInt8)) (k : Nat) (z : List UInt8) (h : ls[k]? = some z) (h1 : z.length = 0 ∨ 1000 < z.length) : goodB (ls.take (k + 1)) = goodB (ls.take k) := by
  rw [List.take_add_one, h, goodB, goodB, List.filter_append]
  have : decide (0 < z.length ∧ z.length ≤ 1000) = false := decide_eq_false (by omega)
  simp only [Option.toList_some, List.filter_cons, this, List.filter_nil]
  simp
theorem goodB_all (ls : List (List UInt8)) : ∀ x ∈ goodB ls, 0 < x.length ∧ x.length ≤ 4000 := by
  intro x hx
  have := (List.mem_filter.1 hx).2
  simp at this
  omega
theorem goodB_size (ls : List (List UInt8)) : sizeL (goodB ls) ≤ 1006 * ls.length := by
  induction ls with
  | nil => simp [goodB, sizeL]
  | cons z ls ih =>
    unfold goodB at ih ⊢
    rw [List.filter_cons]
    by_cases h : decide (0 < z.length ∧ z.length ≤ 1000) = true
    · rw [if_pos h]
      simp only [sizeL, List.map_cons, List.sum_cons, List.length_cons] at ih ⊢
      simp at h
      omega
    · rw [if_neg h]
      simp only [List.length_cons]
      omega
theorem RBL.take {w : World} {b off N cap k : Nat} {ls : List (List UInt8)} (h : RBL w (.slice (some ⟨b, off, none⟩) N cap) ls) (hk : k ≤ N) : RBL w (.slice (some ⟨b, off, none⟩) k cap) (ls.take k) := by
  obtain ⟨vs, h1, h2, h3⟩ := h
  rcases h1 with ⟨e, _⟩ | ⟨b', off', cap', e, g1, g2, g3⟩ | ⟨x, cap', e, rfl, g⟩
  · cases e
  · simp at e
    obtain ⟨⟨rfl, rfl⟩, rfl, rfl⟩ := e
    have hl : (vs.take k).length = k := List.length_take_of_le hk
    refine ⟨vs.take k, .inr (.inl ⟨b, off, cap, by rw [hl], by rw [hl]; omega, g2, fun i x hi => ?_⟩), by simp [h2], fun i x l hx hl => ?_⟩
    · rw [List.getElem?_take] at hi
      split at hi
      · exact g3 _ _ hi
      · cases hi
    · rw [List.getElem?_take] at hx hl
      split at hx
      · rename_i hik
        rw [if_pos hik] at hl
        exact h3 i x l hx hl
      · cases hx
  · simp at e
    obtain ⟨rfl, rfl, rfl⟩ := e
    have hk0 : k = 0 := by omega
    subst hk0
    exact ⟨[], .inr (.inr ⟨_, cap, rfl, rfl, g⟩), by simp, fun i x l hx _ => by simp at hx⟩
/-- what is left of frames the last of which is cut -/
theorem scan_cut (gs : List (List UInt8)) (z : List UInt8) (I : Nat) (h : ∀ x ∈ gs, 0 < x.length ∧ x.length ≤ 4000) (hz : z.length ≤ 4000) (hI : I < 6 + z.length) :
    scanL ((joinW (gs ++ [z])).take (sizeL gs + I)) = gs := by
  rw [joinW_snoc, ← joinW_length gs, List.take_length_add_append, scan_join gs _ h, scan_nil (first_cut z I hz hI), List.append_nil]
end PM
set_option maxRecDepth 100000 in
set_option maxHeartbeats 4000000 in
theorem frameBack_walk (v : Value) (ls : List (List UInt8)) (ct : Int) (wct : (Lit.int .i64 ct).wf = true) (w : World) (hv : PM.RBL w v ls) :
    Calls Try.prog 5 #[v, .int .i64 ct] w fun e w' => e = .returned (.bool true) ∧ Below w.heap.size w w' := by
  have hct := Go.bounds_i64 wct
  clear wct
  obtain ⟨va, vc, rfl⟩ := hv.len
  have hvh := PM.hid hv
  have hNb := hv.bound
  simp only [maxLen] at hNb
  obtain ⟨N, hN⟩ : ∃ N, N = ls.length := ⟨_, rfl⟩
  have hNh := PM.hid hN
  rw [← hN] at hNb
  rw [← hN]
  clear hN hv
  go_enter Try.func5, Try.ntmps5
  go_wp2_with fail
  refine (awake3 _).mono ?_
  rintro e w1 ⟨rfl, hb⟩
  have hb1 := PM.hid hb
  clear hb
  go_wp2
  go_loopw [6, 7, 8, 9] (fun o g la i wr => ∃ k : Nat, i = .int .i64 k ∧ k ≤ 10 ∧ k ≤ N ∧ la = .int .i64 ((PM.sizeL (PM.goodB (ls.take k)).dropLast : Nat) : Int) ∧ PM.OW 5 w.heap.size wr o (PM.joinW (PM.goodB (ls.take k))) ∧ PM.WBL 23 w.heap.size w wr g (PM.goodB (ls.take k)) ∧ Below w.heap.size w wr) (fun _ _ _ i _ => 10 - (intOf i).toNat)
  case atStart => exact ⟨0, rfl, by omega, by omega, rfl, PM.OW.nilrow _ _ _, PM.WBL.nil _ _ _ _, hb1.out⟩
  case round =>
    obtain ⟨k, rfl, hk5, hkN, rfl, ho, hg, hB⟩ := hrel
    by_cases hlt : k < N ∧ k < 10
    · obtain ⟨z, hz⟩ : ∃ z, ls[k]? = some z := ⟨ls[k]'(by rw [← hNh.out]; exact hlt.1), List.getElem?_eq_getElem _⟩
      have hvh2 : PM.RBL w (.slice va N vc) ls := by rw [hNh.out]; exact hvh.out
      obtain ⟨b, o, x, rfl, hc, hx, -, hNc, hcm⟩ := hvh2.at k z hz
      obtain ⟨xa, xc, rfl⟩ := hx.len
      have g1 : (k : Int) < (N : Int) := by omega
      have g2 : (k : Int) < 10 := by omega
      obtain ⟨Z, hZ⟩ : ∃ Z, Z = z.length := ⟨_, rfl⟩
      have hxh := PM.hid hx
      have hzh := PM.hid (And.intro hz hZ)
      rw [← hZ] at hc
      have d0 := PM.cellA hB hc
      have hch := PM.hid hc
      have hQ := PM.hid (And.intro ho (And.intro hg hB))
      by_cases hbad : Z = 0 ∨ 1000 < Z
      · have hgm := PM.goodB_miss ls k z hz (by rw [← hZ]; exact hbad)
        have hgmh := PM.hid hgm
        have hbx := Wrap_bad _ z wr (hx.keep hB)
        rw [← hZ] at hbx
        clear hc hx hvh2 hz hZ ho hg hB hgm
        rcases hbad with rfl | hbad
        · have hW := hbx (.inl rfl)
          clear hbx
          obtain ⟨la, hla⟩ : ∃ la, la = PM.sizeL (PM.goodB (ls.take k)).dropLast := ⟨_, rfl⟩
          rw [← hla]
          have hlah := PM.hid hla
          clear hla
          go_wp2_with (go_at_call 10; refine hW.mono ?_; rintro e w5 ⟨rfl, rfl⟩)
          obtain ⟨ho, hg, hB⟩ := hQ.out
          exact ⟨⟨k + 1, by go_num, by omega, by omega, by rw [hgmh.out, hlah.out], by rw [hgmh.out]; exact ho, by rw [hgmh.out]; exact hg, hB⟩, by simp only [intOf]; omega⟩
        · have q2 : (1000 : Int) < (Z : Int) := by omega
          clear hbx
          obtain ⟨la, hla⟩ : ∃ la, la = PM.sizeL (PM.goodB (ls.take k)).dropLast := ⟨_, rfl⟩
          rw [← hla]
          have hlah := PM.hid hla
          clear hla
          go_wp2
          obtain ⟨ho, hg, hB⟩ := hQ.out
          exact ⟨⟨k + 1, by go_num, by omega, by omega, by rw [hgmh.out, hlah.out], by rw [hgmh.out]; exact ho, by rw [hgmh.out]; exact hg, hB⟩, by simp only [intOf]; omega⟩
      · have q2 : ¬ (1000 : Int) < (Z : Int) := by omega
        have hZ0 : 0 < Z := by omega
        have hZ1 : Z ≤ 1000 := by omega
        have hgm := PM.goodB_hit ls k z hzh.out.1 (by rw [← hzh.out.2]; exact hZ0) (by rw [← hzh.out.2]; exact hZ1)
        have hgmh := PM.hid hgm
        have hW := Wrap_any _ z wr (hxh.out.keep hQ.out.2.2) (by rw [← hzh.out.2]; exact hZ0) (by rw [← hzh.out.2]; omega)
        rw [← hzh.out.2] at hW
        clear hc hx hvh2 hz hZ ho hg hB hgm hbad
        go_wp2_with fail
        refine hW.mono ?_
        rintro e w5 ⟨v5, rfl, ho5, hB5⟩
        have hwl : (PM.wrapL z).length = 6 + Z := by rw [PM.wrapL_length, hzh.out.2]
        obtain ⟨a5, c5, hv5⟩ : ∃ a c, v5 = .slice a (6 + Z) c := by obtain ⟨a, c, e⟩ := ho5.bs.len; exact ⟨a, c, by rw [e, hwl]⟩
        subst hv5
        obtain ⟨ho, hg, hB⟩ := hQ.out
        have d5 := PM.cellA hB5 d0
        have o5 := ho.keep hB5
        have s5 := ho5.bs
        have hB05 := hB.trans (hB5.mono hB.size)
        have hz5 := hB05.size
        have hsz := PM.goodB_size (ls.take k)
        have hszl : (PM.joinW (PM.goodB (ls.take k))).length ≤ 1006 * 10 := by rw [PM.joinW_length]; have := List.length_take_le k ls; omega
        obtain ⟨vs, e1, e2, e3⟩ := hg.keep hB5
        have hvl : vs.length ≤ 10 := by
          have h1 := List.length_filter_le (fun z : List UInt8 => decide (0 < z.length ∧ z.length ≤ 1000)) (ls.take k)
          have h2 := List.length_take_le k ls
          have h3 : (PM.goodB (ls.take k)).length ≤ (ls.take k).length := h1
          omega
        have hP := PM.hid (And.intro e2 (And.intro e3 hB05))
        obtain ⟨wa, wc, hwe⟩ := e1.es.len
        have hszh := PM.hid hszl
        obtain ⟨qa, qc, hqe⟩ := o5.bs.len
        subst hqe
        obtain ⟨J, hJ⟩ : ∃ J, J = (PM.joinW (PM.goodB (ls.take k))).length := ⟨_, rfl⟩
        rw [← hJ] at o5 hszl ⊢
        have hJh := PM.hid hJ
        clear hW d0 ho hg hB hQ ho5 hB5 hsz hwl e2 e3 hB05 hwe hJ
        go_wp2_with (first
          | (at_builtin; refine PM.wpList_app bty w.heap.size rfl _ _ rfl _ _ _ (PM.wrapL z) rfl rfl o5 s5 ?_ hz5 ?_; (rw [PM.wrapL_length, ← hzh.out.2]; have := hszh.out; omega); intro v6 w6 t1 t2 t3; have t4 := PM.OE.kept_ne tL e1 o5 t3; have t5 := hP.out.2.2.trans t2; have d6 := PM.cellA t5 hch.out; have hz6 := t5.size; have hth := PM.hid (And.intro t1 t5); obtain ⟨ya, yc, hy6⟩ := t1.bs.len; clear o5 s5 e1 t3 t1 t2 t5 hz5 d5; subst hy6)
          | (at_builtin; refine PM.wpList_es1 (e := PM.vid) btl w.heap.size w6 rfl _ _ rfl _ _ (.slice xa Z xc) _ rfl rfl rfl rfl rfl t4 ?_ ?_ hz6 ?_; omega; (simp only [maxLen]; omega); intro v8 w8 r1 r2 r3 _; have hrh := PM.hid (And.intro t4 (And.intro r1 (And.intro r2 r3))); obtain ⟨ga, gc, hg8⟩ : ∃ ga gc, v8 = .slice ga (vs.length + 1) gc := (by obtain ⟨ga, gc, e⟩ := r1.es.len; exact ⟨ga, gc, by simpa using e⟩); clear r1 r2 r3 t4; subst hg8))
        obtain ⟨t1, t5⟩ := hth.out
        obtain ⟨t4, r1, r2, r3⟩ := hrh.out
        obtain ⟨e2, e3, _⟩ := hP.out
        have r5 := PM.OW.kept tL t1 t4 r3
        have hx0 : PM.BS w (.slice xa Z xc) z := by rw [hzh.out.2]; exact hxh.out
        have r6 := PM.WBL.snoc e2 e3 hx0 r1
        simp only [List.length_append] at r5
        rw [← PM.joinW_snoc, ← hgmh.out] at r5
        rw [← hgmh.out] at r6
        refine ⟨⟨k + 1, by go_num, by omega, by omega, ?_, by simpa using r5, by simpa using r6, t5.trans r2⟩, by simp only [intOf]; omega⟩
        rw [hgmh.out, List.dropLast_concat, hJh.out, PM.joinW_length]
    · have hgb : (PM.goodB (ls.take k)).length ≤ 10 := by
        have h1 := List.length_filter_le (fun z : List UInt8 => decide (0 < z.length ∧ z.length ≤ 1000)) (ls.take k)
        have h2 := List.length_take_le k ls
        have h3 : (PM.goodB (ls.take k)).length ≤ (ls.take k).length := h1
        omega
      have hgs : PM.sizeL (PM.goodB (ls.take k)) ≤ 1006 * 10 := by
        have h1 := PM.goodB_size (ls.take k)
        have h2 := List.length_take_le k ls
        omega
      have hall := PM.goodB_all (ls.take k)
      have hstop : ¬ (k : Int) < (N : Int) ∨ ((k : Int) < (N : Int) ∧ ¬ (k : Int) < 10) := by omega
      generalize PM.goodB (ls.take k) = gs at *
      obtain ⟨aa, ac, haa⟩ := ho.bs.len
      obtain ⟨ga, gc, hga⟩ := (hg.rbl hB).len
      subst haa hga
      obtain ⟨S, hS⟩ : ∃ S, S = PM.sizeL gs := ⟨_, rfl⟩
      obtain ⟨G, hG⟩ : ∃ G, G = gs.length := ⟨_, rfl⟩
      obtain ⟨T, hT⟩ : ∃ T, T = PM.sizeL gs.dropLast := ⟨_, rfl⟩
      have hjl : (PM.joinW gs).length = S := by rw [PM.joinW_length, hS]
      rw [← hS] at hgs
      rw [← hG] at hgb
      rw [← hT]
      rw [hjl] at ho ⊢
      rw [← hG] at hg ⊢
      have hsg : PM.scanL (PM.joinW gs) = gs := by
        have := PM.scan_join gs [] hall
        rw [List.append_nil, show PM.scanL [] = [] from rfl, List.append_nil] at this
        exact this
      have hsc := Scan_any _ (PM.joinW gs) wr ho.bs (by rw [hjl]; omega)
      rw [hsg, ← hS] at hsc
      have hF := PM.hid (And.intro hS (And.intro hG (And.intro hT (And.intro hjl (And.intro hall hsg)))))
      have hQ := PM.hid (And.intro ho (And.intro hg hB))
      clear ho hg hB hS hG hT hjl hall hlt hsg
      rcases hstop with hstop | ⟨hstop0, hstop⟩
      · skip
        go_wp2_with fail
        refine hsc.mono ?_
        rintro e w5 ⟨v5, rfl, ho5, hB5⟩
        obtain ⟨ma, mc, hmv⟩ := ho5.rbl.len
        rw [← hF.out.2.1] at hmv
        subst hmv
        obtain ⟨ho, hg, hB⟩ := hQ.out
        have hC5 := hB.trans (hB5.mono hB.size)
        have hSm := RSame_any _ _ _ _ w5 ho5.rbl ((hg.keep hB5).rbl hC5)
        rw [decide_eq_true rfl] at hSm
        have hH := PM.hid (And.intro (ho.keep hB5) (And.intro (hg.keep hB5) hC5))
        clear ho hg hB hB5 hsc hQ hC5 ho5
        go_wp2_with fail
        refine hSm.mono ?_
        rintro e w6 ⟨rfl, hB6⟩
        obtain ⟨ho, hg, hC5⟩ := hH.out
        have hR := PM.hid (And.intro (ho.keep hB6) (And.intro (hg.keep hB6) (PM.chain hC5 hB6)))
        clear ho hg hC5 hB6 hH hSm
        by_cases hG0 : G = 0
        · have hG0' : ((G : Int) == 0) = true := by rw [hG0]; rfl
          have hRh := PM.hid hG0
          clear hG0
          go_wp2
          go_ret
          first | exact ⟨rfl, hR.out.2.2⟩ | exact ⟨PM.ret_b (by simp), hR.out.2.2⟩
        · have hG0' : ((G : Int) == 0) = false := beq_eq_false_iff_ne.2 (by omega)
          obtain ⟨hS, hG, hT, hjl, hall, hsg⟩ := hF.out
          have hgne : gs ≠ [] := fun e => hG0 (by rw [hG, e]; rfl)
          obtain ⟨g', z, hgz⟩ : ∃ g' z, gs = g' ++ [z] := ⟨gs.dropLast, gs.getLast hgne, (List.dropLast_concat_getLast hgne).symm⟩
          have hTg : T = PM.sizeL g' := by rw [hT, hgz, List.dropLast_concat]
          have hSg : S = T + (6 + z.length) := by rw [hS, hgz, PM.sizeL_snoc, hTg]
          have hGg : G = g'.length + 1 := by rw [hG, hgz]; simp
          have hzl := hall z (by rw [hgz]; simp)
          obtain ⟨D, hD⟩ : ∃ D, D = 6 + z.length := ⟨_, rfl⟩
          rw [← hD] at hSg
          obtain ⟨A, hA⟩ : ∃ A : Nat, (A : Int) = if ct < 0 then -(ct + 1) else ct := ⟨(if ct < 0 then -(ct + 1) else ct).toNat, by split <;> omega⟩
          obtain ⟨I, hI⟩ : ∃ I : Nat, I = A % D := ⟨_, rfl⟩
          have hIb : I < D := by rw [hI]; exact Nat.mod_lt _ (by omega)
          have hrem : (A : Int).tmod (D : Int) = (I : Int) := by rw [Int.tmod_eq_emod_of_nonneg (by omega), hI]; rfl
          have hAb : A ≤ 9223372036854775807 := by split at hA <;> omega
          have hA2 : ct < 0 → -(ct + 1) = (A : Int) := fun h => by rw [hA, if_pos h]
          have hA3 : ¬ ct < 0 → ct = (A : Int) := fun h => by rw [hA, if_neg h]
          have hcut := PM.scan_cut g' z I (fun x hx => hall x (by rw [hgz]; exact List.mem_append_left _ hx)) hzl.2 (by omega)
          have hsub : (S : Int) - (T : Int) = (D : Int) := by omega
          have hDn : ¬ D = 0 := by omega
          have hD1 : 0 < D := by omega
          have hTI : T + I < S := by omega
          have hG1 : (G : Int) - 1 = ((G - 1 : Nat) : Int) := by omega
          have hgt : gs.take (G - 1) = g' := by rw [hgz, hGg, Nat.add_sub_cancel]; exact List.take_left' rfl
          obtain ⟨ho, hg, hC6⟩ := hR.out
          obtain ⟨rg, rcap, hrv, -⟩ := ho.form (by intro e; have := congrArg List.length e; rw [hjl] at this; simp at this; omega)
          rw [hjl] at hrv
          simp only [Value.slice.injEq, true_and] at hrv
          obtain ⟨rfl, rfl⟩ := hrv
          have hbs := ho.bs
          have hcapA : S ≤ ac ∧ ac ≤ 9223372036854775807 := by
            rcases ho.form' with ⟨e, _⟩ | ⟨g2, c2, e, _, h1, h2⟩
            · cases e
            · simp only [Value.slice.injEq] at e
              obtain ⟨_, _, rfl⟩ := e
              rw [hjl] at h1
              exact ⟨h1, h2⟩
          have htk : PM.BS w6 (.slice (some ⟨rg, 0, none⟩) (T + I) ac) ((PM.joinW gs).take (T + I)) := by
            rcases hbs with ⟨e, _⟩ | ⟨b, off, cap, e, h1, h2, h3⟩ | ⟨x, cap, e, e2, _⟩
            · cases e
            · simp only [Value.slice.injEq, Option.some.injEq, Addr.mk.injEq, and_true] at e
              obtain ⟨⟨rfl, rfl⟩, -, rfl⟩ := e
              exact PM.BS.take h1 h2 h3 (by rw [hjl]; omega)
            · rw [e2] at hjl; simp at hjl; omega
          obtain ⟨qb, qo, qc, hqv, hq1, hq2, -⟩ := (hg.rbl hC6).elem (by rw [← hG]; omega)
          rw [← hG] at hqv hq1
          simp only [Value.slice.injEq, true_and] at hqv
          obtain ⟨rfl, rfl⟩ := hqv
          simp only [maxLen] at hq2
          obtain ⟨hc1, hc2⟩ := hcapA
          have hsc2 := Scan_any _ _ w6 htk (by rw [List.length_take, hjl]; omega)
          rw [hgz, hTg, hcut, ← hTg] at hsc2
          have hM := PM.hid (And.intro hg (And.intro hC6 (And.intro hgt hTg)))
          clear hS hG hT hjl hall hsg hgne hgz hTg hSg hzl hD hA hI hcut hgt ho hg hC6 hbs htk hR hGg
          by_cases hneg : ct < 0
          · have hAe := hA2 hneg
            clear hA2 hA3
            go_wp2_with fail
            refine hsc2.mono ?_
            rintro e w7 ⟨v7, rfl, ho7, hB7⟩
            obtain ⟨ma7, mc7, hmv⟩ := ho7.rbl.len
            subst hmv
            obtain ⟨hg, hC6, hgt, hTg⟩ := hM.out
            have hC7 := PM.chain hC6 hB7
            have hwt := ((hg.keep hB7).rbl hC7).take (k := G - 1) (by omega)
            rw [hgt] at hwt
            have hSm := RSame_any _ _ _ _ w7 ho7.rbl hwt
            rw [decide_eq_true rfl] at hSm
            have hC7h := PM.hid hC7
            clear hg hC6 hgt hTg hC7 hwt ho7 hB7 hM hsc2
            go_wp2_with (go_at_call 14; refine hSm.mono ?_; rintro e w8 ⟨rfl, hB8⟩; have hB8h := PM.hid hB8; clear hB8)
            go_ret
            first | exact ⟨rfl, PM.chain hC7h.out hB8h.out⟩ | exact ⟨PM.ret_b (by simp), PM.chain hC7h.out hB8h.out⟩
          · obtain rfl : ct = (A : Int) := hA3 hneg
            clear hA2 hA3
            go_wp2_with fail
            refine hsc2.mono ?_
            rintro e w7 ⟨v7, rfl, ho7, hB7⟩
            obtain ⟨ma7, mc7, hmv⟩ := ho7.rbl.len
            subst hmv
            obtain ⟨hg, hC6, hgt, hTg⟩ := hM.out
            have hC7 := PM.chain hC6 hB7
            have hwt := ((hg.keep hB7).rbl hC7).take (k := G - 1) (by omega)
            rw [hgt] at hwt
            have hSm := RSame_any _ _ _ _ w7 ho7.rbl hwt
            rw [decide_eq_true rfl] at hSm
            have hC7h := PM.hid hC7
            clear hg hC6 hgt hTg hC7 hwt ho7 hB7 hM hsc2
            go_wp2_with (go_at_call 14; refine hSm.mono ?_; rintro e w8 ⟨rfl, hB8⟩; have hB8h := PM.hid hB8; clear hB8)
            go_ret
            first | exact ⟨rfl, PM.chain hC7h.out hB8h.out⟩ | exact ⟨PM.ret_b (by simp), PM.chain hC7h.out hB8h.out⟩
      · skip
        go_wp2_with fail
        refine hsc.mono ?_
        rintro e w5 ⟨v5, rfl, ho5, hB5⟩
        obtain ⟨ma, mc, hmv⟩ := ho5.rbl.len
        rw [← hF.out.2.1] at hmv
        subst hmv
        obtain ⟨ho, hg, hB⟩ := hQ.out
        have hC5 := hB.trans (hB5.mono hB.size)
        have hSm := RSame_any _ _ _ _ w5 ho5.rbl ((hg.keep hB5).rbl hC5)
        rw [decide_eq_true rfl] at hSm
        have hH := PM.hid (And.intro (ho.keep hB5) (And.intro (hg.keep hB5) hC5))
        clear ho hg hB hB5 hsc hQ hC5 ho5
        go_wp2_with fail
        refine hSm.mono ?_
        rintro e w6 ⟨rfl, hB6⟩
        obtain ⟨ho, hg, hC5⟩ := hH.out
        have hR := PM.hid (And.intro (ho.keep hB6) (And.intro (hg.keep hB6) (PM.chain hC5 hB6)))
        clear ho hg hC5 hB6 hH hSm
        by_cases hG0 : G = 0
        · have hG0' : ((G : Int) == 0) = true := by rw [hG0]; rfl
          have hRh := PM.hid hG0
          clear hG0
          go_wp2
          go_ret
          first | exact ⟨rfl, hR.out.2.2⟩ | exact ⟨PM.ret_b (by simp), hR.out.2.2⟩
        · have hG0' : ((G : Int) == 0) = false := beq_eq_false_iff_ne.2 (by omega)
          obtain ⟨hS, hG, hT, hjl, hall, hsg⟩ := hF.out
          have hgne : gs ≠ [] := fun e => hG0 (by rw [hG, e]; rfl)
          obtain ⟨g', z, hgz⟩ : ∃ g' z, gs = g' ++ [z] := ⟨gs.dropLast, gs.getLast hgne, (List.dropLast_concat_getLast hgne).symm⟩
          have hTg : T = PM.sizeL g' := by rw [hT, hgz, List.dropLast_concat]
          have hSg : S = T + (6 + z.length) := by rw [hS, hgz, PM.sizeL_snoc, hTg]
          have hGg : G = g'.length + 1 := by rw [hG, hgz]; simp
          have hzl := hall z (by rw [hgz]; simp)
          obtain ⟨D, hD⟩ : ∃ D, D = 6 + z.length := ⟨_, rfl⟩
          rw [← hD] at hSg
          obtain ⟨A, hA⟩ : ∃ A : Nat, (A : Int) = if ct < 0 then -(ct + 1) else ct := ⟨(if ct < 0 then -(ct + 1) else ct).toNat, by split <;> omega⟩
          obtain ⟨I, hI⟩ : ∃ I : Nat, I = A % D := ⟨_, rfl⟩
          have hIb : I < D := by rw [hI]; exact Nat.mod_lt _ (by omega)
          have hrem : (A : Int).tmod (D : Int) = (I : Int) := by rw [Int.tmod_eq_emod_of_nonneg (by omega), hI]; rfl
          have hAb : A ≤ 9223372036854775807 := by split at hA <;> omega
          have hA2 : ct < 0 → -(ct + 1) = (A : Int) := fun h => by rw [hA, if_pos h]
          have hA3 : ¬ ct < 0 → ct = (A : Int) := fun h => by rw [hA, if_neg h]
          have hcut := PM.scan_cut g' z I (fun x hx => hall x (by rw [hgz]; exact List.mem_append_left _ hx)) hzl.2 (by omega)
          have hsub : (S : Int) - (T : Int) = (D : Int) := by omega
          have hDn : ¬ D = 0 := by omega
          have hD1 : 0 < D := by omega
          have hTI : T + I < S := by omega
          have hG1 : (G : Int) - 1 = ((G - 1 : Nat) : Int) := by omega
          have hgt : gs.take (G - 1) = g' := by rw [hgz, hGg, Nat.add_sub_cancel]; exact List.take_left' rfl
          obtain ⟨ho, hg, hC6⟩ := hR.out
          obtain ⟨rg, rcap, hrv, -⟩ := ho.form (by intro e; have := congrArg List.length e; rw [hjl] at this; simp at this; omega)
          rw [hjl] at hrv
          simp only [Value.slice.injEq, true_and] at hrv
          obtain ⟨rfl, rfl⟩ := hrv
          have hbs := ho.bs
          have hcapA : S ≤ ac ∧ ac ≤ 9223372036854775807 := by
            rcases ho.form' with ⟨e, _⟩ | ⟨g2, c2, e, _, h1, h2⟩
            · cases e
            · simp only [Value.slice.injEq] at e
              obtain ⟨_, _, rfl⟩ := e
              rw [hjl] at h1
              exact ⟨h1, h2⟩
          have htk : PM.BS w6 (.slice (some ⟨rg, 0, none⟩) (T + I) ac) ((PM.joinW gs).take (T + I)) := by
            rcases hbs with ⟨e, _⟩ | ⟨b, off, cap, e, h1, h2, h3⟩ | ⟨x, cap, e, e2, _⟩
            · cases e
            · simp only [Value.slice.injEq, Option.some.injEq, Addr.mk.injEq, and_true] at e
              obtain ⟨⟨rfl, rfl⟩, -, rfl⟩ := e
              exact PM.BS.take h1 h2 h3 (by rw [hjl]; omega)
            · rw [e2] at hjl; simp at hjl; omega
          obtain ⟨qb, qo, qc, hqv, hq1, hq2, -⟩ := (hg.rbl hC6).elem (by rw [← hG]; omega)
          rw [← hG] at hqv hq1
          simp only [Value.slice.injEq, true_and] at hqv
          obtain ⟨rfl, rfl⟩ := hqv
          simp only [maxLen] at hq2
          obtain ⟨hc1, hc2⟩ := hcapA
          have hsc2 := Scan_any _ _ w6 htk (by rw [List.length_take, hjl]; omega)
          rw [hgz, hTg, hcut, ← hTg] at hsc2
          have hM := PM.hid (And.intro hg (And.intro hC6 (And.intro hgt hTg)))
          clear hS hG hT hjl hall hsg hgne hgz hTg hSg hzl hD hA hI hcut hgt ho hg hC6 hbs htk hR hGg
          by_cases hneg : ct < 0
          · have hAe := hA2 hneg
            clear hA2 hA3
            go_wp2_with fail
            refine hsc2.mono ?_
            rintro e w7 ⟨v7, rfl, ho7, hB7⟩
            obtain ⟨ma7, mc7, hmv⟩ := ho7.rbl.len
            subst hmv
            obtain ⟨hg, hC6, hgt, hTg⟩ := hM.out
            have hC7 := PM.chain hC6 hB7
            have hwt := ((hg.keep hB7).rbl hC7).take (k := G - 1) (by omega)
            rw [hgt] at hwt
            have hSm := RSame_any _ _ _ _ w7 ho7.rbl hwt
            rw [decide_eq_true rfl] at hSm
            have hC7h := PM.hid hC7
            clear hg hC6 hgt hTg hC7 hwt ho7 hB7 hM hsc2
            go_wp2_with (go_at_call 14; refine hSm.mono ?_; rintro e w8 ⟨rfl, hB8⟩; have hB8h := PM.hid hB8; clear hB8)
            go_ret
            first | exact ⟨rfl, PM.chain hC7h.out hB8h.out⟩ | exact ⟨PM.ret_b (by simp), PM.chain hC7h.out hB8h.out⟩
          · obtain rfl : ct = (A : Int) := hA3 hneg
            clear hA2 hA3
            go_wp2_with fail
            refine hsc2.mono ?_
            rintro e w7 ⟨v7, rfl, ho7, hB7⟩
            obtain ⟨ma7, mc7, hmv⟩ := ho7.rbl.len
            subst hmv
            obtain ⟨hg, hC6, hgt, hTg⟩ := hM.out
            have hC7 := PM.chain hC6 hB7
            have hwt := ((hg.keep hB7).rbl hC7).take (k := G - 1) (by omega)
            rw [hgt] at hwt
            have hSm := RSame_any _ _ _ _ w7 ho7.rbl hwt
            rw [decide_eq_true rfl] at hSm
            have hC7h := PM.hid hC7
            clear hg hC6 hgt hTg hC7 hwt ho7 hB7 hM hsc2
            go_wp2_with (go_at_call 14; refine hSm.mono ?_; rintro e w8 ⟨rfl, hB8⟩; have hB8h := PM.hid hB8; clear hB8)
            go_ret
            first | exact ⟨rfl, PM.chain hC7h.out hB8h.out⟩ | exact ⟨PM.ret_b (by simp), PM.chain hC7h.out hB8h.out⟩
end Go.Proofs.Ytpilgbiedbhpeaa
