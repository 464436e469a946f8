/-
  postilionref15.Apply: the walk.
-/
import Derived.Test.YtnpbfjkfbobgaaaGreatBt
import Derived.BigQuiet
namespace Go.Proofs.YtnpbfjkfbobgaaaGreat
open Go.RowKit
set_option linter.unusedVariables false
set_option linter.unusedSimpArgs false
set_option maxRecDepth 100000 in
set_option maxHeartbeats 32000000 in
theorem rapply15_any (u : Value) (l : List PM.Sb) (kd ib : Int) (il is : Nat) (ec : Int) (es : Nat) (fa : Option Addr) (fF fc : Nat) (e7 : Value) (fl : List PM.Te) (w : World) (hv : PM.SbL w u l) (hl : l.length ≤ 1000) (hf : PM.TV w (.slice fa fF fc) fl) :
    Calls Tryz.prog 8 #[u, .agg #[.int .i64 kd, .int .i64 ib, .int .u64 (il : Int), .int .u64 (is : Int), .int .i64 ec, .int .u64 (es : Int), .slice fa fF fc, e7]] w fun e w' => ∃ u', e = .returned u' ∧ PM.OR (PM.sbE w) 3 57 w.heap.size w' u' (PM.rapL kd (⟨ec, es, fl⟩ : PM.Sb) l) ∧ Below w.heap.size w w' := by
  obtain ⟨ua, uc, hue⟩ := hv.len
  subst hue
  obtain ⟨N, hN⟩ : ∃ N, N = l.length := ⟨_, rfl⟩
  have hNh := PM.hid hN
  rw [← hN] at hv hl ⊢
  have hvh := PM.hid hv
  have hsR : Hid (PM.sbR w (PM.sbCe ⟨ec, es, fl⟩ fa fF fc).1 (⟨ec, es, fl⟩ : PM.Sb)) := PM.hid ⟨_, rfl, hf⟩
  clear hN hv hf
  obtain ⟨gx, hgx⟩ : ∃ g, g = w.heap.size := ⟨_, rfl⟩
  obtain ⟨w1, hw1⟩ : ∃ W, W = w.alloc (.cells #[.int .i64 kd, .int .i64 ib, .int .u64 (il : Int), .int .u64 (is : Int), .int .i64 ec, .int .u64 (es : Int), .slice fa fF fc, e7] 31) := ⟨_, rfl⟩
  have hal : Below w.heap.size w w1 := by rw [hw1]; exact (Below.refl _ _).alloc (Nat.le_refl _) _
  have kx : PM.BK w1 gx #[.int .i64 kd, .int .i64 ib, .int .u64 (il : Int), .int .u64 (is : Int), .int .i64 ec, .int .u64 (es : Int), .slice fa fF fc, e7] 31 := by rw [hw1, hgx]; exact PM.BK.new _ _ _
  obtain ⟨gs, hgs⟩ : ∃ g, g = w.heap.size + 1 := ⟨_, rfl⟩
  obtain ⟨w2, hw2⟩ : ∃ W, W = w1.alloc (.cells #[.int .i64 ec, .int .u64 (es : Int), .slice fa fF fc] 57) := ⟨_, rfl⟩
  have hs1 : w1.heap.size = w.heap.size + 1 := by rw [hw1]; simp
  have hal2 : Below w1.heap.size w1 w2 := by rw [hw2]; exact (Below.refl _ _).alloc (Nat.le_refl _) _
  have ks : PM.BK w2 gs #[.int .i64 ec, .int .u64 (es : Int), .slice fa fF fc] 57 := by rw [hw2, hgs, ← hs1]; exact PM.BK.new _ _ _
  have c0 : w1.cell? ⟨gx, 0, none⟩ = some (.int .i64 kd) := kx.cell 0
  have c1 : w1.cell? ⟨gx, 1, none⟩ = some (.int .i64 ib) := kx.cell 1
  have c2 : w1.cell? ⟨gx, 2, none⟩ = some (.int .u64 (il : Int)) := kx.cell 2
  have c3 : w1.cell? ⟨gx, 3, none⟩ = some (.int .u64 (is : Int)) := kx.cell 3
  have c4 : w1.cell? ⟨gx, 4, none⟩ = some (.int .i64 ec) := kx.cell 4
  have c5 : w1.cell? ⟨gx, 5, none⟩ = some (.int .u64 (es : Int)) := kx.cell 5
  have c6 : w1.cell? ⟨gx, 6, none⟩ = some (.slice fa fF fc) := kx.cell 6
  have c7 : w1.cell? ⟨gx, 7, none⟩ = some (e7) := kx.cell 7
  go_enter Tryz.func8, Tryz.ntmps8
  go_upto_region 1 with fail
  rw [← hw1, ← hgx]
  go_upto_region 3 with fail
  go_upto_region 4 with fail
  try rw [← hw1]
  rw [← hw2]
  try rw [hs1]
  rw [← hgs]
  try rw [← hgx]
  replace kx := kx.keep hal2
  have hBB := PM.hid (PM.chain hal hal2)
  clear hw1 hw2 hgs hgx hs1 hal hal2 c0 c1 c2 c3 c4 c5 c6 c7
  have hro : Hid (PM.rst kd (⟨ec, es, fl⟩ : PM.Sb) (l.take 0) = ([], kd != 2)) := PM.hid rfl
  go_wp2_with fail
  go_loopw [5, 6, 8, 9, 10] (fun so sl i _ _ wr => ∃ (k : Nat) (o : List PM.Sb) (b : Bool), i = .int .i64 k ∧ k ≤ N ∧ sl = .bool b ∧ Hid (PM.rst kd (⟨ec, es, fl⟩ : PM.Sb) (l.take k) = (o, b)) ∧ Hid (PM.OR (PM.sbE w) 3 57 w2.heap.size wr so o ∧ Below w2.heap.size w2 wr)) (fun _ _ i _ _ _ => N - (intOf i).toNat)
  case atStart => exact ⟨0, [], _, rfl, by omega, rfl, hro, PM.hid ⟨PM.OR.nilrow _, Below.refl _ _⟩⟩
  case round =>
    obtain ⟨k, o, b, rfl, hk, rfl, hoh, hin⟩ := hrel
    have hBr := hin.out.2
    have hOr := PM.hid hin.out.1
    clear hin hro
    have hol : o.length ≤ 2 * k := by
      have := PM.rst_len kd (⟨ec, es, fl⟩ : PM.Sb) (l.take k)
      rw [hoh.out] at this
      exact Nat.le_trans this (by rw [List.length_take]; omega)
    by_cases hlt : k < N
    · have hlA : Hid ((o.length + 1) * 40 ≤ 140737488355328 ∧ o.length + 1 ≤ maxLen) := PM.hid (by unfold maxLen; omega)
      have hlB : Hid (((o ++ [(⟨ec, es, fl⟩ : PM.Sb)]).length + 1) * 40 ≤ 140737488355328 ∧ (o ++ [(⟨ec, es, fl⟩ : PM.Sb)]).length + 1 ≤ maxLen) := PM.hid (by unfold maxLen; rw [List.length_append, List.length_singleton]; omega)
      obtain ⟨z, hz⟩ : ∃ z, l[k]? = some z := ⟨l[k]'(by rw [← hNh.out]; exact hlt), List.getElem?_eq_getElem _⟩
      obtain ⟨b0, b0o, hbe, hce⟩ := PM.RR.opn hvh.out (by rw [← hNh.out]; omega)
      subst hbe
      obtain ⟨cs, hl0, hR⟩ := hce k z hz
      obtain ⟨za, zc, hcs, hzf⟩ := PM.sbR_open hR
      rw [hcs] at hl0 hR
      obtain ⟨zF, hzF⟩ : ∃ P, P = z.fil.length := ⟨_, rfl⟩
      rw [← hzF] at hl0 hR
      have hdz := PM.hid (hl0.keep hBB.out)
      have hzR : Hid (PM.sbR w (PM.sbCe z za zF zc).1 z) := PM.hid hR
      have hzh := PM.hid hz
      clear hz hce hl0 hR hcs cs hzf hzF
      have d0 : wr.cell? ⟨b0, b0o + k * 3, none⟩ = some (.int .i64 z.cl) := PM.cellA hBr (hdz.out 0 _ rfl)
      have d1 : wr.cell? ⟨b0, b0o + k * 3 + 1, none⟩ = some (.int .u64 (z.sub : Int)) := PM.cellA hBr (hdz.out 1 _ rfl)
      have d2 : wr.cell? ⟨b0, b0o + k * 3 + 2, none⟩ = some (.slice za zF zc) := PM.cellA hBr (hdz.out 2 _ rfl)
      have c0 : wr.cell? ⟨gx, 0, none⟩ = some (.int .i64 kd) := (kx.keep hBr).cell 0
      have c1 : wr.cell? ⟨gx, 1, none⟩ = some (.int .i64 ib) := (kx.keep hBr).cell 1
      have c2 : wr.cell? ⟨gx, 2, none⟩ = some (.int .u64 (il : Int)) := (kx.keep hBr).cell 2
      have c3 : wr.cell? ⟨gx, 3, none⟩ = some (.int .u64 (is : Int)) := (kx.keep hBr).cell 3
      have c4 : wr.cell? ⟨gx, 4, none⟩ = some (.int .i64 ec) := (kx.keep hBr).cell 4
      have c5 : wr.cell? ⟨gx, 5, none⟩ = some (.int .u64 (es : Int)) := (kx.keep hBr).cell 5
      have c6 : wr.cell? ⟨gx, 6, none⟩ = some (.slice fa fF fc) := (kx.keep hBr).cell 6
      have c7 : wr.cell? ⟨gx, 7, none⟩ = some (e7) := (kx.keep hBr).cell 7
      have s0 : wr.cell? ⟨gs, 0, none⟩ = some (.int .i64 ec) := (ks.keep hBr).cell 0
      have s1 : wr.cell? ⟨gs, 1, none⟩ = some (.int .u64 (es : Int)) := (ks.keep hBr).cell 1
      have s2 : wr.cell? ⟨gs, 2, none⟩ = some (.slice fa fF fc) := (ks.keep hBr).cell 2
      rcases Int.lt_trichotomy z.cl ec with hcl | hcl | hcl
      · have r1 : decide (ec < z.cl) = false := by first | exact decide_eq_false (by omega) | (simp; omega)
        have r2 : (z.cl == ec) = false := by simp; omega
        have hbf : Hid (PM.bef z (⟨ec, es, fl⟩ : PM.Sb) = true) := PM.hid (by rw [PM.bef_iff]; simp only; omega)
        have hsm : Hid (PM.sameS (⟨ec, es, fl⟩ : PM.Sb) z = false) := PM.hid (by rw [← Bool.not_eq_true, PM.same_iff]; simp only; omega)
        clear hcl
        cases b
        · have hst : Hid (PM.rst kd (⟨ec, es, fl⟩ : PM.Sb) (l.take (k + 1)) = ((o ++ [z]), false)) := PM.hid (by rw [PM.rst_snoc hzh.out, hoh.out]; unfold PM.rstep; rw [hbf.out, hsm.out]; simp)
          go_wp2_with fail
          go_quiet (fail)
          revert nq
          intro n1
          go_wp2_with fail
          go_quiet (fail)
          go_wp2_with (at_builtin; go_loud (refine PM.wpList_or1 tySb (PM.sbE_stays w _) (PM.sbE_lasts w) w2.heap.size (wr.drewN (n1 + nq)) rfl _ _ rfl _ (o) z (PM.sbCe z za zF zc) _ rfl rfl rfl rfl hzR.out (PM.OR.keep (PM.sbE_lasts w) (PM.dN' (Below.refl _ wr) _) hOr.out) hlA.out.1 hlA.out.2 (PM.dN' hBr _).size ?_); intro v' w' t1 t2 t3; have hE := PM.hid (And.intro t1 ((PM.dN' hBr _).trans t2)); clear t1 t2 t3)
          refine ⟨⟨k + 1, (o ++ [z]), false, by go_num, by omega, rfl, hst, ?_⟩, by simp only [intOf]; omega⟩
          exact PM.hid hE.out
        · have hst : Hid (PM.rst kd (⟨ec, es, fl⟩ : PM.Sb) (l.take (k + 1)) = ((o ++ [z]), true)) := PM.hid (by rw [PM.rst_snoc hzh.out, hoh.out]; unfold PM.rstep; rw [hbf.out, hsm.out]; simp)
          go_wp2_with fail
          go_quiet (fail)
          revert nq
          intro n1
          go_wp2_with fail
          go_quiet (fail)
          go_wp2_with (at_builtin; go_loud (refine PM.wpList_or1 tySb (PM.sbE_stays w _) (PM.sbE_lasts w) w2.heap.size (wr.drewN (n1 + nq)) rfl _ _ rfl _ (o) z (PM.sbCe z za zF zc) _ rfl rfl rfl rfl hzR.out (PM.OR.keep (PM.sbE_lasts w) (PM.dN' (Below.refl _ wr) _) hOr.out) hlA.out.1 hlA.out.2 (PM.dN' hBr _).size ?_); intro v' w' t1 t2 t3; have hE := PM.hid (And.intro t1 ((PM.dN' hBr _).trans t2)); clear t1 t2 t3)
          refine ⟨⟨k + 1, (o ++ [z]), true, by go_num, by omega, rfl, hst, ?_⟩, by simp only [intOf]; omega⟩
          exact PM.hid hE.out
      · rcases Nat.lt_trichotomy z.sub es with hsb | hsb | hsb
        · have r1 : decide (ec < z.cl) = false := by first | exact decide_eq_false (by omega) | (simp; omega)
          have r2 : (z.cl == ec) = true := by simp; omega
          have r3 : decide (es ≤ z.sub) = false := by first | exact decide_eq_false (by omega) | (simp; omega)
          have r3i : decide ((es : Int) ≤ (z.sub : Int)) = false := by first | exact decide_eq_false (by omega) | (simp; omega)
          have r4 : (z.sub == es) = false := by simp; omega
          have r4i : ((z.sub : Int) == (es : Int)) = false := by simp; omega
          have hbf : Hid (PM.bef z (⟨ec, es, fl⟩ : PM.Sb) = true) := PM.hid (by rw [PM.bef_iff]; simp only; omega)
          have hsm : Hid (PM.sameS (⟨ec, es, fl⟩ : PM.Sb) z = false) := PM.hid (by rw [← Bool.not_eq_true, PM.same_iff]; simp only; omega)
          clear hcl hsb
          cases b
          · have hst : Hid (PM.rst kd (⟨ec, es, fl⟩ : PM.Sb) (l.take (k + 1)) = ((o ++ [z]), false)) := PM.hid (by rw [PM.rst_snoc hzh.out, hoh.out]; unfold PM.rstep; rw [hbf.out, hsm.out]; simp)
            go_wp2_with fail
            go_quiet (fail)
            revert nq
            intro n1
            go_wp2_with fail
            go_quiet (fail)
            go_wp2_with (at_builtin; go_loud (refine PM.wpList_or1 tySb (PM.sbE_stays w _) (PM.sbE_lasts w) w2.heap.size (wr.drewN (n1 + nq)) rfl _ _ rfl _ (o) z (PM.sbCe z za zF zc) _ rfl rfl rfl rfl hzR.out (PM.OR.keep (PM.sbE_lasts w) (PM.dN' (Below.refl _ wr) _) hOr.out) hlA.out.1 hlA.out.2 (PM.dN' hBr _).size ?_); intro v' w' t1 t2 t3; have hE := PM.hid (And.intro t1 ((PM.dN' hBr _).trans t2)); clear t1 t2 t3)
            refine ⟨⟨k + 1, (o ++ [z]), false, by go_num, by omega, rfl, hst, ?_⟩, by simp only [intOf]; omega⟩
            exact PM.hid hE.out
          · have hst : Hid (PM.rst kd (⟨ec, es, fl⟩ : PM.Sb) (l.take (k + 1)) = ((o ++ [z]), true)) := PM.hid (by rw [PM.rst_snoc hzh.out, hoh.out]; unfold PM.rstep; rw [hbf.out, hsm.out]; simp)
            go_wp2_with fail
            go_quiet (fail)
            revert nq
            intro n1
            go_wp2_with fail
            go_quiet (fail)
            go_wp2_with (at_builtin; go_loud (refine PM.wpList_or1 tySb (PM.sbE_stays w _) (PM.sbE_lasts w) w2.heap.size (wr.drewN (n1 + nq)) rfl _ _ rfl _ (o) z (PM.sbCe z za zF zc) _ rfl rfl rfl rfl hzR.out (PM.OR.keep (PM.sbE_lasts w) (PM.dN' (Below.refl _ wr) _) hOr.out) hlA.out.1 hlA.out.2 (PM.dN' hBr _).size ?_); intro v' w' t1 t2 t3; have hE := PM.hid (And.intro t1 ((PM.dN' hBr _).trans t2)); clear t1 t2 t3)
            refine ⟨⟨k + 1, (o ++ [z]), true, by go_num, by omega, rfl, hst, ?_⟩, by simp only [intOf]; omega⟩
            exact PM.hid hE.out
        · have r1 : decide (ec < z.cl) = false := by first | exact decide_eq_false (by omega) | (simp; omega)
          have r2 : (z.cl == ec) = true := by simp; omega
          have r3 : decide (es ≤ z.sub) = true := by first | exact decide_eq_true (by omega) | (simp; omega)
          have r3i : decide ((es : Int) ≤ (z.sub : Int)) = true := by first | exact decide_eq_true (by omega) | (simp; omega)
          have r4 : (z.sub == es) = true := by simp; omega
          have r4i : ((z.sub : Int) == (es : Int)) = true := by simp; omega
          have hbf : Hid (PM.bef z (⟨ec, es, fl⟩ : PM.Sb) = false) := PM.hid (by rw [← Bool.not_eq_true, PM.bef_iff]; simp only; omega)
          have hsm : Hid (PM.sameS (⟨ec, es, fl⟩ : PM.Sb) z = true) := PM.hid (by rw [PM.same_iff]; simp only; omega)
          clear hcl hsb
          cases b
          · by_cases h2 : kd = 2
            · have n2 : (kd == 2) = true := by simp [h2]
              have n3 : (kd == 3) = false := by simp [h2]
              replace h2 := PM.hid h2
              have hst : Hid (PM.rst kd (⟨ec, es, fl⟩ : PM.Sb) (l.take (k + 1)) = ((o ++ [(⟨ec, es, fl⟩ : PM.Sb)]), true)) := PM.hid (by rw [PM.rst_snoc hzh.out, hoh.out]; unfold PM.rstep; rw [hbf.out, hsm.out]; simp [h2.out])
              go_wp2_with fail
              go_quiet (fail)
              revert nq
              intro n1
              go_wp2_with (at_builtin; go_loud (refine PM.wpList_or1 tySb (PM.sbE_stays w _) (PM.sbE_lasts w) w2.heap.size (wr.drewN n1) rfl _ _ rfl _ (o) (⟨ec, es, fl⟩ : PM.Sb) (PM.sbCe ⟨ec, es, fl⟩ fa fF fc) _ rfl rfl rfl rfl hsR.out (PM.OR.keep (PM.sbE_lasts w) (PM.dN' (Below.refl _ wr) _) hOr.out) hlA.out.1 hlA.out.2 (PM.dN' hBr _).size ?_); intro v' w' t1 t2 t3; have hE := PM.hid (And.intro t1 ((PM.dN' hBr _).trans t2)); clear t1 t2 t3)
              replace hBr := hE.out.2
              replace hOr := PM.hid hE.out.1
              clear hE
              obtain ⟨wq, hwq⟩ : ∃ q, q = w' := ⟨_, rfl⟩
              rw [← hwq] at hBr hOr ⊢
              clear hwq c0 c1 c2 c3 c4 c5 c6 c7 s0 s1 s2 d0 d1 d2
              have c0 : wq.cell? ⟨gx, 0, none⟩ = some (.int .i64 kd) := (kx.keep hBr).cell 0
              have c1 : wq.cell? ⟨gx, 1, none⟩ = some (.int .i64 ib) := (kx.keep hBr).cell 1
              have c2 : wq.cell? ⟨gx, 2, none⟩ = some (.int .u64 (il : Int)) := (kx.keep hBr).cell 2
              have c3 : wq.cell? ⟨gx, 3, none⟩ = some (.int .u64 (is : Int)) := (kx.keep hBr).cell 3
              have c4 : wq.cell? ⟨gx, 4, none⟩ = some (.int .i64 ec) := (kx.keep hBr).cell 4
              have c5 : wq.cell? ⟨gx, 5, none⟩ = some (.int .u64 (es : Int)) := (kx.keep hBr).cell 5
              have c6 : wq.cell? ⟨gx, 6, none⟩ = some (.slice fa fF fc) := (kx.keep hBr).cell 6
              have c7 : wq.cell? ⟨gx, 7, none⟩ = some (e7) := (kx.keep hBr).cell 7
              have s0 : wq.cell? ⟨gs, 0, none⟩ = some (.int .i64 ec) := (ks.keep hBr).cell 0
              have s1 : wq.cell? ⟨gs, 1, none⟩ = some (.int .u64 (es : Int)) := (ks.keep hBr).cell 1
              have s2 : wq.cell? ⟨gs, 2, none⟩ = some (.slice fa fF fc) := (ks.keep hBr).cell 2
              have d0 : wq.cell? ⟨b0, b0o + k * 3, none⟩ = some (.int .i64 z.cl) := PM.cellA hBr (hdz.out 0 _ rfl)
              have d1 : wq.cell? ⟨b0, b0o + k * 3 + 1, none⟩ = some (.int .u64 (z.sub : Int)) := PM.cellA hBr (hdz.out 1 _ rfl)
              have d2 : wq.cell? ⟨b0, b0o + k * 3 + 2, none⟩ = some (.slice za zF zc) := PM.cellA hBr (hdz.out 2 _ rfl)
              go_quiet (fail)
              go_wp2_with fail
              refine ⟨⟨k + 1, (o ++ [(⟨ec, es, fl⟩ : PM.Sb)]), true, by go_num, by omega, rfl, hst, ?_⟩, by simp only [intOf]; omega⟩
              exact PM.hid ⟨PM.OR.keep (PM.sbE_lasts w) (by first | exact PM.dN' (PM.dN' (Below.refl _ wq) _) _ | exact PM.dN' (Below.refl _ wq) _) hOr.out, by first | exact PM.dN' (PM.dN' hBr _) _ | exact PM.dN' hBr _⟩
            · have n2 : (kd == 2) = false := by simp [h2]
              by_cases h3 : kd = 3
              · have n3 : (kd == 3) = true := by simp [h3]
                replace h3 := PM.hid h3
                have hst : Hid (PM.rst kd (⟨ec, es, fl⟩ : PM.Sb) (l.take (k + 1)) = ((o ++ [(⟨ec, es, fl⟩ : PM.Sb)]), true)) := PM.hid (by rw [PM.rst_snoc hzh.out, hoh.out]; unfold PM.rstep; rw [hbf.out, hsm.out]; simp [h3.out])
                go_wp2_with fail
                go_quiet (fail)
                revert nq
                intro n1
                go_wp2_with (at_builtin; go_loud (refine PM.wpList_or1 tySb (PM.sbE_stays w _) (PM.sbE_lasts w) w2.heap.size (wr.drewN n1) rfl _ _ rfl _ (o) (⟨ec, es, fl⟩ : PM.Sb) (PM.sbCe ⟨ec, es, fl⟩ fa fF fc) _ rfl rfl rfl rfl hsR.out (PM.OR.keep (PM.sbE_lasts w) (PM.dN' (Below.refl _ wr) _) hOr.out) hlA.out.1 hlA.out.2 (PM.dN' hBr _).size ?_); intro v' w' t1 t2 t3; have hE := PM.hid (And.intro t1 ((PM.dN' hBr _).trans t2)); clear t1 t2 t3)
                replace hBr := hE.out.2
                replace hOr := PM.hid hE.out.1
                clear hE
                obtain ⟨wq, hwq⟩ : ∃ q, q = w' := ⟨_, rfl⟩
                rw [← hwq] at hBr hOr ⊢
                clear hwq c0 c1 c2 c3 c4 c5 c6 c7 s0 s1 s2 d0 d1 d2
                have c0 : wq.cell? ⟨gx, 0, none⟩ = some (.int .i64 kd) := (kx.keep hBr).cell 0
                have c1 : wq.cell? ⟨gx, 1, none⟩ = some (.int .i64 ib) := (kx.keep hBr).cell 1
                have c2 : wq.cell? ⟨gx, 2, none⟩ = some (.int .u64 (il : Int)) := (kx.keep hBr).cell 2
                have c3 : wq.cell? ⟨gx, 3, none⟩ = some (.int .u64 (is : Int)) := (kx.keep hBr).cell 3
                have c4 : wq.cell? ⟨gx, 4, none⟩ = some (.int .i64 ec) := (kx.keep hBr).cell 4
                have c5 : wq.cell? ⟨gx, 5, none⟩ = some (.int .u64 (es : Int)) := (kx.keep hBr).cell 5
                have c6 : wq.cell? ⟨gx, 6, none⟩ = some (.slice fa fF fc) := (kx.keep hBr).cell 6
                have c7 : wq.cell? ⟨gx, 7, none⟩ = some (e7) := (kx.keep hBr).cell 7
                have s0 : wq.cell? ⟨gs, 0, none⟩ = some (.int .i64 ec) := (ks.keep hBr).cell 0
                have s1 : wq.cell? ⟨gs, 1, none⟩ = some (.int .u64 (es : Int)) := (ks.keep hBr).cell 1
                have s2 : wq.cell? ⟨gs, 2, none⟩ = some (.slice fa fF fc) := (ks.keep hBr).cell 2
                have d0 : wq.cell? ⟨b0, b0o + k * 3, none⟩ = some (.int .i64 z.cl) := PM.cellA hBr (hdz.out 0 _ rfl)
                have d1 : wq.cell? ⟨b0, b0o + k * 3 + 1, none⟩ = some (.int .u64 (z.sub : Int)) := PM.cellA hBr (hdz.out 1 _ rfl)
                have d2 : wq.cell? ⟨b0, b0o + k * 3 + 2, none⟩ = some (.slice za zF zc) := PM.cellA hBr (hdz.out 2 _ rfl)
                go_quiet (fail)
                go_wp2_with fail
                refine ⟨⟨k + 1, (o ++ [(⟨ec, es, fl⟩ : PM.Sb)]), true, by go_num, by omega, rfl, hst, ?_⟩, by simp only [intOf]; omega⟩
                exact PM.hid ⟨PM.OR.keep (PM.sbE_lasts w) (by first | exact PM.dN' (PM.dN' (Below.refl _ wq) _) _ | exact PM.dN' (Below.refl _ wq) _) hOr.out, by first | exact PM.dN' (PM.dN' hBr _) _ | exact PM.dN' hBr _⟩
              · have n3 : (kd == 3) = false := by simp [h3]
                have hst : Hid (PM.rst kd (⟨ec, es, fl⟩ : PM.Sb) (l.take (k + 1)) = (((o ++ [(⟨ec, es, fl⟩ : PM.Sb)]) ++ [z]), true)) := PM.hid (by rw [PM.rst_snoc hzh.out, hoh.out]; unfold PM.rstep; rw [hbf.out, hsm.out]; simp [h2, h3])
                go_wp2_with fail
                go_quiet (fail)
                revert nq
                intro n1
                go_wp2_with (at_builtin; go_loud (refine PM.wpList_or1 tySb (PM.sbE_stays w _) (PM.sbE_lasts w) w2.heap.size (wr.drewN n1) rfl _ _ rfl _ (o) (⟨ec, es, fl⟩ : PM.Sb) (PM.sbCe ⟨ec, es, fl⟩ fa fF fc) _ rfl rfl rfl rfl hsR.out (PM.OR.keep (PM.sbE_lasts w) (PM.dN' (Below.refl _ wr) _) hOr.out) hlA.out.1 hlA.out.2 (PM.dN' hBr _).size ?_); intro v' w' t1 t2 t3; have hE := PM.hid (And.intro t1 ((PM.dN' hBr _).trans t2)); clear t1 t2 t3)
                replace hBr := hE.out.2
                replace hOr := PM.hid hE.out.1
                clear hE
                obtain ⟨wq, hwq⟩ : ∃ q, q = w' := ⟨_, rfl⟩
                rw [← hwq] at hBr hOr ⊢
                clear hwq c0 c1 c2 c3 c4 c5 c6 c7 s0 s1 s2 d0 d1 d2
                have c0 : wq.cell? ⟨gx, 0, none⟩ = some (.int .i64 kd) := (kx.keep hBr).cell 0
                have c1 : wq.cell? ⟨gx, 1, none⟩ = some (.int .i64 ib) := (kx.keep hBr).cell 1
                have c2 : wq.cell? ⟨gx, 2, none⟩ = some (.int .u64 (il : Int)) := (kx.keep hBr).cell 2
                have c3 : wq.cell? ⟨gx, 3, none⟩ = some (.int .u64 (is : Int)) := (kx.keep hBr).cell 3
                have c4 : wq.cell? ⟨gx, 4, none⟩ = some (.int .i64 ec) := (kx.keep hBr).cell 4
                have c5 : wq.cell? ⟨gx, 5, none⟩ = some (.int .u64 (es : Int)) := (kx.keep hBr).cell 5
                have c6 : wq.cell? ⟨gx, 6, none⟩ = some (.slice fa fF fc) := (kx.keep hBr).cell 6
                have c7 : wq.cell? ⟨gx, 7, none⟩ = some (e7) := (kx.keep hBr).cell 7
                have s0 : wq.cell? ⟨gs, 0, none⟩ = some (.int .i64 ec) := (ks.keep hBr).cell 0
                have s1 : wq.cell? ⟨gs, 1, none⟩ = some (.int .u64 (es : Int)) := (ks.keep hBr).cell 1
                have s2 : wq.cell? ⟨gs, 2, none⟩ = some (.slice fa fF fc) := (ks.keep hBr).cell 2
                have d0 : wq.cell? ⟨b0, b0o + k * 3, none⟩ = some (.int .i64 z.cl) := PM.cellA hBr (hdz.out 0 _ rfl)
                have d1 : wq.cell? ⟨b0, b0o + k * 3 + 1, none⟩ = some (.int .u64 (z.sub : Int)) := PM.cellA hBr (hdz.out 1 _ rfl)
                have d2 : wq.cell? ⟨b0, b0o + k * 3 + 2, none⟩ = some (.slice za zF zc) := PM.cellA hBr (hdz.out 2 _ rfl)
                go_quiet (fail)
                go_wp2_with (at_builtin; go_loud (refine PM.wpList_or1 tySb (PM.sbE_stays w _) (PM.sbE_lasts w) w2.heap.size (wq.drewN nq) rfl _ _ rfl _ ((o ++ [(⟨ec, es, fl⟩ : PM.Sb)])) z (PM.sbCe z za zF zc) _ rfl rfl rfl rfl hzR.out (PM.OR.keep (PM.sbE_lasts w) (PM.dN' (Below.refl _ wq) _) hOr.out) hlB.out.1 hlB.out.2 (PM.dN' hBr _).size ?_); intro v' w' t1 t2 t3; have hE := PM.hid (And.intro t1 ((PM.dN' hBr _).trans t2)); clear t1 t2 t3)
                refine ⟨⟨k + 1, ((o ++ [(⟨ec, es, fl⟩ : PM.Sb)]) ++ [z]), true, by go_num, by omega, rfl, hst, ?_⟩, by simp only [intOf]; omega⟩
                exact PM.hid hE.out
          · by_cases h2 : kd = 2
            · have n2 : (kd == 2) = true := by simp [h2]
              have n3 : (kd == 3) = false := by simp [h2]
              replace h2 := PM.hid h2
              have hst : Hid (PM.rst kd (⟨ec, es, fl⟩ : PM.Sb) (l.take (k + 1)) = (o, true)) := PM.hid (by rw [PM.rst_snoc hzh.out, hoh.out]; unfold PM.rstep; rw [hbf.out, hsm.out]; simp [h2.out])
              go_wp2_with fail
              go_quiet (fail)
              revert nq
              intro n1
              go_wp2_with fail
              go_quiet (fail)
              go_wp2_with fail
              refine ⟨⟨k + 1, o, true, by go_num, by omega, rfl, hst, ?_⟩, by simp only [intOf]; omega⟩
              exact PM.hid ⟨PM.OR.keep (PM.sbE_lasts w) (by first | exact PM.dN' (PM.dN' (Below.refl _ wr) _) _ | exact PM.dN' (Below.refl _ wr) _) hOr.out, by first | exact PM.dN' (PM.dN' hBr _) _ | exact PM.dN' hBr _⟩
            · have n2 : (kd == 2) = false := by simp [h2]
              by_cases h3 : kd = 3
              · have n3 : (kd == 3) = true := by simp [h3]
                replace h3 := PM.hid h3
                have hst : Hid (PM.rst kd (⟨ec, es, fl⟩ : PM.Sb) (l.take (k + 1)) = (o, true)) := PM.hid (by rw [PM.rst_snoc hzh.out, hoh.out]; unfold PM.rstep; rw [hbf.out, hsm.out]; simp [h3.out])
                go_wp2_with fail
                go_quiet (fail)
                revert nq
                intro n1
                go_wp2_with fail
                go_quiet (fail)
                go_wp2_with fail
                refine ⟨⟨k + 1, o, true, by go_num, by omega, rfl, hst, ?_⟩, by simp only [intOf]; omega⟩
                exact PM.hid ⟨PM.OR.keep (PM.sbE_lasts w) (by first | exact PM.dN' (PM.dN' (Below.refl _ wr) _) _ | exact PM.dN' (Below.refl _ wr) _) hOr.out, by first | exact PM.dN' (PM.dN' hBr _) _ | exact PM.dN' hBr _⟩
              · have n3 : (kd == 3) = false := by simp [h3]
                have hst : Hid (PM.rst kd (⟨ec, es, fl⟩ : PM.Sb) (l.take (k + 1)) = ((o ++ [z]), true)) := PM.hid (by rw [PM.rst_snoc hzh.out, hoh.out]; unfold PM.rstep; rw [hbf.out, hsm.out]; simp [h2, h3])
                go_wp2_with fail
                go_quiet (fail)
                revert nq
                intro n1
                go_wp2_with fail
                go_quiet (fail)
                go_wp2_with (at_builtin; go_loud (refine PM.wpList_or1 tySb (PM.sbE_stays w _) (PM.sbE_lasts w) w2.heap.size (wr.drewN (n1 + nq)) rfl _ _ rfl _ (o) z (PM.sbCe z za zF zc) _ rfl rfl rfl rfl hzR.out (PM.OR.keep (PM.sbE_lasts w) (PM.dN' (Below.refl _ wr) _) hOr.out) hlA.out.1 hlA.out.2 (PM.dN' hBr _).size ?_); intro v' w' t1 t2 t3; have hE := PM.hid (And.intro t1 ((PM.dN' hBr _).trans t2)); clear t1 t2 t3)
                refine ⟨⟨k + 1, (o ++ [z]), true, by go_num, by omega, rfl, hst, ?_⟩, by simp only [intOf]; omega⟩
                exact PM.hid hE.out
        · have r1 : decide (ec < z.cl) = false := by first | exact decide_eq_false (by omega) | (simp; omega)
          have r2 : (z.cl == ec) = true := by simp; omega
          have r3 : decide (es ≤ z.sub) = true := by first | exact decide_eq_true (by omega) | (simp; omega)
          have r3i : decide ((es : Int) ≤ (z.sub : Int)) = true := by first | exact decide_eq_true (by omega) | (simp; omega)
          have r4 : (z.sub == es) = false := by simp; omega
          have r4i : ((z.sub : Int) == (es : Int)) = false := by simp; omega
          have hbf : Hid (PM.bef z (⟨ec, es, fl⟩ : PM.Sb) = false) := PM.hid (by rw [← Bool.not_eq_true, PM.bef_iff]; simp only; omega)
          have hsm : Hid (PM.sameS (⟨ec, es, fl⟩ : PM.Sb) z = false) := PM.hid (by rw [← Bool.not_eq_true, PM.same_iff]; simp only; omega)
          clear hcl hsb
          cases b
          · have hst : Hid (PM.rst kd (⟨ec, es, fl⟩ : PM.Sb) (l.take (k + 1)) = (((o ++ [(⟨ec, es, fl⟩ : PM.Sb)]) ++ [z]), true)) := PM.hid (by rw [PM.rst_snoc hzh.out, hoh.out]; unfold PM.rstep; rw [hbf.out, hsm.out]; simp)
            go_wp2_with fail
            go_quiet (fail)
            revert nq
            intro n1
            go_wp2_with (at_builtin; go_loud (refine PM.wpList_or1 tySb (PM.sbE_stays w _) (PM.sbE_lasts w) w2.heap.size (wr.drewN n1) rfl _ _ rfl _ (o) (⟨ec, es, fl⟩ : PM.Sb) (PM.sbCe ⟨ec, es, fl⟩ fa fF fc) _ rfl rfl rfl rfl hsR.out (PM.OR.keep (PM.sbE_lasts w) (PM.dN' (Below.refl _ wr) _) hOr.out) hlA.out.1 hlA.out.2 (PM.dN' hBr _).size ?_); intro v' w' t1 t2 t3; have hE := PM.hid (And.intro t1 ((PM.dN' hBr _).trans t2)); clear t1 t2 t3)
            replace hBr := hE.out.2
            replace hOr := PM.hid hE.out.1
            clear hE
            obtain ⟨wq, hwq⟩ : ∃ q, q = w' := ⟨_, rfl⟩
            rw [← hwq] at hBr hOr ⊢
            clear hwq c0 c1 c2 c3 c4 c5 c6 c7 s0 s1 s2 d0 d1 d2
            have c0 : wq.cell? ⟨gx, 0, none⟩ = some (.int .i64 kd) := (kx.keep hBr).cell 0
            have c1 : wq.cell? ⟨gx, 1, none⟩ = some (.int .i64 ib) := (kx.keep hBr).cell 1
            have c2 : wq.cell? ⟨gx, 2, none⟩ = some (.int .u64 (il : Int)) := (kx.keep hBr).cell 2
            have c3 : wq.cell? ⟨gx, 3, none⟩ = some (.int .u64 (is : Int)) := (kx.keep hBr).cell 3
            have c4 : wq.cell? ⟨gx, 4, none⟩ = some (.int .i64 ec) := (kx.keep hBr).cell 4
            have c5 : wq.cell? ⟨gx, 5, none⟩ = some (.int .u64 (es : Int)) := (kx.keep hBr).cell 5
            have c6 : wq.cell? ⟨gx, 6, none⟩ = some (.slice fa fF fc) := (kx.keep hBr).cell 6
            have c7 : wq.cell? ⟨gx, 7, none⟩ = some (e7) := (kx.keep hBr).cell 7
            have s0 : wq.cell? ⟨gs, 0, none⟩ = some (.int .i64 ec) := (ks.keep hBr).cell 0
            have s1 : wq.cell? ⟨gs, 1, none⟩ = some (.int .u64 (es : Int)) := (ks.keep hBr).cell 1
            have s2 : wq.cell? ⟨gs, 2, none⟩ = some (.slice fa fF fc) := (ks.keep hBr).cell 2
            have d0 : wq.cell? ⟨b0, b0o + k * 3, none⟩ = some (.int .i64 z.cl) := PM.cellA hBr (hdz.out 0 _ rfl)
            have d1 : wq.cell? ⟨b0, b0o + k * 3 + 1, none⟩ = some (.int .u64 (z.sub : Int)) := PM.cellA hBr (hdz.out 1 _ rfl)
            have d2 : wq.cell? ⟨b0, b0o + k * 3 + 2, none⟩ = some (.slice za zF zc) := PM.cellA hBr (hdz.out 2 _ rfl)
            go_quiet (fail)
            go_wp2_with (at_builtin; go_loud (refine PM.wpList_or1 tySb (PM.sbE_stays w _) (PM.sbE_lasts w) w2.heap.size (wq.drewN nq) rfl _ _ rfl _ ((o ++ [(⟨ec, es, fl⟩ : PM.Sb)])) z (PM.sbCe z za zF zc) _ rfl rfl rfl rfl hzR.out (PM.OR.keep (PM.sbE_lasts w) (PM.dN' (Below.refl _ wq) _) hOr.out) hlB.out.1 hlB.out.2 (PM.dN' hBr _).size ?_); intro v' w' t1 t2 t3; have hE := PM.hid (And.intro t1 ((PM.dN' hBr _).trans t2)); clear t1 t2 t3)
            refine ⟨⟨k + 1, ((o ++ [(⟨ec, es, fl⟩ : PM.Sb)]) ++ [z]), true, by go_num, by omega, rfl, hst, ?_⟩, by simp only [intOf]; omega⟩
            exact PM.hid hE.out
          · have hst : Hid (PM.rst kd (⟨ec, es, fl⟩ : PM.Sb) (l.take (k + 1)) = ((o ++ [z]), true)) := PM.hid (by rw [PM.rst_snoc hzh.out, hoh.out]; unfold PM.rstep; rw [hbf.out, hsm.out]; simp)
            go_wp2_with fail
            go_quiet (fail)
            revert nq
            intro n1
            go_wp2_with fail
            go_quiet (fail)
            go_wp2_with (at_builtin; go_loud (refine PM.wpList_or1 tySb (PM.sbE_stays w _) (PM.sbE_lasts w) w2.heap.size (wr.drewN (n1 + nq)) rfl _ _ rfl _ (o) z (PM.sbCe z za zF zc) _ rfl rfl rfl rfl hzR.out (PM.OR.keep (PM.sbE_lasts w) (PM.dN' (Below.refl _ wr) _) hOr.out) hlA.out.1 hlA.out.2 (PM.dN' hBr _).size ?_); intro v' w' t1 t2 t3; have hE := PM.hid (And.intro t1 ((PM.dN' hBr _).trans t2)); clear t1 t2 t3)
            refine ⟨⟨k + 1, (o ++ [z]), true, by go_num, by omega, rfl, hst, ?_⟩, by simp only [intOf]; omega⟩
            exact PM.hid hE.out
      · have r1 : decide (ec < z.cl) = true := by first | exact decide_eq_true (by omega) | (simp; omega)
        have r2 : (z.cl == ec) = false := by simp; omega
        have hbf : Hid (PM.bef z (⟨ec, es, fl⟩ : PM.Sb) = false) := PM.hid (by rw [← Bool.not_eq_true, PM.bef_iff]; simp only; omega)
        have hsm : Hid (PM.sameS (⟨ec, es, fl⟩ : PM.Sb) z = false) := PM.hid (by rw [← Bool.not_eq_true, PM.same_iff]; simp only; omega)
        clear hcl
        cases b
        · have hst : Hid (PM.rst kd (⟨ec, es, fl⟩ : PM.Sb) (l.take (k + 1)) = (((o ++ [(⟨ec, es, fl⟩ : PM.Sb)]) ++ [z]), true)) := PM.hid (by rw [PM.rst_snoc hzh.out, hoh.out]; unfold PM.rstep; rw [hbf.out, hsm.out]; simp)
          go_wp2_with fail
          go_quiet (fail)
          revert nq
          intro n1
          go_wp2_with (at_builtin; go_loud (refine PM.wpList_or1 tySb (PM.sbE_stays w _) (PM.sbE_lasts w) w2.heap.size (wr.drewN n1) rfl _ _ rfl _ (o) (⟨ec, es, fl⟩ : PM.Sb) (PM.sbCe ⟨ec, es, fl⟩ fa fF fc) _ rfl rfl rfl rfl hsR.out (PM.OR.keep (PM.sbE_lasts w) (PM.dN' (Below.refl _ wr) _) hOr.out) hlA.out.1 hlA.out.2 (PM.dN' hBr _).size ?_); intro v' w' t1 t2 t3; have hE := PM.hid (And.intro t1 ((PM.dN' hBr _).trans t2)); clear t1 t2 t3)
          replace hBr := hE.out.2
          replace hOr := PM.hid hE.out.1
          clear hE
          obtain ⟨wq, hwq⟩ : ∃ q, q = w' := ⟨_, rfl⟩
          rw [← hwq] at hBr hOr ⊢
          clear hwq c0 c1 c2 c3 c4 c5 c6 c7 s0 s1 s2 d0 d1 d2
          have c0 : wq.cell? ⟨gx, 0, none⟩ = some (.int .i64 kd) := (kx.keep hBr).cell 0
          have c1 : wq.cell? ⟨gx, 1, none⟩ = some (.int .i64 ib) := (kx.keep hBr).cell 1
          have c2 : wq.cell? ⟨gx, 2, none⟩ = some (.int .u64 (il : Int)) := (kx.keep hBr).cell 2
          have c3 : wq.cell? ⟨gx, 3, none⟩ = some (.int .u64 (is : Int)) := (kx.keep hBr).cell 3
          have c4 : wq.cell? ⟨gx, 4, none⟩ = some (.int .i64 ec) := (kx.keep hBr).cell 4
          have c5 : wq.cell? ⟨gx, 5, none⟩ = some (.int .u64 (es : Int)) := (kx.keep hBr).cell 5
          have c6 : wq.cell? ⟨gx, 6, none⟩ = some (.slice fa fF fc) := (kx.keep hBr).cell 6
          have c7 : wq.cell? ⟨gx, 7, none⟩ = some (e7) := (kx.keep hBr).cell 7
          have s0 : wq.cell? ⟨gs, 0, none⟩ = some (.int .i64 ec) := (ks.keep hBr).cell 0
          have s1 : wq.cell? ⟨gs, 1, none⟩ = some (.int .u64 (es : Int)) := (ks.keep hBr).cell 1
          have s2 : wq.cell? ⟨gs, 2, none⟩ = some (.slice fa fF fc) := (ks.keep hBr).cell 2
          have d0 : wq.cell? ⟨b0, b0o + k * 3, none⟩ = some (.int .i64 z.cl) := PM.cellA hBr (hdz.out 0 _ rfl)
          have d1 : wq.cell? ⟨b0, b0o + k * 3 + 1, none⟩ = some (.int .u64 (z.sub : Int)) := PM.cellA hBr (hdz.out 1 _ rfl)
          have d2 : wq.cell? ⟨b0, b0o + k * 3 + 2, none⟩ = some (.slice za zF zc) := PM.cellA hBr (hdz.out 2 _ rfl)
          go_quiet (fail)
          go_wp2_with (at_builtin; go_loud (refine PM.wpList_or1 tySb (PM.sbE_stays w _) (PM.sbE_lasts w) w2.heap.size (wq.drewN nq) rfl _ _ rfl _ ((o ++ [(⟨ec, es, fl⟩ : PM.Sb)])) z (PM.sbCe z za zF zc) _ rfl rfl rfl rfl hzR.out (PM.OR.keep (PM.sbE_lasts w) (PM.dN' (Below.refl _ wq) _) hOr.out) hlB.out.1 hlB.out.2 (PM.dN' hBr _).size ?_); intro v' w' t1 t2 t3; have hE := PM.hid (And.intro t1 ((PM.dN' hBr _).trans t2)); clear t1 t2 t3)
          refine ⟨⟨k + 1, ((o ++ [(⟨ec, es, fl⟩ : PM.Sb)]) ++ [z]), true, by go_num, by omega, rfl, hst, ?_⟩, by simp only [intOf]; omega⟩
          exact PM.hid hE.out
        · have hst : Hid (PM.rst kd (⟨ec, es, fl⟩ : PM.Sb) (l.take (k + 1)) = ((o ++ [z]), true)) := PM.hid (by rw [PM.rst_snoc hzh.out, hoh.out]; unfold PM.rstep; rw [hbf.out, hsm.out]; simp)
          go_wp2_with fail
          go_quiet (fail)
          revert nq
          intro n1
          go_wp2_with fail
          go_quiet (fail)
          go_wp2_with (at_builtin; go_loud (refine PM.wpList_or1 tySb (PM.sbE_stays w _) (PM.sbE_lasts w) w2.heap.size (wr.drewN (n1 + nq)) rfl _ _ rfl _ (o) z (PM.sbCe z za zF zc) _ rfl rfl rfl rfl hzR.out (PM.OR.keep (PM.sbE_lasts w) (PM.dN' (Below.refl _ wr) _) hOr.out) hlA.out.1 hlA.out.2 (PM.dN' hBr _).size ?_); intro v' w' t1 t2 t3; have hE := PM.hid (And.intro t1 ((PM.dN' hBr _).trans t2)); clear t1 t2 t3)
          refine ⟨⟨k + 1, (o ++ [z]), true, by go_num, by omega, rfl, hst, ?_⟩, by simp only [intOf]; omega⟩
          exact PM.hid hE.out
    · obtain rfl : k = N := by omega
      have hfin : Hid (PM.rst kd (⟨ec, es, fl⟩ : PM.Sb) l = (o, b)) := PM.hid (by have := hoh.out; rw [hNh.out, List.take_length] at this; exact this)
      have hl16 : (o.length + 1) * 40 ≤ 140737488355328 := by omega
      have hl17 : o.length + 1 ≤ maxLen := by unfold maxLen; omega
      have c0 : wr.cell? ⟨gx, 0, none⟩ = some (.int .i64 kd) := (kx.keep hBr).cell 0
      have c1 : wr.cell? ⟨gx, 1, none⟩ = some (.int .i64 ib) := (kx.keep hBr).cell 1
      have c2 : wr.cell? ⟨gx, 2, none⟩ = some (.int .u64 (il : Int)) := (kx.keep hBr).cell 2
      have c3 : wr.cell? ⟨gx, 3, none⟩ = some (.int .u64 (is : Int)) := (kx.keep hBr).cell 3
      have c4 : wr.cell? ⟨gx, 4, none⟩ = some (.int .i64 ec) := (kx.keep hBr).cell 4
      have c5 : wr.cell? ⟨gx, 5, none⟩ = some (.int .u64 (es : Int)) := (kx.keep hBr).cell 5
      have c6 : wr.cell? ⟨gx, 6, none⟩ = some (.slice fa fF fc) := (kx.keep hBr).cell 6
      have c7 : wr.cell? ⟨gx, 7, none⟩ = some (e7) := (kx.keep hBr).cell 7
      have s0 : wr.cell? ⟨gs, 0, none⟩ = some (.int .i64 ec) := (ks.keep hBr).cell 0
      have s1 : wr.cell? ⟨gs, 1, none⟩ = some (.int .u64 (es : Int)) := (ks.keep hBr).cell 1
      have s2 : wr.cell? ⟨gs, 2, none⟩ = some (.slice fa fF fc) := (ks.keep hBr).cell 2
      cases b
      · have hsz := hBr.size
        have hRs : PM.sbE w wr (PM.sbCe ⟨ec, es, fl⟩ fa fF fc).1 (⟨ec, es, fl⟩ : PM.Sb) := hsR.out
        have hO0 := hOr.out
        go_wp2_with (at_builtin; go_loud (refine PM.wpList_or1 tySb (PM.sbE_stays w _) (PM.sbE_lasts w) w2.heap.size wr rfl _ _ rfl _ o (⟨ec, es, fl⟩ : PM.Sb) (PM.sbCe ⟨ec, es, fl⟩ fa fF fc) _ rfl rfl rfl rfl hRs hO0 hl16 hl17 hsz ?_); intro v' w' t1 t2 t3; have hE := PM.hid (And.intro t1 (hBr.trans t2)); clear t1 t2 t3 hO0 hRs)
        go_ret
        exact ⟨_, rfl, by unfold PM.rapL; rw [hfin.out]; exact PM.OR.mono hBB.out.size hE.out.1, PM.chain hBB.out hE.out.2⟩
      · go_wp2_with fail
        go_ret
        exact ⟨_, rfl, by unfold PM.rapL; rw [hfin.out]; exact PM.OR.mono hBB.out.size hOr.out, PM.chain hBB.out hBr⟩
end Go.Proofs.YtnpbfjkfbobgaaaGreat
