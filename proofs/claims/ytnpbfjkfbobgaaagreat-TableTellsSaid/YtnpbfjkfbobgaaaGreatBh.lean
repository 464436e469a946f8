/-
  table.Cut, table.Batch.
-/
import Derived.Test.YtnpbfjkfbobgaaaGreatBg
namespace Go.Proofs.YtnpbfjkfbobgaaaGreat
open Go.RowKit
set_option linter.unusedVariables false
set_option linter.unusedSimpArgs false
namespace PM
/-- a list of one client -/
def L1 (c : Int) (v : Value) (W : World) : Prop := ∃ a d, v = .slice a 1 d ∧ ES iv W v [c]
end PM
set_option maxRecDepth 100000 in
set_option maxHeartbeats 16000000 in
theorem cut15_any (u : Value) (ca : Option Addr) (cn cc : Nat) (l : List PM.Sb) (cs : List Int) (kd ib : Int) (il is : Nat) (cl : Int) (sub : Nat) (fil : List PM.Te) (evs : List (List PM.At)) (fa : Option Addr) (F fc : Nat) (ea : Option Addr) (L ec : Nat) (w : World) (hF : F = fil.length) (hL : L = evs.length) (hv : PM.SbL w u l) (hl : l.length ≤ 30) (hls : ∀ x ∈ l, x.fil.length ≤ 1000) (hc : PM.ES PM.iv w (.slice ca cn cc) cs) (hf : PM.TV w (.slice fa F fc) fil) (he : PM.EVL w (.slice ea L ec) evs) (hs : PM.EnS ⟨kd, ⟨ib, il, is⟩, cl, sub, fil, evs⟩) :
    Calls Tryz.prog 14 #[u, .slice ca cn cc, .agg #[.int .i64 kd, .int .i64 ib, .int .u64 (il : Int), .int .u64 (is : Int), .int .i64 cl, .int .u64 (sub : Int), .slice fa F fc, .slice ea L ec]] w fun e w' => ∃ us, e = .returned (.agg (List.toArray us)) ∧ PM.enO 50 53 55 w.heap.size w' us (PM.cutE (PM.redL (PM.allL l cs)) ⟨kd, ⟨ib, il, is⟩, cl, sub, fil, evs⟩) ∧ Below w.heap.size w w' := by
  have hFh := PM.hid hF
  have Lh := PM.hid hL
  obtain ⟨M, hM⟩ : ∃ M, M = (evs.filter (PM.anyM (PM.redL (PM.allL l cs)))).length := ⟨_, rfl⟩
  have hMh := PM.hid hM
  have Mh := PM.hid hM
  have hvh := PM.hid hv
  have hlh := PM.hid (And.intro hl hls)
  have hch := PM.hid hc
  have hfe := PM.hid (And.intro hf he)
  have hsz : Hid (fil.length ≤ 1000 ∧ evs.length ≤ 1000 ∧ ∀ e ∈ evs, e.length ≤ 1000) := PM.hid hs
  clear hF hL hM hv hl hls hc hf he hs
  obtain ⟨gx, hgx⟩ : ∃ g, g = w.heap.size := ⟨_, rfl⟩
  obtain ⟨gz, hgz⟩ : ∃ g, g = w.heap.size + 1 := ⟨_, rfl⟩
  obtain ⟨w1, hw1⟩ : ∃ W, W = w.alloc (.cells #[.int .i64 kd, .int .i64 ib, .int .u64 (il : Int), .int .u64 (is : Int), .int .i64 cl, .int .u64 (sub : Int), .slice fa F fc, .slice ea L ec] 31) := ⟨_, rfl⟩
  obtain ⟨w2, hw2⟩ : ∃ W, W = w1.alloc (.cells #[.int .i64 0, .int .i64 0, .int .u64 0, .int .u64 0, .int .i64 0, .int .u64 0, .slice none 0 0, .slice none 0 0] 31) := ⟨_, rfl⟩
  have hs1 : w1.heap.size = w.heap.size + 1 := by rw [hw1]; simp
  have hal : Below w.heap.size w w1 := by rw [hw1]; exact (Below.refl _ _).alloc (Nat.le_refl _) _
  have hal2 : Below w1.heap.size w1 w2 := by rw [hw2]; exact (Below.refl _ _).alloc (Nat.le_refl _) _
  have kx : PM.BK w1 gx #[.int .i64 kd, .int .i64 ib, .int .u64 (il : Int), .int .u64 (is : Int), .int .i64 cl, .int .u64 (sub : Int), .slice fa F fc, .slice ea L ec] 31 := by rw [hw1, hgx]; exact PM.BK.new _ _ _
  replace kx := kx.keep hal2
  have kz : PM.BK w2 gz #[.int .i64 0, .int .i64 0, .int .u64 0, .int .u64 0, .int .i64 0, .int .u64 0, .slice none 0 0, .slice none 0 0] 31 := by rw [hw2, hgz, ← hs1]; exact PM.BK.new _ _ _
  have hne : gx ≠ gz := by omega
  have hgwx : w.heap.size ≤ gx := by omega
  have hgwz : w.heap.size ≤ gz := by omega
  have hBB := PM.hid (PM.chain hal hal2)
  clear hal hal2 hs1
  go_enter Tryz.func14, Tryz.ntmps14
  go_upto_region 1 with fail
  rw [← hw1, ← hw2, ← hgz, ← hgx]
  clear hw1 hw2 hgx hgz
  by_cases hk1 : kd = 1
  · have hcut : Hid ((⟨kd, ⟨ib, il, is⟩, cl, sub, fil, (evs.filter (PM.anyM (PM.redL (PM.allL l cs))))⟩ : PM.En) = PM.cutE (PM.redL (PM.allL l cs)) ⟨kd, ⟨ib, il, is⟩, cl, sub, fil, evs⟩) := PM.hid (by unfold PM.cutE; rw [if_pos hk1])
    have q1 : ((kd : Int) == 1) = true := by simp [hk1]
    clear hk1
    have kxh := PM.hid kx
    have kzh := PM.hid kz
    have c0 : w2.cell? ⟨gx, 0, none⟩ = some (.int .i64 kd) := kx.cell 0
    have c1 : w2.cell? ⟨gx, 1, none⟩ = some (.int .i64 ib) := kx.cell 1
    have c2 : w2.cell? ⟨gx, 2, none⟩ = some (.int .u64 (il : Int)) := kx.cell 2
    have c3 : w2.cell? ⟨gx, 3, none⟩ = some (.int .u64 (is : Int)) := kx.cell 3
    have c4 : w2.cell? ⟨gx, 4, none⟩ = some (.int .i64 cl) := kx.cell 4
    have c5 : w2.cell? ⟨gx, 5, none⟩ = some (.int .u64 (sub : Int)) := kx.cell 5
    have c6 : w2.cell? ⟨gx, 6, none⟩ = some (.slice fa F fc) := kx.cell 6
    have c7 : w2.cell? ⟨gx, 7, none⟩ = some (.slice ea L ec) := kx.cell 7
    clear kx kz
    go_upto_region 2 with fail
    clear c0 c1 c2 c3 c4 c5 c6 c7 q1
    refine PM.wp_region_st2 7 [some 10, some 11, some 12, some 13, some 14, some 15, some 16, none] [fun x _ => x = u, fun x _ => x = .slice ca cn cc, fun v W => PM.OR (PM.fO 50 w2.heap.size) 1 28 w2.heap.size W v (PM.redL (PM.allL l cs)), fun x _ => x = .pointer (some ⟨gx, 7, none⟩), fun x _ => x = .slice ea L ec, fun v W => ∃ ta tc, v = .slice ta M tc ∧ PM.OR (PM.evO 53 w2.heap.size) 1 55 w2.heap.size W (.slice ta M tc) (evs.filter (PM.anyM (PM.redL (PM.allL l cs)))), fun x _ => x = .pointer (some ⟨gx, 7, none⟩)] (by kernel_rfl) (by kernel_rfl) (by kernel_rfl) (by kernel_rfl) (by kernel_rfl) (of_decide_eq_true (by kernel_rfl)) (by kernel_rfl) ?_ ?_ ?_
    · simp only [List.forall_mem_cons]
      refine ⟨?_, ?_, ?_, ?_, ?_, ?_, ?_, by simp⟩
      all_goals (intro x W W' h hb; first | exact h | exact PM.BS.keep hb h | exact PM.OW.keep hb h | exact PM.OR.keep PM.fO_lasts hb h | (obtain ⟨a1, a2, h1, h2⟩ := h; exact ⟨a1, a2, h1, PM.OR.keep PM.evO_lasts hb h2⟩))
    · refine ⟨?_, ?_, ?_, ?_, ?_, ?_, ?_, trivial⟩
      all_goals
        intro a W hB hF hd
        have k0 := hF 0 rfl
        have k1 := hF 1 rfl
        have k5 := hF 5 rfl
        have hBW := PM.chain hBB.out hB
        have x0 : W.cell? ⟨gx, 0, none⟩ = some (.int .i64 kd) := (kxh.out.keep hB).cell 0
        have x1 : W.cell? ⟨gx, 1, none⟩ = some (.int .i64 ib) := (kxh.out.keep hB).cell 1
        have x2 : W.cell? ⟨gx, 2, none⟩ = some (.int .u64 (il : Int)) := (kxh.out.keep hB).cell 2
        have x3 : W.cell? ⟨gx, 3, none⟩ = some (.int .u64 (is : Int)) := (kxh.out.keep hB).cell 3
        have x4 : W.cell? ⟨gx, 4, none⟩ = some (.int .i64 cl) := (kxh.out.keep hB).cell 4
        have x5 : W.cell? ⟨gx, 5, none⟩ = some (.int .u64 (sub : Int)) := (kxh.out.keep hB).cell 5
        have x6 : W.cell? ⟨gx, 6, none⟩ = some (.slice fa F fc) := (kxh.out.keep hB).cell 6
        have x7 : W.cell? ⟨gx, 7, none⟩ = some (.slice ea L ec) := (kxh.out.keep hB).cell 7
        clear hF
        simp [PM.depsL, PM.spec, PM.sl, Region.binds] at hd k0 k1 k5
        simp only [PM.wantL, PM.spec]
        try simp only [PM.sl]
        go_simp
      all_goals try exact Below.refl _ _
      · refine (Filters15_any u ca cn cc l cs W (PM.SbL.keep hvh.out hBW) hlh.out.1 hlh.out.2 (hch.out.keep hBW)).mono ?_
        rintro e w' ⟨u', rfl, h1, hb⟩
        have h1' : PM.OR (PM.fO 50 w2.heap.size) 1 28 w2.heap.size w' u' (PM.redL (PM.allL l cs)) := (PM.OR.mono hB.size h1).imp' fun cs x h => PM.fO_mono hB.size h
        first | exact ⟨hb, h1'⟩ | exact ⟨hb, _, rfl, h1'⟩
      · refine (asked_any _ (.slice ea L ec) (PM.redL (PM.allL l cs)) evs W (hd.1.rr.imp fun cs x h => PM.fO_fR h) (PM.EVL.keepO hBW hfe.out.2) hsz.out.2.1 hsz.out.2.2).mono ?_
        rintro e w' ⟨u', rfl, h1, hb⟩
        have h1' := PM.evOr_mono hB.size h1
        obtain ⟨ta, tc, hte⟩ := h1'.rr.len
        rw [← hMh.out] at hte
        subst hte
        first | exact ⟨hb, _, _, rfl, h1'⟩ | exact ⟨hb, _, rfl, _, _, rfl, h1'⟩
    · intro G W hB hF hS
      simp [PM.allSp, PM.spec] at hS
      obtain ⟨h10, h12, h11, h13, h14, h15, h16⟩ : (G 10 = u ∧ True ∧ G 11 = .slice ca cn cc ∧ G 13 = .pointer (some ⟨gx, 7, none⟩) ∧ G 14 = .slice ea L ec ∧ (∃ ta tc, G 15 = .slice ta M tc ∧ PM.OR (PM.evO 53 w2.heap.size) 1 55 w2.heap.size W (.slice ta M tc) (evs.filter (PM.anyM (PM.redL (PM.allL l cs))))) ∧ G 16 = .pointer (some ⟨gx, 7, none⟩)) := ⟨hS.1, trivial, hS.2.1, hS.2.2.2.1, hS.2.2.2.2.1, hS.2.2.2.2.2.1, hS.2.2.2.2.2.2⟩
      clear hS h12
      obtain ⟨ya, yc, h15e, h15o⟩ := h15
      have k0 := hF 0 rfl
      have k1 := hF 1 rfl
      have k2 := hF 2 rfl
      have k3 := hF 3 rfl
      have k4 := hF 4 rfl
      have k5 := hF 5 rfl
      have k6 := hF 6 rfl
      have k7 := hF 7 rfl
      have k8 := hF 8 rfl
      have k9 := hF 9 rfl
      have k17 := hF 17 rfl
      have k18 := hF 18 rfl
      simp [PM.sl] at k0 k1 k2 k3 k4 k5 k6 k7 k8 k9 k17 k18
      rw [show ((List.range (Array.size _)).map G).toArray = #[G 0, G 1, G 2, G 3, G 4, G 5, G 6, G 7, G 8, G 9, G 10, G 11, G 12, G 13, G 14, G 15, G 16, G 17, G 18] from rfl]
      clear hF
      obtain ⟨v12, hv12⟩ : ∃ v, v = G 12 := ⟨_, rfl⟩
      rw [h10, h11, ← hv12, h13, h14, h15e, h16, k0, k1, k2, k3, k4, k5, k6, k7, k8, k9, k17, k18]
      clear h10 h11 h13 h14 h15e h16 hv12 k0 k1 k2 k3 k4 k5 k6 k7 k8 k9 k17 k18
      have kx := kxh.out.keep hB
      have kz := kzh.out.keep hB
      have hBW := PM.hid (PM.chain hBB.out hB)
      have c0 : W.cell? ⟨gx, 0, none⟩ = some (.int .i64 kd) := kx.cell 0
      have c1 : W.cell? ⟨gx, 1, none⟩ = some (.int .i64 ib) := kx.cell 1
      have c2 : W.cell? ⟨gx, 2, none⟩ = some (.int .u64 (il : Int)) := kx.cell 2
      have c3 : W.cell? ⟨gx, 3, none⟩ = some (.int .u64 (is : Int)) := kx.cell 3
      have c4 : W.cell? ⟨gx, 4, none⟩ = some (.int .i64 cl) := kx.cell 4
      have c5 : W.cell? ⟨gx, 5, none⟩ = some (.int .u64 (sub : Int)) := kx.cell 5
      have c6 : W.cell? ⟨gx, 6, none⟩ = some (.slice fa F fc) := kx.cell 6
      have c7 : W.cell? ⟨gx, 7, none⟩ = some (.slice ea L ec) := kx.cell 7
      have q0 := fun i => PM.BK.free kx i
      go_upto_region 3 with fail
      obtain ⟨w4, hw4⟩ : ∃ X, X = W.setCell ⟨gx, 7, none⟩ (.slice ya M yc) := ⟨_, rfl⟩
      have hx4 : PM.Bx gx W w4 := by rw [hw4]; exact PM.Bx.set gx 7 _ _
      have he4 := PM.evOr_keepx h15o hx4 kx (by decide) (by decide)
      have hf : PM.TV w4 (.slice fa F fc) fil := hfe.out.1.keep (PM.Bx.below hBW.out hx4 hgwx hBW.out.size)
      have kx4 : PM.BK w4 gx #[.int .i64 kd, .int .i64 ib, .int .u64 (il : Int), .int .u64 (is : Int), .int .i64 cl, .int .u64 (sub : Int), .slice fa F fc, .slice ya M yc] 31 := by rw [hw4]; exact (kx.set 7 _).seeO (by simp)
      replace kz := kz.keepx hx4 (Ne.symm hne)
      rw [← hw4]
      clear hw4 q0 kx h15o c0 c1 c2 c3 c4 c5 c6 c7
      have hBB := PM.hid (PM.Bx.below hBW.out hx4 hgwx hBW.out.size)
      clear hx4 hBW hB
      have kx := kx4
      have he : PM.EVL w4 (.slice ya M yc) (evs.filter (PM.anyM (PM.redL (PM.allL l cs)))) := he4.rr.imp fun cs x ⟨v, h1, h2⟩ => ⟨v, h1, (h2.em PM.attL_len).ev⟩
      clear kx4 he4
      have hEnS : PM.EnS ⟨kd, ⟨ib, il, is⟩, cl, sub, fil, (evs.filter (PM.anyM (PM.redL (PM.allL l cs))))⟩ := ⟨hsz.out.1, Nat.le_trans (List.length_filter_le _ _) hsz.out.2.1, fun e h => hsz.out.2.2 e (List.mem_filter.1 h).1⟩
      have c0 : w4.cell? ⟨gx, 0, none⟩ = some (.int .i64 kd) := kx.cell 0
      have c1 : w4.cell? ⟨gx, 1, none⟩ = some (.int .i64 ib) := kx.cell 1
      have c2 : w4.cell? ⟨gx, 2, none⟩ = some (.int .u64 (il : Int)) := kx.cell 2
      have c3 : w4.cell? ⟨gx, 3, none⟩ = some (.int .u64 (is : Int)) := kx.cell 3
      have c4 : w4.cell? ⟨gx, 4, none⟩ = some (.int .i64 cl) := kx.cell 4
      have c5 : w4.cell? ⟨gx, 5, none⟩ = some (.int .u64 (sub : Int)) := kx.cell 5
      have c6 : w4.cell? ⟨gx, 6, none⟩ = some (.slice fa F fc) := kx.cell 6
      have c7 : w4.cell? ⟨gx, 7, none⟩ = some (.slice ya M yc) := kx.cell 7
      have hcc : Calls Tryz.prog 38 #[.agg #[.int .i64 kd, .int .i64 ib, .int .u64 (il : Int), .int .u64 (is : Int), .int .i64 cl, .int .u64 (sub : Int), .slice fa F fc, .slice ya M yc]] w4 fun e w' => ∃ ua uc ta tc, e = .returned (.agg #[.int .i64 kd, .int .i64 ib, .int .u64 (il : Int), .int .u64 (is : Int), .int .i64 cl, .int .u64 (sub : Int), .slice ua F uc, .slice ta M tc]) ∧ PM.enO 50 53 55 w4.heap.size w' [.int .i64 kd, .int .i64 ib, .int .u64 (il : Int), .int .u64 (is : Int), .int .i64 cl, .int .u64 (sub : Int), .slice ua F uc, .slice ta M tc] ⟨kd, ⟨ib, il, is⟩, cl, sub, fil, (evs.filter (PM.anyM (PM.redL (PM.allL l cs))))⟩ ∧ Below w4.heap.size w4 w' := by
        rw [hFh.out, Mh.out]
        rw [hFh.out] at hf
        rw [Mh.out] at he
        exact ownEn_any ⟨kd, ⟨ib, il, is⟩, cl, sub, fil, (evs.filter (PM.anyM (PM.redL (PM.allL l cs))))⟩ _ _ w4 hf he hEnS
      clear hf he hEnS
      go_wp2_with fail
      refine hcc.mono ?_
      clear hcc
      rintro e w5 ⟨ua, uc, ta, tc, rfl, ho, hBn⟩
      clear c0 c1 c2 c3 c4 c5 c6 c7
      replace kz := kz.keep hBn
      replace ho := PM.enO_mono hBB.out.size ho
      replace hBB := PM.hid (PM.chain hBB.out hBn)
      clear hBn kx
      have z0 : w5.cell? ⟨gz, 0, none⟩ = some (.int .i64 0) := kz.cell 0
      have z1 : w5.cell? ⟨gz, 1, none⟩ = some (.int .i64 0) := kz.cell 1
      have z2 : w5.cell? ⟨gz, 2, none⟩ = some (.int .u64 0) := kz.cell 2
      have z3 : w5.cell? ⟨gz, 3, none⟩ = some (.int .u64 0) := kz.cell 3
      have z4 : w5.cell? ⟨gz, 4, none⟩ = some (.int .i64 0) := kz.cell 4
      have z5 : w5.cell? ⟨gz, 5, none⟩ = some (.int .u64 0) := kz.cell 5
      have z6 : w5.cell? ⟨gz, 6, none⟩ = some (.slice none 0 0) := kz.cell 6
      have z7 : w5.cell? ⟨gz, 7, none⟩ = some (.slice none 0 0) := kz.cell 7
      have q0 := fun i => PM.BK.free kz i
      go_wp2_with fail
      obtain ⟨w7, hw7⟩ : ∃ W, W = ((((((((w5.setCell ⟨gz, 0, none⟩ (.int .i64 kd)).setCell ⟨gz, 1, none⟩ (.int .i64 ib)).setCell ⟨gz, 2, none⟩ (.int .u64 (il : Int))).setCell ⟨gz, 3, none⟩ (.int .u64 (is : Int))).setCell ⟨gz, 4, none⟩ (.int .i64 cl)).setCell ⟨gz, 5, none⟩ (.int .u64 (sub : Int))).setCell ⟨gz, 6, none⟩ (.slice ua F uc)).setCell ⟨gz, 7, none⟩ (.slice ta M tc)) := ⟨_, rfl⟩
      have hx7 : PM.Bx gz w5 w7 := by rw [hw7]; exact PM.Bx.set8o gz w5 _ _ _ _ _ _ _ _
      have ho7 : PM.enO 50 53 55 w.heap.size w7 [.int .i64 kd, .int .i64 ib, .int .u64 (il : Int), .int .u64 (is : Int), .int .i64 cl, .int .u64 (sub : Int), .slice ua F uc, .slice ta M tc] ⟨kd, ⟨ib, il, is⟩, cl, sub, fil, (evs.filter (PM.anyM (PM.redL (PM.allL l cs))))⟩ := by
        obtain ⟨fv, ev, h1, h2, h3⟩ := ho
        exact ⟨fv, ev, h1, h2.keepx hx7 kz (by decide), PM.evOr_keepx h3 hx7 kz (by decide) (by decide)⟩
      have kz7 : PM.BK w7 gz #[.int .i64 kd, .int .i64 ib, .int .u64 (il : Int), .int .u64 (is : Int), .int .i64 cl, .int .u64 (sub : Int), .slice ua F uc, .slice ta M tc] 31 := by rw [hw7]; exact PM.BK.set8o kz _ _ _ _ _ _ _ _
      rw [← hw7]
      clear hw7 q0 kz ho
      clear z0 z1 z2 z3 z4 z5 z6 z7
      replace hBB := PM.hid (PM.Bx.below hBB.out hx7 hgwz hBB.out.size)
      clear hx7
      have z0 : w7.cell? ⟨gz, 0, none⟩ = some (.int .i64 kd) := kz7.cell 0
      have z1 : w7.cell? ⟨gz, 1, none⟩ = some (.int .i64 ib) := kz7.cell 1
      have z2 : w7.cell? ⟨gz, 2, none⟩ = some (.int .u64 (il : Int)) := kz7.cell 2
      have z3 : w7.cell? ⟨gz, 3, none⟩ = some (.int .u64 (is : Int)) := kz7.cell 3
      have z4 : w7.cell? ⟨gz, 4, none⟩ = some (.int .i64 cl) := kz7.cell 4
      have z5 : w7.cell? ⟨gz, 5, none⟩ = some (.int .u64 (sub : Int)) := kz7.cell 5
      have z6 : w7.cell? ⟨gz, 6, none⟩ = some (.slice ua F uc) := kz7.cell 6
      have z7 : w7.cell? ⟨gz, 7, none⟩ = some (.slice ta M tc) := kz7.cell 7
      have hfi := PM.hid ho7
      clear ho7 kz7
      refine bodyPost_ret (v := .agg #[.int .i64 kd, .int .i64 ib, .int .u64 (il : Int), .int .u64 (is : Int), .int .i64 cl, .int .u64 (sub : Int), .slice ua F uc, .slice ta M tc]) (by simp [results, Tryz.results14, go_sem, z0, z1, z2, z3, z4, z5, z6, z7]) rfl ?_
      exact ⟨_, rfl, by rw [← hcut.out]; exact hfi.out, hBB.out⟩
  · have hcut : Hid ((⟨kd, ⟨ib, il, is⟩, cl, sub, fil, evs⟩ : PM.En) = PM.cutE (PM.redL (PM.allL l cs)) ⟨kd, ⟨ib, il, is⟩, cl, sub, fil, evs⟩) := PM.hid (by unfold PM.cutE; rw [if_neg hk1])
    have q1 : ((kd : Int) == 1) = false := by simp [hk1]
    clear hk1
    have hf := hfe.out.1.keep hBB.out
    have he := PM.EVL.keepO hBB.out hfe.out.2
    have hEnS : PM.EnS ⟨kd, ⟨ib, il, is⟩, cl, sub, fil, evs⟩ := hsz.out
    have c0 : w2.cell? ⟨gx, 0, none⟩ = some (.int .i64 kd) := kx.cell 0
    have c1 : w2.cell? ⟨gx, 1, none⟩ = some (.int .i64 ib) := kx.cell 1
    have c2 : w2.cell? ⟨gx, 2, none⟩ = some (.int .u64 (il : Int)) := kx.cell 2
    have c3 : w2.cell? ⟨gx, 3, none⟩ = some (.int .u64 (is : Int)) := kx.cell 3
    have c4 : w2.cell? ⟨gx, 4, none⟩ = some (.int .i64 cl) := kx.cell 4
    have c5 : w2.cell? ⟨gx, 5, none⟩ = some (.int .u64 (sub : Int)) := kx.cell 5
    have c6 : w2.cell? ⟨gx, 6, none⟩ = some (.slice fa F fc) := kx.cell 6
    have c7 : w2.cell? ⟨gx, 7, none⟩ = some (.slice ea L ec) := kx.cell 7
    have hcc : Calls Tryz.prog 38 #[.agg #[.int .i64 kd, .int .i64 ib, .int .u64 (il : Int), .int .u64 (is : Int), .int .i64 cl, .int .u64 (sub : Int), .slice fa F fc, .slice ea L ec]] w2 fun e w' => ∃ ua uc ta tc, e = .returned (.agg #[.int .i64 kd, .int .i64 ib, .int .u64 (il : Int), .int .u64 (is : Int), .int .i64 cl, .int .u64 (sub : Int), .slice ua F uc, .slice ta L tc]) ∧ PM.enO 50 53 55 w2.heap.size w' [.int .i64 kd, .int .i64 ib, .int .u64 (il : Int), .int .u64 (is : Int), .int .i64 cl, .int .u64 (sub : Int), .slice ua F uc, .slice ta L tc] ⟨kd, ⟨ib, il, is⟩, cl, sub, fil, evs⟩ ∧ Below w2.heap.size w2 w' := by
      rw [hFh.out, Lh.out]
      rw [hFh.out] at hf
      rw [Lh.out] at he
      exact ownEn_any ⟨kd, ⟨ib, il, is⟩, cl, sub, fil, evs⟩ _ _ w2 hf he hEnS
    clear hf he hEnS
    go_wp2_with fail
    refine hcc.mono ?_
    clear hcc
    rintro e w5 ⟨ua, uc, ta, tc, rfl, ho, hBn⟩
    clear c0 c1 c2 c3 c4 c5 c6 c7
    replace kz := kz.keep hBn
    replace ho := PM.enO_mono hBB.out.size ho
    replace hBB := PM.hid (PM.chain hBB.out hBn)
    clear hBn kx
    have z0 : w5.cell? ⟨gz, 0, none⟩ = some (.int .i64 0) := kz.cell 0
    have z1 : w5.cell? ⟨gz, 1, none⟩ = some (.int .i64 0) := kz.cell 1
    have z2 : w5.cell? ⟨gz, 2, none⟩ = some (.int .u64 0) := kz.cell 2
    have z3 : w5.cell? ⟨gz, 3, none⟩ = some (.int .u64 0) := kz.cell 3
    have z4 : w5.cell? ⟨gz, 4, none⟩ = some (.int .i64 0) := kz.cell 4
    have z5 : w5.cell? ⟨gz, 5, none⟩ = some (.int .u64 0) := kz.cell 5
    have z6 : w5.cell? ⟨gz, 6, none⟩ = some (.slice none 0 0) := kz.cell 6
    have z7 : w5.cell? ⟨gz, 7, none⟩ = some (.slice none 0 0) := kz.cell 7
    have q0 := fun i => PM.BK.free kz i
    go_wp2_with fail
    obtain ⟨w7, hw7⟩ : ∃ W, W = ((((((((w5.setCell ⟨gz, 0, none⟩ (.int .i64 kd)).setCell ⟨gz, 1, none⟩ (.int .i64 ib)).setCell ⟨gz, 2, none⟩ (.int .u64 (il : Int))).setCell ⟨gz, 3, none⟩ (.int .u64 (is : Int))).setCell ⟨gz, 4, none⟩ (.int .i64 cl)).setCell ⟨gz, 5, none⟩ (.int .u64 (sub : Int))).setCell ⟨gz, 6, none⟩ (.slice ua F uc)).setCell ⟨gz, 7, none⟩ (.slice ta L tc)) := ⟨_, rfl⟩
    have hx7 : PM.Bx gz w5 w7 := by rw [hw7]; exact PM.Bx.set8o gz w5 _ _ _ _ _ _ _ _
    have ho7 : PM.enO 50 53 55 w.heap.size w7 [.int .i64 kd, .int .i64 ib, .int .u64 (il : Int), .int .u64 (is : Int), .int .i64 cl, .int .u64 (sub : Int), .slice ua F uc, .slice ta L tc] ⟨kd, ⟨ib, il, is⟩, cl, sub, fil, evs⟩ := by
      obtain ⟨fv, ev, h1, h2, h3⟩ := ho
      exact ⟨fv, ev, h1, h2.keepx hx7 kz (by decide), PM.evOr_keepx h3 hx7 kz (by decide) (by decide)⟩
    have kz7 : PM.BK w7 gz #[.int .i64 kd, .int .i64 ib, .int .u64 (il : Int), .int .u64 (is : Int), .int .i64 cl, .int .u64 (sub : Int), .slice ua F uc, .slice ta L tc] 31 := by rw [hw7]; exact PM.BK.set8o kz _ _ _ _ _ _ _ _
    rw [← hw7]
    clear hw7 q0 kz ho
    clear z0 z1 z2 z3 z4 z5 z6 z7
    replace hBB := PM.hid (PM.Bx.below hBB.out hx7 hgwz hBB.out.size)
    clear hx7
    have z0 : w7.cell? ⟨gz, 0, none⟩ = some (.int .i64 kd) := kz7.cell 0
    have z1 : w7.cell? ⟨gz, 1, none⟩ = some (.int .i64 ib) := kz7.cell 1
    have z2 : w7.cell? ⟨gz, 2, none⟩ = some (.int .u64 (il : Int)) := kz7.cell 2
    have z3 : w7.cell? ⟨gz, 3, none⟩ = some (.int .u64 (is : Int)) := kz7.cell 3
    have z4 : w7.cell? ⟨gz, 4, none⟩ = some (.int .i64 cl) := kz7.cell 4
    have z5 : w7.cell? ⟨gz, 5, none⟩ = some (.int .u64 (sub : Int)) := kz7.cell 5
    have z6 : w7.cell? ⟨gz, 6, none⟩ = some (.slice ua F uc) := kz7.cell 6
    have z7 : w7.cell? ⟨gz, 7, none⟩ = some (.slice ta L tc) := kz7.cell 7
    have hfi := PM.hid ho7
    clear ho7 kz7
    refine bodyPost_ret (v := .agg #[.int .i64 kd, .int .i64 ib, .int .u64 (il : Int), .int .u64 (is : Int), .int .i64 cl, .int .u64 (sub : Int), .slice ua F uc, .slice ta L tc]) (by simp [results, Tryz.results14, go_sem, z0, z1, z2, z3, z4, z5, z6, z7]) rfl ?_
    exact ⟨_, rfl, by rw [← hcut.out]; exact hfi.out, hBB.out⟩
set_option maxRecDepth 100000 in
set_option maxHeartbeats 16000000 in
theorem batch15_any (u : Value) (c : Int) (l : List PM.Sb) (kd ib : Int) (il is : Nat) (cl : Int) (sub : Nat) (fil : List PM.Te) (evs : List (List PM.At)) (fa : Option Addr) (F fc : Nat) (ea : Option Addr) (L ec : Nat) (w : World) (hL : L = evs.length) (hv : PM.SbL w u l) (hl : l.length ≤ 1000) (he : PM.EVL w (.slice ea L ec) evs) (hs : evs.length ≤ 1000 ∧ ∀ e ∈ evs, e.length ≤ 1000) :
    Calls Tryz.prog 17 #[u, .int .i64 c, .agg #[.int .i64 kd, .int .i64 ib, .int .u64 (il : Int), .int .u64 (is : Int), .int .i64 cl, .int .u64 (sub : Int), .slice fa F fc, .slice ea L ec]] w fun e w' => ∃ u', e = .returned u' ∧ PM.OR (PM.evO 53 w.heap.size) 1 55 w.heap.size w' u' (PM.batchL l c ⟨kd, ⟨ib, il, is⟩, cl, sub, fil, evs⟩) ∧ Below w.heap.size w w' := by
  have Lh := PM.hid hL
  have hvh := PM.hid hv
  have hlh := PM.hid hl
  have hfe := PM.hid he
  have hsz := PM.hid hs
  clear hL hv hl he hs
  obtain ⟨gx, hgx⟩ : ∃ g, g = w.heap.size := ⟨_, rfl⟩
  obtain ⟨w1, hw1⟩ : ∃ W, W = w.alloc (.cells #[.int .i64 kd, .int .i64 ib, .int .u64 (il : Int), .int .u64 (is : Int), .int .i64 cl, .int .u64 (sub : Int), .slice fa F fc, .slice ea L ec] 31) := ⟨_, rfl⟩
  have hal : Below w.heap.size w w1 := by rw [hw1]; exact (Below.refl _ _).alloc (Nat.le_refl _) _
  have kx : PM.BK w1 gx #[.int .i64 kd, .int .i64 ib, .int .u64 (il : Int), .int .u64 (is : Int), .int .i64 cl, .int .u64 (sub : Int), .slice fa F fc, .slice ea L ec] 31 := by rw [hw1, hgx]; exact PM.BK.new _ _ _
  have hBB := PM.hid hal
  have kxh := PM.hid kx
  clear hal
  go_enter Tryz.func17, Tryz.ntmps17
  go_upto_region 1 with fail
  rw [← hw1, ← hgx]
  clear hw1 hgx
  have c0 : w1.cell? ⟨gx, 0, none⟩ = some (.int .i64 kd) := kx.cell 0
  have c1 : w1.cell? ⟨gx, 1, none⟩ = some (.int .i64 ib) := kx.cell 1
  have c2 : w1.cell? ⟨gx, 2, none⟩ = some (.int .u64 (il : Int)) := kx.cell 2
  have c3 : w1.cell? ⟨gx, 3, none⟩ = some (.int .u64 (is : Int)) := kx.cell 3
  have c4 : w1.cell? ⟨gx, 4, none⟩ = some (.int .i64 cl) := kx.cell 4
  have c5 : w1.cell? ⟨gx, 5, none⟩ = some (.int .u64 (sub : Int)) := kx.cell 5
  have c6 : w1.cell? ⟨gx, 6, none⟩ = some (.slice fa F fc) := kx.cell 6
  have c7 : w1.cell? ⟨gx, 7, none⟩ = some (.slice ea L ec) := kx.cell 7
  clear kx
  by_cases hk1 : kd = 1
  · have hbt : Hid ((evs.filter (PM.anyM (PM.allL l [c]))) = PM.batchL l c ⟨kd, ⟨ib, il, is⟩, cl, sub, fil, evs⟩) := PM.hid (by unfold PM.batchL; rw [if_pos hk1])
    have q1 : ((kd : Int) != 1) = false := by simp [hk1]
    clear hk1
    go_upto_region 3 with fail
    clear c0 c1 c2 c3 c4 c5 c6 c7 q1
    refine PM.wp_region_st [some 10, some 11, some 12, some 13, some 14, some 15, some 16, some 6] [fun x _ => x = u, fun x _ => x = .int .i64 c, fun v W => PM.L1 c v W, fun v W => PM.FL W v (PM.allL l [c]), fun x _ => x = .pointer (some ⟨gx, 7, none⟩), fun x _ => x = .slice ea L ec, fun v W => PM.OR (PM.evO 53 w1.heap.size) 1 55 w1.heap.size W v (evs.filter (PM.anyM (PM.allL l [c]))), fun v W => PM.OR (PM.evO 53 w1.heap.size) 1 55 w1.heap.size W v (evs.filter (PM.anyM (PM.allL l [c])))] (by kernel_rfl) (by kernel_rfl) (by kernel_rfl) ?_ ?_ ?_
    · simp only [List.forall_mem_cons]
      refine ⟨?_, ?_, ?_, ?_, ?_, ?_, ?_, ?_, by simp⟩
      all_goals (intro x W W' h hb; first | exact h | exact PM.BS.keep hb h | exact PM.OW.keep hb h | exact PM.FL.keep hb h | exact PM.OR.keep PM.evO_lasts hb h | (obtain ⟨a1, a2, h1, h2⟩ := h; exact ⟨a1, a2, h1, h2.keep hb⟩))
    · refine ⟨?_, ?_, ?_, ?_, ?_, ?_, ?_, ?_, trivial⟩
      all_goals
        intro a W hB hF hd
        have k0 := hF 0 rfl
        have k1 := hF 1 rfl
        have k5 := hF 5 rfl
        have hBW := PM.chain hBB.out hB
        have x0 : W.cell? ⟨gx, 0, none⟩ = some (.int .i64 kd) := (kxh.out.keep hB).cell 0
        have x1 : W.cell? ⟨gx, 1, none⟩ = some (.int .i64 ib) := (kxh.out.keep hB).cell 1
        have x2 : W.cell? ⟨gx, 2, none⟩ = some (.int .u64 (il : Int)) := (kxh.out.keep hB).cell 2
        have x3 : W.cell? ⟨gx, 3, none⟩ = some (.int .u64 (is : Int)) := (kxh.out.keep hB).cell 3
        have x4 : W.cell? ⟨gx, 4, none⟩ = some (.int .i64 cl) := (kxh.out.keep hB).cell 4
        have x5 : W.cell? ⟨gx, 5, none⟩ = some (.int .u64 (sub : Int)) := (kxh.out.keep hB).cell 5
        have x6 : W.cell? ⟨gx, 6, none⟩ = some (.slice fa F fc) := (kxh.out.keep hB).cell 6
        have x7 : W.cell? ⟨gx, 7, none⟩ = some (.slice ea L ec) := (kxh.out.keep hB).cell 7
        clear hF
        simp [PM.depsL, PM.spec, PM.sl, Region.binds] at hd k0 k1 k5
        simp only [PM.wantL, PM.spec]
        try simp only [PM.sl]
        go_simp
      all_goals try exact Below.refl _ _
      · have hlit := PM.ES.lit (e := PM.iv) W 3 [c] (by simp [maxLen])
        have hb : Below W.heap.size W (W.alloc (.cells #[.int .i64 c] 3)) := (Below.refl _ _).alloc (Nat.le_refl _) _
        have hL1 : PM.L1 c (.slice (some ⟨W.heap.size, 0, none⟩) 1 1) (W.alloc (.cells #[.int .i64 c] 3)) := ⟨_, _, rfl, hlit⟩
        first | exact ⟨hb, _, rfl, hL1⟩ | exact ⟨hb, hL1⟩
      · have hd9 := hd.2
        obtain ⟨a, d, hd2, hd3⟩ := hd9
        rw [hd2] at hd3
        simp only [hd2]
        refine (all15_any u a 1 d l [c] W (PM.SbL.keep hvh.out hBW) hlh.out hd3).mono ?_
        rintro e w' ⟨u', rfl, h1, hb⟩
        first | exact ⟨hb, h1⟩ | exact ⟨hb, _, rfl, h1⟩
      · refine (asked_any _ (.slice ea L ec) (PM.allL l [c]) evs W (by first | exact hd.1 | exact hd) (PM.EVL.keepO hBW hfe.out) hsz.out.1 hsz.out.2).mono ?_
        rintro e w' ⟨u', rfl, h1, hb⟩
        have h1' := PM.evOr_mono hB.size h1
        first | exact ⟨hb, h1'⟩ | exact ⟨hb, _, rfl, h1'⟩
      · first | exact ⟨Below.refl _ _, _, rfl, hd.1⟩ | exact ⟨Below.refl _ _, hd.1⟩ | exact ⟨Below.refl _ _, hd⟩ | exact ⟨Below.refl _ _, _, rfl, hd⟩ | exact hd
    · intro G W hB hF hS
      simp [PM.allSp, PM.spec] at hS
      have h6 : PM.OR (PM.evO 53 w1.heap.size) 1 55 w1.heap.size W (G 6) (evs.filter (PM.anyM (PM.allL l [c]))) := hS.2.2.2.2.2.2.2
      clear hS
      have k0 := hF 0 rfl
      have k1 := hF 1 rfl
      have k2 := hF 2 rfl
      have k3 := hF 3 rfl
      have k4 := hF 4 rfl
      have k5 := hF 5 rfl
      have k7 := hF 7 rfl
      have k8 := hF 8 rfl
      have k9 := hF 9 rfl
      simp [PM.sl] at k0 k1 k2 k3 k4 k5 k7 k8 k9
      rw [show ((List.range (Array.size _)).map G).toArray = #[G 0, G 1, G 2, G 3, G 4, G 5, G 6, G 7, G 8, G 9, G 10, G 11, G 12, G 13, G 14, G 15, G 16] from rfl]
      clear hF
      obtain ⟨v6, hv6⟩ : ∃ v, v = G 6 := ⟨_, rfl⟩
      rw [← hv6] at h6
      rw [← hv6, k0, k1, k2, k3, k4, k5, k7, k8, k9]
      clear hv6 k0 k1 k2 k3 k4 k5 k7 k8 k9
      have hend := PM.hid (And.intro (PM.evOr_mono hBB.out.size h6) (PM.chain hBB.out hB))
      clear h6 hB
      go_wp2_with fail
      go_ret
      exact ⟨_, rfl, by rw [← hbt.out]; exact hend.out.1, hend.out.2⟩
  · have hbt : Hid (([] : List (List PM.At)) = PM.batchL l c ⟨kd, ⟨ib, il, is⟩, cl, sub, fil, evs⟩) := PM.hid (by unfold PM.batchL; rw [if_neg hk1])
    have q1 : ((kd : Int) != 1) = true := by simp [hk1]
    clear hk1
    go_wp2_with fail
    go_ret
    exact ⟨_, rfl, by rw [← hbt.out]; exact PM.OR.nilrow _, hBB.out⟩
end Go.Proofs.YtnpbfjkfbobgaaaGreat
