/-
  Publish of package stage: the last closure. (Written by tools/mk_xe.py x.)
-/
import Derived.Test.YtnjcociidipogaaYe
namespace Go.Proofs.Ytnjcociidipogaa
open Go.RowKit
set_option linter.unusedVariables false
set_option linter.unusedSimpArgs false
namespace PM
theorem enO_parts {B : Nat} {w : World} {fv ev : Value} {x : En} (h : enO 93 64 29 B w (enC x fv ev) x) : OM teL 5 93 B w fv x.fil ∧ OR (evO 64 B) 1 29 B w ev x.evs := by
  obtain ⟨fv', ev', h1, h2, h3⟩ := h
  unfold enC at h1
  simp only [List.cons.injEq, and_true, true_and] at h1
  obtain ⟨rfl, rfl⟩ := h1
  exact ⟨h2, h3⟩
end PM
set_option maxRecDepth 100000 in
set_option maxHeartbeats 16000000 in
theorem pub4_any (g3 g9 g10 g5 k : Nat) (la : Option Addr) (ln lc : Nat) (xa : Option Addr) (xn xc : Nat) (ev : List PM.At) (z : PM.En) (q : Bool) (l : List PM.Tx) (w0 w : World) (k3 : PM.BK w g3 #[.slice la ln lc] 27) (k9 : PM.BK w g9 #[.int .i64 (k : Int)] 3) (k10 : PM.BK w g10 #[.int .i64 0, .int .i64 0, .int .u64 0, .int .u64 0, .int .i64 0, .int .u64 0, .slice none 0 0, .slice none 0 0] 34) (k5 : PM.BK w g5 #[.slice xa xn xc] 29)
    (hv : PM.TxL w (.slice la ln lc) l) (hx : l[k]? = some ⟨z, q⟩) (hl1 : l.length ≤ 1000) (hs : PM.EnS z) (hzw : z.wf) (hev : PM.EM PM.attL 4 w0 (.slice xa xn xc) ev) (hel0 : ev.length ≤ 1000) (hew : ∀ y ∈ ev, y.wf) (h8 : z.evs.length < 8) (hb0 : Below w0.heap.size w0 w) (hg10 : w0.heap.size ≤ g10) (hne : g5 ≠ g10) :
    Calls Try.prog 44 #[.pointer (some ⟨g3, 0, none⟩), .pointer (some ⟨g9, 0, none⟩), .pointer (some ⟨g10, 0, none⟩), .pointer (some ⟨g5, 0, none⟩)] w fun e w' => e = .returned (.int .i64 (PM.unls (PM.smlT (PM.growE z ev)) 172)) ∧ PM.Bx g10 w w' ∧ ∃ zF, PM.PI w.heap.size g10 z ev zF w' := by
  have hln : ln = l.length := by obtain ⟨_, _, h⟩ := hv.len; injection h
  have hlt : k < ln := by rw [hln]; exact (List.getElem?_eq_some_iff.1 hx).1
  rw [← hln] at hl1
  obtain ⟨b, off, rfl, hce⟩ := PM.RR.opn hv (by omega)
  obtain ⟨cs, hl0, hR⟩ := hce k _ hx
  obtain ⟨fa, fc, ea, ec, hcs, hzf, hze⟩ := PM.txR_open hR
  rw [hcs] at hl0
  simp only at hzf hze
  have ht := ownEn_any z _ _ w hzf hze hs
  obtain ⟨zF, hzF⟩ : ∃ P, P = z.fil.length := ⟨_, rfl⟩
  obtain ⟨zE, hzE⟩ : ∃ P, P = z.evs.length := ⟨_, rfl⟩
  rw [← hzF, ← hzE] at ht
  unfold PM.enC at ht
  have d0 : w.cell? ⟨b, off + k * 9, none⟩ = some (.int .i64 z.kind) := hl0 0 _ rfl
  have d1 : w.cell? ⟨b, off + k * 9 + 1, none⟩ = some (.int .i64 z.id.br) := hl0 1 _ rfl
  have d2 : w.cell? ⟨b, off + k * 9 + 2, none⟩ = some (.int .u64 (z.id.life : Int)) := hl0 2 _ rfl
  have d3 : w.cell? ⟨b, off + k * 9 + 3, none⟩ = some (.int .u64 (z.id.ser : Int)) := hl0 3 _ rfl
  have d4 : w.cell? ⟨b, off + k * 9 + 4, none⟩ = some (.int .i64 z.client) := hl0 4 _ rfl
  have d5 : w.cell? ⟨b, off + k * 9 + 5, none⟩ = some (.int .u64 (z.sub : Int)) := hl0 5 _ rfl
  have d6 : w.cell? ⟨b, off + k * 9 + 6, none⟩ = some (.slice fa zF fc) := by have := hl0 6 _ rfl; simpa [← hzF, ← hzE] using this
  have d7 : w.cell? ⟨b, off + k * 9 + 7, none⟩ = some (.slice ea zE ec) := by have := hl0 7 _ rfl; simpa [← hzF, ← hzE] using this
  have x0 : w.cell? ⟨g3, 0, none⟩ = some (.slice (some ⟨b, off, none⟩) ln lc) := k3.cell 0
  have y0 : w.cell? ⟨g9, 0, none⟩ = some (.int .i64 (k : Int)) := k9.cell 0
  have hk1 : (k : Int) < (ln : Int) := by omega
  have h8h : Hid (z.evs.length < 8) := PM.hid h8
  have hel := PM.hid hel0
  have hgw : Hid ((PM.growE z ev).wf) := PM.hid (PM.growE_wf hzw hew)
  have hzEh := PM.hid hzE
  clear hln hce hl0 hR hcs cs k3 k9 hv hx hzf hze h8 hel0 hzw hew hs hzF hzE
  go_enter Try.func44, Try.ntmps44
  go_wp2_with fail
  refine ht.mono ?_
  rintro e w3 ⟨va, vc, ta, tc, rfl, ho, hb3⟩
  clear ht x0 y0 d0 d1 d2 d3 d4 d5 d6 d7
  have k10' := k10.keep hb3
  have x0 : w3.cell? ⟨g10, 0, none⟩ = some (.int .i64 0) := k10'.cell 0
  have f0 : w3.frozen? ⟨g10, 0, none⟩ = false := k10'.free 0
  have x1 : w3.cell? ⟨g10, 1, none⟩ = some (.int .i64 0) := k10'.cell 1
  have f1 : w3.frozen? ⟨g10, 1, none⟩ = false := k10'.free 1
  have x2 : w3.cell? ⟨g10, 2, none⟩ = some (.int .u64 0) := k10'.cell 2
  have f2 : w3.frozen? ⟨g10, 2, none⟩ = false := k10'.free 2
  have x3 : w3.cell? ⟨g10, 3, none⟩ = some (.int .u64 0) := k10'.cell 3
  have f3 : w3.frozen? ⟨g10, 3, none⟩ = false := k10'.free 3
  have x4 : w3.cell? ⟨g10, 4, none⟩ = some (.int .i64 0) := k10'.cell 4
  have f4 : w3.frozen? ⟨g10, 4, none⟩ = false := k10'.free 4
  have x5 : w3.cell? ⟨g10, 5, none⟩ = some (.int .u64 0) := k10'.cell 5
  have f5 : w3.frozen? ⟨g10, 5, none⟩ = false := k10'.free 5
  have x6 : w3.cell? ⟨g10, 6, none⟩ = some (.slice none 0 0) := k10'.cell 6
  have f6 : w3.frozen? ⟨g10, 6, none⟩ = false := k10'.free 6
  have x7 : w3.cell? ⟨g10, 7, none⟩ = some (.slice none 0 0) := k10'.cell 7
  have f7 : w3.frozen? ⟨g10, 7, none⟩ = false := k10'.free 7
  go_upto_region 2 with fail
  obtain ⟨w4, hw4⟩ : ∃ W, W = ((((((((w3.setCell ⟨g10, 0, none⟩ (.int .i64 z.kind)).setCell ⟨g10, 1, none⟩ (.int .i64 z.id.br)).setCell ⟨g10, 2, none⟩ (.int .u64 (z.id.life : Int))).setCell ⟨g10, 3, none⟩ (.int .u64 (z.id.ser : Int))).setCell ⟨g10, 4, none⟩ (.int .i64 z.client)).setCell ⟨g10, 5, none⟩ (.int .u64 (z.sub : Int))).setCell ⟨g10, 6, none⟩ (.slice va zF vc)).setCell ⟨g10, 7, none⟩ (.slice ta zE tc)) := ⟨_, rfl⟩
  have hx4 : PM.Bx g10 w3 w4 := by rw [hw4]; exact (((((((PM.Bx.set g10 0 _ _).trans (PM.Bx.set g10 1 _ _)).trans (PM.Bx.set g10 2 _ _)).trans (PM.Bx.set g10 3 _ _)).trans (PM.Bx.set g10 4 _ _)).trans (PM.Bx.set g10 5 _ _)).trans (PM.Bx.set g10 6 _ _)).trans (PM.Bx.set g10 7 _ _)
  have kx4 : PM.BK w4 g10 #[.int .i64 z.kind, .int .i64 z.id.br, .int .u64 (z.id.life : Int), .int .u64 (z.id.ser : Int), .int .i64 z.client, .int .u64 (z.sub : Int), .slice va zF vc, .slice ta zE tc] 34 := by rw [hw4]; exact (((((((((k10'.set 0 (.int .i64 z.kind)).set 1 (.int .i64 z.id.br)).set 2 (.int .u64 (z.id.life : Int))).set 3 (.int .u64 (z.id.ser : Int))).set 4 (.int .i64 z.client)).set 5 (.int .u64 (z.sub : Int))).set 6 (.slice va zF vc)).set 7 (.slice ta zE tc))).seeO (by simp)
  rw [← hw4]
  clear hw4 x0 f0 x1 f1 x2 f2 x3 f3 x4 f4 x5 f5 x6 f6 x7 f7
  have kt4 := fun (T : TypeId) (hT : 34 ≠ T) => PM.KT.ofx hx4 k10' hT
  have hpp := PM.enO_parts (show PM.enO 93 64 29 w.heap.size w3 (PM.enC z (.slice va zF vc) (.slice ta zE tc)) z from ho)
  have hb2 : Hid (PM.Bx g10 w w4) := PM.hid ((PM.Bx.of hb3).trans hx4)
  have hb04 : Below w0.heap.size w0 w4 := hx4.below (PM.chain hb0 hb3) hg10 (PM.chain hb0 hb3).size
  have hPG : Hid (PM.PG w.heap.size g10 g5 z ev va zF vc ta zE tc xa xn xc w4) := PM.hid ⟨kx4, hpp.1.kt (kt4 _ (by decide)), PM.OR.kt (PM.evO_kt (kt4 _ (by decide))) hpp.2 (kt4 _ (by decide)), (k5.keep hb3).keepx hx4 hne, hev.keep hb04, hb2.out.size⟩
  clear kx4 kt4 hpp hb04 ho hb3 hx4 k10 k10' k5 hev hb0 hg10 hne hk1
  refine PM.wp_region_stK (PM.RG w.heap.size g10) (fun W W' => Below W.heap.size W W') (PM.PG w.heap.size g10 g5 z ev va zF vc ta zE tc xa xn xc) (fun _ _ h => h) (fun h => PM.RG.new h) (fun h k => h.trans k) [some 11, some 12, some 13, some 14, some 15, some 16, some 17, some 17] [some 11, some 12, some 13, some 14, some 15, some 16, some 17, none] [[], [0], [], [2], [2, 3], [0, 1, 2, 3, 4], [0, 1, 2, 3, 4, 5], [0, 1, 2, 3, 4, 5, 6]] [false, false, false, false, true, true, false, true] [5, 7] [([], false), ([0], true), ([], true), ([2], true), ([3], true), ([1, 4], true), ([], false), ([6, 5], false)] [7] [fun x _ => x = .pointer (some ⟨g10, 7, none⟩), fun x _ => x = .slice ta zE tc, fun x _ => x = .slice xa xn xc, fun x W => PM.SA1 w.heap.size ev x W, fun x W => PM.SB1 w.heap.size ev x W, fun x W => PM.PH w.heap.size g10 z ev va zF vc ta zE tc x W, fun x _ => x = .pointer (some ⟨g10, 7, none⟩), fun x W => PM.PI w.heap.size g10 z ev zF W] (by kernel_rfl) (by kernel_rfl) (by kernel_rfl) (by kernel_rfl) (by kernel_rfl) (by kernel_rfl) (by kernel_rfl) (by kernel_rfl) (by kernel_rfl) ?_ ?_ ?_ ?_ ?_ ?_
  · simp only [List.zip_cons_cons, List.zip_nil_right, List.forall_mem_cons]
    refine ⟨?_, ?_, ?_, ?_, ?_, ?_, ?_, ?_, by simp⟩
    all_goals (intro hk v W W' h hb; first | exact Bool.noConfusion hk | exact h | exact ⟨h.1, h.2.kt hb.k2⟩)
  · simp only [List.forall_mem_cons]
    refine ⟨?_, ?_, ?_, ?_, ?_, ?_, ?_, ?_, by simp⟩
    all_goals (intro v W W' h hb; first | exact h | exact ⟨h.1, h.2.keep hb⟩ | exact ⟨h.1, PM.RR.keep PM.evO_lasts hb h.2⟩ | exact PM.PH.keep h hb | exact PM.PI.keep h hb)
  · exact fun W W' h hb => h.keep hb
  · exact hPG.out
  · refine ⟨?_, ?_, ?_, ?_, ?_, ?_, ?_, ?_, trivial⟩
    all_goals
      intro a W hB hF hd hp
      have k2 := hF 2 rfl
      have k3 := hF 3 rfl
      clear hF
      simp [PM.depsK, PM.spec, PM.sl] at hd hp k2 k3
      simp only [PM.wantL, PM.spec, PM.Spv]
      try simp only [PM.sl]
      first
        | (have hd' : _ = Value.slice ta zE tc ∧ PM.SB1 w.heap.size ev _ W := hd
           obtain ⟨e12, ⟨a, c, he⟩, hR⟩ := hd'
           rw [he] at hR
           obtain ⟨p1, p2, p3, p4, p5, p6⟩ := hp
           obtain ⟨v', w', hrun, t1, t2, t3⟩ := PM.run_orS tyEvO (PM.evO_stays (by decide)) 32 p3 hR (by have := h8h.out; omega) (by have := h8h.out; unfold maxLen; omega) p6
           have hrg : PM.RG w.heap.size g10 W w' := PM.RG.ofg t2 p3.rt (fun j hj => by obtain ⟨css, q, _⟩ := p3; exact (q.lt j hj).1)
           have hgw : PM.BK w' g10 #[.int .i64 z.kind, .int .i64 z.id.br, .int .u64 (z.id.life : Int), .int .u64 (z.id.ser : Int), .int .i64 z.client, .int .u64 (z.sub : Int), .slice va zF vc, .slice ta zE tc] 34 ∧ PM.OM PM.teL 5 93 w.heap.size w' (.slice va zF vc) z.fil ∧ PM.OR (PM.evO 64 w.heap.size) 1 29 w.heap.size w' v' (z.evs ++ [ev]) := ⟨PM.BK.kt p1 (PM.KT.ofg t2 p3.rt (by decide)), p2.kt (PM.KT.ofg t2 p3.rt (by decide)), t1⟩
           obtain ⟨ra, rc, hre⟩ := t1.rr.len
           first | rw [if_pos trivial] | skip
           refine PM.wp_appendS rfl _ _ rfl (by simp [go_sem, e12]) (by simp [go_sem, he]) hrun ?_
           exact ⟨by first | exact hrg | (rw [if_pos rfl]; exact hrg) | (simp only [if_true]; exact hrg) | (simp; exact hrg), _, rfl, ⟨_, _, _, hre⟩, hgw⟩)
        | go_simp
    all_goals try exact Below.refl _ _
    · have g7 : W.cell? ⟨g10, 7, none⟩ = some (.slice ta zE tc) := hp.1.cell 7
      go_simp
      first | done | exact Below.refl _ _ | exact ⟨Below.refl _ _, _, rfl, rfl⟩ | exact ⟨Below.refl _ _, rfl⟩
    · have g7 : W.cell? ⟨g5, 0, none⟩ = some (.slice xa xn xc) := hp.2.2.2.1.cell 0
      go_simp
      first | done | exact Below.refl _ _ | exact ⟨Below.refl _ _, _, rfl, rfl⟩ | exact ⟨Below.refl _ _, rfl⟩
    · refine (ownEv_any (.slice xa xn xc) ev W hp.2.2.2.2.1 hel.out).mono ?_
      rintro e w' ⟨u, rfl, ho, hb⟩
      obtain ⟨ra, rc, hre⟩ := (ho.em PM.attL_len).len
      exact ⟨hb, _, rfl, ⟨_, _, _, hre⟩, ho.mono hp.2.2.2.2.2⟩
    · obtain ⟨⟨a, n, c, he⟩, hR⟩ := (hd : PM.SA1 _ _ _ _)
      rw [he] at hR
      simp only [he]
      go_simp
      exact ⟨(Below.refl _ _).alloc (Nat.le_refl _) _, _, rfl, ⟨some ⟨W.heap.size, 0, none⟩, 1, rfl⟩, PM.evRR.one W (.slice a n c) rfl ev hR⟩
    · obtain ⟨⟨a, n, c, he⟩, k1, k2, k3⟩ := (hd.2 : PM.PH _ _ _ _ _ _ _ _ _ _ _ _)
      rw [he] at k3
      have g7 : W.cell? ⟨g10, 7, none⟩ = some (.slice ta zE tc) := k1.cell 7
      have gf : W.frozen? ⟨g10, 7, none⟩ = false := k1.free 7
      have hx := PM.Bx.set g10 7 W (.slice a n c)
      have kt := fun (T : TypeId) (hT : 34 ≠ T) => PM.KT.ofx hx k1 hT
      have hfin : PM.PI w.heap.size g10 z ev zF (W.setCell ⟨g10, 7, none⟩ (.slice a n c)) := ⟨va, vc, a, n, c, (k1.set 7 (.slice a n c)).seeO (by simp), _, _, rfl, k2.kt (kt _ (by decide)), PM.OR.kt (PM.evO_kt (kt _ (by decide))) k3 (kt _ (by decide))⟩
      have hrg : PM.RG w.heap.size g10 W (W.setCell ⟨g10, 7, none⟩ (.slice a n c)) := PM.RG.ofb hx k1
      simp only [he]
      go_simp
      first | done | exact hfin | exact ⟨hrg, hfin⟩ | exact hrg
  · intro G W hB hF hS
    simp only [PM.allK, PM.spec] at hS
    simp at hS
    have u0 := hF 0 rfl
    have u1 := hF 1 rfl
    have u2 := hF 2 rfl
    have u3 := hF 3 rfl
    have u4 := hF 4 rfl
    simp [PM.sl] at u0 u1 u2 u3 u4
    rw [show ((List.range (Array.size _)).map G).toArray = #[G 0, G 1, G 2, G 3, G 4, G 5, G 6, G 7, G 8, G 9, G 10, G 11, G 12, G 13, G 14, G 15, G 16, G 17, G 18, G 19, G 20] from rfl]
    clear hF
    rw [u0, u1, u2, u3, u4]
    clear u0 u1 u2 u3 u4
    have hPI : PM.PI w.heap.size g10 z ev zF W := hS
    clear hS
    obtain ⟨ua, uc, ta', zN, tc', kk, hen⟩ := id hPI
    have hbx : PM.Bx g10 w W := ⟨hB.os.trans hb2.out.os, hB.tape.trans hb2.out.tape, hB.output.trans hb2.out.output, Nat.le_trans hb2.out.size hB.size, fun j hj hn => (hB.block hb2.out.size j hj hn).trans (hb2.out.block j hj hn)⟩
    have hp2 := PM.enO_parts (show PM.enO 93 64 29 w.heap.size W (PM.enC (PM.growE z ev) (.slice ua zF uc) (.slice ta' zN tc')) (PM.growE z ev) from hen)
    have hzN : zN = (PM.growE z ev).evs.length := by obtain ⟨_, _, h⟩ := hp2.2.rr.len; injection h
    have hzF' : zF = (PM.growE z ev).fil.length := by obtain ⟨_, _, h⟩ := (hp2.1.em PM.teL_len).len; injection h
    have hsm := small17_any (PM.growE z ev) ua zF uc ta' zN tc' W hgw.out hzF' hzN (hp2.1.em PM.teL_len) (PM.evOr_evl hp2.2)
    change Calls _ _ #[.agg #[.int .i64 z.kind, .int .i64 z.id.br, .int .u64 (z.id.life : Int), .int .u64 (z.id.ser : Int), .int .i64 z.client, .int .u64 (z.sub : Int), .slice ua zF uc, .slice ta' zN tc']] _ _ at hsm
    obtain ⟨S, hSS⟩ : ∃ S, S = PM.smlT (PM.growE z ev) := ⟨_, rfl⟩
    rw [← hSS] at hsm
    replace hSS := PM.hid hSS
    replace hPI := PM.hid hPI
    replace hbx := PM.hid hbx
    have x0 : W.cell? ⟨g10, 0, none⟩ = some (.int .i64 z.kind) := kk.cell 0
    have x1 : W.cell? ⟨g10, 1, none⟩ = some (.int .i64 z.id.br) := kk.cell 1
    have x2 : W.cell? ⟨g10, 2, none⟩ = some (.int .u64 (z.id.life : Int)) := kk.cell 2
    have x3 : W.cell? ⟨g10, 3, none⟩ = some (.int .u64 (z.id.ser : Int)) := kk.cell 3
    have x4 : W.cell? ⟨g10, 4, none⟩ = some (.int .i64 z.client) := kk.cell 4
    have x5 : W.cell? ⟨g10, 5, none⟩ = some (.int .u64 (z.sub : Int)) := kk.cell 5
    have x6 : W.cell? ⟨g10, 6, none⟩ = some (.slice ua zF uc) := kk.cell 6
    have x7 : W.cell? ⟨g10, 7, none⟩ = some (.slice ta' zN tc') := kk.cell 7
    clear kk hen hp2 hzN hzF' hB
    go_wp2_with fail
    refine hsm.mono ?_
    rintro e w5 ⟨rfl, hb5⟩
    replace hPI := PM.hid (hPI.out.keep hb5)
    replace hbx := PM.hid (hbx.out.trans (PM.Bx.of hb5))
    clear hsm hb5 x0 x1 x2 x3 x4 x5 x6 x7
    go_wp2_with fail
    refine (unless_any _ _ _).mono ?_
    rintro e w6 ⟨rfl, hb6⟩
    replace hPI := PM.hid (hPI.out.keep hb6)
    replace hbx := PM.hid (hbx.out.trans (PM.Bx.of hb6))
    clear hb6
    go_wp2_with fail
    go_ret
    exact ⟨by rw [← hSS.out]; rfl, hbx.out, zF, hPI.out⟩
end Go.Proofs.Ytnjcociidipogaa
