/-
  THE WALK of StageAlone. (Written by tools/mk_xp.py.)
-/
import Derived.Test.YtnjcociidipogaaYo
import Derived.Test.YtnjcociidipogaaYj
import Derived.Test.YtnjcociidipogaaYh
namespace Go.Proofs.Ytnjcociidipogaa
open Go.RowKit
set_option linter.unusedVariables false
set_option linter.unusedSimpArgs false
theorem PM.chain' {B C : Nat} {x y z : World} (h : Below B x y) (k : Below C y z) (hb : B ≤ C) : Below B x z := h.trans (k.mono hb)
set_option maxRecDepth 100000 in
set_option maxHeartbeats 16000000 in
theorem stageAlone_walk (v : Value) (script : List PM.Cl) (c : PM.Cl) (ev0 fv0 xv0 : Value) (hcw0 : c.wf) (w : World) (hv0 : PM.ClL w v script) (hw0 : ∀ x ∈ script, x.wf) (hev0 : PM.EV w ev0 c.e) (hf0 : PM.TV w fv0 c.x.fil) (he0 : PM.EVL w xv0 c.x.evs) :
    Calls Try.prog 6 #[v, .agg (PM.clC c ev0 fv0 xv0).toArray] w fun e w' => e = .returned (.bool true) ∧ Below w.heap.size w w' := by
  have hmx := hv0.bound
  unfold maxLen at hmx
  obtain ⟨va, vc, rfl⟩ := hv0.len
  obtain ⟨N, hN0⟩ : ∃ n, n = script.length := ⟨_, rfl⟩
  rw [← hN0] at hv0 hmx ⊢
  have hN := PM.hid hN0
  have hws := PM.hid hw0
  obtain ⟨xa0, xc0, rfl⟩ := hev0.em.len
  obtain ⟨fa0, fc0, rfl⟩ := hf0.len
  obtain ⟨ea0, ec0, rfl⟩ := he0.len
  obtain ⟨kd0, i0, cl0, e0, z0⟩ := c
  simp only at hev0 hf0 he0 ⊢
  obtain ⟨xn0, hxn0⟩ : ∃ q, q = e0.length := ⟨_, rfl⟩
  obtain ⟨zF0, hzF0⟩ : ∃ q, q = z0.fil.length := ⟨_, rfl⟩
  obtain ⟨zE0, hzE0⟩ : ∃ q, q = z0.evs.length := ⟨_, rfl⟩
  rw [← hxn0] at hev0 ⊢
  rw [← hzF0] at hf0 ⊢
  rw [← hzE0] at he0 ⊢
  have hrd := PM.hid (And.intro hev0 (And.intro hzF0 (And.intro hzE0 (And.intro hf0 he0))))
  have hcw := PM.hid hcw0
  obtain ⟨oi, hoi0⟩ : ∃ o, o = PM.Cl.on ⟨kd0, i0, cl0, e0, z0⟩ := ⟨_, rfl⟩
  have hoi := PM.hid hoi0
  unfold PM.clC PM.enC PM.idL
  simp only [List.cons_append, List.nil_append]
  clear hN0 hw0 hev0 hf0 he0 hxn0 hzF0 hzE0 hcw0 hoi0
  obtain ⟨g3, hg3⟩ : ∃ g, g = w.heap.size := ⟨_, rfl⟩
  obtain ⟨w1, hw1⟩ : ∃ W, W = w.alloc (.cells #[.int .i64 kd0, .int .i64 i0.br, .int .u64 (i0.life : Int), .int .u64 (i0.ser : Int), .int .i64 cl0, .slice xa0 xn0 xc0, .int .i64 z0.kind, .int .i64 z0.id.br, .int .u64 (z0.id.life : Int), .int .u64 (z0.id.ser : Int), .int .i64 z0.client, .int .u64 (z0.sub : Int), .slice fa0 zF0 fc0, .slice ea0 zE0 ec0] 36) := ⟨_, rfl⟩
  have hb1 : Below w.heap.size w w1 := by rw [hw1]; exact (Below.refl _ _).alloc (Nat.le_refl _) _
  have k3 : PM.BK w1 g3 #[.int .i64 kd0, .int .i64 i0.br, .int .u64 (i0.life : Int), .int .u64 (i0.ser : Int), .int .i64 cl0, .slice xa0 xn0 xc0, .int .i64 z0.kind, .int .i64 z0.id.br, .int .u64 (z0.id.life : Int), .int .u64 (z0.id.ser : Int), .int .i64 z0.client, .int .u64 (z0.sub : Int), .slice fa0 zF0 fc0, .slice ea0 zE0 ec0] 36 := by rw [hw1, hg3]; exact PM.BK.new _ _ _
  go_enter Try.func6, Try.ntmps6
  go_upto_region 1 with fail
  rw [← hw1, ← hg3]
  clear hw1 hg3
  go_wp2_with fail
  refine (awake17_any w1).mono ?_
  rintro e w2 ⟨rfl, hb2⟩
  have k32 := k3.keep hb2
  have hB2 := PM.hid (PM.chain hb1 hb2)
  clear k3 hb1 hb2
  have ht := small17l_any kd0 i0 cl0 xa0 xn0 xc0 e0 z0 fa0 zF0 fc0 ea0 zE0 ec0 w2 (hrd.out.1.keep hB2.out) hrd.out.2.1 hrd.out.2.2.1 (hrd.out.2.2.2.1.keep hB2.out) (PM.EVL.keepO hB2.out hrd.out.2.2.2.2)
  have c0 : w2.cell? ⟨g3, 0, none⟩ = some (.int .i64 kd0) := k32.cell 0
  have c1 : w2.cell? ⟨g3, 1, none⟩ = some (.int .i64 i0.br) := k32.cell 1
  have c2 : w2.cell? ⟨g3, 2, none⟩ = some (.int .u64 (i0.life : Int)) := k32.cell 2
  have c3 : w2.cell? ⟨g3, 3, none⟩ = some (.int .u64 (i0.ser : Int)) := k32.cell 3
  have c4 : w2.cell? ⟨g3, 4, none⟩ = some (.int .i64 cl0) := k32.cell 4
  have c5 : w2.cell? ⟨g3, 5, none⟩ = some (.slice xa0 xn0 xc0) := k32.cell 5
  have c6 : w2.cell? ⟨g3, 6, none⟩ = some (.int .i64 z0.kind) := k32.cell 6
  have c7 : w2.cell? ⟨g3, 7, none⟩ = some (.int .i64 z0.id.br) := k32.cell 7
  have c8 : w2.cell? ⟨g3, 8, none⟩ = some (.int .u64 (z0.id.life : Int)) := k32.cell 8
  have c9 : w2.cell? ⟨g3, 9, none⟩ = some (.int .u64 (z0.id.ser : Int)) := k32.cell 9
  have c10 : w2.cell? ⟨g3, 10, none⟩ = some (.int .i64 z0.client) := k32.cell 10
  have c11 : w2.cell? ⟨g3, 11, none⟩ = some (.int .u64 (z0.sub : Int)) := k32.cell 11
  have c12 : w2.cell? ⟨g3, 12, none⟩ = some (.slice fa0 zF0 fc0) := k32.cell 12
  have c13 : w2.cell? ⟨g3, 13, none⟩ = some (.slice ea0 zE0 ec0) := k32.cell 13
  go_wp2_with fail
  refine ht.mono ?_
  clear ht c0 c1 c2 c3 c4 c5 c6 c7 c8 c9 c10 c11 c12 c13
  rintro d wS ⟨hh, hb3⟩
  have hB3 := PM.hid (PM.chain hB2.out hb3)
  have hk3 := PM.hid (k32.keep hb3)
  have hv := PM.hid (PM.RR.keep PM.clR_lasts hB3.out hv0)
  clear k32 hb3 hB2 hv0
  rcases hh with ⟨rfl, hfw0⟩ | rfl
  case inr =>
    go_wp2_with fail
    go_ret
    exact ⟨rfl, hB3.out⟩
  have hfw := PM.hid hfw0
  clear hfw0
  go_wp2_with fail
  go_loopw [6, 7] (fun s i wr => (∃ la ln lc, s = .slice la ln lc) ∧ ∃ k : Nat, i = .int .i64 k ∧ k ≤ N ∧ k ≤ 40 ∧ Hid (∃ L, PM.TxL wr s L ∧ PM.Gz L ∧ Below wS.heap.size wS wr)) (fun _ i _ => N - (intOf i).toNat)
  case atStart => exact ⟨⟨_, _, _, rfl⟩, 0, rfl, by omega, by omega, PM.hid ⟨[], PM.RR.nil _, PM.Gz.nil, Below.refl _ _⟩⟩
  case round =>
    obtain ⟨⟨la, ln, lc, rfl⟩, k, rfl, hk, hk40, hI⟩ := hrel
    obtain ⟨L, hTx, hG, hB⟩ := hI.out
    clear hI
    by_cases hgo : k < N ∧ k < 40
    · obtain ⟨hlt, h40⟩ := hgo
      have hi1 : (k : Int) < (N : Int) := by omega
      have hi2 : (k : Int) < 40 := by omega
      obtain ⟨y, hy⟩ : ∃ z, script[k]? = some z := ⟨script[k]'(by rw [← hN.out]; exact hlt), List.getElem?_eq_getElem _⟩
      have hyw := hws.out y (List.mem_of_getElem? hy)
      obtain ⟨b, off, rfl, hce⟩ := PM.RR.opn hv.out (by rw [← hN.out]; omega)
      obtain ⟨cs, hl0, ev, fv, xv, hcs, hev, hzf, hze⟩ := hce k y hy
      obtain ⟨xa, xc, rfl⟩ := hev.em.len
      obtain ⟨fa, fc, rfl⟩ := hzf.len
      obtain ⟨ea, ec, rfl⟩ := hze.len
      obtain ⟨kd, i, cl, e, z⟩ := y
      simp only at hev hzf hze hcs
      unfold PM.clC PM.enC PM.idL at hcs
      simp only [List.cons_append, List.nil_append] at hcs
      replace hl0 := hl0.keep hB
      rw [hcs] at hl0
      obtain ⟨xn, hxn⟩ : ∃ q, q = e.length := ⟨_, rfl⟩
      obtain ⟨zF, hzF⟩ : ∃ q, q = z.fil.length := ⟨_, rfl⟩
      obtain ⟨zE, hzE⟩ : ∃ q, q = z.evs.length := ⟨_, rfl⟩
      rw [← hxn] at hev
      rw [← hzF] at hzf
      rw [← hzE] at hze
      rw [← hxn, ← hzF, ← hzE] at hl0
      have hsm := small17l_any kd i cl xa xn xc e z fa zF fc ea zE ec wr (hev.keep hB) hzF hzE (hzf.keep hB) (PM.EVL.keepO hB hze)
      have hnx : Hid (∀ W : World, Below wr.heap.size wr W → PM.FewC ⟨kd, i, cl, e, z⟩ → Calls Try.prog 11 #[.slice la ln lc, .agg #[.int .i64 kd, .int .i64 i.br, .int .u64 (i.life : Int), .int .u64 (i.ser : Int), .int .i64 cl, .slice xa xn xc, .int .i64 z.kind, .int .i64 z.id.br, .int .u64 (z.id.life : Int), .int .u64 (z.id.ser : Int), .int .i64 z.client, .int .u64 (z.sub : Int), .slice fa zF fc, .slice ea zE ec]] W fun d w' => ∃ u, d = .returned (.tuple #[u, .int .i64 (PM.nextT L ⟨kd, i, cl, e, z⟩).2]) ∧ PM.TxL w' u (PM.nextT L ⟨kd, i, cl, e, z⟩).1 ∧ Below W.heap.size W w') := PM.hid fun W hb hfw => by
        have hb2 := PM.chain hB hb
        exact next_any la ln lc kd i cl xa xn xc e z fa zF fc ea zE ec L W (PM.TxL.keep hb hTx) hG.gw hyw hfw (hev.keep hb2) hzF hzE (hzf.keep hb2) (PM.EVL.keepO hb2 hze)
      have hdc : Hid (wr.cell? ⟨b, off + k * 14, none⟩ = some (.int .i64 kd) ∧ wr.cell? ⟨b, off + k * 14 + 1, none⟩ = some (.int .i64 i.br) ∧ wr.cell? ⟨b, off + k * 14 + 2, none⟩ = some (.int .u64 (i.life : Int)) ∧ wr.cell? ⟨b, off + k * 14 + 3, none⟩ = some (.int .u64 (i.ser : Int)) ∧ wr.cell? ⟨b, off + k * 14 + 4, none⟩ = some (.int .i64 cl) ∧ wr.cell? ⟨b, off + k * 14 + 5, none⟩ = some (.slice xa xn xc) ∧ wr.cell? ⟨b, off + k * 14 + 6, none⟩ = some (.int .i64 z.kind) ∧ wr.cell? ⟨b, off + k * 14 + 7, none⟩ = some (.int .i64 z.id.br) ∧ wr.cell? ⟨b, off + k * 14 + 8, none⟩ = some (.int .u64 (z.id.life : Int)) ∧ wr.cell? ⟨b, off + k * 14 + 9, none⟩ = some (.int .u64 (z.id.ser : Int)) ∧ wr.cell? ⟨b, off + k * 14 + 10, none⟩ = some (.int .i64 z.client) ∧ wr.cell? ⟨b, off + k * 14 + 11, none⟩ = some (.int .u64 (z.sub : Int)) ∧ wr.cell? ⟨b, off + k * 14 + 12, none⟩ = some (.slice fa zF fc) ∧ wr.cell? ⟨b, off + k * 14 + 13, none⟩ = some (.slice ea zE ec)) := PM.hid ⟨hl0 0 _ rfl, hl0 1 _ rfl, hl0 2 _ rfl, hl0 3 _ rfl, hl0 4 _ rfl, hl0 5 _ rfl, hl0 6 _ rfl, hl0 7 _ rfl, hl0 8 _ rfl, hl0 9 _ rfl, hl0 10 _ rfl, hl0 11 _ rfl, hl0 12 _ rfl, hl0 13 _ rfl⟩
      have hyh := PM.hid (And.intro hy hyw)
      have hTh := PM.hid (And.intro hTx (And.intro hG hB))
      clear hy hyw hce hl0 hcs cs hev hzf hze hxn hzF hzE hTx hG hB
      have d0 : wr.cell? ⟨b, off + k * 14, none⟩ = some (.int .i64 kd) := hdc.out.1
      have d1 : wr.cell? ⟨b, off + k * 14 + 1, none⟩ = some (.int .i64 i.br) := hdc.out.2.1
      have d2 : wr.cell? ⟨b, off + k * 14 + 2, none⟩ = some (.int .u64 (i.life : Int)) := hdc.out.2.2.1
      have d3 : wr.cell? ⟨b, off + k * 14 + 3, none⟩ = some (.int .u64 (i.ser : Int)) := hdc.out.2.2.2.1
      have d4 : wr.cell? ⟨b, off + k * 14 + 4, none⟩ = some (.int .i64 cl) := hdc.out.2.2.2.2.1
      have d5 : wr.cell? ⟨b, off + k * 14 + 5, none⟩ = some (.slice xa xn xc) := hdc.out.2.2.2.2.2.1
      have d6 : wr.cell? ⟨b, off + k * 14 + 6, none⟩ = some (.int .i64 z.kind) := hdc.out.2.2.2.2.2.2.1
      have d7 : wr.cell? ⟨b, off + k * 14 + 7, none⟩ = some (.int .i64 z.id.br) := hdc.out.2.2.2.2.2.2.2.1
      have d8 : wr.cell? ⟨b, off + k * 14 + 8, none⟩ = some (.int .u64 (z.id.life : Int)) := hdc.out.2.2.2.2.2.2.2.2.1
      have d9 : wr.cell? ⟨b, off + k * 14 + 9, none⟩ = some (.int .u64 (z.id.ser : Int)) := hdc.out.2.2.2.2.2.2.2.2.2.1
      have d10 : wr.cell? ⟨b, off + k * 14 + 10, none⟩ = some (.int .i64 z.client) := hdc.out.2.2.2.2.2.2.2.2.2.2.1
      have d11 : wr.cell? ⟨b, off + k * 14 + 11, none⟩ = some (.int .u64 (z.sub : Int)) := hdc.out.2.2.2.2.2.2.2.2.2.2.2.1
      have d12 : wr.cell? ⟨b, off + k * 14 + 12, none⟩ = some (.slice fa zF fc) := hdc.out.2.2.2.2.2.2.2.2.2.2.2.2.1
      have d13 : wr.cell? ⟨b, off + k * 14 + 13, none⟩ = some (.slice ea zE ec) := hdc.out.2.2.2.2.2.2.2.2.2.2.2.2.2
      go_wp2_with fail
      refine hsm.mono ?_
      rintro d w2 ⟨hh, hb2⟩
      clear hsm d0 d1 d2 d3 d4 d5 d6 d7 d8 d9 d10 d11 d12 d13
      rcases hh with ⟨rfl, hfw⟩ | rfl
      · have ht := hnx.out w2 hb2 hfw
        have d0 : w2.cell? ⟨b, off + k * 14, none⟩ = some (.int .i64 kd) := PM.cellA hb2 (hdc.out.1)
        have d1 : w2.cell? ⟨b, off + k * 14 + 1, none⟩ = some (.int .i64 i.br) := PM.cellA hb2 (hdc.out.2.1)
        have d2 : w2.cell? ⟨b, off + k * 14 + 2, none⟩ = some (.int .u64 (i.life : Int)) := PM.cellA hb2 (hdc.out.2.2.1)
        have d3 : w2.cell? ⟨b, off + k * 14 + 3, none⟩ = some (.int .u64 (i.ser : Int)) := PM.cellA hb2 (hdc.out.2.2.2.1)
        have d4 : w2.cell? ⟨b, off + k * 14 + 4, none⟩ = some (.int .i64 cl) := PM.cellA hb2 (hdc.out.2.2.2.2.1)
        have d5 : w2.cell? ⟨b, off + k * 14 + 5, none⟩ = some (.slice xa xn xc) := PM.cellA hb2 (hdc.out.2.2.2.2.2.1)
        have d6 : w2.cell? ⟨b, off + k * 14 + 6, none⟩ = some (.int .i64 z.kind) := PM.cellA hb2 (hdc.out.2.2.2.2.2.2.1)
        have d7 : w2.cell? ⟨b, off + k * 14 + 7, none⟩ = some (.int .i64 z.id.br) := PM.cellA hb2 (hdc.out.2.2.2.2.2.2.2.1)
        have d8 : w2.cell? ⟨b, off + k * 14 + 8, none⟩ = some (.int .u64 (z.id.life : Int)) := PM.cellA hb2 (hdc.out.2.2.2.2.2.2.2.2.1)
        have d9 : w2.cell? ⟨b, off + k * 14 + 9, none⟩ = some (.int .u64 (z.id.ser : Int)) := PM.cellA hb2 (hdc.out.2.2.2.2.2.2.2.2.2.1)
        have d10 : w2.cell? ⟨b, off + k * 14 + 10, none⟩ = some (.int .i64 z.client) := PM.cellA hb2 (hdc.out.2.2.2.2.2.2.2.2.2.2.1)
        have d11 : w2.cell? ⟨b, off + k * 14 + 11, none⟩ = some (.int .u64 (z.sub : Int)) := PM.cellA hb2 (hdc.out.2.2.2.2.2.2.2.2.2.2.2.1)
        have d12 : w2.cell? ⟨b, off + k * 14 + 12, none⟩ = some (.slice fa zF fc) := PM.cellA hb2 (hdc.out.2.2.2.2.2.2.2.2.2.2.2.2.1)
        have d13 : w2.cell? ⟨b, off + k * 14 + 13, none⟩ = some (.slice ea zE ec) := PM.cellA hb2 (hdc.out.2.2.2.2.2.2.2.2.2.2.2.2.2)
        replace hnx : Hid (PM.Gz (PM.nextT L ⟨kd, i, cl, e, z⟩).1) := PM.hid (hTh.out.2.1.next hyh.out.2 hfw)
        have hB2 := PM.hid (PM.chain hTh.out.2.2 hb2)
        clear hb2 hfw hTh hdc
        go_wp2_with fail
        refine ht.mono ?_
        clear ht d0 d1 d2 d3 d4 d5 d6 d7 d8 d9 d10 d11 d12 d13
        rintro d w3 ⟨u, rfl, hu, hb3⟩
        obtain ⟨ua, uc, hue⟩ := hu.len
        generalize (PM.nextT L ⟨kd, i, cl, e, z⟩).1 = L' at hu hue hnx
        have hnew : Hid (∃ L, PM.TxL w3 u L ∧ PM.Gz L ∧ Below wS.heap.size wS w3) := PM.hid ⟨L', hu, hnx.out, PM.chain hB2.out hb3⟩
        clear hu hnx hb3 hB2
        generalize L'.length = un at hue
        subst hue
        go_wp2_with fail
        exact ⟨⟨⟨_, _, _, rfl⟩, k + 1, by go_num, by omega, by omega, hnew⟩, by simp only [intOf]; omega⟩
      · have hnew : Hid (∃ L, PM.TxL w2 (.slice la ln lc) L ∧ PM.Gz L ∧ Below wS.heap.size wS w2) := PM.hid ⟨L, PM.TxL.keep hb2 hTh.out.1, hTh.out.2.1, PM.chain hTh.out.2.2 hb2⟩
        clear hb2 hTh hnx hdc
        go_wp2_with fail
        exact ⟨⟨⟨_, _, _, rfl⟩, k + 1, by go_num, by omega, by omega, hnew⟩, by simp only [intOf]; omega⟩
    · have hcase : k = N ∨ k = 40 ∧ k < N := by omega
      clear hgo
      rcases hcase with rfl | ⟨rfl, hkN⟩
      · skip
        have hln : ln = L.length := by obtain ⟨_, _, h⟩ := hTx.len; injection h
        have hlnh := PM.hid hln
        have hl8 := hG.gw.1
        rw [← hln] at hl8
        have kr := hk3.out.keep hB
        have hBw := PM.chain' hB3.out hB hB3.out.size
        have ht := next_any la ln lc kd0 i0 cl0 xa0 xn0 xc0 e0 z0 fa0 zF0 fc0 ea0 zE0 ec0 L wr hTx hG.gw hcw.out hfw.out (hrd.out.1.keep hBw) hrd.out.2.1 hrd.out.2.2.1 (hrd.out.2.2.2.1.keep hBw) (PM.EVL.keepO hBw hrd.out.2.2.2.2)
        have hGn := hG.next hcw.out hfw.out
        have herr := fun h => PM.next_err (l := L) (c := ⟨kd0, i0, cl0, e0, z0⟩) h
        have hoth := fun (x : PM.Tx) (hx : x ∈ L) (h : x.en.id ≠ oi) => PM.find_mem hGn.nd (PM.next_other (l := L) (c := ⟨kd0, i0, cl0, e0, z0⟩) hx (by rw [← hoi.out]; exact h))
        obtain ⟨M, hM⟩ : ∃ m, m = (PM.nextT L ⟨kd0, i0, cl0, e0, z0⟩).1 := ⟨_, rfl⟩
        obtain ⟨C, hC⟩ : ∃ m, m = (PM.nextT L ⟨kd0, i0, cl0, e0, z0⟩).2 := ⟨_, rfl⟩
        rw [← hM] at ht hGn herr hoth
        rw [← hC] at ht herr
        have hfind := PM.hid hoth
        replace hG := PM.hid hG
        have hMs := PM.hid hGn.gw.txs
        have hTx0 := PM.hid hTx
        have c0 : wr.cell? ⟨g3, 0, none⟩ = some (.int .i64 kd0) := kr.cell 0
        have c1 : wr.cell? ⟨g3, 1, none⟩ = some (.int .i64 i0.br) := kr.cell 1
        have c2 : wr.cell? ⟨g3, 2, none⟩ = some (.int .u64 (i0.life : Int)) := kr.cell 2
        have c3 : wr.cell? ⟨g3, 3, none⟩ = some (.int .u64 (i0.ser : Int)) := kr.cell 3
        have c4 : wr.cell? ⟨g3, 4, none⟩ = some (.int .i64 cl0) := kr.cell 4
        have c5 : wr.cell? ⟨g3, 5, none⟩ = some (.slice xa0 xn0 xc0) := kr.cell 5
        have c6 : wr.cell? ⟨g3, 6, none⟩ = some (.int .i64 z0.kind) := kr.cell 6
        have c7 : wr.cell? ⟨g3, 7, none⟩ = some (.int .i64 z0.id.br) := kr.cell 7
        have c8 : wr.cell? ⟨g3, 8, none⟩ = some (.int .u64 (z0.id.life : Int)) := kr.cell 8
        have c9 : wr.cell? ⟨g3, 9, none⟩ = some (.int .u64 (z0.id.ser : Int)) := kr.cell 9
        have c10 : wr.cell? ⟨g3, 10, none⟩ = some (.int .i64 z0.client) := kr.cell 10
        have c11 : wr.cell? ⟨g3, 11, none⟩ = some (.int .u64 (z0.sub : Int)) := kr.cell 11
        have c12 : wr.cell? ⟨g3, 12, none⟩ = some (.slice fa0 zF0 fc0) := kr.cell 12
        have c13 : wr.cell? ⟨g3, 13, none⟩ = some (.slice ea0 zE0 ec0) := kr.cell 13
        clear hln hM hC hoth hTx
        go_wp2_with fail
        refine ht.mono ?_
        clear ht c0 c1 c2 c3 c4 c5 c6 c7 c8 c9 c10 c11 c12 c13
        rintro d wa ⟨u, rfl, hu, hba⟩
        have hLa := PM.hid (PM.TxL.keep hba hTx0.out)
        replace kr := kr.keep hba
        have hBa := PM.hid (PM.chain hBw hba)
        clear hTx0 hba hBw hB
        by_cases hC0 : C = 0
        case neg =>
          have hML := herr hC0
          rw [hML] at hu
          have ht := same17_any u (.slice la ln lc) L L wa hu hLa.out (fun x hx => (hG.out.gw.2 x hx).2) (fun x hx => (hG.out.gw.2 x hx).2)
          have q1 : (C != 0) = true := by simp; exact hC0
          obtain ⟨ua, uc, hue⟩ := hu.len
          generalize L.length = un at hue
          subst hue
          clear hML herr
          go_wp2_with fail
          refine ht.mono ?_
          clear ht
          rintro d wb ⟨hh, hbb⟩
          have hend := PM.hid (PM.chain hBa.out hbb)
          rcases hh with ⟨rfl, -⟩ | ⟨-, hno⟩
          case inr => first | exact (hno rfl).elim | exact (hno trivial).elim
          go_wp2_with fail
          go_ret
          exact ⟨rfl, hend.out⟩
        case pos =>
          subst hC0
          obtain ⟨ua, uc, hue⟩ := hu.len
          obtain ⟨MN, hMN⟩ : ∃ n, n = M.length := ⟨_, rfl⟩
          rw [← hMN] at hue
          subst hue
          clear hMN herr
          have c0 : wa.cell? ⟨g3, 0, none⟩ = some (.int .i64 kd0) := kr.cell 0
          have c1 : wa.cell? ⟨g3, 1, none⟩ = some (.int .i64 i0.br) := kr.cell 1
          have c2 : wa.cell? ⟨g3, 2, none⟩ = some (.int .u64 (i0.life : Int)) := kr.cell 2
          have c3 : wa.cell? ⟨g3, 3, none⟩ = some (.int .u64 (i0.ser : Int)) := kr.cell 3
          have c4 : wa.cell? ⟨g3, 4, none⟩ = some (.int .i64 cl0) := kr.cell 4
          have c5 : wa.cell? ⟨g3, 5, none⟩ = some (.slice xa0 xn0 xc0) := kr.cell 5
          have c6 : wa.cell? ⟨g3, 6, none⟩ = some (.int .i64 z0.kind) := kr.cell 6
          have c7 : wa.cell? ⟨g3, 7, none⟩ = some (.int .i64 z0.id.br) := kr.cell 7
          have c8 : wa.cell? ⟨g3, 8, none⟩ = some (.int .u64 (z0.id.life : Int)) := kr.cell 8
          have c9 : wa.cell? ⟨g3, 9, none⟩ = some (.int .u64 (z0.id.ser : Int)) := kr.cell 9
          have c10 : wa.cell? ⟨g3, 10, none⟩ = some (.int .i64 z0.client) := kr.cell 10
          have c11 : wa.cell? ⟨g3, 11, none⟩ = some (.int .u64 (z0.sub : Int)) := kr.cell 11
          have c12 : wa.cell? ⟨g3, 12, none⟩ = some (.slice fa0 zF0 fc0) := kr.cell 12
          have c13 : wa.cell? ⟨g3, 13, none⟩ = some (.slice ea0 zE0 ec0) := kr.cell 13
          go_upto_region 16 with fail
          clear c0 c1 c2 c3 c4 c5 c6 c7 c8 c9 c10 c11 c12 c13
          obtain ⟨g10, hg10⟩ : ∃ g, g = wa.heap.size := ⟨_, rfl⟩
          obtain ⟨wb, hwb⟩ : ∃ W, W = wa.alloc (.cells #[.int .i64 i0.br, .int .u64 (i0.life : Int), .int .u64 (i0.ser : Int)] 26) := ⟨_, rfl⟩
          have hbb : Below wa.heap.size wa wb := by rw [hwb]; exact (Below.refl _ _).alloc (Nat.le_refl _) _
          have k10 : PM.BK wb g10 #[.int .i64 i0.br, .int .u64 (i0.life : Int), .int .u64 (i0.ser : Int)] 26 := by rw [hwb, hg10]; exact PM.BK.new _ _ _
          have hga : Hid (wa.heap.size ≤ g10) := PM.hid (by rw [hg10]; exact Nat.le_refl _)
          rw [← hwb, ← hg10]
          clear hwb hg10
          replace kr := kr.keep hbb
          have c0 : wb.cell? ⟨g3, 0, none⟩ = some (.int .i64 kd0) := kr.cell 0
          have c1 : wb.cell? ⟨g3, 1, none⟩ = some (.int .i64 i0.br) := kr.cell 1
          have c2 : wb.cell? ⟨g3, 2, none⟩ = some (.int .u64 (i0.life : Int)) := kr.cell 2
          have c3 : wb.cell? ⟨g3, 3, none⟩ = some (.int .u64 (i0.ser : Int)) := kr.cell 3
          have c4 : wb.cell? ⟨g3, 4, none⟩ = some (.int .i64 cl0) := kr.cell 4
          have c5 : wb.cell? ⟨g3, 5, none⟩ = some (.slice xa0 xn0 xc0) := kr.cell 5
          have c6 : wb.cell? ⟨g3, 6, none⟩ = some (.int .i64 z0.kind) := kr.cell 6
          have c7 : wb.cell? ⟨g3, 7, none⟩ = some (.int .i64 z0.id.br) := kr.cell 7
          have c8 : wb.cell? ⟨g3, 8, none⟩ = some (.int .u64 (z0.id.life : Int)) := kr.cell 8
          have c9 : wb.cell? ⟨g3, 9, none⟩ = some (.int .u64 (z0.id.ser : Int)) := kr.cell 9
          have c10 : wb.cell? ⟨g3, 10, none⟩ = some (.int .i64 z0.client) := kr.cell 10
          have c11 : wb.cell? ⟨g3, 11, none⟩ = some (.int .u64 (z0.sub : Int)) := kr.cell 11
          have c12 : wb.cell? ⟨g3, 12, none⟩ = some (.slice fa0 zF0 fc0) := kr.cell 12
          have c13 : wb.cell? ⟨g3, 13, none⟩ = some (.slice ea0 zE0 ec0) := kr.cell 13
          have f0 : wb.frozen? ⟨g10, 0, none⟩ = false := k10.free 0
          have n0 : wb.cell? ⟨g10, 0, none⟩ = some (.int .i64 i0.br) := k10.cell 0
          have f1 : wb.frozen? ⟨g10, 1, none⟩ = false := k10.free 1
          have n1 : wb.cell? ⟨g10, 1, none⟩ = some (.int .u64 (i0.life : Int)) := k10.cell 1
          have f2 : wb.frozen? ⟨g10, 2, none⟩ = false := k10.free 2
          have n2 : wb.cell? ⟨g10, 2, none⟩ = some (.int .u64 (i0.ser : Int)) := k10.cell 2
          go_upto_if 60 with fail
          go_cut [9] from 58 to 64 (fun a wx => a = .int .i64 0 ∧ Hid (Below wa.heap.size wa wx ∧ PM.BK wx g10 #[.int .i64 oi.br, .int .u64 (oi.life : Int), .int .u64 (oi.ser : Int)] 26))
          case first =>
            by_cases h5 : kd0 = 5
            · have hon : oi = z0.id := by rw [hoi.out]; unfold PM.Cl.on; rw [if_pos h5]
              have q5 : (kd0 == 5) = true := by simp; exact h5
              have hx : PM.Bx g10 wb (((wb.setCell ⟨g10, 0, none⟩ (.int .i64 z0.id.br)).setCell ⟨g10, 1, none⟩ (.int .u64 (z0.id.life : Int))).setCell ⟨g10, 2, none⟩ (.int .u64 (z0.id.ser : Int))) := ((PM.Bx.set g10 0 _ _).trans (PM.Bx.set g10 1 _ _)).trans (PM.Bx.set g10 2 _ _)
              have hkk : Hid (Below wa.heap.size wa (((wb.setCell ⟨g10, 0, none⟩ (.int .i64 z0.id.br)).setCell ⟨g10, 1, none⟩ (.int .u64 (z0.id.life : Int))).setCell ⟨g10, 2, none⟩ (.int .u64 (z0.id.ser : Int))) ∧ PM.BK (((wb.setCell ⟨g10, 0, none⟩ (.int .i64 z0.id.br)).setCell ⟨g10, 1, none⟩ (.int .u64 (z0.id.life : Int))).setCell ⟨g10, 2, none⟩ (.int .u64 (z0.id.ser : Int))) g10 #[.int .i64 oi.br, .int .u64 (oi.life : Int), .int .u64 (oi.ser : Int)] 26) := PM.hid ⟨hx.below hbb hga.out hbb.size, by rw [hon]; exact ((((k10.set 0 (.int .i64 z0.id.br)).set 1 (.int .u64 (z0.id.life : Int))).set 2 (.int .u64 (z0.id.ser : Int)))).seeO (by simp)⟩
              clear hx hon kr k10
              go_wp2_with fail
              all_goals go_meet
              all_goals exact ⟨rfl, hkk⟩
            · have hon : oi = i0 := by rw [hoi.out]; unfold PM.Cl.on; rw [if_neg h5]
              have q5 : (kd0 == 5) = false := by simp; exact h5
              have hkk : Hid (Below wa.heap.size wa wb ∧ PM.BK wb g10 #[.int .i64 oi.br, .int .u64 (oi.life : Int), .int .u64 (oi.ser : Int)] 26) := PM.hid ⟨hbb, by rw [hon]; exact k10⟩
              clear hon kr k10
              go_wp2_with fail
              all_goals go_meet
              all_goals exact ⟨rfl, hkk⟩
          case rest =>
            obtain ⟨rfl, hcc⟩ := hcut
            obtain ⟨wd, rfl⟩ : ∃ q, q = wc := ⟨wc, rfl⟩
            have hk10 := PM.hid hcc.out.2
            have hMa : Hid (PM.TxL wd (.slice ua MN uc) M) := PM.hid (PM.TxL.keep hcc.out.1 hu)
            have hLd : Hid (PM.TxL wd (.slice la ln lc) L) := PM.hid (PM.TxL.keep hcc.out.1 hLa.out)
            have hBd := PM.hid (PM.chain hBa.out hcc.out.1)
            clear hu hLa hcc kr k10 hbb hga c0 c1 c2 c3 c4 c5 c6 c7 c8 c9 c10 c11 c12 c13 f0 f1 f2 n0 n1 n2
            go_wp2_with fail
            go_loopw [11] (fun i wx => ∃ j : Nat, i = .int .i64 j ∧ j ≤ ln ∧ Hid (Below wd.heap.size wd wx)) (fun i _ => ln - (intOf i).toNat)
            case atStart => exact ⟨0, rfl, by omega, PM.hid (Below.refl _ _)⟩
            case round =>
              obtain ⟨j, rfl, hj, hS⟩ := hrel
              by_cases hlt : j < ln
              · obtain ⟨y, hy⟩ : ∃ z, L[j]? = some z := ⟨L[j]'(by rw [← hlnh.out]; exact hlt), List.getElem?_eq_getElem _⟩
                obtain ⟨b, off, rfl, hce⟩ := PM.RR.opn hLd.out (by rw [← hlnh.out]; omega)
                obtain ⟨cs, hl0, hR⟩ := hce j y hy
                obtain ⟨fa, fc, ea, ec, hcs, hzf, hze⟩ := PM.txR_open hR
                rw [hcs] at hl0
                obtain ⟨z, q⟩ := y
                simp only at hzf hze
                have hzw : Hid z.wf := PM.hid ((hG.out.gw.2 _ (List.mem_of_getElem? hy)).2)
                obtain ⟨zF, hzF⟩ : ∃ P, P = z.fil.length := ⟨_, rfl⟩
                obtain ⟨zE, hzE⟩ : ∃ P, P = z.evs.length := ⟨_, rfl⟩
                have hzc : Hid (wd.cell? ⟨b, off + j * 9, none⟩ = some (.int .i64 z.kind) ∧ wd.cell? ⟨b, off + j * 9 + 1, none⟩ = some (.int .i64 z.id.br) ∧ wd.cell? ⟨b, off + j * 9 + 2, none⟩ = some (.int .u64 (z.id.life : Int)) ∧ wd.cell? ⟨b, off + j * 9 + 3, none⟩ = some (.int .u64 (z.id.ser : Int)) ∧ wd.cell? ⟨b, off + j * 9 + 4, none⟩ = some (.int .i64 z.client) ∧ wd.cell? ⟨b, off + j * 9 + 5, none⟩ = some (.int .u64 (z.sub : Int)) ∧ wd.cell? ⟨b, off + j * 9 + 6, none⟩ = some (.slice fa zF fc) ∧ wd.cell? ⟨b, off + j * 9 + 7, none⟩ = some (.slice ea zE ec) ∧ wd.cell? ⟨b, off + j * 9 + 8, none⟩ = some (.bool q)) := PM.hid ⟨hl0 0 _ rfl, hl0 1 _ rfl, hl0 2 _ rfl, hl0 3 _ rfl, hl0 4 _ rfl, hl0 5 _ rfl, by have := hl0 6 _ rfl; simpa [← hzF, ← hzE] using this, by have := hl0 7 _ rfl; simpa [← hzF, ← hzE] using this, hl0 8 _ rfl⟩
                rw [← hzF] at hzf
                rw [← hzE] at hze
                have hry : Hid (∀ W, Below wd.heap.size wd W → PM.txR W (PM.txC ⟨z, q⟩ (.slice fa zF fc) (.slice ea zE ec)) ⟨z, q⟩) := PM.hid fun W hb => ⟨_, _, rfl, hzf.keep hb, PM.EVL.keepO hb hze⟩
                have hzFe := PM.hid (And.intro hzF hzE)
                have hyh := PM.hid hy
                obtain ⟨c0, hc0'⟩ : ∃ c, c = decide (z.id = oi) := ⟨_, rfl⟩
                have hqi := ideq_run z.id oi
                rw [← hc0'] at hqi
                have hc0 := PM.hid hc0'
                have hj1 : (j : Int) < (ln : Int) := by omega
                clear hce hl0 hR hcs cs hy hzf hze hzF hzE hc0'
                go_upto_region 21 with fail
                refine PM.wp_region_st [some 70, some 71, some 72, some 73, some 74, some 75, some 76, some 77] [fun x _ => x = .slice (some ⟨b, off, none⟩) ln lc, fun x _ => x = .int .i64 (j : Int), fun x _ => x = .pointer (some ⟨b, off + j * 9, none⟩), fun x _ => x = .pointer (some ⟨b, off + j * 9, none⟩), fun x _ => x = .pointer (some ⟨b, off + j * 9 + 1, none⟩), fun x _ => x = .agg #[.int .i64 z.id.br, .int .u64 (z.id.life : Int), .int .u64 (z.id.ser : Int)], fun x _ => x = .agg #[.int .i64 oi.br, .int .u64 (oi.life : Int), .int .u64 (oi.ser : Int)], fun x _ => x = .bool c0] (by kernel_rfl) (by kernel_rfl) (by kernel_rfl) ?_ ?_ ?_
                · simp only [List.forall_mem_cons]
                  refine ⟨?_, ?_, ?_, ?_, ?_, ?_, ?_, ?_, by simp⟩
                  all_goals (intro x W W' h hb; first | exact h | exact PM.BS.keep hb h | exact PM.OW.keep hb h)
                · refine ⟨?_, ?_, ?_, ?_, ?_, ?_, ?_, ?_, trivial⟩
                  all_goals
                    intro a W hB hF hd
                    have k6 := hF 6 rfl
                    have k10 := hF 10 rfl
                    have k11 := hF 11 rfl
                    have hBW := PM.chain hS.out hB
                    have d1 : W.cell? ⟨b, off + j * 9 + 1, none⟩ = some (.int .i64 z.id.br) := PM.cellA hBW hzc.out.2.1
                    have d2 : W.cell? ⟨b, off + j * 9 + 2, none⟩ = some (.int .u64 (z.id.life : Int)) := PM.cellA hBW hzc.out.2.2.1
                    have d3 : W.cell? ⟨b, off + j * 9 + 3, none⟩ = some (.int .u64 (z.id.ser : Int)) := PM.cellA hBW hzc.out.2.2.2.1
                    have kb := hk10.out.keep hBW
                    have o0 : W.cell? ⟨g10, 0, none⟩ = some (.int .i64 oi.br) := kb.cell 0
                    have o1 : W.cell? ⟨g10, 1, none⟩ = some (.int .u64 (oi.life : Int)) := kb.cell 1
                    have o2 : W.cell? ⟨g10, 2, none⟩ = some (.int .u64 (oi.ser : Int)) := kb.cell 2
                    clear kb
                    clear hF
                    simp [PM.depsL, PM.spec, PM.sl, Region.binds] at hd k6 k10 k11
                    simp only [PM.wantL, PM.spec]
                    try simp only [PM.sl]
                    go_simp
                  all_goals try exact Below.refl _ _
                · intro G W hB hF hS2
                  simp [PM.allSp, PM.spec] at hS2
                  have h77 : G 77 = .bool c0 := by simp [hS2]
                  have k0 := hF 0 rfl
                  have k1 := hF 1 rfl
                  have k2 := hF 2 rfl
                  have k3 := hF 3 rfl
                  have k4 := hF 4 rfl
                  have k5 := hF 5 rfl
                  have k6 := hF 6 rfl
                  have k7 := hF 7 rfl
                  have k8 := hF 8 rfl
                  have k9 := hF 9 rfl
                  have k10 := hF 10 rfl
                  have k11 := hF 11 rfl
                  have k12 := hF 12 rfl
                  have k13 := hF 13 rfl
                  have k14 := hF 14 rfl
                  have k15 := hF 15 rfl
                  have k16 := hF 16 rfl
                  have k17 := hF 17 rfl
                  have k18 := hF 18 rfl
                  have k19 := hF 19 rfl
                  have k20 := hF 20 rfl
                  have k21 := hF 21 rfl
                  have k22 := hF 22 rfl
                  have k23 := hF 23 rfl
                  have k24 := hF 24 rfl
                  have k25 := hF 25 rfl
                  have k26 := hF 26 rfl
                  have k27 := hF 27 rfl
                  have k28 := hF 28 rfl
                  have k29 := hF 29 rfl
                  have k30 := hF 30 rfl
                  have k31 := hF 31 rfl
                  have k32 := hF 32 rfl
                  have k33 := hF 33 rfl
                  have k34 := hF 34 rfl
                  have k35 := hF 35 rfl
                  have k36 := hF 36 rfl
                  have k37 := hF 37 rfl
                  have k38 := hF 38 rfl
                  have k39 := hF 39 rfl
                  have k40 := hF 40 rfl
                  have k41 := hF 41 rfl
                  have k42 := hF 42 rfl
                  have k43 := hF 43 rfl
                  have k44 := hF 44 rfl
                  have k45 := hF 45 rfl
                  have k46 := hF 46 rfl
                  have k47 := hF 47 rfl
                  have k48 := hF 48 rfl
                  have k49 := hF 49 rfl
                  have k50 := hF 50 rfl
                  have k51 := hF 51 rfl
                  have k52 := hF 52 rfl
                  have k53 := hF 53 rfl
                  have k54 := hF 54 rfl
                  have k55 := hF 55 rfl
                  have k56 := hF 56 rfl
                  have k57 := hF 57 rfl
                  have k58 := hF 58 rfl
                  have k59 := hF 59 rfl
                  have k60 := hF 60 rfl
                  have k61 := hF 61 rfl
                  have k62 := hF 62 rfl
                  have k63 := hF 63 rfl
                  have k64 := hF 64 rfl
                  have k65 := hF 65 rfl
                  have k66 := hF 66 rfl
                  have k67 := hF 67 rfl
                  have k68 := hF 68 rfl
                  have k69 := hF 69 rfl
                  have k78 := hF 78 rfl
                  have k79 := hF 79 rfl
                  have k80 := hF 80 rfl
                  have k81 := hF 81 rfl
                  have k82 := hF 82 rfl
                  have k83 := hF 83 rfl
                  have k84 := hF 84 rfl
                  have k85 := hF 85 rfl
                  have k86 := hF 86 rfl
                  have k87 := hF 87 rfl
                  have k88 := hF 88 rfl
                  have k89 := hF 89 rfl
                  have k90 := hF 90 rfl
                  have k91 := hF 91 rfl
                  have k92 := hF 92 rfl
                  have k93 := hF 93 rfl
                  have k94 := hF 94 rfl
                  have k95 := hF 95 rfl
                  have k96 := hF 96 rfl
                  have k97 := hF 97 rfl
                  have k98 := hF 98 rfl
                  have k99 := hF 99 rfl
                  have k100 := hF 100 rfl
                  have k101 := hF 101 rfl
                  have k102 := hF 102 rfl
                  simp [PM.sl] at k0 k1 k2 k3 k4 k5 k6 k7 k8 k9 k10 k11 k12 k13 k14 k15 k16 k17 k18 k19 k20 k21 k22 k23 k24 k25 k26 k27 k28 k29 k30 k31 k32 k33 k34 k35 k36 k37 k38 k39 k40 k41 k42 k43 k44 k45 k46 k47 k48 k49 k50 k51 k52 k53 k54 k55 k56 k57 k58 k59 k60 k61 k62 k63 k64 k65 k66 k67 k68 k69 k78 k79 k80 k81 k82 k83 k84 k85 k86 k87 k88 k89 k90 k91 k92 k93 k94 k95 k96 k97 k98 k99 k100 k101 k102
                  rw [show ((List.range (Array.size _)).map G).toArray = #[G 0, G 1, G 2, G 3, G 4, G 5, G 6, G 7, G 8, G 9, G 10, G 11, G 12, G 13, G 14, G 15, G 16, G 17, G 18, G 19, G 20, G 21, G 22, G 23, G 24, G 25, G 26, G 27, G 28, G 29, G 30, G 31, G 32, G 33, G 34, G 35, G 36, G 37, G 38, G 39, G 40, G 41, G 42, G 43, G 44, G 45, G 46, G 47, G 48, G 49, G 50, G 51, G 52, G 53, G 54, G 55, G 56, G 57, G 58, G 59, G 60, G 61, G 62, G 63, G 64, G 65, G 66, G 67, G 68, G 69, G 70, G 71, G 72, G 73, G 74, G 75, G 76, G 77, G 78, G 79, G 80, G 81, G 82, G 83, G 84, G 85, G 86, G 87, G 88, G 89, G 90, G 91, G 92, G 93, G 94, G 95, G 96, G 97, G 98, G 99, G 100, G 101, G 102] from rfl]
                  clear hF hS2
                  rw [h77, k0, k1, k2, k3, k4, k5, k6, k7, k8, k9, k10, k11, k12, k13, k14, k15, k16, k17, k18, k19, k20, k21, k22, k23, k24, k25, k26, k27, k28, k29, k30, k31, k32, k33, k34, k35, k36, k37, k38, k39, k40, k41, k42, k43, k44, k45, k46, k47, k48, k49, k50, k51, k52, k53, k54, k55, k56, k57, k58, k59, k60, k61, k62, k63, k64, k65, k66, k67, k68, k69, k78, k79, k80, k81, k82, k83, k84, k85, k86, k87, k88, k89, k90, k91, k92, k93, k94, k95, k96, k97, k98, k99, k100, k101, k102]
                  clear h77 k0 k1 k2 k3 k4 k5 k6 k7 k8 k9 k10 k11 k12 k13 k14 k15 k16 k17 k18 k19 k20 k21 k22 k23 k24 k25 k26 k27 k28 k29 k30 k31 k32 k33 k34 k35 k36 k37 k38 k39 k40 k41 k42 k43 k44 k45 k46 k47 k48 k49 k50 k51 k52 k53 k54 k55 k56 k57 k58 k59 k60 k61 k62 k63 k64 k65 k66 k67 k68 k69 k78 k79 k80 k81 k82 k83 k84 k85 k86 k87 k88 k89 k90 k91 k92 k93 k94 k95 k96 k97 k98 k99 k100 k101 k102
                  have hBn := PM.hid (PM.chain hS.out hB)
                  clear hB
                  cases c0
                  case true =>
                    go_wp2_with fail
                    exact ⟨⟨j + 1, by go_num, by omega, hBn⟩, by simp only [intOf]; omega⟩
                  case false =>
                    have hne : z.id ≠ oi := of_decide_eq_false hc0.out.symm
                    have hfm := hfind.out _ (List.mem_of_getElem? hyh.out) hne
                    have ht := find_any ua MN uc z.id M W (PM.TxL.keep hBn.out hMa.out) hMs.out
                    rw [hfm] at ht
                    simp only [Option.isSome, Option.getD] at ht
                    have d1 : W.cell? ⟨b, off + j * 9 + 1, none⟩ = some (.int .i64 z.id.br) := PM.cellA hBn.out hzc.out.2.1
                    have d2 : W.cell? ⟨b, off + j * 9 + 2, none⟩ = some (.int .u64 (z.id.life : Int)) := PM.cellA hBn.out hzc.out.2.2.1
                    have d3 : W.cell? ⟨b, off + j * 9 + 3, none⟩ = some (.int .u64 (z.id.ser : Int)) := PM.cellA hBn.out hzc.out.2.2.2.1
                    clear hfm
                    go_wp2_with fail
                    refine ht.mono ?_
                    clear ht d1 d2 d3
                    rintro d w4 ⟨cs, rfl, ⟨fv, ev', rfl, hf1, hf2⟩, hb4⟩
                    have hT1 := hf1.em PM.teL_len
                    have hT2 := PM.evOr_evl hf2
                    obtain ⟨pa, pc, hpe⟩ := hT1.len
                    obtain ⟨pe, pd, hqe⟩ := hT2.len
                    simp only [← hzFe.out.1, ← hzFe.out.2] at hpe hqe
                    subst hpe hqe
                    unfold PM.txC PM.enC
                    simp only [List.cons_append, List.nil_append]
                    clear hf1 hf2
                    go_upto_region 23 with fail
                    obtain ⟨gf, hgf⟩ : ∃ g, g = w4.heap.size := ⟨_, rfl⟩
                    obtain ⟨w5, hw5⟩ : ∃ W, W = w4.alloc (.cells #[.int .i64 z.kind, .int .i64 z.id.br, .int .u64 (z.id.life : Int), .int .u64 (z.id.ser : Int), .int .i64 z.client, .int .u64 (z.sub : Int), .slice pa zF pc, .slice pe zE pd, .bool q] 39) := ⟨_, rfl⟩
                    have hb5 : Below w4.heap.size w4 w5 := by rw [hw5]; exact (Below.refl _ _).alloc (Nat.le_refl _) _
                    have kf : PM.BK w5 gf #[.int .i64 z.kind, .int .i64 z.id.br, .int .u64 (z.id.life : Int), .int .u64 (z.id.ser : Int), .int .i64 z.client, .int .u64 (z.sub : Int), .slice pa zF pc, .slice pe zE pd, .bool q] 39 := by rw [hw5, hgf]; exact PM.BK.new _ _ _
                    rw [← hw5, ← hgf]
                    clear hw5 hgf
                    have hrx : Hid (∀ W, Below w5.heap.size w5 W → PM.txR W (PM.txC ⟨z, q⟩ (.slice pa zF pc) (.slice pe zE pd)) ⟨z, q⟩) := PM.hid fun W hb => ⟨_, _, rfl, (hT1.keep hb5).keep hb, PM.EVL.keepO hb (PM.EVL.keepO hb5 hT2)⟩
                    have hS5 := PM.hid (PM.chain (PM.chain hBn.out hb4) hb5)
                    clear hT1 hT2 hb4 hb5
                    refine PM.wp_region_st [some 89, some 90, some 91, some 92, some 93, some 94, some 95, some 96, some 14] [fun x _ => x = .agg #[.int .i64 z.kind, .int .i64 z.id.br, .int .u64 (z.id.life : Int), .int .u64 (z.id.ser : Int), .int .i64 z.client, .int .u64 (z.sub : Int), .slice pa zF pc, .slice pe zE pd, .bool q], fun x W => PM.TxL W x [⟨z, q⟩], fun x _ => x = .slice (some ⟨b, off, none⟩) ln lc, fun x _ => x = .int .i64 (j : Int), fun x _ => x = .pointer (some ⟨b, off + j * 9, none⟩), fun x _ => x = .agg #[.int .i64 z.kind, .int .i64 z.id.br, .int .u64 (z.id.life : Int), .int .u64 (z.id.ser : Int), .int .i64 z.client, .int .u64 (z.sub : Int), .slice fa zF fc, .slice ea zE ec, .bool q], fun x W => PM.TxL W x [⟨z, q⟩], fun x _ => x = .bool true, fun x _ => x = .bool true] (by kernel_rfl) (by kernel_rfl) (by kernel_rfl) ?_ ?_ ?_
                    · simp only [List.forall_mem_cons]
                      refine ⟨?_, ?_, ?_, ?_, ?_, ?_, ?_, ?_, ?_, by simp⟩
                      all_goals (intro x W W' h hb; first | exact h | exact PM.BS.keep hb h | exact PM.OW.keep hb h | exact PM.TxL.keep hb h)
                    · refine ⟨?_, ?_, ?_, ?_, ?_, ?_, ?_, ?_, ?_, trivial⟩
                      all_goals
                        intro a W hB hF hd
                        have k6 := hF 6 rfl
                        have k11 := hF 11 rfl
                        have k12 := hF 12 rfl
                        have hBW := PM.chain hS5.out hB
                        have kt := kf.keep hB
                        have f0 : W.cell? ⟨gf, 0, none⟩ = some (.int .i64 z.kind) := PM.BK.cell kt 0
                        have f1 : W.cell? ⟨gf, 1, none⟩ = some (.int .i64 z.id.br) := PM.BK.cell kt 1
                        have f2 : W.cell? ⟨gf, 2, none⟩ = some (.int .u64 (z.id.life : Int)) := PM.BK.cell kt 2
                        have f3 : W.cell? ⟨gf, 3, none⟩ = some (.int .u64 (z.id.ser : Int)) := PM.BK.cell kt 3
                        have f4 : W.cell? ⟨gf, 4, none⟩ = some (.int .i64 z.client) := PM.BK.cell kt 4
                        have f5 : W.cell? ⟨gf, 5, none⟩ = some (.int .u64 (z.sub : Int)) := PM.BK.cell kt 5
                        have f6 : W.cell? ⟨gf, 6, none⟩ = some (.slice pa zF pc) := PM.BK.cell kt 6
                        have f7 : W.cell? ⟨gf, 7, none⟩ = some (.slice pe zE pd) := PM.BK.cell kt 7
                        have f8 : W.cell? ⟨gf, 8, none⟩ = some (.bool q) := PM.BK.cell kt 8
                        have d0 : W.cell? ⟨b, off + j * 9, none⟩ = some (.int .i64 z.kind) := PM.cellA hBW (hzc.out.1)
                        have d1 : W.cell? ⟨b, off + j * 9 + 1, none⟩ = some (.int .i64 z.id.br) := PM.cellA hBW (hzc.out.2.1)
                        have d2 : W.cell? ⟨b, off + j * 9 + 2, none⟩ = some (.int .u64 (z.id.life : Int)) := PM.cellA hBW (hzc.out.2.2.1)
                        have d3 : W.cell? ⟨b, off + j * 9 + 3, none⟩ = some (.int .u64 (z.id.ser : Int)) := PM.cellA hBW (hzc.out.2.2.2.1)
                        have d4 : W.cell? ⟨b, off + j * 9 + 4, none⟩ = some (.int .i64 z.client) := PM.cellA hBW (hzc.out.2.2.2.2.1)
                        have d5 : W.cell? ⟨b, off + j * 9 + 5, none⟩ = some (.int .u64 (z.sub : Int)) := PM.cellA hBW (hzc.out.2.2.2.2.2.1)
                        have d6 : W.cell? ⟨b, off + j * 9 + 6, none⟩ = some (.slice fa zF fc) := PM.cellA hBW (hzc.out.2.2.2.2.2.2.1)
                        have d7 : W.cell? ⟨b, off + j * 9 + 7, none⟩ = some (.slice ea zE ec) := PM.cellA hBW (hzc.out.2.2.2.2.2.2.2.1)
                        have d8 : W.cell? ⟨b, off + j * 9 + 8, none⟩ = some (.bool q) := PM.cellA hBW (hzc.out.2.2.2.2.2.2.2.2)
                        clear kt
                        clear hF
                        simp [PM.depsL, PM.spec, PM.sl, Region.binds] at hd k6 k11 k12
                        simp only [PM.wantL, PM.spec]
                        try simp only [PM.sl]
                        go_simp
                      all_goals try exact Below.refl _ _
                      · exact ⟨(Below.refl _ _).alloc (Nat.le_refl _) _, _, rfl, PM.RR.one (w0 := W) PM.txR_lasts W _ (PM.txCe ⟨z, q⟩ pa zF pc pe zE pd) ⟨z, q⟩ _ rfl (hrx.out W hB)⟩
                      · exact ⟨(Below.refl _ _).alloc (Nat.le_refl _) _, _, rfl, PM.RR.one (w0 := W) PM.txR_lasts W _ (PM.txCe ⟨z, q⟩ fa zF fc ea zE ec) ⟨z, q⟩ _ rfl (hry.out W hBW)⟩
                      · refine (same17_any _ _ [⟨z, q⟩] [⟨z, q⟩] W hd.1 hd.2 (by simp only [List.mem_singleton]; rintro x rfl; exact hzw.out) (by simp only [List.mem_singleton]; rintro x rfl; exact hzw.out)).mono ?_
                        rintro e w' ⟨hh, hb⟩
                        rcases hh with ⟨rfl, -⟩ | ⟨-, hno⟩
                        · first | exact ⟨hb, rfl⟩ | exact ⟨hb, _, rfl, rfl⟩
                        · first | exact (hno rfl).elim | exact (hno trivial).elim
                    · intro G W hB hF hS2
                      simp [PM.allSp, PM.spec] at hS2
                      have h14 : G 14 = .bool true := by simp [hS2]
                      have k0 := hF 0 rfl
                      have k1 := hF 1 rfl
                      have k2 := hF 2 rfl
                      have k3 := hF 3 rfl
                      have k4 := hF 4 rfl
                      have k5 := hF 5 rfl
                      have k6 := hF 6 rfl
                      have k7 := hF 7 rfl
                      have k8 := hF 8 rfl
                      have k9 := hF 9 rfl
                      have k10 := hF 10 rfl
                      have k11 := hF 11 rfl
                      have k12 := hF 12 rfl
                      have k13 := hF 13 rfl
                      have k15 := hF 15 rfl
                      have k16 := hF 16 rfl
                      have k17 := hF 17 rfl
                      have k18 := hF 18 rfl
                      have k19 := hF 19 rfl
                      have k20 := hF 20 rfl
                      have k21 := hF 21 rfl
                      have k22 := hF 22 rfl
                      have k23 := hF 23 rfl
                      have k24 := hF 24 rfl
                      have k25 := hF 25 rfl
                      have k26 := hF 26 rfl
                      have k27 := hF 27 rfl
                      have k28 := hF 28 rfl
                      have k29 := hF 29 rfl
                      have k30 := hF 30 rfl
                      have k31 := hF 31 rfl
                      have k32 := hF 32 rfl
                      have k33 := hF 33 rfl
                      have k34 := hF 34 rfl
                      have k35 := hF 35 rfl
                      have k36 := hF 36 rfl
                      have k37 := hF 37 rfl
                      have k38 := hF 38 rfl
                      have k39 := hF 39 rfl
                      have k40 := hF 40 rfl
                      have k41 := hF 41 rfl
                      have k42 := hF 42 rfl
                      have k43 := hF 43 rfl
                      have k44 := hF 44 rfl
                      have k45 := hF 45 rfl
                      have k46 := hF 46 rfl
                      have k47 := hF 47 rfl
                      have k48 := hF 48 rfl
                      have k49 := hF 49 rfl
                      have k50 := hF 50 rfl
                      have k51 := hF 51 rfl
                      have k52 := hF 52 rfl
                      have k53 := hF 53 rfl
                      have k54 := hF 54 rfl
                      have k55 := hF 55 rfl
                      have k56 := hF 56 rfl
                      have k57 := hF 57 rfl
                      have k58 := hF 58 rfl
                      have k59 := hF 59 rfl
                      have k60 := hF 60 rfl
                      have k61 := hF 61 rfl
                      have k62 := hF 62 rfl
                      have k63 := hF 63 rfl
                      have k64 := hF 64 rfl
                      have k65 := hF 65 rfl
                      have k66 := hF 66 rfl
                      have k67 := hF 67 rfl
                      have k68 := hF 68 rfl
                      have k69 := hF 69 rfl
                      have k70 := hF 70 rfl
                      have k71 := hF 71 rfl
                      have k72 := hF 72 rfl
                      have k73 := hF 73 rfl
                      have k74 := hF 74 rfl
                      have k75 := hF 75 rfl
                      have k76 := hF 76 rfl
                      have k77 := hF 77 rfl
                      have k78 := hF 78 rfl
                      have k79 := hF 79 rfl
                      have k80 := hF 80 rfl
                      have k81 := hF 81 rfl
                      have k82 := hF 82 rfl
                      have k83 := hF 83 rfl
                      have k84 := hF 84 rfl
                      have k85 := hF 85 rfl
                      have k86 := hF 86 rfl
                      have k87 := hF 87 rfl
                      have k88 := hF 88 rfl
                      have k97 := hF 97 rfl
                      have k98 := hF 98 rfl
                      have k99 := hF 99 rfl
                      have k100 := hF 100 rfl
                      have k101 := hF 101 rfl
                      have k102 := hF 102 rfl
                      simp [PM.sl] at k0 k1 k2 k3 k4 k5 k6 k7 k8 k9 k10 k11 k12 k13 k15 k16 k17 k18 k19 k20 k21 k22 k23 k24 k25 k26 k27 k28 k29 k30 k31 k32 k33 k34 k35 k36 k37 k38 k39 k40 k41 k42 k43 k44 k45 k46 k47 k48 k49 k50 k51 k52 k53 k54 k55 k56 k57 k58 k59 k60 k61 k62 k63 k64 k65 k66 k67 k68 k69 k70 k71 k72 k73 k74 k75 k76 k77 k78 k79 k80 k81 k82 k83 k84 k85 k86 k87 k88 k97 k98 k99 k100 k101 k102
                      rw [show ((List.range (Array.size _)).map G).toArray = #[G 0, G 1, G 2, G 3, G 4, G 5, G 6, G 7, G 8, G 9, G 10, G 11, G 12, G 13, G 14, G 15, G 16, G 17, G 18, G 19, G 20, G 21, G 22, G 23, G 24, G 25, G 26, G 27, G 28, G 29, G 30, G 31, G 32, G 33, G 34, G 35, G 36, G 37, G 38, G 39, G 40, G 41, G 42, G 43, G 44, G 45, G 46, G 47, G 48, G 49, G 50, G 51, G 52, G 53, G 54, G 55, G 56, G 57, G 58, G 59, G 60, G 61, G 62, G 63, G 64, G 65, G 66, G 67, G 68, G 69, G 70, G 71, G 72, G 73, G 74, G 75, G 76, G 77, G 78, G 79, G 80, G 81, G 82, G 83, G 84, G 85, G 86, G 87, G 88, G 89, G 90, G 91, G 92, G 93, G 94, G 95, G 96, G 97, G 98, G 99, G 100, G 101, G 102] from rfl]
                      clear hF hS2
                      rw [h14, k0, k1, k2, k3, k4, k5, k6, k7, k8, k9, k10, k11, k12, k13, k15, k16, k17, k18, k19, k20, k21, k22, k23, k24, k25, k26, k27, k28, k29, k30, k31, k32, k33, k34, k35, k36, k37, k38, k39, k40, k41, k42, k43, k44, k45, k46, k47, k48, k49, k50, k51, k52, k53, k54, k55, k56, k57, k58, k59, k60, k61, k62, k63, k64, k65, k66, k67, k68, k69, k70, k71, k72, k73, k74, k75, k76, k77, k78, k79, k80, k81, k82, k83, k84, k85, k86, k87, k88, k97, k98, k99, k100, k101, k102]
                      clear h14 k0 k1 k2 k3 k4 k5 k6 k7 k8 k9 k10 k11 k12 k13 k15 k16 k17 k18 k19 k20 k21 k22 k23 k24 k25 k26 k27 k28 k29 k30 k31 k32 k33 k34 k35 k36 k37 k38 k39 k40 k41 k42 k43 k44 k45 k46 k47 k48 k49 k50 k51 k52 k53 k54 k55 k56 k57 k58 k59 k60 k61 k62 k63 k64 k65 k66 k67 k68 k69 k70 k71 k72 k73 k74 k75 k76 k77 k78 k79 k80 k81 k82 k83 k84 k85 k86 k87 k88 k97 k98 k99 k100 k101 k102
                      have hBn := PM.hid (PM.chain hS5.out hB)
                      clear hB kf
                      go_wp2_with fail
                      exact ⟨⟨j + 1, by go_num, by omega, hBn⟩, by simp only [intOf]; omega⟩
              · have hend := PM.hid (PM.chain' hBd.out hS.out hBd.out.size)
                obtain rfl : ln = j := by omega
                go_wp2_with fail
                go_ret
                exact ⟨by first | rfl | simp, hend.out⟩
      · have hi1 : (40 : Int) < (N : Int) := by omega
        have hln : ln = L.length := by obtain ⟨_, _, h⟩ := hTx.len; injection h
        have hlnh := PM.hid hln
        have hl8 := hG.gw.1
        rw [← hln] at hl8
        have kr := hk3.out.keep hB
        have hBw := PM.chain' hB3.out hB hB3.out.size
        have ht := next_any la ln lc kd0 i0 cl0 xa0 xn0 xc0 e0 z0 fa0 zF0 fc0 ea0 zE0 ec0 L wr hTx hG.gw hcw.out hfw.out (hrd.out.1.keep hBw) hrd.out.2.1 hrd.out.2.2.1 (hrd.out.2.2.2.1.keep hBw) (PM.EVL.keepO hBw hrd.out.2.2.2.2)
        have hGn := hG.next hcw.out hfw.out
        have herr := fun h => PM.next_err (l := L) (c := ⟨kd0, i0, cl0, e0, z0⟩) h
        have hoth := fun (x : PM.Tx) (hx : x ∈ L) (h : x.en.id ≠ oi) => PM.find_mem hGn.nd (PM.next_other (l := L) (c := ⟨kd0, i0, cl0, e0, z0⟩) hx (by rw [← hoi.out]; exact h))
        obtain ⟨M, hM⟩ : ∃ m, m = (PM.nextT L ⟨kd0, i0, cl0, e0, z0⟩).1 := ⟨_, rfl⟩
        obtain ⟨C, hC⟩ : ∃ m, m = (PM.nextT L ⟨kd0, i0, cl0, e0, z0⟩).2 := ⟨_, rfl⟩
        rw [← hM] at ht hGn herr hoth
        rw [← hC] at ht herr
        have hfind := PM.hid hoth
        replace hG := PM.hid hG
        have hMs := PM.hid hGn.gw.txs
        have hTx0 := PM.hid hTx
        have c0 : wr.cell? ⟨g3, 0, none⟩ = some (.int .i64 kd0) := kr.cell 0
        have c1 : wr.cell? ⟨g3, 1, none⟩ = some (.int .i64 i0.br) := kr.cell 1
        have c2 : wr.cell? ⟨g3, 2, none⟩ = some (.int .u64 (i0.life : Int)) := kr.cell 2
        have c3 : wr.cell? ⟨g3, 3, none⟩ = some (.int .u64 (i0.ser : Int)) := kr.cell 3
        have c4 : wr.cell? ⟨g3, 4, none⟩ = some (.int .i64 cl0) := kr.cell 4
        have c5 : wr.cell? ⟨g3, 5, none⟩ = some (.slice xa0 xn0 xc0) := kr.cell 5
        have c6 : wr.cell? ⟨g3, 6, none⟩ = some (.int .i64 z0.kind) := kr.cell 6
        have c7 : wr.cell? ⟨g3, 7, none⟩ = some (.int .i64 z0.id.br) := kr.cell 7
        have c8 : wr.cell? ⟨g3, 8, none⟩ = some (.int .u64 (z0.id.life : Int)) := kr.cell 8
        have c9 : wr.cell? ⟨g3, 9, none⟩ = some (.int .u64 (z0.id.ser : Int)) := kr.cell 9
        have c10 : wr.cell? ⟨g3, 10, none⟩ = some (.int .i64 z0.client) := kr.cell 10
        have c11 : wr.cell? ⟨g3, 11, none⟩ = some (.int .u64 (z0.sub : Int)) := kr.cell 11
        have c12 : wr.cell? ⟨g3, 12, none⟩ = some (.slice fa0 zF0 fc0) := kr.cell 12
        have c13 : wr.cell? ⟨g3, 13, none⟩ = some (.slice ea0 zE0 ec0) := kr.cell 13
        clear hln hM hC hoth hTx
        go_wp2_with fail
        refine ht.mono ?_
        clear ht c0 c1 c2 c3 c4 c5 c6 c7 c8 c9 c10 c11 c12 c13
        rintro d wa ⟨u, rfl, hu, hba⟩
        have hLa := PM.hid (PM.TxL.keep hba hTx0.out)
        replace kr := kr.keep hba
        have hBa := PM.hid (PM.chain hBw hba)
        clear hTx0 hba hBw hB
        by_cases hC0 : C = 0
        case neg =>
          have hML := herr hC0
          rw [hML] at hu
          have ht := same17_any u (.slice la ln lc) L L wa hu hLa.out (fun x hx => (hG.out.gw.2 x hx).2) (fun x hx => (hG.out.gw.2 x hx).2)
          have q1 : (C != 0) = true := by simp; exact hC0
          obtain ⟨ua, uc, hue⟩ := hu.len
          generalize L.length = un at hue
          subst hue
          clear hML herr
          go_wp2_with fail
          refine ht.mono ?_
          clear ht
          rintro d wb ⟨hh, hbb⟩
          have hend := PM.hid (PM.chain hBa.out hbb)
          rcases hh with ⟨rfl, -⟩ | ⟨-, hno⟩
          case inr => first | exact (hno rfl).elim | exact (hno trivial).elim
          go_wp2_with fail
          go_ret
          exact ⟨rfl, hend.out⟩
        case pos =>
          subst hC0
          obtain ⟨ua, uc, hue⟩ := hu.len
          obtain ⟨MN, hMN⟩ : ∃ n, n = M.length := ⟨_, rfl⟩
          rw [← hMN] at hue
          subst hue
          clear hMN herr
          have c0 : wa.cell? ⟨g3, 0, none⟩ = some (.int .i64 kd0) := kr.cell 0
          have c1 : wa.cell? ⟨g3, 1, none⟩ = some (.int .i64 i0.br) := kr.cell 1
          have c2 : wa.cell? ⟨g3, 2, none⟩ = some (.int .u64 (i0.life : Int)) := kr.cell 2
          have c3 : wa.cell? ⟨g3, 3, none⟩ = some (.int .u64 (i0.ser : Int)) := kr.cell 3
          have c4 : wa.cell? ⟨g3, 4, none⟩ = some (.int .i64 cl0) := kr.cell 4
          have c5 : wa.cell? ⟨g3, 5, none⟩ = some (.slice xa0 xn0 xc0) := kr.cell 5
          have c6 : wa.cell? ⟨g3, 6, none⟩ = some (.int .i64 z0.kind) := kr.cell 6
          have c7 : wa.cell? ⟨g3, 7, none⟩ = some (.int .i64 z0.id.br) := kr.cell 7
          have c8 : wa.cell? ⟨g3, 8, none⟩ = some (.int .u64 (z0.id.life : Int)) := kr.cell 8
          have c9 : wa.cell? ⟨g3, 9, none⟩ = some (.int .u64 (z0.id.ser : Int)) := kr.cell 9
          have c10 : wa.cell? ⟨g3, 10, none⟩ = some (.int .i64 z0.client) := kr.cell 10
          have c11 : wa.cell? ⟨g3, 11, none⟩ = some (.int .u64 (z0.sub : Int)) := kr.cell 11
          have c12 : wa.cell? ⟨g3, 12, none⟩ = some (.slice fa0 zF0 fc0) := kr.cell 12
          have c13 : wa.cell? ⟨g3, 13, none⟩ = some (.slice ea0 zE0 ec0) := kr.cell 13
          go_upto_region 16 with fail
          clear c0 c1 c2 c3 c4 c5 c6 c7 c8 c9 c10 c11 c12 c13
          obtain ⟨g10, hg10⟩ : ∃ g, g = wa.heap.size := ⟨_, rfl⟩
          obtain ⟨wb, hwb⟩ : ∃ W, W = wa.alloc (.cells #[.int .i64 i0.br, .int .u64 (i0.life : Int), .int .u64 (i0.ser : Int)] 26) := ⟨_, rfl⟩
          have hbb : Below wa.heap.size wa wb := by rw [hwb]; exact (Below.refl _ _).alloc (Nat.le_refl _) _
          have k10 : PM.BK wb g10 #[.int .i64 i0.br, .int .u64 (i0.life : Int), .int .u64 (i0.ser : Int)] 26 := by rw [hwb, hg10]; exact PM.BK.new _ _ _
          have hga : Hid (wa.heap.size ≤ g10) := PM.hid (by rw [hg10]; exact Nat.le_refl _)
          rw [← hwb, ← hg10]
          clear hwb hg10
          replace kr := kr.keep hbb
          have c0 : wb.cell? ⟨g3, 0, none⟩ = some (.int .i64 kd0) := kr.cell 0
          have c1 : wb.cell? ⟨g3, 1, none⟩ = some (.int .i64 i0.br) := kr.cell 1
          have c2 : wb.cell? ⟨g3, 2, none⟩ = some (.int .u64 (i0.life : Int)) := kr.cell 2
          have c3 : wb.cell? ⟨g3, 3, none⟩ = some (.int .u64 (i0.ser : Int)) := kr.cell 3
          have c4 : wb.cell? ⟨g3, 4, none⟩ = some (.int .i64 cl0) := kr.cell 4
          have c5 : wb.cell? ⟨g3, 5, none⟩ = some (.slice xa0 xn0 xc0) := kr.cell 5
          have c6 : wb.cell? ⟨g3, 6, none⟩ = some (.int .i64 z0.kind) := kr.cell 6
          have c7 : wb.cell? ⟨g3, 7, none⟩ = some (.int .i64 z0.id.br) := kr.cell 7
          have c8 : wb.cell? ⟨g3, 8, none⟩ = some (.int .u64 (z0.id.life : Int)) := kr.cell 8
          have c9 : wb.cell? ⟨g3, 9, none⟩ = some (.int .u64 (z0.id.ser : Int)) := kr.cell 9
          have c10 : wb.cell? ⟨g3, 10, none⟩ = some (.int .i64 z0.client) := kr.cell 10
          have c11 : wb.cell? ⟨g3, 11, none⟩ = some (.int .u64 (z0.sub : Int)) := kr.cell 11
          have c12 : wb.cell? ⟨g3, 12, none⟩ = some (.slice fa0 zF0 fc0) := kr.cell 12
          have c13 : wb.cell? ⟨g3, 13, none⟩ = some (.slice ea0 zE0 ec0) := kr.cell 13
          have f0 : wb.frozen? ⟨g10, 0, none⟩ = false := k10.free 0
          have n0 : wb.cell? ⟨g10, 0, none⟩ = some (.int .i64 i0.br) := k10.cell 0
          have f1 : wb.frozen? ⟨g10, 1, none⟩ = false := k10.free 1
          have n1 : wb.cell? ⟨g10, 1, none⟩ = some (.int .u64 (i0.life : Int)) := k10.cell 1
          have f2 : wb.frozen? ⟨g10, 2, none⟩ = false := k10.free 2
          have n2 : wb.cell? ⟨g10, 2, none⟩ = some (.int .u64 (i0.ser : Int)) := k10.cell 2
          go_upto_if 60 with fail
          go_cut [9] from 58 to 64 (fun a wx => a = .int .i64 0 ∧ Hid (Below wa.heap.size wa wx ∧ PM.BK wx g10 #[.int .i64 oi.br, .int .u64 (oi.life : Int), .int .u64 (oi.ser : Int)] 26))
          case first =>
            by_cases h5 : kd0 = 5
            · have hon : oi = z0.id := by rw [hoi.out]; unfold PM.Cl.on; rw [if_pos h5]
              have q5 : (kd0 == 5) = true := by simp; exact h5
              have hx : PM.Bx g10 wb (((wb.setCell ⟨g10, 0, none⟩ (.int .i64 z0.id.br)).setCell ⟨g10, 1, none⟩ (.int .u64 (z0.id.life : Int))).setCell ⟨g10, 2, none⟩ (.int .u64 (z0.id.ser : Int))) := ((PM.Bx.set g10 0 _ _).trans (PM.Bx.set g10 1 _ _)).trans (PM.Bx.set g10 2 _ _)
              have hkk : Hid (Below wa.heap.size wa (((wb.setCell ⟨g10, 0, none⟩ (.int .i64 z0.id.br)).setCell ⟨g10, 1, none⟩ (.int .u64 (z0.id.life : Int))).setCell ⟨g10, 2, none⟩ (.int .u64 (z0.id.ser : Int))) ∧ PM.BK (((wb.setCell ⟨g10, 0, none⟩ (.int .i64 z0.id.br)).setCell ⟨g10, 1, none⟩ (.int .u64 (z0.id.life : Int))).setCell ⟨g10, 2, none⟩ (.int .u64 (z0.id.ser : Int))) g10 #[.int .i64 oi.br, .int .u64 (oi.life : Int), .int .u64 (oi.ser : Int)] 26) := PM.hid ⟨hx.below hbb hga.out hbb.size, by rw [hon]; exact ((((k10.set 0 (.int .i64 z0.id.br)).set 1 (.int .u64 (z0.id.life : Int))).set 2 (.int .u64 (z0.id.ser : Int)))).seeO (by simp)⟩
              clear hx hon kr k10
              go_wp2_with fail
              all_goals go_meet
              all_goals exact ⟨rfl, hkk⟩
            · have hon : oi = i0 := by rw [hoi.out]; unfold PM.Cl.on; rw [if_neg h5]
              have q5 : (kd0 == 5) = false := by simp; exact h5
              have hkk : Hid (Below wa.heap.size wa wb ∧ PM.BK wb g10 #[.int .i64 oi.br, .int .u64 (oi.life : Int), .int .u64 (oi.ser : Int)] 26) := PM.hid ⟨hbb, by rw [hon]; exact k10⟩
              clear hon kr k10
              go_wp2_with fail
              all_goals go_meet
              all_goals exact ⟨rfl, hkk⟩
          case rest =>
            obtain ⟨rfl, hcc⟩ := hcut
            obtain ⟨wd, rfl⟩ : ∃ q, q = wc := ⟨wc, rfl⟩
            have hk10 := PM.hid hcc.out.2
            have hMa : Hid (PM.TxL wd (.slice ua MN uc) M) := PM.hid (PM.TxL.keep hcc.out.1 hu)
            have hLd : Hid (PM.TxL wd (.slice la ln lc) L) := PM.hid (PM.TxL.keep hcc.out.1 hLa.out)
            have hBd := PM.hid (PM.chain hBa.out hcc.out.1)
            clear hu hLa hcc kr k10 hbb hga c0 c1 c2 c3 c4 c5 c6 c7 c8 c9 c10 c11 c12 c13 f0 f1 f2 n0 n1 n2
            go_wp2_with fail
            go_loopw [11] (fun i wx => ∃ j : Nat, i = .int .i64 j ∧ j ≤ ln ∧ Hid (Below wd.heap.size wd wx)) (fun i _ => ln - (intOf i).toNat)
            case atStart => exact ⟨0, rfl, by omega, PM.hid (Below.refl _ _)⟩
            case round =>
              obtain ⟨j, rfl, hj, hS⟩ := hrel
              by_cases hlt : j < ln
              · obtain ⟨y, hy⟩ : ∃ z, L[j]? = some z := ⟨L[j]'(by rw [← hlnh.out]; exact hlt), List.getElem?_eq_getElem _⟩
                obtain ⟨b, off, rfl, hce⟩ := PM.RR.opn hLd.out (by rw [← hlnh.out]; omega)
                obtain ⟨cs, hl0, hR⟩ := hce j y hy
                obtain ⟨fa, fc, ea, ec, hcs, hzf, hze⟩ := PM.txR_open hR
                rw [hcs] at hl0
                obtain ⟨z, q⟩ := y
                simp only at hzf hze
                have hzw : Hid z.wf := PM.hid ((hG.out.gw.2 _ (List.mem_of_getElem? hy)).2)
                obtain ⟨zF, hzF⟩ : ∃ P, P = z.fil.length := ⟨_, rfl⟩
                obtain ⟨zE, hzE⟩ : ∃ P, P = z.evs.length := ⟨_, rfl⟩
                have hzc : Hid (wd.cell? ⟨b, off + j * 9, none⟩ = some (.int .i64 z.kind) ∧ wd.cell? ⟨b, off + j * 9 + 1, none⟩ = some (.int .i64 z.id.br) ∧ wd.cell? ⟨b, off + j * 9 + 2, none⟩ = some (.int .u64 (z.id.life : Int)) ∧ wd.cell? ⟨b, off + j * 9 + 3, none⟩ = some (.int .u64 (z.id.ser : Int)) ∧ wd.cell? ⟨b, off + j * 9 + 4, none⟩ = some (.int .i64 z.client) ∧ wd.cell? ⟨b, off + j * 9 + 5, none⟩ = some (.int .u64 (z.sub : Int)) ∧ wd.cell? ⟨b, off + j * 9 + 6, none⟩ = some (.slice fa zF fc) ∧ wd.cell? ⟨b, off + j * 9 + 7, none⟩ = some (.slice ea zE ec) ∧ wd.cell? ⟨b, off + j * 9 + 8, none⟩ = some (.bool q)) := PM.hid ⟨hl0 0 _ rfl, hl0 1 _ rfl, hl0 2 _ rfl, hl0 3 _ rfl, hl0 4 _ rfl, hl0 5 _ rfl, by have := hl0 6 _ rfl; simpa [← hzF, ← hzE] using this, by have := hl0 7 _ rfl; simpa [← hzF, ← hzE] using this, hl0 8 _ rfl⟩
                rw [← hzF] at hzf
                rw [← hzE] at hze
                have hry : Hid (∀ W, Below wd.heap.size wd W → PM.txR W (PM.txC ⟨z, q⟩ (.slice fa zF fc) (.slice ea zE ec)) ⟨z, q⟩) := PM.hid fun W hb => ⟨_, _, rfl, hzf.keep hb, PM.EVL.keepO hb hze⟩
                have hzFe := PM.hid (And.intro hzF hzE)
                have hyh := PM.hid hy
                obtain ⟨c0, hc0'⟩ : ∃ c, c = decide (z.id = oi) := ⟨_, rfl⟩
                have hqi := ideq_run z.id oi
                rw [← hc0'] at hqi
                have hc0 := PM.hid hc0'
                have hj1 : (j : Int) < (ln : Int) := by omega
                clear hce hl0 hR hcs cs hy hzf hze hzF hzE hc0'
                go_upto_region 21 with fail
                refine PM.wp_region_st [some 70, some 71, some 72, some 73, some 74, some 75, some 76, some 77] [fun x _ => x = .slice (some ⟨b, off, none⟩) ln lc, fun x _ => x = .int .i64 (j : Int), fun x _ => x = .pointer (some ⟨b, off + j * 9, none⟩), fun x _ => x = .pointer (some ⟨b, off + j * 9, none⟩), fun x _ => x = .pointer (some ⟨b, off + j * 9 + 1, none⟩), fun x _ => x = .agg #[.int .i64 z.id.br, .int .u64 (z.id.life : Int), .int .u64 (z.id.ser : Int)], fun x _ => x = .agg #[.int .i64 oi.br, .int .u64 (oi.life : Int), .int .u64 (oi.ser : Int)], fun x _ => x = .bool c0] (by kernel_rfl) (by kernel_rfl) (by kernel_rfl) ?_ ?_ ?_
                · simp only [List.forall_mem_cons]
                  refine ⟨?_, ?_, ?_, ?_, ?_, ?_, ?_, ?_, by simp⟩
                  all_goals (intro x W W' h hb; first | exact h | exact PM.BS.keep hb h | exact PM.OW.keep hb h)
                · refine ⟨?_, ?_, ?_, ?_, ?_, ?_, ?_, ?_, trivial⟩
                  all_goals
                    intro a W hB hF hd
                    have k6 := hF 6 rfl
                    have k10 := hF 10 rfl
                    have k11 := hF 11 rfl
                    have hBW := PM.chain hS.out hB
                    have d1 : W.cell? ⟨b, off + j * 9 + 1, none⟩ = some (.int .i64 z.id.br) := PM.cellA hBW hzc.out.2.1
                    have d2 : W.cell? ⟨b, off + j * 9 + 2, none⟩ = some (.int .u64 (z.id.life : Int)) := PM.cellA hBW hzc.out.2.2.1
                    have d3 : W.cell? ⟨b, off + j * 9 + 3, none⟩ = some (.int .u64 (z.id.ser : Int)) := PM.cellA hBW hzc.out.2.2.2.1
                    have kb := hk10.out.keep hBW
                    have o0 : W.cell? ⟨g10, 0, none⟩ = some (.int .i64 oi.br) := kb.cell 0
                    have o1 : W.cell? ⟨g10, 1, none⟩ = some (.int .u64 (oi.life : Int)) := kb.cell 1
                    have o2 : W.cell? ⟨g10, 2, none⟩ = some (.int .u64 (oi.ser : Int)) := kb.cell 2
                    clear kb
                    clear hF
                    simp [PM.depsL, PM.spec, PM.sl, Region.binds] at hd k6 k10 k11
                    simp only [PM.wantL, PM.spec]
                    try simp only [PM.sl]
                    go_simp
                  all_goals try exact Below.refl _ _
                · intro G W hB hF hS2
                  simp [PM.allSp, PM.spec] at hS2
                  have h77 : G 77 = .bool c0 := by simp [hS2]
                  have k0 := hF 0 rfl
                  have k1 := hF 1 rfl
                  have k2 := hF 2 rfl
                  have k3 := hF 3 rfl
                  have k4 := hF 4 rfl
                  have k5 := hF 5 rfl
                  have k6 := hF 6 rfl
                  have k7 := hF 7 rfl
                  have k8 := hF 8 rfl
                  have k9 := hF 9 rfl
                  have k10 := hF 10 rfl
                  have k11 := hF 11 rfl
                  have k12 := hF 12 rfl
                  have k13 := hF 13 rfl
                  have k14 := hF 14 rfl
                  have k15 := hF 15 rfl
                  have k16 := hF 16 rfl
                  have k17 := hF 17 rfl
                  have k18 := hF 18 rfl
                  have k19 := hF 19 rfl
                  have k20 := hF 20 rfl
                  have k21 := hF 21 rfl
                  have k22 := hF 22 rfl
                  have k23 := hF 23 rfl
                  have k24 := hF 24 rfl
                  have k25 := hF 25 rfl
                  have k26 := hF 26 rfl
                  have k27 := hF 27 rfl
                  have k28 := hF 28 rfl
                  have k29 := hF 29 rfl
                  have k30 := hF 30 rfl
                  have k31 := hF 31 rfl
                  have k32 := hF 32 rfl
                  have k33 := hF 33 rfl
                  have k34 := hF 34 rfl
                  have k35 := hF 35 rfl
                  have k36 := hF 36 rfl
                  have k37 := hF 37 rfl
                  have k38 := hF 38 rfl
                  have k39 := hF 39 rfl
                  have k40 := hF 40 rfl
                  have k41 := hF 41 rfl
                  have k42 := hF 42 rfl
                  have k43 := hF 43 rfl
                  have k44 := hF 44 rfl
                  have k45 := hF 45 rfl
                  have k46 := hF 46 rfl
                  have k47 := hF 47 rfl
                  have k48 := hF 48 rfl
                  have k49 := hF 49 rfl
                  have k50 := hF 50 rfl
                  have k51 := hF 51 rfl
                  have k52 := hF 52 rfl
                  have k53 := hF 53 rfl
                  have k54 := hF 54 rfl
                  have k55 := hF 55 rfl
                  have k56 := hF 56 rfl
                  have k57 := hF 57 rfl
                  have k58 := hF 58 rfl
                  have k59 := hF 59 rfl
                  have k60 := hF 60 rfl
                  have k61 := hF 61 rfl
                  have k62 := hF 62 rfl
                  have k63 := hF 63 rfl
                  have k64 := hF 64 rfl
                  have k65 := hF 65 rfl
                  have k66 := hF 66 rfl
                  have k67 := hF 67 rfl
                  have k68 := hF 68 rfl
                  have k69 := hF 69 rfl
                  have k78 := hF 78 rfl
                  have k79 := hF 79 rfl
                  have k80 := hF 80 rfl
                  have k81 := hF 81 rfl
                  have k82 := hF 82 rfl
                  have k83 := hF 83 rfl
                  have k84 := hF 84 rfl
                  have k85 := hF 85 rfl
                  have k86 := hF 86 rfl
                  have k87 := hF 87 rfl
                  have k88 := hF 88 rfl
                  have k89 := hF 89 rfl
                  have k90 := hF 90 rfl
                  have k91 := hF 91 rfl
                  have k92 := hF 92 rfl
                  have k93 := hF 93 rfl
                  have k94 := hF 94 rfl
                  have k95 := hF 95 rfl
                  have k96 := hF 96 rfl
                  have k97 := hF 97 rfl
                  have k98 := hF 98 rfl
                  have k99 := hF 99 rfl
                  have k100 := hF 100 rfl
                  have k101 := hF 101 rfl
                  have k102 := hF 102 rfl
                  simp [PM.sl] at k0 k1 k2 k3 k4 k5 k6 k7 k8 k9 k10 k11 k12 k13 k14 k15 k16 k17 k18 k19 k20 k21 k22 k23 k24 k25 k26 k27 k28 k29 k30 k31 k32 k33 k34 k35 k36 k37 k38 k39 k40 k41 k42 k43 k44 k45 k46 k47 k48 k49 k50 k51 k52 k53 k54 k55 k56 k57 k58 k59 k60 k61 k62 k63 k64 k65 k66 k67 k68 k69 k78 k79 k80 k81 k82 k83 k84 k85 k86 k87 k88 k89 k90 k91 k92 k93 k94 k95 k96 k97 k98 k99 k100 k101 k102
                  rw [show ((List.range (Array.size _)).map G).toArray = #[G 0, G 1, G 2, G 3, G 4, G 5, G 6, G 7, G 8, G 9, G 10, G 11, G 12, G 13, G 14, G 15, G 16, G 17, G 18, G 19, G 20, G 21, G 22, G 23, G 24, G 25, G 26, G 27, G 28, G 29, G 30, G 31, G 32, G 33, G 34, G 35, G 36, G 37, G 38, G 39, G 40, G 41, G 42, G 43, G 44, G 45, G 46, G 47, G 48, G 49, G 50, G 51, G 52, G 53, G 54, G 55, G 56, G 57, G 58, G 59, G 60, G 61, G 62, G 63, G 64, G 65, G 66, G 67, G 68, G 69, G 70, G 71, G 72, G 73, G 74, G 75, G 76, G 77, G 78, G 79, G 80, G 81, G 82, G 83, G 84, G 85, G 86, G 87, G 88, G 89, G 90, G 91, G 92, G 93, G 94, G 95, G 96, G 97, G 98, G 99, G 100, G 101, G 102] from rfl]
                  clear hF hS2
                  rw [h77, k0, k1, k2, k3, k4, k5, k6, k7, k8, k9, k10, k11, k12, k13, k14, k15, k16, k17, k18, k19, k20, k21, k22, k23, k24, k25, k26, k27, k28, k29, k30, k31, k32, k33, k34, k35, k36, k37, k38, k39, k40, k41, k42, k43, k44, k45, k46, k47, k48, k49, k50, k51, k52, k53, k54, k55, k56, k57, k58, k59, k60, k61, k62, k63, k64, k65, k66, k67, k68, k69, k78, k79, k80, k81, k82, k83, k84, k85, k86, k87, k88, k89, k90, k91, k92, k93, k94, k95, k96, k97, k98, k99, k100, k101, k102]
                  clear h77 k0 k1 k2 k3 k4 k5 k6 k7 k8 k9 k10 k11 k12 k13 k14 k15 k16 k17 k18 k19 k20 k21 k22 k23 k24 k25 k26 k27 k28 k29 k30 k31 k32 k33 k34 k35 k36 k37 k38 k39 k40 k41 k42 k43 k44 k45 k46 k47 k48 k49 k50 k51 k52 k53 k54 k55 k56 k57 k58 k59 k60 k61 k62 k63 k64 k65 k66 k67 k68 k69 k78 k79 k80 k81 k82 k83 k84 k85 k86 k87 k88 k89 k90 k91 k92 k93 k94 k95 k96 k97 k98 k99 k100 k101 k102
                  have hBn := PM.hid (PM.chain hS.out hB)
                  clear hB
                  cases c0
                  case true =>
                    go_wp2_with fail
                    exact ⟨⟨j + 1, by go_num, by omega, hBn⟩, by simp only [intOf]; omega⟩
                  case false =>
                    have hne : z.id ≠ oi := of_decide_eq_false hc0.out.symm
                    have hfm := hfind.out _ (List.mem_of_getElem? hyh.out) hne
                    have ht := find_any ua MN uc z.id M W (PM.TxL.keep hBn.out hMa.out) hMs.out
                    rw [hfm] at ht
                    simp only [Option.isSome, Option.getD] at ht
                    have d1 : W.cell? ⟨b, off + j * 9 + 1, none⟩ = some (.int .i64 z.id.br) := PM.cellA hBn.out hzc.out.2.1
                    have d2 : W.cell? ⟨b, off + j * 9 + 2, none⟩ = some (.int .u64 (z.id.life : Int)) := PM.cellA hBn.out hzc.out.2.2.1
                    have d3 : W.cell? ⟨b, off + j * 9 + 3, none⟩ = some (.int .u64 (z.id.ser : Int)) := PM.cellA hBn.out hzc.out.2.2.2.1
                    clear hfm
                    go_wp2_with fail
                    refine ht.mono ?_
                    clear ht d1 d2 d3
                    rintro d w4 ⟨cs, rfl, ⟨fv, ev', rfl, hf1, hf2⟩, hb4⟩
                    have hT1 := hf1.em PM.teL_len
                    have hT2 := PM.evOr_evl hf2
                    obtain ⟨pa, pc, hpe⟩ := hT1.len
                    obtain ⟨pe, pd, hqe⟩ := hT2.len
                    simp only [← hzFe.out.1, ← hzFe.out.2] at hpe hqe
                    subst hpe hqe
                    unfold PM.txC PM.enC
                    simp only [List.cons_append, List.nil_append]
                    clear hf1 hf2
                    go_upto_region 23 with fail
                    obtain ⟨gf, hgf⟩ : ∃ g, g = w4.heap.size := ⟨_, rfl⟩
                    obtain ⟨w5, hw5⟩ : ∃ W, W = w4.alloc (.cells #[.int .i64 z.kind, .int .i64 z.id.br, .int .u64 (z.id.life : Int), .int .u64 (z.id.ser : Int), .int .i64 z.client, .int .u64 (z.sub : Int), .slice pa zF pc, .slice pe zE pd, .bool q] 39) := ⟨_, rfl⟩
                    have hb5 : Below w4.heap.size w4 w5 := by rw [hw5]; exact (Below.refl _ _).alloc (Nat.le_refl _) _
                    have kf : PM.BK w5 gf #[.int .i64 z.kind, .int .i64 z.id.br, .int .u64 (z.id.life : Int), .int .u64 (z.id.ser : Int), .int .i64 z.client, .int .u64 (z.sub : Int), .slice pa zF pc, .slice pe zE pd, .bool q] 39 := by rw [hw5, hgf]; exact PM.BK.new _ _ _
                    rw [← hw5, ← hgf]
                    clear hw5 hgf
                    have hrx : Hid (∀ W, Below w5.heap.size w5 W → PM.txR W (PM.txC ⟨z, q⟩ (.slice pa zF pc) (.slice pe zE pd)) ⟨z, q⟩) := PM.hid fun W hb => ⟨_, _, rfl, (hT1.keep hb5).keep hb, PM.EVL.keepO hb (PM.EVL.keepO hb5 hT2)⟩
                    have hS5 := PM.hid (PM.chain (PM.chain hBn.out hb4) hb5)
                    clear hT1 hT2 hb4 hb5
                    refine PM.wp_region_st [some 89, some 90, some 91, some 92, some 93, some 94, some 95, some 96, some 14] [fun x _ => x = .agg #[.int .i64 z.kind, .int .i64 z.id.br, .int .u64 (z.id.life : Int), .int .u64 (z.id.ser : Int), .int .i64 z.client, .int .u64 (z.sub : Int), .slice pa zF pc, .slice pe zE pd, .bool q], fun x W => PM.TxL W x [⟨z, q⟩], fun x _ => x = .slice (some ⟨b, off, none⟩) ln lc, fun x _ => x = .int .i64 (j : Int), fun x _ => x = .pointer (some ⟨b, off + j * 9, none⟩), fun x _ => x = .agg #[.int .i64 z.kind, .int .i64 z.id.br, .int .u64 (z.id.life : Int), .int .u64 (z.id.ser : Int), .int .i64 z.client, .int .u64 (z.sub : Int), .slice fa zF fc, .slice ea zE ec, .bool q], fun x W => PM.TxL W x [⟨z, q⟩], fun x _ => x = .bool true, fun x _ => x = .bool true] (by kernel_rfl) (by kernel_rfl) (by kernel_rfl) ?_ ?_ ?_
                    · simp only [List.forall_mem_cons]
                      refine ⟨?_, ?_, ?_, ?_, ?_, ?_, ?_, ?_, ?_, by simp⟩
                      all_goals (intro x W W' h hb; first | exact h | exact PM.BS.keep hb h | exact PM.OW.keep hb h | exact PM.TxL.keep hb h)
                    · refine ⟨?_, ?_, ?_, ?_, ?_, ?_, ?_, ?_, ?_, trivial⟩
                      all_goals
                        intro a W hB hF hd
                        have k6 := hF 6 rfl
                        have k11 := hF 11 rfl
                        have k12 := hF 12 rfl
                        have hBW := PM.chain hS5.out hB
                        have kt := kf.keep hB
                        have f0 : W.cell? ⟨gf, 0, none⟩ = some (.int .i64 z.kind) := PM.BK.cell kt 0
                        have f1 : W.cell? ⟨gf, 1, none⟩ = some (.int .i64 z.id.br) := PM.BK.cell kt 1
                        have f2 : W.cell? ⟨gf, 2, none⟩ = some (.int .u64 (z.id.life : Int)) := PM.BK.cell kt 2
                        have f3 : W.cell? ⟨gf, 3, none⟩ = some (.int .u64 (z.id.ser : Int)) := PM.BK.cell kt 3
                        have f4 : W.cell? ⟨gf, 4, none⟩ = some (.int .i64 z.client) := PM.BK.cell kt 4
                        have f5 : W.cell? ⟨gf, 5, none⟩ = some (.int .u64 (z.sub : Int)) := PM.BK.cell kt 5
                        have f6 : W.cell? ⟨gf, 6, none⟩ = some (.slice pa zF pc) := PM.BK.cell kt 6
                        have f7 : W.cell? ⟨gf, 7, none⟩ = some (.slice pe zE pd) := PM.BK.cell kt 7
                        have f8 : W.cell? ⟨gf, 8, none⟩ = some (.bool q) := PM.BK.cell kt 8
                        have d0 : W.cell? ⟨b, off + j * 9, none⟩ = some (.int .i64 z.kind) := PM.cellA hBW (hzc.out.1)
                        have d1 : W.cell? ⟨b, off + j * 9 + 1, none⟩ = some (.int .i64 z.id.br) := PM.cellA hBW (hzc.out.2.1)
                        have d2 : W.cell? ⟨b, off + j * 9 + 2, none⟩ = some (.int .u64 (z.id.life : Int)) := PM.cellA hBW (hzc.out.2.2.1)
                        have d3 : W.cell? ⟨b, off + j * 9 + 3, none⟩ = some (.int .u64 (z.id.ser : Int)) := PM.cellA hBW (hzc.out.2.2.2.1)
                        have d4 : W.cell? ⟨b, off + j * 9 + 4, none⟩ = some (.int .i64 z.client) := PM.cellA hBW (hzc.out.2.2.2.2.1)
                        have d5 : W.cell? ⟨b, off + j * 9 + 5, none⟩ = some (.int .u64 (z.sub : Int)) := PM.cellA hBW (hzc.out.2.2.2.2.2.1)
                        have d6 : W.cell? ⟨b, off + j * 9 + 6, none⟩ = some (.slice fa zF fc) := PM.cellA hBW (hzc.out.2.2.2.2.2.2.1)
                        have d7 : W.cell? ⟨b, off + j * 9 + 7, none⟩ = some (.slice ea zE ec) := PM.cellA hBW (hzc.out.2.2.2.2.2.2.2.1)
                        have d8 : W.cell? ⟨b, off + j * 9 + 8, none⟩ = some (.bool q) := PM.cellA hBW (hzc.out.2.2.2.2.2.2.2.2)
                        clear kt
                        clear hF
                        simp [PM.depsL, PM.spec, PM.sl, Region.binds] at hd k6 k11 k12
                        simp only [PM.wantL, PM.spec]
                        try simp only [PM.sl]
                        go_simp
                      all_goals try exact Below.refl _ _
                      · exact ⟨(Below.refl _ _).alloc (Nat.le_refl _) _, _, rfl, PM.RR.one (w0 := W) PM.txR_lasts W _ (PM.txCe ⟨z, q⟩ pa zF pc pe zE pd) ⟨z, q⟩ _ rfl (hrx.out W hB)⟩
                      · exact ⟨(Below.refl _ _).alloc (Nat.le_refl _) _, _, rfl, PM.RR.one (w0 := W) PM.txR_lasts W _ (PM.txCe ⟨z, q⟩ fa zF fc ea zE ec) ⟨z, q⟩ _ rfl (hry.out W hBW)⟩
                      · refine (same17_any _ _ [⟨z, q⟩] [⟨z, q⟩] W hd.1 hd.2 (by simp only [List.mem_singleton]; rintro x rfl; exact hzw.out) (by simp only [List.mem_singleton]; rintro x rfl; exact hzw.out)).mono ?_
                        rintro e w' ⟨hh, hb⟩
                        rcases hh with ⟨rfl, -⟩ | ⟨-, hno⟩
                        · first | exact ⟨hb, rfl⟩ | exact ⟨hb, _, rfl, rfl⟩
                        · first | exact (hno rfl).elim | exact (hno trivial).elim
                    · intro G W hB hF hS2
                      simp [PM.allSp, PM.spec] at hS2
                      have h14 : G 14 = .bool true := by simp [hS2]
                      have k0 := hF 0 rfl
                      have k1 := hF 1 rfl
                      have k2 := hF 2 rfl
                      have k3 := hF 3 rfl
                      have k4 := hF 4 rfl
                      have k5 := hF 5 rfl
                      have k6 := hF 6 rfl
                      have k7 := hF 7 rfl
                      have k8 := hF 8 rfl
                      have k9 := hF 9 rfl
                      have k10 := hF 10 rfl
                      have k11 := hF 11 rfl
                      have k12 := hF 12 rfl
                      have k13 := hF 13 rfl
                      have k15 := hF 15 rfl
                      have k16 := hF 16 rfl
                      have k17 := hF 17 rfl
                      have k18 := hF 18 rfl
                      have k19 := hF 19 rfl
                      have k20 := hF 20 rfl
                      have k21 := hF 21 rfl
                      have k22 := hF 22 rfl
                      have k23 := hF 23 rfl
                      have k24 := hF 24 rfl
                      have k25 := hF 25 rfl
                      have k26 := hF 26 rfl
                      have k27 := hF 27 rfl
                      have k28 := hF 28 rfl
                      have k29 := hF 29 rfl
                      have k30 := hF 30 rfl
                      have k31 := hF 31 rfl
                      have k32 := hF 32 rfl
                      have k33 := hF 33 rfl
                      have k34 := hF 34 rfl
                      have k35 := hF 35 rfl
                      have k36 := hF 36 rfl
                      have k37 := hF 37 rfl
                      have k38 := hF 38 rfl
                      have k39 := hF 39 rfl
                      have k40 := hF 40 rfl
                      have k41 := hF 41 rfl
                      have k42 := hF 42 rfl
                      have k43 := hF 43 rfl
                      have k44 := hF 44 rfl
                      have k45 := hF 45 rfl
                      have k46 := hF 46 rfl
                      have k47 := hF 47 rfl
                      have k48 := hF 48 rfl
                      have k49 := hF 49 rfl
                      have k50 := hF 50 rfl
                      have k51 := hF 51 rfl
                      have k52 := hF 52 rfl
                      have k53 := hF 53 rfl
                      have k54 := hF 54 rfl
                      have k55 := hF 55 rfl
                      have k56 := hF 56 rfl
                      have k57 := hF 57 rfl
                      have k58 := hF 58 rfl
                      have k59 := hF 59 rfl
                      have k60 := hF 60 rfl
                      have k61 := hF 61 rfl
                      have k62 := hF 62 rfl
                      have k63 := hF 63 rfl
                      have k64 := hF 64 rfl
                      have k65 := hF 65 rfl
                      have k66 := hF 66 rfl
                      have k67 := hF 67 rfl
                      have k68 := hF 68 rfl
                      have k69 := hF 69 rfl
                      have k70 := hF 70 rfl
                      have k71 := hF 71 rfl
                      have k72 := hF 72 rfl
                      have k73 := hF 73 rfl
                      have k74 := hF 74 rfl
                      have k75 := hF 75 rfl
                      have k76 := hF 76 rfl
                      have k77 := hF 77 rfl
                      have k78 := hF 78 rfl
                      have k79 := hF 79 rfl
                      have k80 := hF 80 rfl
                      have k81 := hF 81 rfl
                      have k82 := hF 82 rfl
                      have k83 := hF 83 rfl
                      have k84 := hF 84 rfl
                      have k85 := hF 85 rfl
                      have k86 := hF 86 rfl
                      have k87 := hF 87 rfl
                      have k88 := hF 88 rfl
                      have k97 := hF 97 rfl
                      have k98 := hF 98 rfl
                      have k99 := hF 99 rfl
                      have k100 := hF 100 rfl
                      have k101 := hF 101 rfl
                      have k102 := hF 102 rfl
                      simp [PM.sl] at k0 k1 k2 k3 k4 k5 k6 k7 k8 k9 k10 k11 k12 k13 k15 k16 k17 k18 k19 k20 k21 k22 k23 k24 k25 k26 k27 k28 k29 k30 k31 k32 k33 k34 k35 k36 k37 k38 k39 k40 k41 k42 k43 k44 k45 k46 k47 k48 k49 k50 k51 k52 k53 k54 k55 k56 k57 k58 k59 k60 k61 k62 k63 k64 k65 k66 k67 k68 k69 k70 k71 k72 k73 k74 k75 k76 k77 k78 k79 k80 k81 k82 k83 k84 k85 k86 k87 k88 k97 k98 k99 k100 k101 k102
                      rw [show ((List.range (Array.size _)).map G).toArray = #[G 0, G 1, G 2, G 3, G 4, G 5, G 6, G 7, G 8, G 9, G 10, G 11, G 12, G 13, G 14, G 15, G 16, G 17, G 18, G 19, G 20, G 21, G 22, G 23, G 24, G 25, G 26, G 27, G 28, G 29, G 30, G 31, G 32, G 33, G 34, G 35, G 36, G 37, G 38, G 39, G 40, G 41, G 42, G 43, G 44, G 45, G 46, G 47, G 48, G 49, G 50, G 51, G 52, G 53, G 54, G 55, G 56, G 57, G 58, G 59, G 60, G 61, G 62, G 63, G 64, G 65, G 66, G 67, G 68, G 69, G 70, G 71, G 72, G 73, G 74, G 75, G 76, G 77, G 78, G 79, G 80, G 81, G 82, G 83, G 84, G 85, G 86, G 87, G 88, G 89, G 90, G 91, G 92, G 93, G 94, G 95, G 96, G 97, G 98, G 99, G 100, G 101, G 102] from rfl]
                      clear hF hS2
                      rw [h14, k0, k1, k2, k3, k4, k5, k6, k7, k8, k9, k10, k11, k12, k13, k15, k16, k17, k18, k19, k20, k21, k22, k23, k24, k25, k26, k27, k28, k29, k30, k31, k32, k33, k34, k35, k36, k37, k38, k39, k40, k41, k42, k43, k44, k45, k46, k47, k48, k49, k50, k51, k52, k53, k54, k55, k56, k57, k58, k59, k60, k61, k62, k63, k64, k65, k66, k67, k68, k69, k70, k71, k72, k73, k74, k75, k76, k77, k78, k79, k80, k81, k82, k83, k84, k85, k86, k87, k88, k97, k98, k99, k100, k101, k102]
                      clear h14 k0 k1 k2 k3 k4 k5 k6 k7 k8 k9 k10 k11 k12 k13 k15 k16 k17 k18 k19 k20 k21 k22 k23 k24 k25 k26 k27 k28 k29 k30 k31 k32 k33 k34 k35 k36 k37 k38 k39 k40 k41 k42 k43 k44 k45 k46 k47 k48 k49 k50 k51 k52 k53 k54 k55 k56 k57 k58 k59 k60 k61 k62 k63 k64 k65 k66 k67 k68 k69 k70 k71 k72 k73 k74 k75 k76 k77 k78 k79 k80 k81 k82 k83 k84 k85 k86 k87 k88 k97 k98 k99 k100 k101 k102
                      have hBn := PM.hid (PM.chain hS5.out hB)
                      clear hB kf
                      go_wp2_with fail
                      exact ⟨⟨j + 1, by go_num, by omega, hBn⟩, by simp only [intOf]; omega⟩
              · have hend := PM.hid (PM.chain' hBd.out hS.out hBd.out.size)
                obtain rfl : ln = j := by omega
                go_wp2_with fail
                go_ret
                exact ⟨by first | rfl | simp, hend.out⟩
end Go.Proofs.Ytnjcociidipogaa
