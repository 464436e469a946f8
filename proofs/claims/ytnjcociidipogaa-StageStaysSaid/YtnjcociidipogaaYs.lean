/-
  StageStays: its walk. (Written by tools/mk_xs.py.)
-/
import Derived.Test.YtnjcociidipogaaYr
import Derived.Test.YtnjcociidipogaaYj
import Derived.Test.YtnjcociidipogaaYh
import Derived.Test.YtnjcociidipogaaJB
namespace Go.Proofs.Ytnjcociidipogaa
open Go.RowKit
set_option linter.unusedVariables false
set_option linter.unusedSimpArgs false
namespace PM
theorem Tx0_wf : Tx0.en.wf := ⟨show (Lit.int .i64 0).wf = true from by decide, ⟨show (Lit.int .i64 0).wf = true from by decide, show (0 : Nat) < 2 ^ 64 from by decide, show (0 : Nat) < 2 ^ 64 from by decide⟩, show (Lit.int .i64 0).wf = true from by decide, show (0 : Nat) < 2 ^ 64 from by decide, by simp [Tx0], by simp [Tx0]⟩
theorem find_wf {l : List Tx} (h : Gw l) (i : Id) : ((findT i l).getD Tx0).en.wf := by
  cases hf : findT i l with
  | none => exact Tx0_wf
  | some x => exact (h.2 x (find_some hf).1).2
theorem stays_case {l : List Tx} {c : Cl} (i : Id) (hl : Gz l) (hm : Gz (nextT l c).1) (h1 : (findT i l).isSome = true) (h2 : ((findT i l).getD Tx0).ask = true) :
    (¬ (c.kind = 6 ∧ c.id = i) → (findT i (nextT l c).1).isSome = true ∧ (findT i (nextT l c).1).getD Tx0 = (findT i l).getD Tx0) ∧ ((c.kind = 6 ∧ c.id = i) → (findT i (nextT l c).1).isSome = false) := by
  obtain ⟨x, hx⟩ := Option.isSome_iff_exists.1 h1
  rw [hx] at h2
  refine ⟨fun hs => ?_, fun hs => ?_⟩
  · rw [stays hm hx h2 hs, hx]
    exact ⟨rfl, rfl⟩
  · obtain ⟨h6, rfl⟩ := hs
    rw [gone hl h6]
    rfl
theorem enB_pos (x : En) : 0 < (enB x).length := by
  have := numB_length (u64 x.kind)
  have h1 : 0 < (numB (u64 x.kind)).length := by rw [this]; omega
  unfold enB
  simp only [List.length_append]
  omega
theorem sml_le {x : En} (h : enOk x) (hs : smlT x = true) : (enB x).length ≤ 3000 := by
  unfold smlT at hs
  rw [if_pos h] at hs
  exact of_decide_eq_true hs
end PM
theorem PM.chain' {B C : Nat} {x y z : World} (h : Below B x y) (k : Below C y z) (hb : B ≤ C) : Below B x z := h.trans (k.mono hb)
set_option maxRecDepth 100000 in
set_option maxHeartbeats 16000000 in
theorem stageStays_walkI (v : Value) (script : List PM.Cl) (oi : PM.Id) (w : World) (hv0 : PM.ClL w v script) (hw0 : ∀ x ∈ script, x.wf) :
    Calls Try.prog 4 #[v, .agg #[.int .i64 oi.br, .int .u64 (oi.life : Int), .int .u64 (oi.ser : Int)]] w fun e w' => e = .returned (.bool true) ∧ Below w.heap.size w w' := by
  have hmx := hv0.bound
  unfold maxLen at hmx
  obtain ⟨va, vc, rfl⟩ := hv0.len
  obtain ⟨N, hN0⟩ : ∃ n, n = script.length := ⟨_, rfl⟩
  rw [← hN0] at hv0 hmx ⊢
  have hN := PM.hid hN0
  have hws := PM.hid hw0
  clear hN0 hw0
  obtain ⟨g3, hg3⟩ : ∃ g, g = w.heap.size := ⟨_, rfl⟩
  obtain ⟨w1, hw1⟩ : ∃ W, W = w.alloc (.cells #[.int .i64 oi.br, .int .u64 (oi.life : Int), .int .u64 (oi.ser : Int)] 26) := ⟨_, rfl⟩
  have hbw1 : Below w.heap.size w w1 := by rw [hw1]; exact (Below.refl _ _).alloc (Nat.le_refl _) _
  have k1 : PM.BK w1 g3 #[.int .i64 oi.br, .int .u64 (oi.life : Int), .int .u64 (oi.ser : Int)] 26 := by rw [hw1, hg3]; exact PM.BK.new _ _ _
  go_enter Try.func4, Try.ntmps4
  go_upto_region 1 with fail
  rw [← hw1, ← hg3]
  clear hw1 hg3
  go_wp2_with fail
  refine (awake17_any w1).mono ?_
  rintro e wS ⟨rfl, hb2⟩
  have hB0 := PM.hid (PM.chain hbw1 hb2)
  have hk3 := PM.hid (k1.keep hb2)
  have hv := PM.hid (PM.RR.keep PM.clR_lasts hB0.out hv0)
  clear k1 hb2 hbw1 hv0
  go_wp2_with fail
  go_loopw [6, 7] (fun s i wr => (∃ la ln lc, s = .slice la ln lc) ∧ ∃ k : Nat, i = .int .i64 k ∧ k ≤ N ∧ k ≤ 60 ∧ Hid (∃ L, PM.TxL wr s L ∧ PM.Gz L ∧ Below wS.heap.size wS wr)) (fun _ i _ => N - (intOf i).toNat)
  case atStart => exact ⟨⟨_, _, _, rfl⟩, 0, rfl, by omega, by omega, PM.hid ⟨[], PM.RR.nil _, PM.Gz.nil, Below.refl _ _⟩⟩
  case round =>
    obtain ⟨⟨la, ln, lc, rfl⟩, k, rfl, hk, hk60, hI⟩ := hrel
    obtain ⟨L, hTx, hG, hB⟩ := hI.out
    clear hI
    by_cases hgo : k < N ∧ k < 60
    · obtain ⟨hlt, h60⟩ := hgo
      have hi1 : (k : Int) < (N : Int) := by omega
      have hi2 : (k : Int) < 60 := by omega
      obtain ⟨y, hy⟩ : ∃ z, script[k]? = some z := ⟨script[k]'(by rw [← hN.out]; exact hlt), List.getElem?_eq_getElem _⟩
      have hyw := hws.out y (List.mem_of_getElem? hy)
      obtain ⟨b, off, rfl, hce⟩ := PM.RR.opn hv.out (by rw [← hN.out]; omega)
      obtain ⟨cs, hl0, ev, fv, xv, hcs, hev, hzf, hze⟩ := hce k y hy
      obtain ⟨xa, xc, rfl⟩ := hev.em.len
      obtain ⟨fa, fc, rfl⟩ := hzf.len
      obtain ⟨ea, ec, rfl⟩ := hze.len
      obtain ⟨kd, i, cl, e, z⟩ := y
      simp only at hev hzf hze hcs
      unfold PM.clC PM.enC PM.idL at hcs
      simp only [List.cons_append, List.nil_append] at hcs
      replace hl0 := hl0.keep hB
      rw [hcs] at hl0
      obtain ⟨xn, hxn⟩ : ∃ q, q = e.length := ⟨_, rfl⟩
      obtain ⟨zF, hzF⟩ : ∃ q, q = z.fil.length := ⟨_, rfl⟩
      obtain ⟨zE, hzE⟩ : ∃ q, q = z.evs.length := ⟨_, rfl⟩
      rw [← hxn] at hev
      rw [← hzF] at hzf
      rw [← hzE] at hze
      rw [← hxn, ← hzF, ← hzE] at hl0
      have hrd := PM.hid (And.intro (hev.keep hB) (And.intro hzF (And.intro hzE (And.intro (hzf.keep hB) (PM.EVL.keepO hB hze)))))
      have d0 : wr.cell? ⟨b, off + k * 14, none⟩ = some (.int .i64 kd) := hl0 0 _ rfl
      have d1 : wr.cell? ⟨b, off + k * 14 + 1, none⟩ = some (.int .i64 i.br) := hl0 1 _ rfl
      have d2 : wr.cell? ⟨b, off + k * 14 + 2, none⟩ = some (.int .u64 (i.life : Int)) := hl0 2 _ rfl
      have d3 : wr.cell? ⟨b, off + k * 14 + 3, none⟩ = some (.int .u64 (i.ser : Int)) := hl0 3 _ rfl
      have d4 : wr.cell? ⟨b, off + k * 14 + 4, none⟩ = some (.int .i64 cl) := hl0 4 _ rfl
      have d5 : wr.cell? ⟨b, off + k * 14 + 5, none⟩ = some (.slice xa xn xc) := hl0 5 _ rfl
      have d6 : wr.cell? ⟨b, off + k * 14 + 6, none⟩ = some (.int .i64 z.kind) := hl0 6 _ rfl
      have d7 : wr.cell? ⟨b, off + k * 14 + 7, none⟩ = some (.int .i64 z.id.br) := hl0 7 _ rfl
      have d8 : wr.cell? ⟨b, off + k * 14 + 8, none⟩ = some (.int .u64 (z.id.life : Int)) := hl0 8 _ rfl
      have d9 : wr.cell? ⟨b, off + k * 14 + 9, none⟩ = some (.int .u64 (z.id.ser : Int)) := hl0 9 _ rfl
      have d10 : wr.cell? ⟨b, off + k * 14 + 10, none⟩ = some (.int .i64 z.client) := hl0 10 _ rfl
      have d11 : wr.cell? ⟨b, off + k * 14 + 11, none⟩ = some (.int .u64 (z.sub : Int)) := hl0 11 _ rfl
      have d12 : wr.cell? ⟨b, off + k * 14 + 12, none⟩ = some (.slice fa zF fc) := hl0 12 _ rfl
      have d13 : wr.cell? ⟨b, off + k * 14 + 13, none⟩ = some (.slice ea zE ec) := hl0 13 _ rfl
      have hcw := PM.hid hyw
      have hTh := PM.hid (And.intro hTx (And.intro hG hB))
      clear hy hyw hce hl0 hcs cs hev hzf hze hxn hzF hzE hTx hG hB
      go_upto_region 9 with fail
      clear d0 d1 d2 d3 d4 d5 d6 d7 d8 d9 d10 d11 d12 d13
      obtain ⟨g8, hg8⟩ : ∃ g, g = wr.heap.size := ⟨_, rfl⟩
      obtain ⟨w2, hw2⟩ : ∃ W, W = wr.alloc (.cells #[.int .i64 kd, .int .i64 i.br, .int .u64 (i.life : Int), .int .u64 (i.ser : Int), .int .i64 cl, .slice xa xn xc, .int .i64 z.kind, .int .i64 z.id.br, .int .u64 (z.id.life : Int), .int .u64 (z.id.ser : Int), .int .i64 z.client, .int .u64 (z.sub : Int), .slice fa zF fc, .slice ea zE ec] 36) := ⟨_, rfl⟩
      have hbw2 : Below wr.heap.size wr w2 := by rw [hw2]; exact (Below.refl _ _).alloc (Nat.le_refl _) _
      have k8 : PM.BK w2 g8 #[.int .i64 kd, .int .i64 i.br, .int .u64 (i.life : Int), .int .u64 (i.ser : Int), .int .i64 cl, .slice xa xn xc, .int .i64 z.kind, .int .i64 z.id.br, .int .u64 (z.id.life : Int), .int .u64 (z.id.ser : Int), .int .i64 z.client, .int .u64 (z.sub : Int), .slice fa zF fc, .slice ea zE ec] 36 := by rw [hw2, hg8]; exact PM.BK.new _ _ _
      rw [← hw2, ← hg8]
      clear hw2 hg8
      have hsm := small17l_any kd i cl xa xn xc e z fa zF fc ea zE ec w2 (hrd.out.1.keep hbw2) hrd.out.2.1 hrd.out.2.2.1 (hrd.out.2.2.2.1.keep hbw2) (PM.EVL.keepO hbw2 hrd.out.2.2.2.2)
      have c0 : w2.cell? ⟨g8, 0, none⟩ = some (.int .i64 kd) := k8.cell 0
      have c1 : w2.cell? ⟨g8, 1, none⟩ = some (.int .i64 i.br) := k8.cell 1
      have c2 : w2.cell? ⟨g8, 2, none⟩ = some (.int .u64 (i.life : Int)) := k8.cell 2
      have c3 : w2.cell? ⟨g8, 3, none⟩ = some (.int .u64 (i.ser : Int)) := k8.cell 3
      have c4 : w2.cell? ⟨g8, 4, none⟩ = some (.int .i64 cl) := k8.cell 4
      have c5 : w2.cell? ⟨g8, 5, none⟩ = some (.slice xa xn xc) := k8.cell 5
      have c6 : w2.cell? ⟨g8, 6, none⟩ = some (.int .i64 z.kind) := k8.cell 6
      have c7 : w2.cell? ⟨g8, 7, none⟩ = some (.int .i64 z.id.br) := k8.cell 7
      have c8 : w2.cell? ⟨g8, 8, none⟩ = some (.int .u64 (z.id.life : Int)) := k8.cell 8
      have c9 : w2.cell? ⟨g8, 9, none⟩ = some (.int .u64 (z.id.ser : Int)) := k8.cell 9
      have c10 : w2.cell? ⟨g8, 10, none⟩ = some (.int .i64 z.client) := k8.cell 10
      have c11 : w2.cell? ⟨g8, 11, none⟩ = some (.int .u64 (z.sub : Int)) := k8.cell 11
      have c12 : w2.cell? ⟨g8, 12, none⟩ = some (.slice fa zF fc) := k8.cell 12
      have c13 : w2.cell? ⟨g8, 13, none⟩ = some (.slice ea zE ec) := k8.cell 13
      go_wp2_with fail
      refine hsm.mono ?_
      clear hsm c0 c1 c2 c3 c4 c5 c6 c7 c8 c9 c10 c11 c12 c13
      rintro d w3 ⟨hh, hb3⟩
      replace k8 := k8.keep hb3
      have hb13 := PM.chain hbw2 hb3
      clear hb3 hbw2
      rcases hh with ⟨rfl, hfw⟩ | rfl
      case inr =>
        have hnew : Hid (∃ L, PM.TxL w3 (.slice la ln lc) L ∧ PM.Gz L ∧ Below wS.heap.size wS w3) := PM.hid ⟨L, PM.TxL.keep hb13 hTh.out.1, hTh.out.2.1, PM.chain hTh.out.2.2 hb13⟩
        clear hb13 hTh hrd k8
        go_wp2_with fail
        exact ⟨⟨⟨_, _, _, rfl⟩, k + 1, by go_num, by omega, by omega, hnew⟩, by simp only [intOf]; omega⟩
      have ht := find_any la ln lc oi L w3 (PM.TxL.keep hb13 hTh.out.1) hTh.out.2.1.gw.txs
      have hGn := hTh.out.2.1.next hcw.out hfw
      have hxw := PM.find_wf hTh.out.2.1.gw oi
      have hyw := PM.find_wf hGn.gw oi
      have hst := PM.stays_case oi hTh.out.2.1 hGn
      have hM8 := hGn.gw.1
      obtain ⟨X, hX⟩ : ∃ x, x = (PM.findT oi L).getD PM.Tx0 := ⟨_, rfl⟩
      obtain ⟨Y, hY⟩ : ∃ x, x = (PM.findT oi (PM.nextT L ⟨kd, i, cl, e, z⟩).1).getD PM.Tx0 := ⟨_, rfl⟩
      obtain ⟨s1, hs1⟩ : ∃ x, x = (PM.findT oi L).isSome := ⟨_, rfl⟩
      obtain ⟨s2, hs2⟩ : ∃ x, x = (PM.findT oi (PM.nextT L ⟨kd, i, cl, e, z⟩).1).isSome := ⟨_, rfl⟩
      rw [← hX, ← hs1] at ht
      rw [← hX, ← hY, ← hs1, ← hs2] at hst
      rw [← hX] at hxw
      rw [← hY] at hyw
      obtain ⟨zx, qx⟩ := X
      obtain ⟨zy, qy⟩ := Y
      simp only at hst hxw hyw
      have hYh := PM.hid (And.intro hY hs2)
      have hsth := PM.hid hst
      have hwfh := PM.hid (And.intro hxw (And.intro hyw (And.intro hfw hGn)))
      clear hX hY hs1 hs2 hst hxw hyw hGn hfw
      have k3 := hk3.out.keep (PM.chain hTh.out.2.2 hb13)
      have x0 : w3.cell? ⟨g3, 0, none⟩ = some (.int .i64 oi.br) := k3.cell 0
      have x1 : w3.cell? ⟨g3, 1, none⟩ = some (.int .u64 (oi.life : Int)) := k3.cell 1
      have x2 : w3.cell? ⟨g3, 2, none⟩ = some (.int .u64 (oi.ser : Int)) := k3.cell 2
      clear k3
      go_wp2_with fail
      refine ht.mono ?_
      clear ht x0 x1 x2
      rintro d w4 ⟨cs, rfl, ⟨fv, ev', rfl, hf1, hf2⟩, hb4⟩
      have hT1 := hf1.em PM.teL_len
      have hT2 := PM.evOr_evl hf2
      obtain ⟨pa, pc, hpe⟩ := hT1.len
      obtain ⟨pe, pd, hqe⟩ := hT2.len
      replace hpe : fv = .slice pa zx.fil.length pc := hpe
      replace hqe : ev' = .slice pe zx.evs.length pd := hqe
      replace hT1 : PM.TV w4 fv zx.fil := hT1
      replace hT2 : PM.EVL w4 ev' zx.evs := hT2
      generalize hpn : zx.fil.length = pn at hpe
      generalize hqn : zx.evs.length = qn at hqe
      subst hpe hqe
      replace hpn := PM.hid hpn
      replace hqn := PM.hid hqn
      rw [show (PM.txC (⟨zx, qx⟩ : PM.Tx) (.slice pa pn pc) (.slice pe qn pd)).toArray = #[.int .i64 zx.kind, .int .i64 zx.id.br, .int .u64 (zx.id.life : Int), .int .u64 (zx.id.ser : Int), .int .i64 zx.client, .int .u64 (zx.sub : Int), .slice pa pn pc, .slice pe qn pd, .bool qx] from rfl]
      replace k8 := k8.keep hb4
      have hb14 := PM.chain hb13 hb4
      clear hf1 hf2 hb4 hb13
      go_upto_region 11 with fail
      obtain ⟨g9, hg9⟩ : ∃ g, g = w4.heap.size := ⟨_, rfl⟩
      obtain ⟨w5, hw5⟩ : ∃ W, W = w4.alloc (.cells #[.int .i64 zx.kind, .int .i64 zx.id.br, .int .u64 (zx.id.life : Int), .int .u64 (zx.id.ser : Int), .int .i64 zx.client, .int .u64 (zx.sub : Int), .slice pa pn pc, .slice pe qn pd, .bool qx] 39) := ⟨_, rfl⟩
      have hbw5 : Below w4.heap.size w4 w5 := by rw [hw5]; exact (Below.refl _ _).alloc (Nat.le_refl _) _
      have k9 : PM.BK w5 g9 #[.int .i64 zx.kind, .int .i64 zx.id.br, .int .u64 (zx.id.life : Int), .int .u64 (zx.id.ser : Int), .int .i64 zx.client, .int .u64 (zx.sub : Int), .slice pa pn pc, .slice pe qn pd, .bool qx] 39 := by rw [hw5, hg9]; exact PM.BK.new _ _ _
      rw [← hw5, ← hg9]
      clear hw5 hg9
      have hb15 := PM.chain hb14 hbw5
      replace k8 := k8.keep hbw5
      replace hT1 := hT1.keep hbw5
      replace hT2 := PM.EVL.keepO hbw5 hT2
      have ht := next_any la ln lc kd i cl xa xn xc e z fa zF fc ea zE ec L w5 (PM.TxL.keep hb15 hTh.out.1) hTh.out.2.1.gw hcw.out hwfh.out.2.2.1 (hrd.out.1.keep hb15) hrd.out.2.1 hrd.out.2.2.1 (hrd.out.2.2.2.1.keep hb15) (PM.EVL.keepO hb15 hrd.out.2.2.2.2)
      have c0 : w5.cell? ⟨g8, 0, none⟩ = some (.int .i64 kd) := k8.cell 0
      have c1 : w5.cell? ⟨g8, 1, none⟩ = some (.int .i64 i.br) := k8.cell 1
      have c2 : w5.cell? ⟨g8, 2, none⟩ = some (.int .u64 (i.life : Int)) := k8.cell 2
      have c3 : w5.cell? ⟨g8, 3, none⟩ = some (.int .u64 (i.ser : Int)) := k8.cell 3
      have c4 : w5.cell? ⟨g8, 4, none⟩ = some (.int .i64 cl) := k8.cell 4
      have c5 : w5.cell? ⟨g8, 5, none⟩ = some (.slice xa xn xc) := k8.cell 5
      have c6 : w5.cell? ⟨g8, 6, none⟩ = some (.int .i64 z.kind) := k8.cell 6
      have c7 : w5.cell? ⟨g8, 7, none⟩ = some (.int .i64 z.id.br) := k8.cell 7
      have c8 : w5.cell? ⟨g8, 8, none⟩ = some (.int .u64 (z.id.life : Int)) := k8.cell 8
      have c9 : w5.cell? ⟨g8, 9, none⟩ = some (.int .u64 (z.id.ser : Int)) := k8.cell 9
      have c10 : w5.cell? ⟨g8, 10, none⟩ = some (.int .i64 z.client) := k8.cell 10
      have c11 : w5.cell? ⟨g8, 11, none⟩ = some (.int .u64 (z.sub : Int)) := k8.cell 11
      have c12 : w5.cell? ⟨g8, 12, none⟩ = some (.slice fa zF fc) := k8.cell 12
      have c13 : w5.cell? ⟨g8, 13, none⟩ = some (.slice ea zE ec) := k8.cell 13
      obtain ⟨M, hM⟩ : ∃ m, m = (PM.nextT L ⟨kd, i, cl, e, z⟩).1 := ⟨_, rfl⟩
      rw [← hM] at ht hM8 hYh hwfh
      have hTh2 := PM.hid (And.intro hT1 hT2)
      have hBr := PM.hid hTh.out.2.2
      clear hb14 hbw5 hT1 hT2 hM hTh hrd
      go_wp2_with fail
      refine ht.mono ?_
      clear ht c0 c1 c2 c3 c4 c5 c6 c7 c8 c9 c10 c11 c12 c13
      rintro d w6 ⟨u, rfl, hu, hb6⟩
      obtain ⟨ua, uc, hue⟩ := hu.len
      obtain ⟨MN, hMN⟩ : ∃ n, n = M.length := ⟨_, rfl⟩
      rw [← hMN] at hue hM8
      subst hue
      have ht := find_any ua MN uc oi M w6 hu hwfh.out.2.2.2.gw.txs
      rw [← hYh.out.1, ← hYh.out.2] at ht
      have hb16 := PM.chain hb15 hb6
      replace k8 := k8.keep hb6
      replace k9 := k9.keep hb6
      replace hTh2 := PM.hid (And.intro (hTh2.out.1.keep hb6) (PM.EVL.keepO hb6 hTh2.out.2))
      have k3 := hk3.out.keep (PM.chain hBr.out hb16)
      have x0 : w6.cell? ⟨g3, 0, none⟩ = some (.int .i64 oi.br) := k3.cell 0
      have x1 : w6.cell? ⟨g3, 1, none⟩ = some (.int .u64 (oi.life : Int)) := k3.cell 1
      have x2 : w6.cell? ⟨g3, 2, none⟩ = some (.int .u64 (oi.ser : Int)) := k3.cell 2
      have hMu := PM.hid hu
      clear hb15 hb6 hu k3 hMN
      go_wp2_with fail
      refine ht.mono ?_
      clear ht x0 x1 x2
      rintro d w7 ⟨cs, rfl, ⟨fv, ev', rfl, hf1, hf2⟩, hb7⟩
      have hU1 := hf1.em PM.teL_len
      have hU2 := PM.evOr_evl hf2
      obtain ⟨ra, rc, hpe⟩ := hU1.len
      obtain ⟨re, rd, hqe⟩ := hU2.len
      replace hpe : fv = .slice ra zy.fil.length rc := hpe
      replace hqe : ev' = .slice re zy.evs.length rd := hqe
      replace hU1 : PM.TV w7 fv zy.fil := hU1
      replace hU2 : PM.EVL w7 ev' zy.evs := hU2
      generalize hrn : zy.fil.length = rn at hpe
      generalize hsn : zy.evs.length = sn at hqe
      subst hpe hqe
      rw [show (PM.txC (⟨zy, qy⟩ : PM.Tx) (.slice ra rn rc) (.slice re sn rd)).toArray = #[.int .i64 zy.kind, .int .i64 zy.id.br, .int .u64 (zy.id.life : Int), .int .u64 (zy.id.ser : Int), .int .i64 zy.client, .int .u64 (zy.sub : Int), .slice ra rn rc, .slice re sn rd, .bool qy] from rfl]
      have hb17 := PM.chain hb16 hb7
      replace k8 := k8.keep hb7
      replace k9 := k9.keep hb7
      replace hTh2 := PM.hid (And.intro (hTh2.out.1.keep hb7) (PM.EVL.keepO hb7 hTh2.out.2))
      replace hMu := PM.hid (PM.TxL.keep hb7 hMu.out)
      clear hf1 hf2 hb16 hb7 hrn hsn
      go_upto_region 13 with fail
      obtain ⟨ga, hga⟩ : ∃ g, g = w7.heap.size := ⟨_, rfl⟩
      obtain ⟨w8, hw8⟩ : ∃ W, W = w7.alloc (.cells #[.int .i64 zy.kind, .int .i64 zy.id.br, .int .u64 (zy.id.life : Int), .int .u64 (zy.id.ser : Int), .int .i64 zy.client, .int .u64 (zy.sub : Int), .slice ra rn rc, .slice re sn rd, .bool qy] 39) := ⟨_, rfl⟩
      have hbw8 : Below w7.heap.size w7 w8 := by rw [hw8]; exact (Below.refl _ _).alloc (Nat.le_refl _) _
      have ka : PM.BK w8 ga #[.int .i64 zy.kind, .int .i64 zy.id.br, .int .u64 (zy.id.life : Int), .int .u64 (zy.id.ser : Int), .int .i64 zy.client, .int .u64 (zy.sub : Int), .slice ra rn rc, .slice re sn rd, .bool qy] 39 := by rw [hw8, hga]; exact PM.BK.new _ _ _
      rw [← hw8, ← hga]
      clear hw8 hga
      have hb18 := PM.chain hb17 hbw8
      replace k8 := k8.keep hbw8
      replace k9 := k9.keep hbw8
      replace hMu := PM.hid (PM.TxL.keep hbw8 hMu.out)
      have ht := same11_any zx zy _ _ _ _ w8 hwfh.out.1 hwfh.out.2.1 (hTh2.out.1.keep hbw8) (PM.EVL.keepO hbw8 hTh2.out.2) (hU1.keep hbw8) (PM.EVL.keepO hbw8 hU2)
      change Calls _ _ #[.agg #[.int .i64 zx.kind, .int .i64 zx.id.br, .int .u64 (zx.id.life : Int), .int .u64 (zx.id.ser : Int), .int .i64 zx.client, .int .u64 (zx.sub : Int), .slice pa pn pc, .slice pe qn pd], .agg #[.int .i64 zy.kind, .int .i64 zy.id.br, .int .u64 (zy.id.life : Int), .int .u64 (zy.id.ser : Int), .int .i64 zy.client, .int .u64 (zy.sub : Int), .slice ra rn rc, .slice re sn rd]] _ _ at ht
      have c0 : w8.cell? ⟨g9, 0, none⟩ = some (.int .i64 zx.kind) := k9.cell 0
      have c1 : w8.cell? ⟨g9, 1, none⟩ = some (.int .i64 zx.id.br) := k9.cell 1
      have c2 : w8.cell? ⟨g9, 2, none⟩ = some (.int .u64 (zx.id.life : Int)) := k9.cell 2
      have c3 : w8.cell? ⟨g9, 3, none⟩ = some (.int .u64 (zx.id.ser : Int)) := k9.cell 3
      have c4 : w8.cell? ⟨g9, 4, none⟩ = some (.int .i64 zx.client) := k9.cell 4
      have c5 : w8.cell? ⟨g9, 5, none⟩ = some (.int .u64 (zx.sub : Int)) := k9.cell 5
      have c6 : w8.cell? ⟨g9, 6, none⟩ = some (.slice pa pn pc) := k9.cell 6
      have c7 : w8.cell? ⟨g9, 7, none⟩ = some (.slice pe qn pd) := k9.cell 7
      have c8 : w8.cell? ⟨g9, 8, none⟩ = some (.bool qx) := k9.cell 8
      have d0 : w8.cell? ⟨ga, 0, none⟩ = some (.int .i64 zy.kind) := ka.cell 0
      have d1 : w8.cell? ⟨ga, 1, none⟩ = some (.int .i64 zy.id.br) := ka.cell 1
      have d2 : w8.cell? ⟨ga, 2, none⟩ = some (.int .u64 (zy.id.life : Int)) := ka.cell 2
      have d3 : w8.cell? ⟨ga, 3, none⟩ = some (.int .u64 (zy.id.ser : Int)) := ka.cell 3
      have d4 : w8.cell? ⟨ga, 4, none⟩ = some (.int .i64 zy.client) := ka.cell 4
      have d5 : w8.cell? ⟨ga, 5, none⟩ = some (.int .u64 (zy.sub : Int)) := ka.cell 5
      have d6 : w8.cell? ⟨ga, 6, none⟩ = some (.slice ra rn rc) := ka.cell 6
      have d7 : w8.cell? ⟨ga, 7, none⟩ = some (.slice re sn rd) := ka.cell 7
      have d8 : w8.cell? ⟨ga, 8, none⟩ = some (.bool qy) := ka.cell 8
      clear hb17 hbw8 hU1 hU2 hTh2
      go_wp2_with fail
      refine ht.mono ?_
      clear ht c0 c1 c2 c3 c4 c5 c6 c7 c8 d0 d1 d2 d3 d4 d5 d6 d7 d8
      rintro d w9 ⟨hh, hb9⟩
      obtain ⟨sm, rfl, hsm⟩ : ∃ sm, d = .returned (.bool sm) ∧ (zx = zy → sm = true) := by
        rcases hh with ⟨h, -⟩ | ⟨h, h2⟩
        · exact ⟨true, h, fun _ => rfl⟩
        · exact ⟨false, h, fun h3 => (h2 h3).elim⟩
      have hBn := PM.chain hBr.out (PM.chain hb18 hb9)
      have hnew : Hid (∃ L, PM.TxL w9 (.slice ua MN uc) L ∧ PM.Gz L ∧ Below wS.heap.size wS w9) := PM.hid ⟨M, PM.TxL.keep hb9 hMu.out, hwfh.out.2.2.2, hBn⟩
      replace k8 := k8.keep hb9
      have c8 : w9.cell? ⟨g9, 8, none⟩ = some (.bool qx) := (k9.keep hb9).cell 8
      have d8 : w9.cell? ⟨ga, 8, none⟩ = some (.bool qy) := (ka.keep hb9).cell 8
      have k3 := hk3.out.keep hBn
      have x0 : w9.cell? ⟨g3, 0, none⟩ = some (.int .i64 oi.br) := k3.cell 0
      have x1 : w9.cell? ⟨g3, 1, none⟩ = some (.int .u64 (oi.life : Int)) := k3.cell 1
      have x2 : w9.cell? ⟨g3, 2, none⟩ = some (.int .u64 (oi.ser : Int)) := k3.cell 2
      have e0 : w9.cell? ⟨g8, 0, none⟩ = some (.int .i64 kd) := k8.cell 0
      have e1 : w9.cell? ⟨g8, 1, none⟩ = some (.int .i64 i.br) := k8.cell 1
      have e2 : w9.cell? ⟨g8, 2, none⟩ = some (.int .u64 (i.life : Int)) := k8.cell 2
      have e3 : w9.cell? ⟨g8, 3, none⟩ = some (.int .u64 (i.ser : Int)) := k8.cell 3
      have n8 : ¬ (8 : Int) < (MN : Int) := by omega
      have n8' : decide ((8 : Int) < (MN : Int)) = false := by simpa using n8
      have hstx := hsth.out
      obtain ⟨st, hste⟩ : ∃ st, st = decide (kd = 6 ∧ i = oi) := ⟨_, rfl⟩
      have hsmh := PM.hid hsm
      have hsteh := PM.hid hste
      have hstz := PM.hid hstx
      clear hh hb9 hb18 hMu hwfh hYh hsth hM8 k8 k9 ka k3 hBn hBr hstx hste hsm
      go_upto_region 14 with fail
      go_cut [16] from 63 to 71 (fun a wx => a = .bool st ∧ wx = w9)
      case first =>
        by_cases h6 : kd = 6
        · have q6 : (kd == 6) = true := by simp; exact h6
          have hqi := ideq_run i oi
          have hse : st = decide (i = oi) := by rw [hsteh.out]; simp [h6]
          rw [← hse] at hqi
          clear hse h6
          go_wp2_with fail
          all_goals go_meet
          all_goals exact ⟨rfl, rfl⟩
        · have q6 : (kd == 6) = false := by simp; exact h6
          have hse : st = false := by rw [hsteh.out]; simp [h6]
          subst hse
          clear h6
          go_wp2_with fail
          all_goals go_meet
          all_goals exact ⟨rfl, rfl⟩
      case rest =>
        obtain ⟨rfl, rfl⟩ := hcut
        clear x0 x1 x2 e0 e1 e2 e3
        have hcase : s1 = false ∨ s1 = true ∧ qx = false ∨ (s1 = true ∧ qx = true ∧ st = false ∧ s2 = true ∧ qy = true ∧ sm = true) ∨ (s1 = true ∧ qx = true ∧ st = true ∧ s2 = false) := by
          cases s1
          · exact .inl rfl
          cases qx
          · exact .inr (.inl ⟨rfl, rfl⟩)
          obtain ⟨p1, p2⟩ := hstz.out rfl rfl
          cases hq : st
          · have hns : ¬ (kd = 6 ∧ i = oi) := of_decide_eq_false (by rw [← hsteh.out]; exact hq)
            obtain ⟨p3, p4⟩ := p1 hns
            injection p4 with p5 p6
            exact .inr (.inr (.inl ⟨rfl, rfl, rfl, p3, p6, hsmh.out p5.symm⟩))
          · have hns : (kd = 6 ∧ i = oi) := of_decide_eq_true (by rw [← hsteh.out]; exact hq)
            exact .inr (.inr (.inr ⟨rfl, rfl, rfl, p2 hns⟩))
        clear hstz hsteh hsmh
        rcases hcase with rfl | ⟨rfl, rfl⟩ | ⟨rfl, rfl, rfl, rfl, rfl, rfl⟩ | ⟨rfl, rfl, rfl, rfl⟩
        all_goals
          go_wp2_with fail
          exact ⟨⟨⟨_, _, _, rfl⟩, k + 1, by go_num, by omega, by omega, hnew⟩, by simp only [intOf]; omega⟩
    · have hcase : k = N ∨ k = 60 ∧ k < N := by omega
      clear hgo
      rcases hcase with rfl | ⟨hk6, hkN⟩
      · skip
        have hln : ln = L.length := by obtain ⟨_, _, h⟩ := hTx.len; injection h
        have hlnh := PM.hid hln
        have hl8 := hG.gw.1
        rw [← hln] at hl8
        have hLd := PM.hid hTx
        have hGh := PM.hid hG
        have hBr := PM.hid (PM.chain' hB0.out hB hB0.out.size)
        clear hTx hG hB hln
        go_wp2_with fail
        go_loopw [17] (fun i wx => ∃ j : Nat, i = .int .i64 j ∧ j ≤ ln ∧ Hid (Below wr.heap.size wr wx)) (fun i _ => ln - (intOf i).toNat)
        case atStart => exact ⟨0, rfl, by omega, PM.hid (Below.refl _ _)⟩
        case round =>
          obtain ⟨j, rfl, hj, hS⟩ := hrel
          by_cases hlt : j < ln
          · obtain ⟨y, hy⟩ : ∃ z, L[j]? = some z := ⟨L[j]'(by rw [← hlnh.out]; exact hlt), List.getElem?_eq_getElem _⟩
            obtain ⟨b, off, rfl, hce⟩ := PM.RR.opn hLd.out (by rw [← hlnh.out]; omega)
            obtain ⟨cs, hl0, hR⟩ := hce j y hy
            obtain ⟨fa, fc, ea, ec, hcs, hzf, hze⟩ := PM.txR_open hR
            rw [hcs] at hl0
            obtain ⟨hzo, hzs, -⟩ := hGh.out.ok y (List.mem_of_getElem? hy)
            have hzw := (hGh.out.gw.2 y (List.mem_of_getElem? hy)).2
            obtain ⟨z, q⟩ := y
            simp only at hzf hze hzo hzs hzw
            replace hl0 := hl0.keep hS.out
            have ht := enencode_any z _ _ wr hzw (hzf.keep hS.out) (PM.EVL.keepO hS.out hze)
            obtain ⟨zF, hzF⟩ : ∃ P, P = z.fil.length := ⟨_, rfl⟩
            obtain ⟨zE, hzE⟩ : ∃ P, P = z.evs.length := ⟨_, rfl⟩
            rw [← hzF, ← hzE] at ht
            have hE0 : PM.enE z = 0 := PM.enE_yes hzo
            have hpos := PM.enB_pos z
            have hle := PM.sml_le hzo hzs
            have d0 : wr.cell? ⟨b, off + j * 9, none⟩ = some (.int .i64 z.kind) := hl0 0 _ rfl
            have d1 : wr.cell? ⟨b, off + j * 9 + 1, none⟩ = some (.int .i64 z.id.br) := hl0 1 _ rfl
            have d2 : wr.cell? ⟨b, off + j * 9 + 2, none⟩ = some (.int .u64 (z.id.life : Int)) := hl0 2 _ rfl
            have d3 : wr.cell? ⟨b, off + j * 9 + 3, none⟩ = some (.int .u64 (z.id.ser : Int)) := hl0 3 _ rfl
            have d4 : wr.cell? ⟨b, off + j * 9 + 4, none⟩ = some (.int .i64 z.client) := hl0 4 _ rfl
            have d5 : wr.cell? ⟨b, off + j * 9 + 5, none⟩ = some (.int .u64 (z.sub : Int)) := hl0 5 _ rfl
            have d6 : wr.cell? ⟨b, off + j * 9 + 6, none⟩ = some (.slice fa zF fc) := by have := hl0 6 _ rfl; simpa [← hzF, ← hzE] using this
            have d7 : wr.cell? ⟨b, off + j * 9 + 7, none⟩ = some (.slice ea zE ec) := by have := hl0 7 _ rfl; simpa [← hzF, ← hzE] using this
            have d8 : wr.cell? ⟨b, off + j * 9 + 8, none⟩ = some (.bool q) := hl0 8 _ rfl
            have hj1 : (j : Int) < (ln : Int) := by omega
            change Calls _ _ #[.agg #[.int .i64 z.kind, .int .i64 z.id.br, .int .u64 (z.id.life : Int), .int .u64 (z.id.ser : Int), .int .i64 z.client, .int .u64 (z.sub : Int), .slice fa zF fc, .slice ea zE ec]] _ _ at ht
            clear hce hl0 hR hcs cs hy hzf hze hzF hzE hzw hzs
            go_wp2_with fail
            refine ht.mono ?_
            clear ht d0 d1 d2 d3 d4 d5 d6 d7 d8
            rintro d w4 ⟨o, rfl, h1, -, hb4⟩
            rw [hE0]
            obtain ⟨og, oc, rfl, -⟩ := (h1 hzo).form (fun e => by rw [e] at hpos; exact absurd hpos (by decide))
            generalize (PM.enB z).length = BN at hpos hle
            have n1 : ¬ (3000 : Int) < (BN : Int) := by omega
            have n1' : decide ((3000 : Int) < (BN : Int)) = false := by simpa using n1
            have n2 : ¬ (BN : Int) = 0 := by omega
            have n2' : ((BN : Int) == 0) = false := by simpa using n2
            have hnew := PM.hid (PM.chain hS.out hb4)
            clear h1 hE0 hpos hle hb4 hzo
            go_wp2_with fail
            exact ⟨⟨j + 1, by go_num, by omega, hnew⟩, by simp only [intOf]; omega⟩
          · obtain rfl : ln = j := by omega
            have hend := PM.hid (PM.chain' hBr.out hS.out hBr.out.size)
            go_wp2_with fail
            go_ret
            exact ⟨by first | rfl | simp, hend.out⟩
      · have hi1 : (k : Int) < (N : Int) := by omega
        have hi2 : ¬ (k : Int) < 60 := by omega
        have hi3 : decide ((k : Int) < 60) = false := by simpa using hi2
        have hln : ln = L.length := by obtain ⟨_, _, h⟩ := hTx.len; injection h
        have hlnh := PM.hid hln
        have hl8 := hG.gw.1
        rw [← hln] at hl8
        have hLd := PM.hid hTx
        have hGh := PM.hid hG
        have hBr := PM.hid (PM.chain' hB0.out hB hB0.out.size)
        clear hTx hG hB hln
        go_wp2_with fail
        go_loopw [17] (fun i wx => ∃ j : Nat, i = .int .i64 j ∧ j ≤ ln ∧ Hid (Below wr.heap.size wr wx)) (fun i _ => ln - (intOf i).toNat)
        case atStart => exact ⟨0, rfl, by omega, PM.hid (Below.refl _ _)⟩
        case round =>
          obtain ⟨j, rfl, hj, hS⟩ := hrel
          by_cases hlt : j < ln
          · obtain ⟨y, hy⟩ : ∃ z, L[j]? = some z := ⟨L[j]'(by rw [← hlnh.out]; exact hlt), List.getElem?_eq_getElem _⟩
            obtain ⟨b, off, rfl, hce⟩ := PM.RR.opn hLd.out (by rw [← hlnh.out]; omega)
            obtain ⟨cs, hl0, hR⟩ := hce j y hy
            obtain ⟨fa, fc, ea, ec, hcs, hzf, hze⟩ := PM.txR_open hR
            rw [hcs] at hl0
            obtain ⟨hzo, hzs, -⟩ := hGh.out.ok y (List.mem_of_getElem? hy)
            have hzw := (hGh.out.gw.2 y (List.mem_of_getElem? hy)).2
            obtain ⟨z, q⟩ := y
            simp only at hzf hze hzo hzs hzw
            replace hl0 := hl0.keep hS.out
            have ht := enencode_any z _ _ wr hzw (hzf.keep hS.out) (PM.EVL.keepO hS.out hze)
            obtain ⟨zF, hzF⟩ : ∃ P, P = z.fil.length := ⟨_, rfl⟩
            obtain ⟨zE, hzE⟩ : ∃ P, P = z.evs.length := ⟨_, rfl⟩
            rw [← hzF, ← hzE] at ht
            have hE0 : PM.enE z = 0 := PM.enE_yes hzo
            have hpos := PM.enB_pos z
            have hle := PM.sml_le hzo hzs
            have d0 : wr.cell? ⟨b, off + j * 9, none⟩ = some (.int .i64 z.kind) := hl0 0 _ rfl
            have d1 : wr.cell? ⟨b, off + j * 9 + 1, none⟩ = some (.int .i64 z.id.br) := hl0 1 _ rfl
            have d2 : wr.cell? ⟨b, off + j * 9 + 2, none⟩ = some (.int .u64 (z.id.life : Int)) := hl0 2 _ rfl
            have d3 : wr.cell? ⟨b, off + j * 9 + 3, none⟩ = some (.int .u64 (z.id.ser : Int)) := hl0 3 _ rfl
            have d4 : wr.cell? ⟨b, off + j * 9 + 4, none⟩ = some (.int .i64 z.client) := hl0 4 _ rfl
            have d5 : wr.cell? ⟨b, off + j * 9 + 5, none⟩ = some (.int .u64 (z.sub : Int)) := hl0 5 _ rfl
            have d6 : wr.cell? ⟨b, off + j * 9 + 6, none⟩ = some (.slice fa zF fc) := by have := hl0 6 _ rfl; simpa [← hzF, ← hzE] using this
            have d7 : wr.cell? ⟨b, off + j * 9 + 7, none⟩ = some (.slice ea zE ec) := by have := hl0 7 _ rfl; simpa [← hzF, ← hzE] using this
            have d8 : wr.cell? ⟨b, off + j * 9 + 8, none⟩ = some (.bool q) := hl0 8 _ rfl
            have hj1 : (j : Int) < (ln : Int) := by omega
            change Calls _ _ #[.agg #[.int .i64 z.kind, .int .i64 z.id.br, .int .u64 (z.id.life : Int), .int .u64 (z.id.ser : Int), .int .i64 z.client, .int .u64 (z.sub : Int), .slice fa zF fc, .slice ea zE ec]] _ _ at ht
            clear hce hl0 hR hcs cs hy hzf hze hzF hzE hzw hzs
            go_wp2_with fail
            refine ht.mono ?_
            clear ht d0 d1 d2 d3 d4 d5 d6 d7 d8
            rintro d w4 ⟨o, rfl, h1, -, hb4⟩
            rw [hE0]
            obtain ⟨og, oc, rfl, -⟩ := (h1 hzo).form (fun e => by rw [e] at hpos; exact absurd hpos (by decide))
            generalize (PM.enB z).length = BN at hpos hle
            have n1 : ¬ (3000 : Int) < (BN : Int) := by omega
            have n1' : decide ((3000 : Int) < (BN : Int)) = false := by simpa using n1
            have n2 : ¬ (BN : Int) = 0 := by omega
            have n2' : ((BN : Int) == 0) = false := by simpa using n2
            have hnew := PM.hid (PM.chain hS.out hb4)
            clear h1 hE0 hpos hle hb4 hzo
            go_wp2_with fail
            exact ⟨⟨j + 1, by go_num, by omega, hnew⟩, by simp only [intOf]; omega⟩
          · obtain rfl : ln = j := by omega
            have hend := PM.hid (PM.chain' hBr.out hS.out hBr.out.size)
            go_wp2_with fail
            go_ret
            exact ⟨by first | rfl | simp, hend.out⟩

theorem stageStays_walk (v : Value) (script : List PM.Cl) (a b s : Int) (wa : (Lit.int .i64 a).wf = true) (xb : (Lit.int .u64 b).wf = true) (zs : (Lit.int .u64 s).wf = true) (w : World) (hv0 : PM.ClL w v script) (hw0 : ∀ x ∈ script, x.wf) :
    Calls Try.prog 4 #[v, .agg #[.int .i64 a, .int .u64 b, .int .u64 s]] w fun e w' => e = .returned (.bool true) ∧ Below w.heap.size w w' := by
  obtain ⟨bn, rfl, hb⟩ := PM.nat_u64 xb
  obtain ⟨sn, rfl, hs⟩ := PM.nat_u64 zs
  exact stageStays_walkI v script ⟨a, bn, sn⟩ w hv0 hw0
end Go.Proofs.Ytnjcociidipogaa
