/-
  CONTRACT of layer 13: wire.Decode.
-/
import Derived.Test.YtokfookandfemaaUf
namespace Go.Proofs.Ytokfookandfemaa
open Go.RowKit
set_option linter.unusedVariables false
set_option linter.unusedSimpArgs false
namespace PM
def Ms0 : Ms := ⟨0, 0, [], [], [], [], [], []⟩
theorem Ms0_wf : Ms0.wf := ⟨rfl, by decide, by simp [Ms0], by simp [Ms0], by simp [Ms0], by simp [Ms0], by simp [Ms0], by simp [Ms0]⟩
theorem Ms0_R (w : World) : msR w (msC Ms0 (.slice none 0 0) (.slice none 0 0) (.slice none 0 0) (.slice none 0 0) (.slice none 0 0) (.slice none 0 0)) Ms0 := ⟨_, _, _, _, _, _, rfl, EM.nil _, RR.nil _, RR.nil _, RR.nil _, EM.nil _, EM.nil _⟩
theorem finM_no {m : Ms} {s : Rs} (h : ¬ (s.bad = false ∧ (s.wr = false ∧ s.l = []) ∧ msOkB m = true)) : finM m s = none := by unfold finM; rw [if_neg h]
theorem finM_yes {m : Ms} (h : msOkB m = true) : finM m ⟨[], false, false⟩ = some m := by unfold finM; rw [if_pos ⟨rfl, ⟨rfl, rfl⟩, h⟩]
theorem En00_wf : En00.wf := ⟨rfl, ⟨rfl, by decide, by decide⟩, rfl, by decide, by simp [En00], by simp [En00]⟩
theorem rdEn_wf (n : Nat) (s : Rs) : (rdEn n s).1.wf := by
  unfold rdEn
  simp only
  cases h : decEn (stepB s.l s.wr n).1 with
  | none => exact En00_wf
  | some x => exact (decEn_back h).2.2
theorem ms_nobyte (a b : Int) {u0 u1 u2 u3 u4 u5 : Value} (h0 : isSl u0 = true) (h1 : isSl u1 = true) (h2 : isSl u2 = true) (h3 : isSl u3 = true) (h4 : isSl u4 = true) (h5 : isSl u5 = true) : ∀ (n : Nat) (z : UInt8), (#[Value.int .i64 a, Value.int .u64 b, u0, u1, u2, u3, u4, u5] : Array Value)[n]? ≠ Option.some (bv z) := by
  have hs : ∀ {u : Value} {z : UInt8}, isSl u = true → u ≠ bv z := fun {u z} h e => by rw [e] at h; simp [isSl, bv] at h
  intro n z he
  match n with
  | 0 => simp [bv] at he
  | 1 => simp [bv] at he
  | 2 => simp at he; exact hs h0 he
  | 3 => simp at he; exact hs h1 he
  | 4 => simp at he; exact hs h2 he
  | 5 => simp at he; exact hs h3 he
  | 6 => simp at he; exact hs h4 he
  | 7 => simp at he; exact hs h5 he
  | n + 8 => simp at he
theorem WR.keepM {TR TP U : TypeId} {w w' : World} {g b r : Nat} {long : Int} {s : Rs} {cs : Array Value} (h : WR TR TP w g b long s) (hx : Bx r w w') (hr : BK w r cs U) (hn : ∀ (n : Nat) (z : UInt8), cs[n]? ≠ Option.some (bv z)) (h1 : g ≠ r) (h2 : b ≠ r) : WR TR TP w' g b long s :=
  ⟨h.1.keepx hx h1, RD.keepy hx h2 hr hn h.2⟩
end PM
def RetWD (w : World) (l : List UInt8) (e : Ending) (w' : World) : Prop :=
  ∃ m ma0 mc0 ma1 mc1 ma2 mc2 ma3 mc3 ma4 mc4 ma5 mc5 n, e = .returned (.tuple #[.agg #[.int .i64 m.kind, .int .u64 (m.hav : Int), .slice ma0 m.votes.length mc0, .slice ma1 m.asks.length mc1, .slice ma2 m.entries.length mc2, .slice ma3 m.prepares.length mc3, .slice ma4 m.aborts.length mc4, .slice ma5 m.ends.length mc5], .int .i64 n]) ∧ PM.msR w' (PM.msC m (.slice ma0 m.votes.length mc0) (.slice ma1 m.asks.length mc1) (.slice ma2 m.entries.length mc2) (.slice ma3 m.prepares.length mc3) (.slice ma4 m.aborts.length mc4) (.slice ma5 m.ends.length mc5)) m ∧ m.wf ∧ (n = 0 ∧ PM.decM l = some m ∨ n = 130 ∧ PM.decM l = none ∧ m = PM.Ms0) ∧ Below w.heap.size w w'
set_option maxRecDepth 100000 in
set_option maxHeartbeats 16000000 in
theorem wdecode_0 (v : Value) (l : List UInt8) (w : World) (hv : PM.BS w v l) (hl : l.length ≤ 70368744177664) (hk : PM.sm (PM.stepN l false).1 ≠ 1 ∧ PM.sm (PM.stepN l false).1 ≠ 2) :
    Calls Try.prog 15 #[v] w (RetWD w l) := by
  unfold RetWD
  have hD : PM.decM l = PM.finM (PM.rdM l).1 (PM.rdM l).2 := rfl
  rw [PM.rdM_0 hk.1 hk.2] at hD

  simp only at hD
  obtain ⟨k0, l1, wr1, e1⟩ : ∃ a b c, PM.stepN l false = (a, b, c) := ⟨_, _, _, rfl⟩
  obtain ⟨hv0, l2, wr2, e2⟩ : ∃ a b c, PM.stepN l1 wr1 = (a, b, c) := ⟨_, _, _, rfl⟩
  have p1 := PM.stepN_lt l false
  have p2 := PM.stepN_lt l1 wr1
  have hN2 := PM.hid fun (b : Nat) (W : World) (h : PM.RD 99 W b l1 wr1) => rnumber_any b l1 wr1 W h
  have hN1 := PM.hid fun (b : Nat) (W : World) (h : PM.RD 99 W b l false) => small_any b l false W h
  have hkw := PM.sm_wf (PM.stepN l false).1
  rw [e1] at hD p1 hN1 hk hkw
  simp only at hD p1 hN1 hk hkw
  rw [e2] at hD p2 hN2
  simp only at hD p2 hN2
  obtain ⟨KD, hKD⟩ : ∃ k, k = PM.sm k0 := ⟨_, rfl⟩
  rw [← hKD] at hN1 hk hkw hD
  clear e1 e2 hKD

  obtain ⟨L, hL⟩ : ∃ L, L = l.length := ⟨_, rfl⟩
  obtain ⟨va, vc, rfl⟩ := hv.len
  rw [← hL] at hv hl p1  ⊢
  obtain ⟨hv64, p2⟩ := p2
  replace p1 := p1.2
  replace hv := PM.hid hv
  have hLh := PM.hid hL
  clear hL
  obtain ⟨g2, hg2⟩ : ∃ g, g = w.heap.size := ⟨_, rfl⟩
  obtain ⟨W0, hW0⟩ : ∃ W, W = w.alloc (.cells #[.int .i64 0, .int .u64 0, .slice none 0 0, .slice none 0 0, .slice none 0 0, .slice none 0 0, .slice none 0 0, .slice none 0 0] 28) := ⟨_, rfl⟩
  have hB0 : Below w.heap.size w W0 := by rw [hW0]; exact (Below.refl _ _).alloc (Nat.le_refl _) _
  have hZ : PM.BK W0 g2 #[.int .i64 0, .int .u64 0, .slice none 0 0, .slice none 0 0, .slice none 0 0, .slice none 0 0, .slice none 0 0, .slice none 0 0] 28 := by rw [hW0, hg2]; exact PM.BK.new _ _ _
  have hg2w : w.heap.size ≤ g2 := by omega
  have hB := PM.hid hB0
  go_enter Try.func15, Try.ntmps15
  go_upto_region 1 with fail
  rw [← hW0, ← hg2]
  clear hW0 hg2 hB0
  go_wp2_with fail
  refine (new_any _ l W0 (hv.out.keep hB.out) (by rw [← hLh.out]; exact hl)).mono ?_
  rintro e w1 ⟨b, rfl, hbge, hRD, hB1⟩
  have hbw : w.heap.size ≤ b := Nat.le_trans hB.out.size hbge
  have hg2b : g2 ≠ b := by have := hZ.lt; omega
  replace hZ := hZ.keep hB1
  replace hB := PM.hid (PM.chain hB.out hB1)
  clear hB1 hbge
  go_upto_region 2 with fail
  obtain ⟨g, hg⟩ : ∃ g, g = w1.heap.size := ⟨_, rfl⟩
  obtain ⟨W1, hW1⟩ : ∃ W, W = w1.alloc (.cells #[.pointer (some ⟨b, 0, none⟩), .int .i64 (L : Int), .bool false] 74) := ⟨_, rfl⟩
  have hB1 : Below w1.heap.size w1 W1 := by rw [hW1]; exact (Below.refl _ _).alloc (Nat.le_refl _) _
  have hW : Hid (PM.WR 74 99 W1 g b (L : Int) ⟨l, false, false⟩) := PM.hid ⟨by rw [hW1, hg]; exact PM.BK.new _ _ _, hRD.keep hB1⟩
  have hgw : w.heap.size ≤ g := by have := hB.out.size; omega
  have hg2g : g2 ≠ g := by have := hZ.lt; omega
  have hgb : g ≠ b := by have := hRD.lt; omega
  replace hZ := hZ.keep hB1
  replace hB := PM.hid (PM.chain hB.out hB1)
  rw [← hW1, ← hg]
  clear hW1 hg hB1 hRD
  have hT : 74 ≠ 99 := by decide
  have c0 : W1.cell? ⟨g, 0, none⟩ = some (.pointer (some ⟨b, 0, none⟩)) := hW.out.1.cell 0
  go_wp2_with fail
  refine (hN1.out b W1 hW.out.2).mono ?_
  clear hN1 c0
  rintro e w2 ⟨rfl, hr, hx⟩
  replace hZ := hZ.keepx hx hg2b
  replace hB := PM.hid (hx.below hB.out hbw hB.out.size)
  replace hW := PM.hid (hW.out.num hT hr hx)
  clear hr hx
  go_upto_region 3 with fail
  obtain ⟨g5, hg5⟩ : ∃ g, g = w2.heap.size := ⟨_, rfl⟩
  obtain ⟨W3, hW3⟩ : ∃ W, W = w2.alloc (.cells #[.int .i64 KD, .int .u64 0, .slice none 0 0, .slice none 0 0, .slice none 0 0, .slice none 0 0, .slice none 0 0, .slice none 0 0] 28) := ⟨_, rfl⟩
  have hB1 : Below w2.heap.size w2 W3 := by rw [hW3]; exact (Below.refl _ _).alloc (Nat.le_refl _) _
  have hX : PM.BK W3 g5 #[.int .i64 KD, .int .u64 0, .slice none 0 0, .slice none 0 0, .slice none 0 0, .slice none 0 0, .slice none 0 0, .slice none 0 0] 28 := by rw [hW3, hg5]; exact PM.BK.new _ _ _
  have hg5w : w.heap.size ≤ g5 := by have := hB.out.size; omega
  have hg25 : g2 ≠ g5 := by have := hZ.lt; omega
  have hg5b : g5 ≠ b := by have := hW.out.2.lt; omega
  have hg5g : g5 ≠ g := by have := hW.out.1.lt; omega
  replace hZ := hZ.keep hB1
  replace hW := PM.hid (hW.out.keep hB1)
  replace hB := PM.hid (PM.chain hB.out hB1)
  rw [← hW3, ← hg5]
  clear hW3 hg5 hB1
  have c0 : W3.cell? ⟨g, 0, none⟩ = some (.pointer (some ⟨b, 0, none⟩)) := hW.out.1.cell 0
  go_wp2_with fail
  refine (hN2.out b W3 hW.out.2).mono ?_
  clear hN2 c0
  rintro e w4 ⟨rfl, hr, hx⟩
  replace hZ := hZ.keepx hx hg2b
  replace hX := hX.keepx hx hg5b
  replace hB := PM.hid (hx.below hB.out hbw hB.out.size)
  replace hW := PM.hid (hW.out.num hT hr hx)
  clear hr hx
  have f1 := hX.free 1
  have t1 := hX.cell 1
  go_upto_region 4 with fail
  have kn := hX.set 1 (.int .u64 (hv0 : Int))
  replace kn : PM.BK (w4.setCell ⟨g5, 1, none⟩ (.int .u64 (hv0 : Int))) g5 #[.int .i64 KD, .int .u64 (hv0 : Int), .slice none 0 0, .slice none 0 0, .slice none 0 0, .slice none 0 0, .slice none 0 0, .slice none 0 0] 28 := by simpa using kn
  have hxs : PM.Bx g5 w4 (w4.setCell ⟨g5, 1, none⟩ (.int .u64 (hv0 : Int))) := PM.Bx.set g5 1 w4 (.int .u64 (hv0 : Int))
  generalize (w4.setCell ⟨g5, 1, none⟩ (.int .u64 (hv0 : Int))) = w5 at *
  replace hZ := hZ.keepx hxs hg25
  replace hW := PM.hid (hW.out.keepM hxs hX (PM.ms_nobyte _ _ rfl rfl rfl rfl rfl rfl) hg5g.symm hg5b.symm)
  replace hB := PM.hid (hxs.below hB.out hg5w hB.out.size)
  replace hX := kn
  clear hxs kn f1 t1
  obtain ⟨s0, hs0⟩ : ∃ s, s = (⟨l2, wr2, false⟩ : PM.Rs) := ⟨_, rfl⟩
  have hs0l : s0.l.length ≤ 70368744177664 := by rw [hs0]; simp only; omega
  try simp only at hW
  rw [← hs0] at hD hW
  clear hs0 p1 p2
  have o0 : w5.cell? ⟨g5, 0, none⟩ = some (.int .i64 KD) := hX.cell 0
  have kq1 : (KD == 1) = false := by simp [hk.1]
  have kq2 : (KD == 2) = false := by simp [hk.2]
  clear hk
  go_upto_region 13 with fail
  clear o0 kq1 kq2
  obtain ⟨lf, wf0, bf⟩ := s0
  cases bf
  case true =>
    have hDn : Hid (PM.decM l = none) := PM.hid (by rw [hD]; exact PM.finM_no fun h => by cases h.1)
    clear hD
    have c0 : w5.cell? ⟨g, 0, none⟩ = some (.pointer (some ⟨b, 0, none⟩)) := hW.out.1.cell 0
    have c2 : w5.cell? ⟨g, 2, none⟩ = some (.bool true) := hW.out.1.cell 2
    have y0 : w5.cell? ⟨g5, 0, none⟩ = some (.int .i64 KD) := hX.cell 0
    have y1 : w5.cell? ⟨g5, 1, none⟩ = some (.int .u64 (hv0 : Int)) := hX.cell 1
    have y2 : w5.cell? ⟨g5, 2, none⟩ = some (.slice none 0 0) := hX.cell 2
    have y3 : w5.cell? ⟨g5, 3, none⟩ = some (.slice none 0 0) := hX.cell 3
    have y4 : w5.cell? ⟨g5, 4, none⟩ = some (.slice none 0 0) := hX.cell 4
    have y5 : w5.cell? ⟨g5, 5, none⟩ = some (.slice none 0 0) := hX.cell 5
    have y6 : w5.cell? ⟨g5, 6, none⟩ = some (.slice none 0 0) := hX.cell 6
    have y7 : w5.cell? ⟨g5, 7, none⟩ = some (.slice none 0 0) := hX.cell 7
    clear  hW
    go_upto_region 14 with fail
    clear c0 c2
    clear y0 y1 y2 y3 y4 y5 y6 y7
    have z0 := hZ.cell 0
    have f0 := hZ.free 0
    have z1 := hZ.cell 1
    have f1 := hZ.free 1
    have z2 := hZ.cell 2
    have f2 := hZ.free 2
    have z3 := hZ.cell 3
    have f3 := hZ.free 3
    have z4 := hZ.cell 4
    have f4 := hZ.free 4
    have z5 := hZ.cell 5
    have f5 := hZ.free 5
    have z6 := hZ.cell 6
    have f6 := hZ.free 6
    have z7 := hZ.cell 7
    have f7 := hZ.free 7
    go_wp2
    have ZF := hZ.set8o (.int .i64 0) (.int .u64 0) (.slice none 0 0) (.slice none 0 0) (.slice none 0 0) (.slice none 0 0) (.slice none 0 0) (.slice none 0 0)
    have hxf := PM.Bx.set8o g2 w5 (.int .i64 0) (.int .u64 0) (.slice none 0 0) (.slice none 0 0) (.slice none 0 0) (.slice none 0 0) (.slice none 0 0) (.slice none 0 0)
    generalize ((((((((w5.setCell ⟨g2, 0, none⟩ (.int .i64 0)).setCell ⟨g2, 1, none⟩ (.int .u64 0)).setCell ⟨g2, 2, none⟩ (.slice none 0 0)).setCell ⟨g2, 3, none⟩ (.slice none 0 0)).setCell ⟨g2, 4, none⟩ (.slice none 0 0)).setCell ⟨g2, 5, none⟩ (.slice none 0 0)).setCell ⟨g2, 6, none⟩ (.slice none 0 0)).setCell ⟨g2, 7, none⟩ (.slice none 0 0)) = wf at *
    have q0 := ZF.cell 0
    have q1 := ZF.cell 1
    have q2 := ZF.cell 2
    have q3 := ZF.cell 3
    have q4 := ZF.cell 4
    have q5 := ZF.cell 5
    have q6 := ZF.cell 6
    have q7 := ZF.cell 7
    refine bodyPost_ret (v := .tuple #[.agg #[.int .i64 0, .int .u64 0, .slice none 0 0, .slice none 0 0, .slice none 0 0, .slice none 0 0, .slice none 0 0, .slice none 0 0], .int .i64 130]) (by simp [results, Try.results15, go_sem, q0, q1, q2, q3, q4, q5, q6, q7]) rfl ?_
    exact ⟨PM.Ms0, none, 0, none, 0, none, 0, none, 0, none, 0, none, 0, 130, rfl, PM.Ms0_R _, PM.Ms0_wf, .inr ⟨rfl, hDn.out, rfl⟩, hxf.below hB.out hg2w hB.out.size⟩
  have hdn := done_any b lf wf0 w5 hW.out.2
  by_cases hdone : wf0 = false ∧ lf = []
  case neg =>
    have hdf : (!wf0 && decide (lf = [])) = false := by
      cases wf0 <;> simp at hdone ⊢
      exact hdone
    rw [hdf] at hdn
    have hDn : Hid (PM.decM l = none) := PM.hid (by rw [hD]; exact PM.finM_no fun h => hdone h.2.1)
    clear hD
    have c0 : w5.cell? ⟨g, 0, none⟩ = some (.pointer (some ⟨b, 0, none⟩)) := hW.out.1.cell 0
    have c2 : w5.cell? ⟨g, 2, none⟩ = some (.bool false) := hW.out.1.cell 2
    have y0 : w5.cell? ⟨g5, 0, none⟩ = some (.int .i64 KD) := hX.cell 0
    have y1 : w5.cell? ⟨g5, 1, none⟩ = some (.int .u64 (hv0 : Int)) := hX.cell 1
    have y2 : w5.cell? ⟨g5, 2, none⟩ = some (.slice none 0 0) := hX.cell 2
    have y3 : w5.cell? ⟨g5, 3, none⟩ = some (.slice none 0 0) := hX.cell 3
    have y4 : w5.cell? ⟨g5, 4, none⟩ = some (.slice none 0 0) := hX.cell 4
    have y5 : w5.cell? ⟨g5, 5, none⟩ = some (.slice none 0 0) := hX.cell 5
    have y6 : w5.cell? ⟨g5, 6, none⟩ = some (.slice none 0 0) := hX.cell 6
    have y7 : w5.cell? ⟨g5, 7, none⟩ = some (.slice none 0 0) := hX.cell 7
    clear hdone hdf  hW
    go_wp2_with fail
    refine hdn.mono ?_
    clear hdn
    rintro e wd ⟨rfl, rfl⟩
    go_upto_region 14 with fail
    clear c0 c2
    clear y0 y1 y2 y3 y4 y5 y6 y7
    have z0 := hZ.cell 0
    have f0 := hZ.free 0
    have z1 := hZ.cell 1
    have f1 := hZ.free 1
    have z2 := hZ.cell 2
    have f2 := hZ.free 2
    have z3 := hZ.cell 3
    have f3 := hZ.free 3
    have z4 := hZ.cell 4
    have f4 := hZ.free 4
    have z5 := hZ.cell 5
    have f5 := hZ.free 5
    have z6 := hZ.cell 6
    have f6 := hZ.free 6
    have z7 := hZ.cell 7
    have f7 := hZ.free 7
    go_wp2
    have ZF := hZ.set8o (.int .i64 0) (.int .u64 0) (.slice none 0 0) (.slice none 0 0) (.slice none 0 0) (.slice none 0 0) (.slice none 0 0) (.slice none 0 0)
    have hxf := PM.Bx.set8o g2 w5 (.int .i64 0) (.int .u64 0) (.slice none 0 0) (.slice none 0 0) (.slice none 0 0) (.slice none 0 0) (.slice none 0 0) (.slice none 0 0)
    generalize ((((((((w5.setCell ⟨g2, 0, none⟩ (.int .i64 0)).setCell ⟨g2, 1, none⟩ (.int .u64 0)).setCell ⟨g2, 2, none⟩ (.slice none 0 0)).setCell ⟨g2, 3, none⟩ (.slice none 0 0)).setCell ⟨g2, 4, none⟩ (.slice none 0 0)).setCell ⟨g2, 5, none⟩ (.slice none 0 0)).setCell ⟨g2, 6, none⟩ (.slice none 0 0)).setCell ⟨g2, 7, none⟩ (.slice none 0 0)) = wf at *
    have q0 := ZF.cell 0
    have q1 := ZF.cell 1
    have q2 := ZF.cell 2
    have q3 := ZF.cell 3
    have q4 := ZF.cell 4
    have q5 := ZF.cell 5
    have q6 := ZF.cell 6
    have q7 := ZF.cell 7
    refine bodyPost_ret (v := .tuple #[.agg #[.int .i64 0, .int .u64 0, .slice none 0 0, .slice none 0 0, .slice none 0 0, .slice none 0 0, .slice none 0 0, .slice none 0 0], .int .i64 130]) (by simp [results, Try.results15, go_sem, q0, q1, q2, q3, q4, q5, q6, q7]) rfl ?_
    exact ⟨PM.Ms0, none, 0, none, 0, none, 0, none, 0, none, 0, none, 0, 130, rfl, PM.Ms0_R _, PM.Ms0_wf, .inr ⟨rfl, hDn.out, rfl⟩, hxf.below hB.out hg2w hB.out.size⟩
  obtain ⟨rfl, rfl⟩ := hdone
  have hdn' : Calls Try.prog 48 #[.pointer (some ⟨b, 0, none⟩)] w5 fun e w' => e = .returned (.bool true) ∧ w5 = w' := hdn
  clear hdn
  have hmw : PM.Ms.wf ⟨KD, hv0, [], [], [], [], [], []⟩ := ⟨hkw, hv64, by simp, by simp, by simp, by simp, by simp, by simp⟩
  have hms : PM.msSm ⟨KD, hv0, [], [], [], [], [], []⟩ := ⟨by simp, by simp, by simp, by simp, by simp, by simp⟩
  have hmR : ∀ X, (PM.KT w5 X 50) → (PM.KT w5 X 53) → (PM.KT w5 X 45) → (PM.KT w5 X 138) → (PM.KT w5 X 136) → (PM.KT w5 X 114) → PM.msR X (PM.msC ⟨KD, hv0, [], [], [], [], [], []⟩ (.slice none 0 0) (.slice none 0 0) (.slice none 0 0) (.slice none 0 0) (.slice none 0 0) (.slice none 0 0)) ⟨KD, hv0, [], [], [], [], [], []⟩ := fun X kE kV kI kT kA kW =>
    ⟨_, _, _, _, _, _, rfl, PM.EM.nil _, PM.RR.nil _, PM.RR.nil _, PM.RR.nil _, PM.EM.nil _, PM.EM.nil _⟩
  have hck := wcheck_any ⟨KD, hv0, [], [], [], [], [], []⟩ none 0 0 none 0 0 none 0 0 none 0 0 none 0 0 none 0 0 w5 hmw hms (hmR _ (PM.KT.refl _ _) (PM.KT.refl _ _) (PM.KT.refl _ _) (PM.KT.refl _ _) (PM.KT.refl _ _) (PM.KT.refl _ _))
  simp only at hck
  have c0 : w5.cell? ⟨g, 0, none⟩ = some (.pointer (some ⟨b, 0, none⟩)) := hW.out.1.cell 0
  have c2 : w5.cell? ⟨g, 2, none⟩ = some (.bool false) := hW.out.1.cell 2
  have y0 : w5.cell? ⟨g5, 0, none⟩ = some (.int .i64 KD) := hX.cell 0
  have y1 : w5.cell? ⟨g5, 1, none⟩ = some (.int .u64 (hv0 : Int)) := hX.cell 1
  have y2 : w5.cell? ⟨g5, 2, none⟩ = some (.slice none 0 0) := hX.cell 2
  have y3 : w5.cell? ⟨g5, 3, none⟩ = some (.slice none 0 0) := hX.cell 3
  have y4 : w5.cell? ⟨g5, 4, none⟩ = some (.slice none 0 0) := hX.cell 4
  have y5 : w5.cell? ⟨g5, 5, none⟩ = some (.slice none 0 0) := hX.cell 5
  have y6 : w5.cell? ⟨g5, 6, none⟩ = some (.slice none 0 0) := hX.cell 6
  have y7 : w5.cell? ⟨g5, 7, none⟩ = some (.slice none 0 0) := hX.cell 7
  cases hok : PM.msOkB ⟨KD, hv0, [], [], [], [], [], []⟩
  case false =>
    rw [PM.msE_no hok] at hck
    have hDn : Hid (PM.decM l = none) := PM.hid (by rw [hD]; exact PM.finM_no fun h => by rw [hok] at h; cases h.2.2)
    clear hD
    clear hok  hW hmw hms hmR
    go_wp2_with fail
    refine hdn'.mono ?_
    clear hdn'
    rintro e wd ⟨rfl, rfl⟩
    go_wp2_with fail
    refine hck.mono ?_
    clear hck
    rintro e we ⟨rfl, hBe⟩
    replace hZ := hZ.keep hBe
    replace hB := PM.hid (PM.chain hB.out hBe)
    clear hBe
    go_upto_region 14 with fail
    clear c0 c2
    clear y0 y1 y2 y3 y4 y5 y6 y7
    have z0 := hZ.cell 0
    have f0 := hZ.free 0
    have z1 := hZ.cell 1
    have f1 := hZ.free 1
    have z2 := hZ.cell 2
    have f2 := hZ.free 2
    have z3 := hZ.cell 3
    have f3 := hZ.free 3
    have z4 := hZ.cell 4
    have f4 := hZ.free 4
    have z5 := hZ.cell 5
    have f5 := hZ.free 5
    have z6 := hZ.cell 6
    have f6 := hZ.free 6
    have z7 := hZ.cell 7
    have f7 := hZ.free 7
    go_wp2
    have ZF := hZ.set8o (.int .i64 0) (.int .u64 0) (.slice none 0 0) (.slice none 0 0) (.slice none 0 0) (.slice none 0 0) (.slice none 0 0) (.slice none 0 0)
    have hxf := PM.Bx.set8o g2 we (.int .i64 0) (.int .u64 0) (.slice none 0 0) (.slice none 0 0) (.slice none 0 0) (.slice none 0 0) (.slice none 0 0) (.slice none 0 0)
    generalize ((((((((we.setCell ⟨g2, 0, none⟩ (.int .i64 0)).setCell ⟨g2, 1, none⟩ (.int .u64 0)).setCell ⟨g2, 2, none⟩ (.slice none 0 0)).setCell ⟨g2, 3, none⟩ (.slice none 0 0)).setCell ⟨g2, 4, none⟩ (.slice none 0 0)).setCell ⟨g2, 5, none⟩ (.slice none 0 0)).setCell ⟨g2, 6, none⟩ (.slice none 0 0)).setCell ⟨g2, 7, none⟩ (.slice none 0 0)) = wf at *
    have q0 := ZF.cell 0
    have q1 := ZF.cell 1
    have q2 := ZF.cell 2
    have q3 := ZF.cell 3
    have q4 := ZF.cell 4
    have q5 := ZF.cell 5
    have q6 := ZF.cell 6
    have q7 := ZF.cell 7
    refine bodyPost_ret (v := .tuple #[.agg #[.int .i64 0, .int .u64 0, .slice none 0 0, .slice none 0 0, .slice none 0 0, .slice none 0 0, .slice none 0 0, .slice none 0 0], .int .i64 130]) (by simp [results, Try.results15, go_sem, q0, q1, q2, q3, q4, q5, q6, q7]) rfl ?_
    exact ⟨PM.Ms0, none, 0, none, 0, none, 0, none, 0, none, 0, none, 0, 130, rfl, PM.Ms0_R _, PM.Ms0_wf, .inr ⟨rfl, hDn.out, rfl⟩, hxf.below hB.out hg2w hB.out.size⟩
  rw [PM.msE_yes hok] at hck
  have hDy : Hid (PM.decM l = some ⟨KD, hv0, [], [], [], [], [], []⟩) := PM.hid (by rw [hD]; exact PM.finM_yes hok)
  replace hmw := PM.hid hmw
  replace hmR := PM.hid hmR
  clear hok hD  hW hms
  go_wp2_with fail
  refine hdn'.mono ?_
  clear hdn'
  rintro e wd ⟨rfl, rfl⟩
  go_wp2_with fail
  refine hck.mono ?_
  clear hck
  rintro e we ⟨rfl, hBe⟩
  have hkt := fun E => PM.KT.of hBe E
  replace hZ := hZ.keep hBe
  replace hX := hX.keep hBe
  replace hB := PM.hid (PM.chain hB.out hBe)
  clear hBe c0 c2 y0 y1 y2 y3 y4 y5 y6 y7
  have y0 : we.cell? ⟨g5, 0, none⟩ = some (.int .i64 KD) := hX.cell 0
  have y1 : we.cell? ⟨g5, 1, none⟩ = some (.int .u64 (hv0 : Int)) := hX.cell 1
  have y2 : we.cell? ⟨g5, 2, none⟩ = some (.slice none 0 0) := hX.cell 2
  have y3 : we.cell? ⟨g5, 3, none⟩ = some (.slice none 0 0) := hX.cell 3
  have y4 : we.cell? ⟨g5, 4, none⟩ = some (.slice none 0 0) := hX.cell 4
  have y5 : we.cell? ⟨g5, 5, none⟩ = some (.slice none 0 0) := hX.cell 5
  have y6 : we.cell? ⟨g5, 6, none⟩ = some (.slice none 0 0) := hX.cell 6
  have y7 : we.cell? ⟨g5, 7, none⟩ = some (.slice none 0 0) := hX.cell 7
  replace hkt := PM.hid hkt
  have z0 := hZ.cell 0
  have f0 := hZ.free 0
  have z1 := hZ.cell 1
  have f1 := hZ.free 1
  have z2 := hZ.cell 2
  have f2 := hZ.free 2
  have z3 := hZ.cell 3
  have f3 := hZ.free 3
  have z4 := hZ.cell 4
  have f4 := hZ.free 4
  have z5 := hZ.cell 5
  have f5 := hZ.free 5
  have z6 := hZ.cell 6
  have f6 := hZ.free 6
  have z7 := hZ.cell 7
  have f7 := hZ.free 7
  go_wp2
  have ZF := hZ.set8o (.int .i64 KD) (.int .u64 (hv0 : Int)) (.slice none 0 0) (.slice none 0 0) (.slice none 0 0) (.slice none 0 0) (.slice none 0 0) (.slice none 0 0)
  have hxf := PM.Bx.set8o g2 we (.int .i64 KD) (.int .u64 (hv0 : Int)) (.slice none 0 0) (.slice none 0 0) (.slice none 0 0) (.slice none 0 0) (.slice none 0 0) (.slice none 0 0)
  generalize ((((((((we.setCell ⟨g2, 0, none⟩ (.int .i64 KD)).setCell ⟨g2, 1, none⟩ (.int .u64 (hv0 : Int))).setCell ⟨g2, 2, none⟩ (.slice none 0 0)).setCell ⟨g2, 3, none⟩ (.slice none 0 0)).setCell ⟨g2, 4, none⟩ (.slice none 0 0)).setCell ⟨g2, 5, none⟩ (.slice none 0 0)).setCell ⟨g2, 6, none⟩ (.slice none 0 0)).setCell ⟨g2, 7, none⟩ (.slice none 0 0)) = wf at *
  have q0 := ZF.cell 0
  have q1 := ZF.cell 1
  have q2 := ZF.cell 2
  have q3 := ZF.cell 3
  have q4 := ZF.cell 4
  have q5 := ZF.cell 5
  have q6 := ZF.cell 6
  have q7 := ZF.cell 7
  refine bodyPost_ret (v := .tuple #[.agg #[.int .i64 KD, .int .u64 (hv0 : Int), .slice none 0 0, .slice none 0 0, .slice none 0 0, .slice none 0 0, .slice none 0 0, .slice none 0 0], .int .i64 0]) (by simp [results, Try.results15, go_sem, q0, q1, q2, q3, q4, q5, q6, q7]) rfl ?_
  have hk2 := fun E (hne : 28 ≠ E) => (hkt.out E).trans (PM.KT.ofx (E := E) hxf hZ hne)
  refine ⟨⟨KD, hv0, [], [], [], [], [], []⟩, none, 0, none, 0, none, 0, none, 0, none, 0, none, 0, 0, ?_, ?_, hmw.out, .inl ⟨rfl, hDy.out⟩, hxf.below hB.out hg2w hB.out.size⟩
  · rfl
  · exact hmR.out wf (hk2 _ (by decide)) (hk2 _ (by decide)) (hk2 _ (by decide)) (hk2 _ (by decide)) (hk2 _ (by decide)) (hk2 _ (by decide))
set_option maxRecDepth 100000 in
set_option maxHeartbeats 16000000 in
theorem wdecode_1 (v : Value) (l : List UInt8) (w : World) (hv : PM.BS w v l) (hl : l.length ≤ 70368744177664) (hk : PM.sm (PM.stepN l false).1 = 1) :
    Calls Try.prog 15 #[v] w (RetWD w l) := by
  unfold RetWD
  have hD : PM.decM l = PM.finM (PM.rdM l).1 (PM.rdM l).2 := rfl
  rw [PM.rdM_1 hk] at hD

  simp only at hD
  obtain ⟨k0, l1, wr1, e1⟩ : ∃ a b c, PM.stepN l false = (a, b, c) := ⟨_, _, _, rfl⟩
  obtain ⟨hv0, l2, wr2, e2⟩ : ∃ a b c, PM.stepN l1 wr1 = (a, b, c) := ⟨_, _, _, rfl⟩
  have p1 := PM.stepN_lt l false
  have p2 := PM.stepN_lt l1 wr1
  have hN2 := PM.hid fun (b : Nat) (W : World) (h : PM.RD 99 W b l1 wr1) => rnumber_any b l1 wr1 W h
  have hN1 := PM.hid fun (b : Nat) (W : World) (h : PM.RD 99 W b l false) => small_any b l false W h
  have hkw := PM.sm_wf (PM.stepN l false).1
  rw [e1] at hD p1 hN1 hk hkw
  simp only at hD p1 hN1 hk hkw
  rw [e2] at hD p2 hN2
  simp only at hD p2 hN2
  obtain ⟨KD, hKD⟩ : ∃ k, k = PM.sm k0 := ⟨_, rfl⟩
  rw [← hKD] at hN1 hk hkw 
  clear e1 e2 hKD
  subst hk
  obtain ⟨L, hL⟩ : ∃ L, L = l.length := ⟨_, rfl⟩
  obtain ⟨va, vc, rfl⟩ := hv.len
  rw [← hL] at hv hl p1 hD ⊢
  obtain ⟨hv64, p2⟩ := p2
  replace p1 := p1.2
  replace hv := PM.hid hv
  have hLh := PM.hid hL
  clear hL
  obtain ⟨g2, hg2⟩ : ∃ g, g = w.heap.size := ⟨_, rfl⟩
  obtain ⟨W0, hW0⟩ : ∃ W, W = w.alloc (.cells #[.int .i64 0, .int .u64 0, .slice none 0 0, .slice none 0 0, .slice none 0 0, .slice none 0 0, .slice none 0 0, .slice none 0 0] 28) := ⟨_, rfl⟩
  have hB0 : Below w.heap.size w W0 := by rw [hW0]; exact (Below.refl _ _).alloc (Nat.le_refl _) _
  have hZ : PM.BK W0 g2 #[.int .i64 0, .int .u64 0, .slice none 0 0, .slice none 0 0, .slice none 0 0, .slice none 0 0, .slice none 0 0, .slice none 0 0] 28 := by rw [hW0, hg2]; exact PM.BK.new _ _ _
  have hg2w : w.heap.size ≤ g2 := by omega
  have hB := PM.hid hB0
  go_enter Try.func15, Try.ntmps15
  go_upto_region 1 with fail
  rw [← hW0, ← hg2]
  clear hW0 hg2 hB0
  go_wp2_with fail
  refine (new_any _ l W0 (hv.out.keep hB.out) (by rw [← hLh.out]; exact hl)).mono ?_
  rintro e w1 ⟨b, rfl, hbge, hRD, hB1⟩
  have hbw : w.heap.size ≤ b := Nat.le_trans hB.out.size hbge
  have hg2b : g2 ≠ b := by have := hZ.lt; omega
  replace hZ := hZ.keep hB1
  replace hB := PM.hid (PM.chain hB.out hB1)
  clear hB1 hbge
  go_upto_region 2 with fail
  obtain ⟨g, hg⟩ : ∃ g, g = w1.heap.size := ⟨_, rfl⟩
  obtain ⟨W1, hW1⟩ : ∃ W, W = w1.alloc (.cells #[.pointer (some ⟨b, 0, none⟩), .int .i64 (L : Int), .bool false] 74) := ⟨_, rfl⟩
  have hB1 : Below w1.heap.size w1 W1 := by rw [hW1]; exact (Below.refl _ _).alloc (Nat.le_refl _) _
  have hW : Hid (PM.WR 74 99 W1 g b (L : Int) ⟨l, false, false⟩) := PM.hid ⟨by rw [hW1, hg]; exact PM.BK.new _ _ _, hRD.keep hB1⟩
  have hgw : w.heap.size ≤ g := by have := hB.out.size; omega
  have hg2g : g2 ≠ g := by have := hZ.lt; omega
  have hgb : g ≠ b := by have := hRD.lt; omega
  replace hZ := hZ.keep hB1
  replace hB := PM.hid (PM.chain hB.out hB1)
  rw [← hW1, ← hg]
  clear hW1 hg hB1 hRD
  have hT : 74 ≠ 99 := by decide
  have c0 : W1.cell? ⟨g, 0, none⟩ = some (.pointer (some ⟨b, 0, none⟩)) := hW.out.1.cell 0
  go_wp2_with fail
  refine (hN1.out b W1 hW.out.2).mono ?_
  clear hN1 c0
  rintro e w2 ⟨rfl, hr, hx⟩
  replace hZ := hZ.keepx hx hg2b
  replace hB := PM.hid (hx.below hB.out hbw hB.out.size)
  replace hW := PM.hid (hW.out.num hT hr hx)
  clear hr hx
  go_upto_region 3 with fail
  obtain ⟨g5, hg5⟩ : ∃ g, g = w2.heap.size := ⟨_, rfl⟩
  obtain ⟨W3, hW3⟩ : ∃ W, W = w2.alloc (.cells #[.int .i64 1, .int .u64 0, .slice none 0 0, .slice none 0 0, .slice none 0 0, .slice none 0 0, .slice none 0 0, .slice none 0 0] 28) := ⟨_, rfl⟩
  have hB1 : Below w2.heap.size w2 W3 := by rw [hW3]; exact (Below.refl _ _).alloc (Nat.le_refl _) _
  have hX : PM.BK W3 g5 #[.int .i64 1, .int .u64 0, .slice none 0 0, .slice none 0 0, .slice none 0 0, .slice none 0 0, .slice none 0 0, .slice none 0 0] 28 := by rw [hW3, hg5]; exact PM.BK.new _ _ _
  have hg5w : w.heap.size ≤ g5 := by have := hB.out.size; omega
  have hg25 : g2 ≠ g5 := by have := hZ.lt; omega
  have hg5b : g5 ≠ b := by have := hW.out.2.lt; omega
  have hg5g : g5 ≠ g := by have := hW.out.1.lt; omega
  replace hZ := hZ.keep hB1
  replace hW := PM.hid (hW.out.keep hB1)
  replace hB := PM.hid (PM.chain hB.out hB1)
  rw [← hW3, ← hg5]
  clear hW3 hg5 hB1
  have c0 : W3.cell? ⟨g, 0, none⟩ = some (.pointer (some ⟨b, 0, none⟩)) := hW.out.1.cell 0
  go_wp2_with fail
  refine (hN2.out b W3 hW.out.2).mono ?_
  clear hN2 c0
  rintro e w4 ⟨rfl, hr, hx⟩
  replace hZ := hZ.keepx hx hg2b
  replace hX := hX.keepx hx hg5b
  replace hB := PM.hid (hx.below hB.out hbw hB.out.size)
  replace hW := PM.hid (hW.out.num hT hr hx)
  clear hr hx
  have f1 := hX.free 1
  have t1 := hX.cell 1
  go_upto_region 4 with fail
  have kn := hX.set 1 (.int .u64 (hv0 : Int))
  replace kn : PM.BK (w4.setCell ⟨g5, 1, none⟩ (.int .u64 (hv0 : Int))) g5 #[.int .i64 1, .int .u64 (hv0 : Int), .slice none 0 0, .slice none 0 0, .slice none 0 0, .slice none 0 0, .slice none 0 0, .slice none 0 0] 28 := by simpa using kn
  have hxs : PM.Bx g5 w4 (w4.setCell ⟨g5, 1, none⟩ (.int .u64 (hv0 : Int))) := PM.Bx.set g5 1 w4 (.int .u64 (hv0 : Int))
  generalize (w4.setCell ⟨g5, 1, none⟩ (.int .u64 (hv0 : Int))) = w5 at *
  replace hZ := hZ.keepx hxs hg25
  replace hW := PM.hid (hW.out.keepM hxs hX (PM.ms_nobyte _ _ rfl rfl rfl rfl rfl rfl) hg5g.symm hg5b.symm)
  replace hB := PM.hid (hxs.below hB.out hg5w hB.out.size)
  replace hX := kn
  clear hxs kn f1 t1
  obtain ⟨s0, hs0⟩ : ∃ s, s = (⟨l2, wr2, false⟩ : PM.Rs) := ⟨_, rfl⟩
  have hs0l : s0.l.length ≤ 70368744177664 := by rw [hs0]; simp only; omega
  try simp only at hW
  rw [← hs0] at hD hW
  clear hs0 p1 p2
  have o0 : w5.cell? ⟨g5, 0, none⟩ = some (.int .i64 1) := hX.cell 0
  have hc := listVo_any g b (L : Int) s0 w5 hW.out
  obtain ⟨xa, hxa⟩ : ∃ x, x = (PM.rdL PM.rdVo s0).1 := ⟨_, rfl⟩
  obtain ⟨s1, hs1⟩ : ∃ x, x = (PM.rdL PM.rdVo s0).2 := ⟨_, rfl⟩
  have hlxa : xa.length ≤ 16 := by rw [hxa]; exact PM.rdL_len _
  have hshs1 : s1.l.length ≤ s0.l.length := by rw [hs1]; exact PM.rdL_sh PM.rdVo_sh _
  have hqxa : ∀ x ∈ xa, x.id.wf := by rw [hxa]; exact PM.rdL_all (fun s => PM.readI_wf _ _) _
  rw [← hxa, ← hs1] at hc
  rw [← hxa, ← hs1] at hD
  replace hqxa := PM.hid hqxa
  clear hxa hs1
  have hgk := hW.out.1
  obtain ⟨cb, hbk⟩ := hW.out.2.bk
  go_wp2_with fail
  refine hc.mono ?_
  clear hc
  rintro e w6a ⟨vv, rfl, hxa, hW', hx⟩
  replace hxa : PM.ORn (fun _ cs x => cs = PM.voL x) 4 53 w.heap.size w6a vv xa := by
    obtain ⟨css, h1, h2, h3⟩ := hxa
    exact ⟨css, h1.mono hB.out.size, h2, h3⟩
  replace hZ := hZ.keepx2 hx hg2b hg2g
  replace hX := hX.keepx2 hx hg5b hg5g
  replace hB := PM.hid (hx.below hB.out hbw hgw hB.out.size)
  clear hx hW hgk hbk
  have hW := PM.hid hW'
  clear hW'
  obtain ⟨xaa, xac, hve⟩ := hxa.len
  subst hve
  obtain ⟨xan, hxan⟩ : ∃ n, n = xa.length := ⟨_, rfl⟩
  rw [← hxan] at hxa hlxa ⊢
  replace hxan := PM.hid hxan
  have f2 := hX.free 2
  have t2 := hX.cell 2
  clear o0
  go_upto_region 7 with fail
  have kn := hX.set 2 (.slice xaa xan xac)
  replace kn : PM.BK (w6a.setCell ⟨g5, 2, none⟩ (.slice xaa xan xac)) g5 #[.int .i64 1, .int .u64 (hv0 : Int), .slice xaa xan xac, .slice none 0 0, .slice none 0 0, .slice none 0 0, .slice none 0 0, .slice none 0 0] 28 := by simpa using kn
  have hxs : PM.Bx g5 w6a (w6a.setCell ⟨g5, 2, none⟩ (.slice xaa xan xac)) := PM.Bx.set g5 2 w6a (.slice xaa xan xac)
  generalize (w6a.setCell ⟨g5, 2, none⟩ (.slice xaa xan xac)) = w6 at *
  replace hxa := PM.ORn.kt (R := fun _ cs x => cs = PM.voL x) (w := w6a) (w' := w6) (fun _ _ h => h) hxa (PM.KT.ofx (E := 53) hxs hX (by decide))
  replace hZ := hZ.keepx hxs hg25
  replace hW := PM.hid (hW.out.keepM hxs hX (PM.ms_nobyte _ _ rfl rfl rfl rfl rfl rfl) hg5g.symm hg5b.symm)
  replace hB := PM.hid (hxs.below hB.out hg5w hB.out.size)
  replace hX := kn
  clear hxs kn f2 t2
  have hc := listEn_any g b L s1 w6 hW.out (by omega) hl
  obtain ⟨xb, hxb⟩ : ∃ x, x = (PM.rdL (PM.rdEn L) s1).1 := ⟨_, rfl⟩
  obtain ⟨s2, hs2⟩ : ∃ x, x = (PM.rdL (PM.rdEn L) s1).2 := ⟨_, rfl⟩
  have hlxb : xb.length ≤ 16 := by rw [hxb]; exact PM.rdL_len _
  have hshs2 : s2.l.length ≤ s1.l.length := by rw [hs2]; exact PM.rdL_sh (PM.rdEn_sh L) _
  have hqxb : ∀ x ∈ xb, x.wf := by rw [hxb]; exact PM.rdL_all (fun s => PM.rdEn_wf L s) _
  rw [← hxb, ← hs2] at hc
  rw [← hxb, ← hs2] at hD
  replace hqxb := PM.hid hqxb
  clear hxb hs2
  have hgk := hW.out.1
  obtain ⟨cb, hbk⟩ := hW.out.2.bk
  go_wp2_with fail
  refine hc.mono ?_
  clear hc
  rintro e w7a ⟨vv, rfl, hxb, hW', hx⟩
  replace hxb : PM.ORn (PM.enO 138 136 114 w.heap.size) 8 50 w.heap.size w7a vv xb := by
    obtain ⟨css, h1, h2, h3⟩ := hxb
    exact ⟨css, h1.mono hB.out.size, h2, fun i cs x a b => PM.enO_mono hB.out.size (h3 i cs x a b)⟩
  replace hxa := PM.ORn.kt (R := fun _ cs x => cs = PM.voL x) (w := w6) (w' := w7a) (fun _ _ h => h) hxa (hx.kt (E := 53) hbk hgk (by decide) (by decide))
  replace hZ := hZ.keepx2 hx hg2b hg2g
  replace hX := hX.keepx2 hx hg5b hg5g
  replace hB := PM.hid (hx.below hB.out hbw hgw hB.out.size)
  clear hx hW hgk hbk
  have hW := PM.hid hW'
  clear hW'
  obtain ⟨xba, xbc, hve⟩ := hxb.len
  subst hve
  obtain ⟨xbn, hxbn⟩ : ∃ n, n = xb.length := ⟨_, rfl⟩
  rw [← hxbn] at hxb hlxb ⊢
  replace hxbn := PM.hid hxbn
  have f3 := hX.free 3
  have t3 := hX.cell 3
  go_upto_region 13 with fail
  have kn := hX.set 3 (.slice xba xbn xbc)
  replace kn : PM.BK (w7a.setCell ⟨g5, 3, none⟩ (.slice xba xbn xbc)) g5 #[.int .i64 1, .int .u64 (hv0 : Int), .slice xaa xan xac, .slice xba xbn xbc, .slice none 0 0, .slice none 0 0, .slice none 0 0, .slice none 0 0] 28 := by simpa using kn
  have hxs : PM.Bx g5 w7a (w7a.setCell ⟨g5, 3, none⟩ (.slice xba xbn xbc)) := PM.Bx.set g5 3 w7a (.slice xba xbn xbc)
  generalize (w7a.setCell ⟨g5, 3, none⟩ (.slice xba xbn xbc)) = w7 at *
  replace hxa := PM.ORn.kt (R := fun _ cs x => cs = PM.voL x) (w := w7a) (w' := w7) (fun _ _ h => h) hxa (PM.KT.ofx (E := 53) hxs hX (by decide))
  replace hxb := PM.ORn.kt (R := PM.enO 138 136 114 w.heap.size) (w := w7a) (w' := w7) (PM.enO_kt (PM.KT.ofx (E := 138) hxs hX (by decide)) (PM.KT.ofx (E := 136) hxs hX (by decide)) (PM.KT.ofx (E := 114) hxs hX (by decide))) hxb (PM.KT.ofx (E := 50) hxs hX (by decide))
  replace hZ := hZ.keepx hxs hg25
  replace hW := PM.hid (hW.out.keepM hxs hX (PM.ms_nobyte _ _ rfl rfl rfl rfl rfl rfl) hg5g.symm hg5b.symm)
  replace hB := PM.hid (hxs.below hB.out hg5w hB.out.size)
  replace hX := kn
  clear hxs kn f3 t3
  obtain ⟨lf, wf0, bf⟩ := s2
  cases bf
  case true =>
    have hDn : Hid (PM.decM l = none) := PM.hid (by rw [hD]; exact PM.finM_no fun h => by cases h.1)
    clear hD
    have c0 : w7.cell? ⟨g, 0, none⟩ = some (.pointer (some ⟨b, 0, none⟩)) := hW.out.1.cell 0
    have c2 : w7.cell? ⟨g, 2, none⟩ = some (.bool true) := hW.out.1.cell 2
    have y0 : w7.cell? ⟨g5, 0, none⟩ = some (.int .i64 1) := hX.cell 0
    have y1 : w7.cell? ⟨g5, 1, none⟩ = some (.int .u64 (hv0 : Int)) := hX.cell 1
    have y2 : w7.cell? ⟨g5, 2, none⟩ = some (.slice xaa xan xac) := hX.cell 2
    have y3 : w7.cell? ⟨g5, 3, none⟩ = some (.slice xba xbn xbc) := hX.cell 3
    have y4 : w7.cell? ⟨g5, 4, none⟩ = some (.slice none 0 0) := hX.cell 4
    have y5 : w7.cell? ⟨g5, 5, none⟩ = some (.slice none 0 0) := hX.cell 5
    have y6 : w7.cell? ⟨g5, 6, none⟩ = some (.slice none 0 0) := hX.cell 6
    have y7 : w7.cell? ⟨g5, 7, none⟩ = some (.slice none 0 0) := hX.cell 7
    clear hxa hxb hW
    go_upto_region 14 with fail
    clear c0 c2
    clear y0 y1 y2 y3 y4 y5 y6 y7
    have z0 := hZ.cell 0
    have f0 := hZ.free 0
    have z1 := hZ.cell 1
    have f1 := hZ.free 1
    have z2 := hZ.cell 2
    have f2 := hZ.free 2
    have z3 := hZ.cell 3
    have f3 := hZ.free 3
    have z4 := hZ.cell 4
    have f4 := hZ.free 4
    have z5 := hZ.cell 5
    have f5 := hZ.free 5
    have z6 := hZ.cell 6
    have f6 := hZ.free 6
    have z7 := hZ.cell 7
    have f7 := hZ.free 7
    go_wp2
    have ZF := hZ.set8o (.int .i64 0) (.int .u64 0) (.slice none 0 0) (.slice none 0 0) (.slice none 0 0) (.slice none 0 0) (.slice none 0 0) (.slice none 0 0)
    have hxf := PM.Bx.set8o g2 w7 (.int .i64 0) (.int .u64 0) (.slice none 0 0) (.slice none 0 0) (.slice none 0 0) (.slice none 0 0) (.slice none 0 0) (.slice none 0 0)
    generalize ((((((((w7.setCell ⟨g2, 0, none⟩ (.int .i64 0)).setCell ⟨g2, 1, none⟩ (.int .u64 0)).setCell ⟨g2, 2, none⟩ (.slice none 0 0)).setCell ⟨g2, 3, none⟩ (.slice none 0 0)).setCell ⟨g2, 4, none⟩ (.slice none 0 0)).setCell ⟨g2, 5, none⟩ (.slice none 0 0)).setCell ⟨g2, 6, none⟩ (.slice none 0 0)).setCell ⟨g2, 7, none⟩ (.slice none 0 0)) = wf at *
    have q0 := ZF.cell 0
    have q1 := ZF.cell 1
    have q2 := ZF.cell 2
    have q3 := ZF.cell 3
    have q4 := ZF.cell 4
    have q5 := ZF.cell 5
    have q6 := ZF.cell 6
    have q7 := ZF.cell 7
    refine bodyPost_ret (v := .tuple #[.agg #[.int .i64 0, .int .u64 0, .slice none 0 0, .slice none 0 0, .slice none 0 0, .slice none 0 0, .slice none 0 0, .slice none 0 0], .int .i64 130]) (by simp [results, Try.results15, go_sem, q0, q1, q2, q3, q4, q5, q6, q7]) rfl ?_
    exact ⟨PM.Ms0, none, 0, none, 0, none, 0, none, 0, none, 0, none, 0, 130, rfl, PM.Ms0_R _, PM.Ms0_wf, .inr ⟨rfl, hDn.out, rfl⟩, hxf.below hB.out hg2w hB.out.size⟩
  have hdn := done_any b lf wf0 w7 hW.out.2
  by_cases hdone : wf0 = false ∧ lf = []
  case neg =>
    have hdf : (!wf0 && decide (lf = [])) = false := by
      cases wf0 <;> simp at hdone ⊢
      exact hdone
    rw [hdf] at hdn
    have hDn : Hid (PM.decM l = none) := PM.hid (by rw [hD]; exact PM.finM_no fun h => hdone h.2.1)
    clear hD
    have c0 : w7.cell? ⟨g, 0, none⟩ = some (.pointer (some ⟨b, 0, none⟩)) := hW.out.1.cell 0
    have c2 : w7.cell? ⟨g, 2, none⟩ = some (.bool false) := hW.out.1.cell 2
    have y0 : w7.cell? ⟨g5, 0, none⟩ = some (.int .i64 1) := hX.cell 0
    have y1 : w7.cell? ⟨g5, 1, none⟩ = some (.int .u64 (hv0 : Int)) := hX.cell 1
    have y2 : w7.cell? ⟨g5, 2, none⟩ = some (.slice xaa xan xac) := hX.cell 2
    have y3 : w7.cell? ⟨g5, 3, none⟩ = some (.slice xba xbn xbc) := hX.cell 3
    have y4 : w7.cell? ⟨g5, 4, none⟩ = some (.slice none 0 0) := hX.cell 4
    have y5 : w7.cell? ⟨g5, 5, none⟩ = some (.slice none 0 0) := hX.cell 5
    have y6 : w7.cell? ⟨g5, 6, none⟩ = some (.slice none 0 0) := hX.cell 6
    have y7 : w7.cell? ⟨g5, 7, none⟩ = some (.slice none 0 0) := hX.cell 7
    clear hdone hdf hxa hxb hW
    go_wp2_with fail
    refine hdn.mono ?_
    clear hdn
    rintro e wd ⟨rfl, rfl⟩
    go_upto_region 14 with fail
    clear c0 c2
    clear y0 y1 y2 y3 y4 y5 y6 y7
    have z0 := hZ.cell 0
    have f0 := hZ.free 0
    have z1 := hZ.cell 1
    have f1 := hZ.free 1
    have z2 := hZ.cell 2
    have f2 := hZ.free 2
    have z3 := hZ.cell 3
    have f3 := hZ.free 3
    have z4 := hZ.cell 4
    have f4 := hZ.free 4
    have z5 := hZ.cell 5
    have f5 := hZ.free 5
    have z6 := hZ.cell 6
    have f6 := hZ.free 6
    have z7 := hZ.cell 7
    have f7 := hZ.free 7
    go_wp2
    have ZF := hZ.set8o (.int .i64 0) (.int .u64 0) (.slice none 0 0) (.slice none 0 0) (.slice none 0 0) (.slice none 0 0) (.slice none 0 0) (.slice none 0 0)
    have hxf := PM.Bx.set8o g2 w7 (.int .i64 0) (.int .u64 0) (.slice none 0 0) (.slice none 0 0) (.slice none 0 0) (.slice none 0 0) (.slice none 0 0) (.slice none 0 0)
    generalize ((((((((w7.setCell ⟨g2, 0, none⟩ (.int .i64 0)).setCell ⟨g2, 1, none⟩ (.int .u64 0)).setCell ⟨g2, 2, none⟩ (.slice none 0 0)).setCell ⟨g2, 3, none⟩ (.slice none 0 0)).setCell ⟨g2, 4, none⟩ (.slice none 0 0)).setCell ⟨g2, 5, none⟩ (.slice none 0 0)).setCell ⟨g2, 6, none⟩ (.slice none 0 0)).setCell ⟨g2, 7, none⟩ (.slice none 0 0)) = wf at *
    have q0 := ZF.cell 0
    have q1 := ZF.cell 1
    have q2 := ZF.cell 2
    have q3 := ZF.cell 3
    have q4 := ZF.cell 4
    have q5 := ZF.cell 5
    have q6 := ZF.cell 6
    have q7 := ZF.cell 7
    refine bodyPost_ret (v := .tuple #[.agg #[.int .i64 0, .int .u64 0, .slice none 0 0, .slice none 0 0, .slice none 0 0, .slice none 0 0, .slice none 0 0, .slice none 0 0], .int .i64 130]) (by simp [results, Try.results15, go_sem, q0, q1, q2, q3, q4, q5, q6, q7]) rfl ?_
    exact ⟨PM.Ms0, none, 0, none, 0, none, 0, none, 0, none, 0, none, 0, 130, rfl, PM.Ms0_R _, PM.Ms0_wf, .inr ⟨rfl, hDn.out, rfl⟩, hxf.below hB.out hg2w hB.out.size⟩
  obtain ⟨rfl, rfl⟩ := hdone
  have hdn' : Calls Try.prog 48 #[.pointer (some ⟨b, 0, none⟩)] w7 fun e w' => e = .returned (.bool true) ∧ w7 = w' := hdn
  clear hdn
  have hmw : PM.Ms.wf ⟨1, hv0, xa, xb, [], [], [], []⟩ := ⟨rfl, hv64, hqxa.out, hqxb.out, by simp, by simp, by simp, by simp⟩
  have hms : PM.msSm ⟨1, hv0, xa, xb, [], [], [], []⟩ := ⟨by simp only; rw [← hxan.out]; omega, by simp only; rw [← hxbn.out]; omega, by simp, by simp, by simp, by simp⟩
  have hmR : ∀ X, (PM.KT w7 X 50) → (PM.KT w7 X 53) → (PM.KT w7 X 45) → (PM.KT w7 X 138) → (PM.KT w7 X 136) → (PM.KT w7 X 114) → PM.msR X (PM.msC ⟨1, hv0, xa, xb, [], [], [], []⟩ (.slice xaa xan xac) (.slice xba xbn xbc) (.slice none 0 0) (.slice none 0 0) (.slice none 0 0) (.slice none 0 0)) ⟨1, hv0, xa, xb, [], [], [], []⟩ := fun X kE kV kI kT kA kW =>
    ⟨_, _, _, _, _, _, rfl, (PM.ORn.om (PM.ORn.kt (R := fun _ cs x => cs = PM.voL x) (w := w7) (w' := X) (fun _ _ h => h) hxa kV)).em PM.voL_len, (PM.ORn.or (PM.ORn.kt (R := PM.enO 138 136 114 w.heap.size) (w := w7) (w' := X) (PM.enO_kt kT kA kW) hxb kE)).rr.imp fun _ _ h => PM.enO_enR h, PM.RR.nil _, PM.RR.nil _, PM.EM.nil _, PM.EM.nil _⟩
  have hck := wcheck_any ⟨1, hv0, xa, xb, [], [], [], []⟩ xaa xan xac xba xbn xbc none 0 0 none 0 0 none 0 0 none 0 0 w7 hmw hms (hmR _ (PM.KT.refl _ _) (PM.KT.refl _ _) (PM.KT.refl _ _) (PM.KT.refl _ _) (PM.KT.refl _ _) (PM.KT.refl _ _))
  simp only at hck
  have c0 : w7.cell? ⟨g, 0, none⟩ = some (.pointer (some ⟨b, 0, none⟩)) := hW.out.1.cell 0
  have c2 : w7.cell? ⟨g, 2, none⟩ = some (.bool false) := hW.out.1.cell 2
  have y0 : w7.cell? ⟨g5, 0, none⟩ = some (.int .i64 1) := hX.cell 0
  have y1 : w7.cell? ⟨g5, 1, none⟩ = some (.int .u64 (hv0 : Int)) := hX.cell 1
  have y2 : w7.cell? ⟨g5, 2, none⟩ = some (.slice xaa xan xac) := hX.cell 2
  have y3 : w7.cell? ⟨g5, 3, none⟩ = some (.slice xba xbn xbc) := hX.cell 3
  have y4 : w7.cell? ⟨g5, 4, none⟩ = some (.slice none 0 0) := hX.cell 4
  have y5 : w7.cell? ⟨g5, 5, none⟩ = some (.slice none 0 0) := hX.cell 5
  have y6 : w7.cell? ⟨g5, 6, none⟩ = some (.slice none 0 0) := hX.cell 6
  have y7 : w7.cell? ⟨g5, 7, none⟩ = some (.slice none 0 0) := hX.cell 7
  cases hok : PM.msOkB ⟨1, hv0, xa, xb, [], [], [], []⟩
  case false =>
    rw [PM.msE_no hok] at hck
    have hDn : Hid (PM.decM l = none) := PM.hid (by rw [hD]; exact PM.finM_no fun h => by rw [hok] at h; cases h.2.2)
    clear hD
    clear hok hxa hxb hW hmw hms hmR
    go_wp2_with fail
    refine hdn'.mono ?_
    clear hdn'
    rintro e wd ⟨rfl, rfl⟩
    go_wp2_with fail
    refine hck.mono ?_
    clear hck
    rintro e we ⟨rfl, hBe⟩
    replace hZ := hZ.keep hBe
    replace hB := PM.hid (PM.chain hB.out hBe)
    clear hBe
    go_upto_region 14 with fail
    clear c0 c2
    clear y0 y1 y2 y3 y4 y5 y6 y7
    have z0 := hZ.cell 0
    have f0 := hZ.free 0
    have z1 := hZ.cell 1
    have f1 := hZ.free 1
    have z2 := hZ.cell 2
    have f2 := hZ.free 2
    have z3 := hZ.cell 3
    have f3 := hZ.free 3
    have z4 := hZ.cell 4
    have f4 := hZ.free 4
    have z5 := hZ.cell 5
    have f5 := hZ.free 5
    have z6 := hZ.cell 6
    have f6 := hZ.free 6
    have z7 := hZ.cell 7
    have f7 := hZ.free 7
    go_wp2
    have ZF := hZ.set8o (.int .i64 0) (.int .u64 0) (.slice none 0 0) (.slice none 0 0) (.slice none 0 0) (.slice none 0 0) (.slice none 0 0) (.slice none 0 0)
    have hxf := PM.Bx.set8o g2 we (.int .i64 0) (.int .u64 0) (.slice none 0 0) (.slice none 0 0) (.slice none 0 0) (.slice none 0 0) (.slice none 0 0) (.slice none 0 0)
    generalize ((((((((we.setCell ⟨g2, 0, none⟩ (.int .i64 0)).setCell ⟨g2, 1, none⟩ (.int .u64 0)).setCell ⟨g2, 2, none⟩ (.slice none 0 0)).setCell ⟨g2, 3, none⟩ (.slice none 0 0)).setCell ⟨g2, 4, none⟩ (.slice none 0 0)).setCell ⟨g2, 5, none⟩ (.slice none 0 0)).setCell ⟨g2, 6, none⟩ (.slice none 0 0)).setCell ⟨g2, 7, none⟩ (.slice none 0 0)) = wf at *
    have q0 := ZF.cell 0
    have q1 := ZF.cell 1
    have q2 := ZF.cell 2
    have q3 := ZF.cell 3
    have q4 := ZF.cell 4
    have q5 := ZF.cell 5
    have q6 := ZF.cell 6
    have q7 := ZF.cell 7
    refine bodyPost_ret (v := .tuple #[.agg #[.int .i64 0, .int .u64 0, .slice none 0 0, .slice none 0 0, .slice none 0 0, .slice none 0 0, .slice none 0 0, .slice none 0 0], .int .i64 130]) (by simp [results, Try.results15, go_sem, q0, q1, q2, q3, q4, q5, q6, q7]) rfl ?_
    exact ⟨PM.Ms0, none, 0, none, 0, none, 0, none, 0, none, 0, none, 0, 130, rfl, PM.Ms0_R _, PM.Ms0_wf, .inr ⟨rfl, hDn.out, rfl⟩, hxf.below hB.out hg2w hB.out.size⟩
  rw [PM.msE_yes hok] at hck
  have hDy : Hid (PM.decM l = some ⟨1, hv0, xa, xb, [], [], [], []⟩) := PM.hid (by rw [hD]; exact PM.finM_yes hok)
  replace hmw := PM.hid hmw
  replace hmR := PM.hid hmR
  clear hok hD hxa hxb hW hms
  go_wp2_with fail
  refine hdn'.mono ?_
  clear hdn'
  rintro e wd ⟨rfl, rfl⟩
  go_wp2_with fail
  refine hck.mono ?_
  clear hck
  rintro e we ⟨rfl, hBe⟩
  have hkt := fun E => PM.KT.of hBe E
  replace hZ := hZ.keep hBe
  replace hX := hX.keep hBe
  replace hB := PM.hid (PM.chain hB.out hBe)
  clear hBe c0 c2 y0 y1 y2 y3 y4 y5 y6 y7
  have y0 : we.cell? ⟨g5, 0, none⟩ = some (.int .i64 1) := hX.cell 0
  have y1 : we.cell? ⟨g5, 1, none⟩ = some (.int .u64 (hv0 : Int)) := hX.cell 1
  have y2 : we.cell? ⟨g5, 2, none⟩ = some (.slice xaa xan xac) := hX.cell 2
  have y3 : we.cell? ⟨g5, 3, none⟩ = some (.slice xba xbn xbc) := hX.cell 3
  have y4 : we.cell? ⟨g5, 4, none⟩ = some (.slice none 0 0) := hX.cell 4
  have y5 : we.cell? ⟨g5, 5, none⟩ = some (.slice none 0 0) := hX.cell 5
  have y6 : we.cell? ⟨g5, 6, none⟩ = some (.slice none 0 0) := hX.cell 6
  have y7 : we.cell? ⟨g5, 7, none⟩ = some (.slice none 0 0) := hX.cell 7
  replace hkt := PM.hid hkt
  have z0 := hZ.cell 0
  have f0 := hZ.free 0
  have z1 := hZ.cell 1
  have f1 := hZ.free 1
  have z2 := hZ.cell 2
  have f2 := hZ.free 2
  have z3 := hZ.cell 3
  have f3 := hZ.free 3
  have z4 := hZ.cell 4
  have f4 := hZ.free 4
  have z5 := hZ.cell 5
  have f5 := hZ.free 5
  have z6 := hZ.cell 6
  have f6 := hZ.free 6
  have z7 := hZ.cell 7
  have f7 := hZ.free 7
  go_wp2
  have ZF := hZ.set8o (.int .i64 1) (.int .u64 (hv0 : Int)) (.slice xaa xan xac) (.slice xba xbn xbc) (.slice none 0 0) (.slice none 0 0) (.slice none 0 0) (.slice none 0 0)
  have hxf := PM.Bx.set8o g2 we (.int .i64 1) (.int .u64 (hv0 : Int)) (.slice xaa xan xac) (.slice xba xbn xbc) (.slice none 0 0) (.slice none 0 0) (.slice none 0 0) (.slice none 0 0)
  generalize ((((((((we.setCell ⟨g2, 0, none⟩ (.int .i64 1)).setCell ⟨g2, 1, none⟩ (.int .u64 (hv0 : Int))).setCell ⟨g2, 2, none⟩ (.slice xaa xan xac)).setCell ⟨g2, 3, none⟩ (.slice xba xbn xbc)).setCell ⟨g2, 4, none⟩ (.slice none 0 0)).setCell ⟨g2, 5, none⟩ (.slice none 0 0)).setCell ⟨g2, 6, none⟩ (.slice none 0 0)).setCell ⟨g2, 7, none⟩ (.slice none 0 0)) = wf at *
  have q0 := ZF.cell 0
  have q1 := ZF.cell 1
  have q2 := ZF.cell 2
  have q3 := ZF.cell 3
  have q4 := ZF.cell 4
  have q5 := ZF.cell 5
  have q6 := ZF.cell 6
  have q7 := ZF.cell 7
  refine bodyPost_ret (v := .tuple #[.agg #[.int .i64 1, .int .u64 (hv0 : Int), .slice xaa xan xac, .slice xba xbn xbc, .slice none 0 0, .slice none 0 0, .slice none 0 0, .slice none 0 0], .int .i64 0]) (by simp [results, Try.results15, go_sem, q0, q1, q2, q3, q4, q5, q6, q7]) rfl ?_
  have hk2 := fun E (hne : 28 ≠ E) => (hkt.out E).trans (PM.KT.ofx (E := E) hxf hZ hne)
  refine ⟨⟨1, hv0, xa, xb, [], [], [], []⟩, xaa, xac, xba, xbc, none, 0, none, 0, none, 0, none, 0, 0, ?_, ?_, hmw.out, .inl ⟨rfl, hDy.out⟩, hxf.below hB.out hg2w hB.out.size⟩
  · rw [hxan.out, hxbn.out]
    try rfl
  · have e1 := hxan.out
    have e2 := hxbn.out
    subst e1 e2
    exact hmR.out wf (hk2 _ (by decide)) (hk2 _ (by decide)) (hk2 _ (by decide)) (hk2 _ (by decide)) (hk2 _ (by decide)) (hk2 _ (by decide))
set_option maxRecDepth 100000 in
set_option maxHeartbeats 16000000 in
theorem wdecode_2 (v : Value) (l : List UInt8) (w : World) (hv : PM.BS w v l) (hl : l.length ≤ 70368744177664) (hk : PM.sm (PM.stepN l false).1 = 2) :
    Calls Try.prog 15 #[v] w (RetWD w l) := by
  unfold RetWD
  have hD : PM.decM l = PM.finM (PM.rdM l).1 (PM.rdM l).2 := rfl
  rw [PM.rdM_2 hk] at hD
  unfold PM.rdC at hD
  simp only at hD
  obtain ⟨k0, l1, wr1, e1⟩ : ∃ a b c, PM.stepN l false = (a, b, c) := ⟨_, _, _, rfl⟩
  obtain ⟨hv0, l2, wr2, e2⟩ : ∃ a b c, PM.stepN l1 wr1 = (a, b, c) := ⟨_, _, _, rfl⟩
  have p1 := PM.stepN_lt l false
  have p2 := PM.stepN_lt l1 wr1
  have hN2 := PM.hid fun (b : Nat) (W : World) (h : PM.RD 99 W b l1 wr1) => rnumber_any b l1 wr1 W h
  have hN1 := PM.hid fun (b : Nat) (W : World) (h : PM.RD 99 W b l false) => small_any b l false W h
  have hkw := PM.sm_wf (PM.stepN l false).1
  rw [e1] at hD p1 hN1 hk hkw
  simp only at hD p1 hN1 hk hkw
  rw [e2] at hD p2 hN2
  simp only at hD p2 hN2
  obtain ⟨KD, hKD⟩ : ∃ k, k = PM.sm k0 := ⟨_, rfl⟩
  rw [← hKD] at hN1 hk hkw 
  clear e1 e2 hKD
  subst hk
  obtain ⟨L, hL⟩ : ∃ L, L = l.length := ⟨_, rfl⟩
  obtain ⟨va, vc, rfl⟩ := hv.len
  rw [← hL] at hv hl p1 hD ⊢
  obtain ⟨hv64, p2⟩ := p2
  replace p1 := p1.2
  replace hv := PM.hid hv
  have hLh := PM.hid hL
  clear hL
  obtain ⟨g2, hg2⟩ : ∃ g, g = w.heap.size := ⟨_, rfl⟩
  obtain ⟨W0, hW0⟩ : ∃ W, W = w.alloc (.cells #[.int .i64 0, .int .u64 0, .slice none 0 0, .slice none 0 0, .slice none 0 0, .slice none 0 0, .slice none 0 0, .slice none 0 0] 28) := ⟨_, rfl⟩
  have hB0 : Below w.heap.size w W0 := by rw [hW0]; exact (Below.refl _ _).alloc (Nat.le_refl _) _
  have hZ : PM.BK W0 g2 #[.int .i64 0, .int .u64 0, .slice none 0 0, .slice none 0 0, .slice none 0 0, .slice none 0 0, .slice none 0 0, .slice none 0 0] 28 := by rw [hW0, hg2]; exact PM.BK.new _ _ _
  have hg2w : w.heap.size ≤ g2 := by omega
  have hB := PM.hid hB0
  go_enter Try.func15, Try.ntmps15
  go_upto_region 1 with fail
  rw [← hW0, ← hg2]
  clear hW0 hg2 hB0
  go_wp2_with fail
  refine (new_any _ l W0 (hv.out.keep hB.out) (by rw [← hLh.out]; exact hl)).mono ?_
  rintro e w1 ⟨b, rfl, hbge, hRD, hB1⟩
  have hbw : w.heap.size ≤ b := Nat.le_trans hB.out.size hbge
  have hg2b : g2 ≠ b := by have := hZ.lt; omega
  replace hZ := hZ.keep hB1
  replace hB := PM.hid (PM.chain hB.out hB1)
  clear hB1 hbge
  go_upto_region 2 with fail
  obtain ⟨g, hg⟩ : ∃ g, g = w1.heap.size := ⟨_, rfl⟩
  obtain ⟨W1, hW1⟩ : ∃ W, W = w1.alloc (.cells #[.pointer (some ⟨b, 0, none⟩), .int .i64 (L : Int), .bool false] 74) := ⟨_, rfl⟩
  have hB1 : Below w1.heap.size w1 W1 := by rw [hW1]; exact (Below.refl _ _).alloc (Nat.le_refl _) _
  have hW : Hid (PM.WR 74 99 W1 g b (L : Int) ⟨l, false, false⟩) := PM.hid ⟨by rw [hW1, hg]; exact PM.BK.new _ _ _, hRD.keep hB1⟩
  have hgw : w.heap.size ≤ g := by have := hB.out.size; omega
  have hg2g : g2 ≠ g := by have := hZ.lt; omega
  have hgb : g ≠ b := by have := hRD.lt; omega
  replace hZ := hZ.keep hB1
  replace hB := PM.hid (PM.chain hB.out hB1)
  rw [← hW1, ← hg]
  clear hW1 hg hB1 hRD
  have hT : 74 ≠ 99 := by decide
  have c0 : W1.cell? ⟨g, 0, none⟩ = some (.pointer (some ⟨b, 0, none⟩)) := hW.out.1.cell 0
  go_wp2_with fail
  refine (hN1.out b W1 hW.out.2).mono ?_
  clear hN1 c0
  rintro e w2 ⟨rfl, hr, hx⟩
  replace hZ := hZ.keepx hx hg2b
  replace hB := PM.hid (hx.below hB.out hbw hB.out.size)
  replace hW := PM.hid (hW.out.num hT hr hx)
  clear hr hx
  go_upto_region 3 with fail
  obtain ⟨g5, hg5⟩ : ∃ g, g = w2.heap.size := ⟨_, rfl⟩
  obtain ⟨W3, hW3⟩ : ∃ W, W = w2.alloc (.cells #[.int .i64 2, .int .u64 0, .slice none 0 0, .slice none 0 0, .slice none 0 0, .slice none 0 0, .slice none 0 0, .slice none 0 0] 28) := ⟨_, rfl⟩
  have hB1 : Below w2.heap.size w2 W3 := by rw [hW3]; exact (Below.refl _ _).alloc (Nat.le_refl _) _
  have hX : PM.BK W3 g5 #[.int .i64 2, .int .u64 0, .slice none 0 0, .slice none 0 0, .slice none 0 0, .slice none 0 0, .slice none 0 0, .slice none 0 0] 28 := by rw [hW3, hg5]; exact PM.BK.new _ _ _
  have hg5w : w.heap.size ≤ g5 := by have := hB.out.size; omega
  have hg25 : g2 ≠ g5 := by have := hZ.lt; omega
  have hg5b : g5 ≠ b := by have := hW.out.2.lt; omega
  have hg5g : g5 ≠ g := by have := hW.out.1.lt; omega
  replace hZ := hZ.keep hB1
  replace hW := PM.hid (hW.out.keep hB1)
  replace hB := PM.hid (PM.chain hB.out hB1)
  rw [← hW3, ← hg5]
  clear hW3 hg5 hB1
  have c0 : W3.cell? ⟨g, 0, none⟩ = some (.pointer (some ⟨b, 0, none⟩)) := hW.out.1.cell 0
  go_wp2_with fail
  refine (hN2.out b W3 hW.out.2).mono ?_
  clear hN2 c0
  rintro e w4 ⟨rfl, hr, hx⟩
  replace hZ := hZ.keepx hx hg2b
  replace hX := hX.keepx hx hg5b
  replace hB := PM.hid (hx.below hB.out hbw hB.out.size)
  replace hW := PM.hid (hW.out.num hT hr hx)
  clear hr hx
  have f1 := hX.free 1
  have t1 := hX.cell 1
  go_upto_region 4 with fail
  have kn := hX.set 1 (.int .u64 (hv0 : Int))
  replace kn : PM.BK (w4.setCell ⟨g5, 1, none⟩ (.int .u64 (hv0 : Int))) g5 #[.int .i64 2, .int .u64 (hv0 : Int), .slice none 0 0, .slice none 0 0, .slice none 0 0, .slice none 0 0, .slice none 0 0, .slice none 0 0] 28 := by simpa using kn
  have hxs : PM.Bx g5 w4 (w4.setCell ⟨g5, 1, none⟩ (.int .u64 (hv0 : Int))) := PM.Bx.set g5 1 w4 (.int .u64 (hv0 : Int))
  generalize (w4.setCell ⟨g5, 1, none⟩ (.int .u64 (hv0 : Int))) = w5 at *
  replace hZ := hZ.keepx hxs hg25
  replace hW := PM.hid (hW.out.keepM hxs hX (PM.ms_nobyte _ _ rfl rfl rfl rfl rfl rfl) hg5g.symm hg5b.symm)
  replace hB := PM.hid (hxs.below hB.out hg5w hB.out.size)
  replace hX := kn
  clear hxs kn f1 t1
  obtain ⟨s0, hs0⟩ : ∃ s, s = (⟨l2, wr2, false⟩ : PM.Rs) := ⟨_, rfl⟩
  have hs0l : s0.l.length ≤ 70368744177664 := by rw [hs0]; simp only; omega
  try simp only at hW
  rw [← hs0] at hD hW
  clear hs0 p1 p2
  have o0 : w5.cell? ⟨g5, 0, none⟩ = some (.int .i64 2) := hX.cell 0
  have hc := listEn_any g b L s0 w5 hW.out (by omega) hl
  obtain ⟨xa, hxa⟩ : ∃ x, x = (PM.rdL (PM.rdEn L) s0).1 := ⟨_, rfl⟩
  obtain ⟨s1, hs1⟩ : ∃ x, x = (PM.rdL (PM.rdEn L) s0).2 := ⟨_, rfl⟩
  have hlxa : xa.length ≤ 16 := by rw [hxa]; exact PM.rdL_len _
  have hshs1 : s1.l.length ≤ s0.l.length := by rw [hs1]; exact PM.rdL_sh (PM.rdEn_sh L) _
  have hqxa : ∀ x ∈ xa, x.wf := by rw [hxa]; exact PM.rdL_all (fun s => PM.rdEn_wf L s) _
  rw [← hxa, ← hs1] at hc
  rw [← hxa, ← hs1] at hD
  replace hqxa := PM.hid hqxa
  clear hxa hs1
  have hgk := hW.out.1
  obtain ⟨cb, hbk⟩ := hW.out.2.bk
  go_wp2_with fail
  refine hc.mono ?_
  clear hc
  rintro e w6a ⟨vv, rfl, hxa, hW', hx⟩
  replace hxa : PM.ORn (PM.enO 138 136 114 w.heap.size) 8 50 w.heap.size w6a vv xa := by
    obtain ⟨css, h1, h2, h3⟩ := hxa
    exact ⟨css, h1.mono hB.out.size, h2, fun i cs x a b => PM.enO_mono hB.out.size (h3 i cs x a b)⟩
  replace hZ := hZ.keepx2 hx hg2b hg2g
  replace hX := hX.keepx2 hx hg5b hg5g
  replace hB := PM.hid (hx.below hB.out hbw hgw hB.out.size)
  clear hx hW hgk hbk
  have hW := PM.hid hW'
  clear hW'
  obtain ⟨xaa, xac, hve⟩ := hxa.len
  subst hve
  obtain ⟨xan, hxan⟩ : ∃ n, n = xa.length := ⟨_, rfl⟩
  rw [← hxan] at hxa hlxa ⊢
  replace hxan := PM.hid hxan
  have f4 := hX.free 4
  have t4 := hX.cell 4
  clear o0
  go_upto_region 10 with fail
  have kn := hX.set 4 (.slice xaa xan xac)
  replace kn : PM.BK (w6a.setCell ⟨g5, 4, none⟩ (.slice xaa xan xac)) g5 #[.int .i64 2, .int .u64 (hv0 : Int), .slice none 0 0, .slice none 0 0, .slice xaa xan xac, .slice none 0 0, .slice none 0 0, .slice none 0 0] 28 := by simpa using kn
  have hxs : PM.Bx g5 w6a (w6a.setCell ⟨g5, 4, none⟩ (.slice xaa xan xac)) := PM.Bx.set g5 4 w6a (.slice xaa xan xac)
  generalize (w6a.setCell ⟨g5, 4, none⟩ (.slice xaa xan xac)) = w6 at *
  replace hxa := PM.ORn.kt (R := PM.enO 138 136 114 w.heap.size) (w := w6a) (w' := w6) (PM.enO_kt (PM.KT.ofx (E := 138) hxs hX (by decide)) (PM.KT.ofx (E := 136) hxs hX (by decide)) (PM.KT.ofx (E := 114) hxs hX (by decide))) hxa (PM.KT.ofx (E := 50) hxs hX (by decide))
  replace hZ := hZ.keepx hxs hg25
  replace hW := PM.hid (hW.out.keepM hxs hX (PM.ms_nobyte _ _ rfl rfl rfl rfl rfl rfl) hg5g.symm hg5b.symm)
  replace hB := PM.hid (hxs.below hB.out hg5w hB.out.size)
  replace hX := kn
  clear hxs kn f4 t4
  have hc := listEn_any g b L s1 w6 hW.out (by omega) hl
  obtain ⟨xb, hxb⟩ : ∃ x, x = (PM.rdL (PM.rdEn L) s1).1 := ⟨_, rfl⟩
  obtain ⟨s2, hs2⟩ : ∃ x, x = (PM.rdL (PM.rdEn L) s1).2 := ⟨_, rfl⟩
  have hlxb : xb.length ≤ 16 := by rw [hxb]; exact PM.rdL_len _
  have hshs2 : s2.l.length ≤ s1.l.length := by rw [hs2]; exact PM.rdL_sh (PM.rdEn_sh L) _
  have hqxb : ∀ x ∈ xb, x.wf := by rw [hxb]; exact PM.rdL_all (fun s => PM.rdEn_wf L s) _
  rw [← hxb, ← hs2] at hc
  rw [← hxb, ← hs2] at hD
  replace hqxb := PM.hid hqxb
  clear hxb hs2
  have hgk := hW.out.1
  obtain ⟨cb, hbk⟩ := hW.out.2.bk
  go_wp2_with fail
  refine hc.mono ?_
  clear hc
  rintro e w7a ⟨vv, rfl, hxb, hW', hx⟩
  replace hxb : PM.ORn (PM.enO 138 136 114 w.heap.size) 8 50 w.heap.size w7a vv xb := by
    obtain ⟨css, h1, h2, h3⟩ := hxb
    exact ⟨css, h1.mono hB.out.size, h2, fun i cs x a b => PM.enO_mono hB.out.size (h3 i cs x a b)⟩
  replace hxa := PM.ORn.kt (R := PM.enO 138 136 114 w.heap.size) (w := w6) (w' := w7a) (PM.enO_kt (hx.kt (E := 138) hbk hgk (by decide) (by decide)) (hx.kt (E := 136) hbk hgk (by decide) (by decide)) (hx.kt (E := 114) hbk hgk (by decide) (by decide))) hxa (hx.kt (E := 50) hbk hgk (by decide) (by decide))
  replace hZ := hZ.keepx2 hx hg2b hg2g
  replace hX := hX.keepx2 hx hg5b hg5g
  replace hB := PM.hid (hx.below hB.out hbw hgw hB.out.size)
  clear hx hW hgk hbk
  have hW := PM.hid hW'
  clear hW'
  obtain ⟨xba, xbc, hve⟩ := hxb.len
  subst hve
  obtain ⟨xbn, hxbn⟩ : ∃ n, n = xb.length := ⟨_, rfl⟩
  rw [← hxbn] at hxb hlxb ⊢
  replace hxbn := PM.hid hxbn
  have f5 := hX.free 5
  have t5 := hX.cell 5
  go_upto_region 11 with fail
  have kn := hX.set 5 (.slice xba xbn xbc)
  replace kn : PM.BK (w7a.setCell ⟨g5, 5, none⟩ (.slice xba xbn xbc)) g5 #[.int .i64 2, .int .u64 (hv0 : Int), .slice none 0 0, .slice none 0 0, .slice xaa xan xac, .slice xba xbn xbc, .slice none 0 0, .slice none 0 0] 28 := by simpa using kn
  have hxs : PM.Bx g5 w7a (w7a.setCell ⟨g5, 5, none⟩ (.slice xba xbn xbc)) := PM.Bx.set g5 5 w7a (.slice xba xbn xbc)
  generalize (w7a.setCell ⟨g5, 5, none⟩ (.slice xba xbn xbc)) = w7 at *
  replace hxa := PM.ORn.kt (R := PM.enO 138 136 114 w.heap.size) (w := w7a) (w' := w7) (PM.enO_kt (PM.KT.ofx (E := 138) hxs hX (by decide)) (PM.KT.ofx (E := 136) hxs hX (by decide)) (PM.KT.ofx (E := 114) hxs hX (by decide))) hxa (PM.KT.ofx (E := 50) hxs hX (by decide))
  replace hxb := PM.ORn.kt (R := PM.enO 138 136 114 w.heap.size) (w := w7a) (w' := w7) (PM.enO_kt (PM.KT.ofx (E := 138) hxs hX (by decide)) (PM.KT.ofx (E := 136) hxs hX (by decide)) (PM.KT.ofx (E := 114) hxs hX (by decide))) hxb (PM.KT.ofx (E := 50) hxs hX (by decide))
  replace hZ := hZ.keepx hxs hg25
  replace hW := PM.hid (hW.out.keepM hxs hX (PM.ms_nobyte _ _ rfl rfl rfl rfl rfl rfl) hg5g.symm hg5b.symm)
  replace hB := PM.hid (hxs.below hB.out hg5w hB.out.size)
  replace hX := kn
  clear hxs kn f5 t5
  have hc := listId_any g b (L : Int) s2 w7 hW.out
  obtain ⟨xd, hxd⟩ : ∃ x, x = (PM.rdL PM.rdId s2).1 := ⟨_, rfl⟩
  obtain ⟨s3, hs3⟩ : ∃ x, x = (PM.rdL PM.rdId s2).2 := ⟨_, rfl⟩
  have hlxd : xd.length ≤ 16 := by rw [hxd]; exact PM.rdL_len _
  have hshs3 : s3.l.length ≤ s2.l.length := by rw [hs3]; exact PM.rdL_sh PM.rdId_sh _
  have hqxd : ∀ x ∈ xd, x.wf := by rw [hxd]; exact PM.rdL_all (fun s => PM.readI_wf _ _) _
  rw [← hxd, ← hs3] at hc
  rw [← hxd, ← hs3] at hD
  replace hqxd := PM.hid hqxd
  clear hxd hs3
  have hgk := hW.out.1
  obtain ⟨cb, hbk⟩ := hW.out.2.bk
  go_wp2_with fail
  refine hc.mono ?_
  clear hc
  rintro e w8a ⟨vv, rfl, hxd, hW', hx⟩
  replace hxd : PM.ORn (fun _ cs x => cs = PM.idL x) 3 45 w.heap.size w8a vv xd := by
    obtain ⟨css, h1, h2, h3⟩ := hxd
    exact ⟨css, h1.mono hB.out.size, h2, h3⟩
  replace hxa := PM.ORn.kt (R := PM.enO 138 136 114 w.heap.size) (w := w7) (w' := w8a) (PM.enO_kt (hx.kt (E := 138) hbk hgk (by decide) (by decide)) (hx.kt (E := 136) hbk hgk (by decide) (by decide)) (hx.kt (E := 114) hbk hgk (by decide) (by decide))) hxa (hx.kt (E := 50) hbk hgk (by decide) (by decide))
  replace hxb := PM.ORn.kt (R := PM.enO 138 136 114 w.heap.size) (w := w7) (w' := w8a) (PM.enO_kt (hx.kt (E := 138) hbk hgk (by decide) (by decide)) (hx.kt (E := 136) hbk hgk (by decide) (by decide)) (hx.kt (E := 114) hbk hgk (by decide) (by decide))) hxb (hx.kt (E := 50) hbk hgk (by decide) (by decide))
  replace hZ := hZ.keepx2 hx hg2b hg2g
  replace hX := hX.keepx2 hx hg5b hg5g
  replace hB := PM.hid (hx.below hB.out hbw hgw hB.out.size)
  clear hx hW hgk hbk
  have hW := PM.hid hW'
  clear hW'
  obtain ⟨xda, xdc, hve⟩ := hxd.len
  subst hve
  obtain ⟨xdn, hxdn⟩ : ∃ n, n = xd.length := ⟨_, rfl⟩
  rw [← hxdn] at hxd hlxd ⊢
  replace hxdn := PM.hid hxdn
  have f6 := hX.free 6
  have t6 := hX.cell 6
  go_upto_region 12 with fail
  have kn := hX.set 6 (.slice xda xdn xdc)
  replace kn : PM.BK (w8a.setCell ⟨g5, 6, none⟩ (.slice xda xdn xdc)) g5 #[.int .i64 2, .int .u64 (hv0 : Int), .slice none 0 0, .slice none 0 0, .slice xaa xan xac, .slice xba xbn xbc, .slice xda xdn xdc, .slice none 0 0] 28 := by simpa using kn
  have hxs : PM.Bx g5 w8a (w8a.setCell ⟨g5, 6, none⟩ (.slice xda xdn xdc)) := PM.Bx.set g5 6 w8a (.slice xda xdn xdc)
  generalize (w8a.setCell ⟨g5, 6, none⟩ (.slice xda xdn xdc)) = w8 at *
  replace hxa := PM.ORn.kt (R := PM.enO 138 136 114 w.heap.size) (w := w8a) (w' := w8) (PM.enO_kt (PM.KT.ofx (E := 138) hxs hX (by decide)) (PM.KT.ofx (E := 136) hxs hX (by decide)) (PM.KT.ofx (E := 114) hxs hX (by decide))) hxa (PM.KT.ofx (E := 50) hxs hX (by decide))
  replace hxb := PM.ORn.kt (R := PM.enO 138 136 114 w.heap.size) (w := w8a) (w' := w8) (PM.enO_kt (PM.KT.ofx (E := 138) hxs hX (by decide)) (PM.KT.ofx (E := 136) hxs hX (by decide)) (PM.KT.ofx (E := 114) hxs hX (by decide))) hxb (PM.KT.ofx (E := 50) hxs hX (by decide))
  replace hxd := PM.ORn.kt (R := fun _ cs x => cs = PM.idL x) (w := w8a) (w' := w8) (fun _ _ h => h) hxd (PM.KT.ofx (E := 45) hxs hX (by decide))
  replace hZ := hZ.keepx hxs hg25
  replace hW := PM.hid (hW.out.keepM hxs hX (PM.ms_nobyte _ _ rfl rfl rfl rfl rfl rfl) hg5g.symm hg5b.symm)
  replace hB := PM.hid (hxs.below hB.out hg5w hB.out.size)
  replace hX := kn
  clear hxs kn f6 t6
  have hc := listId_any g b (L : Int) s3 w8 hW.out
  obtain ⟨xe, hxe⟩ : ∃ x, x = (PM.rdL PM.rdId s3).1 := ⟨_, rfl⟩
  obtain ⟨s4, hs4⟩ : ∃ x, x = (PM.rdL PM.rdId s3).2 := ⟨_, rfl⟩
  have hlxe : xe.length ≤ 16 := by rw [hxe]; exact PM.rdL_len _
  have hshs4 : s4.l.length ≤ s3.l.length := by rw [hs4]; exact PM.rdL_sh PM.rdId_sh _
  have hqxe : ∀ x ∈ xe, x.wf := by rw [hxe]; exact PM.rdL_all (fun s => PM.readI_wf _ _) _
  rw [← hxe, ← hs4] at hc
  rw [← hxe, ← hs4] at hD
  replace hqxe := PM.hid hqxe
  clear hxe hs4
  have hgk := hW.out.1
  obtain ⟨cb, hbk⟩ := hW.out.2.bk
  go_wp2_with fail
  refine hc.mono ?_
  clear hc
  rintro e w9a ⟨vv, rfl, hxe, hW', hx⟩
  replace hxe : PM.ORn (fun _ cs x => cs = PM.idL x) 3 45 w.heap.size w9a vv xe := by
    obtain ⟨css, h1, h2, h3⟩ := hxe
    exact ⟨css, h1.mono hB.out.size, h2, h3⟩
  replace hxa := PM.ORn.kt (R := PM.enO 138 136 114 w.heap.size) (w := w8) (w' := w9a) (PM.enO_kt (hx.kt (E := 138) hbk hgk (by decide) (by decide)) (hx.kt (E := 136) hbk hgk (by decide) (by decide)) (hx.kt (E := 114) hbk hgk (by decide) (by decide))) hxa (hx.kt (E := 50) hbk hgk (by decide) (by decide))
  replace hxb := PM.ORn.kt (R := PM.enO 138 136 114 w.heap.size) (w := w8) (w' := w9a) (PM.enO_kt (hx.kt (E := 138) hbk hgk (by decide) (by decide)) (hx.kt (E := 136) hbk hgk (by decide) (by decide)) (hx.kt (E := 114) hbk hgk (by decide) (by decide))) hxb (hx.kt (E := 50) hbk hgk (by decide) (by decide))
  replace hxd := PM.ORn.kt (R := fun _ cs x => cs = PM.idL x) (w := w8) (w' := w9a) (fun _ _ h => h) hxd (hx.kt (E := 45) hbk hgk (by decide) (by decide))
  replace hZ := hZ.keepx2 hx hg2b hg2g
  replace hX := hX.keepx2 hx hg5b hg5g
  replace hB := PM.hid (hx.below hB.out hbw hgw hB.out.size)
  clear hx hW hgk hbk
  have hW := PM.hid hW'
  clear hW'
  obtain ⟨xea, xec, hve⟩ := hxe.len
  subst hve
  obtain ⟨xen, hxen⟩ : ∃ n, n = xe.length := ⟨_, rfl⟩
  rw [← hxen] at hxe hlxe ⊢
  replace hxen := PM.hid hxen
  have f7 := hX.free 7
  have t7 := hX.cell 7
  go_upto_region 13 with fail
  have kn := hX.set 7 (.slice xea xen xec)
  replace kn : PM.BK (w9a.setCell ⟨g5, 7, none⟩ (.slice xea xen xec)) g5 #[.int .i64 2, .int .u64 (hv0 : Int), .slice none 0 0, .slice none 0 0, .slice xaa xan xac, .slice xba xbn xbc, .slice xda xdn xdc, .slice xea xen xec] 28 := by simpa using kn
  have hxs : PM.Bx g5 w9a (w9a.setCell ⟨g5, 7, none⟩ (.slice xea xen xec)) := PM.Bx.set g5 7 w9a (.slice xea xen xec)
  generalize (w9a.setCell ⟨g5, 7, none⟩ (.slice xea xen xec)) = w9 at *
  replace hxa := PM.ORn.kt (R := PM.enO 138 136 114 w.heap.size) (w := w9a) (w' := w9) (PM.enO_kt (PM.KT.ofx (E := 138) hxs hX (by decide)) (PM.KT.ofx (E := 136) hxs hX (by decide)) (PM.KT.ofx (E := 114) hxs hX (by decide))) hxa (PM.KT.ofx (E := 50) hxs hX (by decide))
  replace hxb := PM.ORn.kt (R := PM.enO 138 136 114 w.heap.size) (w := w9a) (w' := w9) (PM.enO_kt (PM.KT.ofx (E := 138) hxs hX (by decide)) (PM.KT.ofx (E := 136) hxs hX (by decide)) (PM.KT.ofx (E := 114) hxs hX (by decide))) hxb (PM.KT.ofx (E := 50) hxs hX (by decide))
  replace hxd := PM.ORn.kt (R := fun _ cs x => cs = PM.idL x) (w := w9a) (w' := w9) (fun _ _ h => h) hxd (PM.KT.ofx (E := 45) hxs hX (by decide))
  replace hxe := PM.ORn.kt (R := fun _ cs x => cs = PM.idL x) (w := w9a) (w' := w9) (fun _ _ h => h) hxe (PM.KT.ofx (E := 45) hxs hX (by decide))
  replace hZ := hZ.keepx hxs hg25
  replace hW := PM.hid (hW.out.keepM hxs hX (PM.ms_nobyte _ _ rfl rfl rfl rfl rfl rfl) hg5g.symm hg5b.symm)
  replace hB := PM.hid (hxs.below hB.out hg5w hB.out.size)
  replace hX := kn
  clear hxs kn f7 t7
  obtain ⟨lf, wf0, bf⟩ := s4
  cases bf
  case true =>
    have hDn : Hid (PM.decM l = none) := PM.hid (by rw [hD]; exact PM.finM_no fun h => by cases h.1)
    clear hD
    have c0 : w9.cell? ⟨g, 0, none⟩ = some (.pointer (some ⟨b, 0, none⟩)) := hW.out.1.cell 0
    have c2 : w9.cell? ⟨g, 2, none⟩ = some (.bool true) := hW.out.1.cell 2
    have y0 : w9.cell? ⟨g5, 0, none⟩ = some (.int .i64 2) := hX.cell 0
    have y1 : w9.cell? ⟨g5, 1, none⟩ = some (.int .u64 (hv0 : Int)) := hX.cell 1
    have y2 : w9.cell? ⟨g5, 2, none⟩ = some (.slice none 0 0) := hX.cell 2
    have y3 : w9.cell? ⟨g5, 3, none⟩ = some (.slice none 0 0) := hX.cell 3
    have y4 : w9.cell? ⟨g5, 4, none⟩ = some (.slice xaa xan xac) := hX.cell 4
    have y5 : w9.cell? ⟨g5, 5, none⟩ = some (.slice xba xbn xbc) := hX.cell 5
    have y6 : w9.cell? ⟨g5, 6, none⟩ = some (.slice xda xdn xdc) := hX.cell 6
    have y7 : w9.cell? ⟨g5, 7, none⟩ = some (.slice xea xen xec) := hX.cell 7
    clear hxa hxb hxd hxe hW
    go_upto_region 14 with fail
    clear c0 c2
    clear y0 y1 y2 y3 y4 y5 y6 y7
    have z0 := hZ.cell 0
    have f0 := hZ.free 0
    have z1 := hZ.cell 1
    have f1 := hZ.free 1
    have z2 := hZ.cell 2
    have f2 := hZ.free 2
    have z3 := hZ.cell 3
    have f3 := hZ.free 3
    have z4 := hZ.cell 4
    have f4 := hZ.free 4
    have z5 := hZ.cell 5
    have f5 := hZ.free 5
    have z6 := hZ.cell 6
    have f6 := hZ.free 6
    have z7 := hZ.cell 7
    have f7 := hZ.free 7
    go_wp2
    have ZF := hZ.set8o (.int .i64 0) (.int .u64 0) (.slice none 0 0) (.slice none 0 0) (.slice none 0 0) (.slice none 0 0) (.slice none 0 0) (.slice none 0 0)
    have hxf := PM.Bx.set8o g2 w9 (.int .i64 0) (.int .u64 0) (.slice none 0 0) (.slice none 0 0) (.slice none 0 0) (.slice none 0 0) (.slice none 0 0) (.slice none 0 0)
    generalize ((((((((w9.setCell ⟨g2, 0, none⟩ (.int .i64 0)).setCell ⟨g2, 1, none⟩ (.int .u64 0)).setCell ⟨g2, 2, none⟩ (.slice none 0 0)).setCell ⟨g2, 3, none⟩ (.slice none 0 0)).setCell ⟨g2, 4, none⟩ (.slice none 0 0)).setCell ⟨g2, 5, none⟩ (.slice none 0 0)).setCell ⟨g2, 6, none⟩ (.slice none 0 0)).setCell ⟨g2, 7, none⟩ (.slice none 0 0)) = wf at *
    have q0 := ZF.cell 0
    have q1 := ZF.cell 1
    have q2 := ZF.cell 2
    have q3 := ZF.cell 3
    have q4 := ZF.cell 4
    have q5 := ZF.cell 5
    have q6 := ZF.cell 6
    have q7 := ZF.cell 7
    refine bodyPost_ret (v := .tuple #[.agg #[.int .i64 0, .int .u64 0, .slice none 0 0, .slice none 0 0, .slice none 0 0, .slice none 0 0, .slice none 0 0, .slice none 0 0], .int .i64 130]) (by simp [results, Try.results15, go_sem, q0, q1, q2, q3, q4, q5, q6, q7]) rfl ?_
    exact ⟨PM.Ms0, none, 0, none, 0, none, 0, none, 0, none, 0, none, 0, 130, rfl, PM.Ms0_R _, PM.Ms0_wf, .inr ⟨rfl, hDn.out, rfl⟩, hxf.below hB.out hg2w hB.out.size⟩
  have hdn := done_any b lf wf0 w9 hW.out.2
  by_cases hdone : wf0 = false ∧ lf = []
  case neg =>
    have hdf : (!wf0 && decide (lf = [])) = false := by
      cases wf0 <;> simp at hdone ⊢
      exact hdone
    rw [hdf] at hdn
    have hDn : Hid (PM.decM l = none) := PM.hid (by rw [hD]; exact PM.finM_no fun h => hdone h.2.1)
    clear hD
    have c0 : w9.cell? ⟨g, 0, none⟩ = some (.pointer (some ⟨b, 0, none⟩)) := hW.out.1.cell 0
    have c2 : w9.cell? ⟨g, 2, none⟩ = some (.bool false) := hW.out.1.cell 2
    have y0 : w9.cell? ⟨g5, 0, none⟩ = some (.int .i64 2) := hX.cell 0
    have y1 : w9.cell? ⟨g5, 1, none⟩ = some (.int .u64 (hv0 : Int)) := hX.cell 1
    have y2 : w9.cell? ⟨g5, 2, none⟩ = some (.slice none 0 0) := hX.cell 2
    have y3 : w9.cell? ⟨g5, 3, none⟩ = some (.slice none 0 0) := hX.cell 3
    have y4 : w9.cell? ⟨g5, 4, none⟩ = some (.slice xaa xan xac) := hX.cell 4
    have y5 : w9.cell? ⟨g5, 5, none⟩ = some (.slice xba xbn xbc) := hX.cell 5
    have y6 : w9.cell? ⟨g5, 6, none⟩ = some (.slice xda xdn xdc) := hX.cell 6
    have y7 : w9.cell? ⟨g5, 7, none⟩ = some (.slice xea xen xec) := hX.cell 7
    clear hdone hdf hxa hxb hxd hxe hW
    go_wp2_with fail
    refine hdn.mono ?_
    clear hdn
    rintro e wd ⟨rfl, rfl⟩
    go_upto_region 14 with fail
    clear c0 c2
    clear y0 y1 y2 y3 y4 y5 y6 y7
    have z0 := hZ.cell 0
    have f0 := hZ.free 0
    have z1 := hZ.cell 1
    have f1 := hZ.free 1
    have z2 := hZ.cell 2
    have f2 := hZ.free 2
    have z3 := hZ.cell 3
    have f3 := hZ.free 3
    have z4 := hZ.cell 4
    have f4 := hZ.free 4
    have z5 := hZ.cell 5
    have f5 := hZ.free 5
    have z6 := hZ.cell 6
    have f6 := hZ.free 6
    have z7 := hZ.cell 7
    have f7 := hZ.free 7
    go_wp2
    have ZF := hZ.set8o (.int .i64 0) (.int .u64 0) (.slice none 0 0) (.slice none 0 0) (.slice none 0 0) (.slice none 0 0) (.slice none 0 0) (.slice none 0 0)
    have hxf := PM.Bx.set8o g2 w9 (.int .i64 0) (.int .u64 0) (.slice none 0 0) (.slice none 0 0) (.slice none 0 0) (.slice none 0 0) (.slice none 0 0) (.slice none 0 0)
    generalize ((((((((w9.setCell ⟨g2, 0, none⟩ (.int .i64 0)).setCell ⟨g2, 1, none⟩ (.int .u64 0)).setCell ⟨g2, 2, none⟩ (.slice none 0 0)).setCell ⟨g2, 3, none⟩ (.slice none 0 0)).setCell ⟨g2, 4, none⟩ (.slice none 0 0)).setCell ⟨g2, 5, none⟩ (.slice none 0 0)).setCell ⟨g2, 6, none⟩ (.slice none 0 0)).setCell ⟨g2, 7, none⟩ (.slice none 0 0)) = wf at *
    have q0 := ZF.cell 0
    have q1 := ZF.cell 1
    have q2 := ZF.cell 2
    have q3 := ZF.cell 3
    have q4 := ZF.cell 4
    have q5 := ZF.cell 5
    have q6 := ZF.cell 6
    have q7 := ZF.cell 7
    refine bodyPost_ret (v := .tuple #[.agg #[.int .i64 0, .int .u64 0, .slice none 0 0, .slice none 0 0, .slice none 0 0, .slice none 0 0, .slice none 0 0, .slice none 0 0], .int .i64 130]) (by simp [results, Try.results15, go_sem, q0, q1, q2, q3, q4, q5, q6, q7]) rfl ?_
    exact ⟨PM.Ms0, none, 0, none, 0, none, 0, none, 0, none, 0, none, 0, 130, rfl, PM.Ms0_R _, PM.Ms0_wf, .inr ⟨rfl, hDn.out, rfl⟩, hxf.below hB.out hg2w hB.out.size⟩
  obtain ⟨rfl, rfl⟩ := hdone
  have hdn' : Calls Try.prog 48 #[.pointer (some ⟨b, 0, none⟩)] w9 fun e w' => e = .returned (.bool true) ∧ w9 = w' := hdn
  clear hdn
  have hmw : PM.Ms.wf ⟨2, hv0, [], [], xa, xb, xd, xe⟩ := ⟨rfl, hv64, by simp, by simp, hqxa.out, hqxb.out, hqxd.out, hqxe.out⟩
  have hms : PM.msSm ⟨2, hv0, [], [], xa, xb, xd, xe⟩ := ⟨by simp, by simp, by simp only; rw [← hxan.out]; omega, by simp only; rw [← hxbn.out]; omega, by simp only; rw [← hxdn.out]; omega, by simp only; rw [← hxen.out]; omega⟩
  have hmR : ∀ X, (PM.KT w9 X 50) → (PM.KT w9 X 53) → (PM.KT w9 X 45) → (PM.KT w9 X 138) → (PM.KT w9 X 136) → (PM.KT w9 X 114) → PM.msR X (PM.msC ⟨2, hv0, [], [], xa, xb, xd, xe⟩ (.slice none 0 0) (.slice none 0 0) (.slice xaa xan xac) (.slice xba xbn xbc) (.slice xda xdn xdc) (.slice xea xen xec)) ⟨2, hv0, [], [], xa, xb, xd, xe⟩ := fun X kE kV kI kT kA kW =>
    ⟨_, _, _, _, _, _, rfl, PM.EM.nil _, PM.RR.nil _, (PM.ORn.or (PM.ORn.kt (R := PM.enO 138 136 114 w.heap.size) (w := w9) (w' := X) (PM.enO_kt kT kA kW) hxa kE)).rr.imp fun _ _ h => PM.enO_enR h, (PM.ORn.or (PM.ORn.kt (R := PM.enO 138 136 114 w.heap.size) (w := w9) (w' := X) (PM.enO_kt kT kA kW) hxb kE)).rr.imp fun _ _ h => PM.enO_enR h, (PM.ORn.om (PM.ORn.kt (R := fun _ cs x => cs = PM.idL x) (w := w9) (w' := X) (fun _ _ h => h) hxd kI)).em PM.idL_len, (PM.ORn.om (PM.ORn.kt (R := fun _ cs x => cs = PM.idL x) (w := w9) (w' := X) (fun _ _ h => h) hxe kI)).em PM.idL_len⟩
  have hck := wcheck_any ⟨2, hv0, [], [], xa, xb, xd, xe⟩ none 0 0 none 0 0 xaa xan xac xba xbn xbc xda xdn xdc xea xen xec w9 hmw hms (hmR _ (PM.KT.refl _ _) (PM.KT.refl _ _) (PM.KT.refl _ _) (PM.KT.refl _ _) (PM.KT.refl _ _) (PM.KT.refl _ _))
  simp only at hck
  have c0 : w9.cell? ⟨g, 0, none⟩ = some (.pointer (some ⟨b, 0, none⟩)) := hW.out.1.cell 0
  have c2 : w9.cell? ⟨g, 2, none⟩ = some (.bool false) := hW.out.1.cell 2
  have y0 : w9.cell? ⟨g5, 0, none⟩ = some (.int .i64 2) := hX.cell 0
  have y1 : w9.cell? ⟨g5, 1, none⟩ = some (.int .u64 (hv0 : Int)) := hX.cell 1
  have y2 : w9.cell? ⟨g5, 2, none⟩ = some (.slice none 0 0) := hX.cell 2
  have y3 : w9.cell? ⟨g5, 3, none⟩ = some (.slice none 0 0) := hX.cell 3
  have y4 : w9.cell? ⟨g5, 4, none⟩ = some (.slice xaa xan xac) := hX.cell 4
  have y5 : w9.cell? ⟨g5, 5, none⟩ = some (.slice xba xbn xbc) := hX.cell 5
  have y6 : w9.cell? ⟨g5, 6, none⟩ = some (.slice xda xdn xdc) := hX.cell 6
  have y7 : w9.cell? ⟨g5, 7, none⟩ = some (.slice xea xen xec) := hX.cell 7
  cases hok : PM.msOkB ⟨2, hv0, [], [], xa, xb, xd, xe⟩
  case false =>
    rw [PM.msE_no hok] at hck
    have hDn : Hid (PM.decM l = none) := PM.hid (by rw [hD]; exact PM.finM_no fun h => by rw [hok] at h; cases h.2.2)
    clear hD
    clear hok hxa hxb hxd hxe hW hmw hms hmR
    go_wp2_with fail
    refine hdn'.mono ?_
    clear hdn'
    rintro e wd ⟨rfl, rfl⟩
    go_wp2_with fail
    refine hck.mono ?_
    clear hck
    rintro e we ⟨rfl, hBe⟩
    replace hZ := hZ.keep hBe
    replace hB := PM.hid (PM.chain hB.out hBe)
    clear hBe
    go_upto_region 14 with fail
    clear c0 c2
    clear y0 y1 y2 y3 y4 y5 y6 y7
    have z0 := hZ.cell 0
    have f0 := hZ.free 0
    have z1 := hZ.cell 1
    have f1 := hZ.free 1
    have z2 := hZ.cell 2
    have f2 := hZ.free 2
    have z3 := hZ.cell 3
    have f3 := hZ.free 3
    have z4 := hZ.cell 4
    have f4 := hZ.free 4
    have z5 := hZ.cell 5
    have f5 := hZ.free 5
    have z6 := hZ.cell 6
    have f6 := hZ.free 6
    have z7 := hZ.cell 7
    have f7 := hZ.free 7
    go_wp2
    have ZF := hZ.set8o (.int .i64 0) (.int .u64 0) (.slice none 0 0) (.slice none 0 0) (.slice none 0 0) (.slice none 0 0) (.slice none 0 0) (.slice none 0 0)
    have hxf := PM.Bx.set8o g2 we (.int .i64 0) (.int .u64 0) (.slice none 0 0) (.slice none 0 0) (.slice none 0 0) (.slice none 0 0) (.slice none 0 0) (.slice none 0 0)
    generalize ((((((((we.setCell ⟨g2, 0, none⟩ (.int .i64 0)).setCell ⟨g2, 1, none⟩ (.int .u64 0)).setCell ⟨g2, 2, none⟩ (.slice none 0 0)).setCell ⟨g2, 3, none⟩ (.slice none 0 0)).setCell ⟨g2, 4, none⟩ (.slice none 0 0)).setCell ⟨g2, 5, none⟩ (.slice none 0 0)).setCell ⟨g2, 6, none⟩ (.slice none 0 0)).setCell ⟨g2, 7, none⟩ (.slice none 0 0)) = wf at *
    have q0 := ZF.cell 0
    have q1 := ZF.cell 1
    have q2 := ZF.cell 2
    have q3 := ZF.cell 3
    have q4 := ZF.cell 4
    have q5 := ZF.cell 5
    have q6 := ZF.cell 6
    have q7 := ZF.cell 7
    refine bodyPost_ret (v := .tuple #[.agg #[.int .i64 0, .int .u64 0, .slice none 0 0, .slice none 0 0, .slice none 0 0, .slice none 0 0, .slice none 0 0, .slice none 0 0], .int .i64 130]) (by simp [results, Try.results15, go_sem, q0, q1, q2, q3, q4, q5, q6, q7]) rfl ?_
    exact ⟨PM.Ms0, none, 0, none, 0, none, 0, none, 0, none, 0, none, 0, 130, rfl, PM.Ms0_R _, PM.Ms0_wf, .inr ⟨rfl, hDn.out, rfl⟩, hxf.below hB.out hg2w hB.out.size⟩
  rw [PM.msE_yes hok] at hck
  have hDy : Hid (PM.decM l = some ⟨2, hv0, [], [], xa, xb, xd, xe⟩) := PM.hid (by rw [hD]; exact PM.finM_yes hok)
  replace hmw := PM.hid hmw
  replace hmR := PM.hid hmR
  clear hok hD hxa hxb hxd hxe hW hms
  go_wp2_with fail
  refine hdn'.mono ?_
  clear hdn'
  rintro e wd ⟨rfl, rfl⟩
  go_wp2_with fail
  refine hck.mono ?_
  clear hck
  rintro e we ⟨rfl, hBe⟩
  have hkt := fun E => PM.KT.of hBe E
  replace hZ := hZ.keep hBe
  replace hX := hX.keep hBe
  replace hB := PM.hid (PM.chain hB.out hBe)
  clear hBe c0 c2 y0 y1 y2 y3 y4 y5 y6 y7
  have y0 : we.cell? ⟨g5, 0, none⟩ = some (.int .i64 2) := hX.cell 0
  have y1 : we.cell? ⟨g5, 1, none⟩ = some (.int .u64 (hv0 : Int)) := hX.cell 1
  have y2 : we.cell? ⟨g5, 2, none⟩ = some (.slice none 0 0) := hX.cell 2
  have y3 : we.cell? ⟨g5, 3, none⟩ = some (.slice none 0 0) := hX.cell 3
  have y4 : we.cell? ⟨g5, 4, none⟩ = some (.slice xaa xan xac) := hX.cell 4
  have y5 : we.cell? ⟨g5, 5, none⟩ = some (.slice xba xbn xbc) := hX.cell 5
  have y6 : we.cell? ⟨g5, 6, none⟩ = some (.slice xda xdn xdc) := hX.cell 6
  have y7 : we.cell? ⟨g5, 7, none⟩ = some (.slice xea xen xec) := hX.cell 7
  replace hkt := PM.hid hkt
  have z0 := hZ.cell 0
  have f0 := hZ.free 0
  have z1 := hZ.cell 1
  have f1 := hZ.free 1
  have z2 := hZ.cell 2
  have f2 := hZ.free 2
  have z3 := hZ.cell 3
  have f3 := hZ.free 3
  have z4 := hZ.cell 4
  have f4 := hZ.free 4
  have z5 := hZ.cell 5
  have f5 := hZ.free 5
  have z6 := hZ.cell 6
  have f6 := hZ.free 6
  have z7 := hZ.cell 7
  have f7 := hZ.free 7
  go_wp2
  have ZF := hZ.set8o (.int .i64 2) (.int .u64 (hv0 : Int)) (.slice none 0 0) (.slice none 0 0) (.slice xaa xan xac) (.slice xba xbn xbc) (.slice xda xdn xdc) (.slice xea xen xec)
  have hxf := PM.Bx.set8o g2 we (.int .i64 2) (.int .u64 (hv0 : Int)) (.slice none 0 0) (.slice none 0 0) (.slice xaa xan xac) (.slice xba xbn xbc) (.slice xda xdn xdc) (.slice xea xen xec)
  generalize ((((((((we.setCell ⟨g2, 0, none⟩ (.int .i64 2)).setCell ⟨g2, 1, none⟩ (.int .u64 (hv0 : Int))).setCell ⟨g2, 2, none⟩ (.slice none 0 0)).setCell ⟨g2, 3, none⟩ (.slice none 0 0)).setCell ⟨g2, 4, none⟩ (.slice xaa xan xac)).setCell ⟨g2, 5, none⟩ (.slice xba xbn xbc)).setCell ⟨g2, 6, none⟩ (.slice xda xdn xdc)).setCell ⟨g2, 7, none⟩ (.slice xea xen xec)) = wf at *
  have q0 := ZF.cell 0
  have q1 := ZF.cell 1
  have q2 := ZF.cell 2
  have q3 := ZF.cell 3
  have q4 := ZF.cell 4
  have q5 := ZF.cell 5
  have q6 := ZF.cell 6
  have q7 := ZF.cell 7
  refine bodyPost_ret (v := .tuple #[.agg #[.int .i64 2, .int .u64 (hv0 : Int), .slice none 0 0, .slice none 0 0, .slice xaa xan xac, .slice xba xbn xbc, .slice xda xdn xdc, .slice xea xen xec], .int .i64 0]) (by simp [results, Try.results15, go_sem, q0, q1, q2, q3, q4, q5, q6, q7]) rfl ?_
  have hk2 := fun E (hne : 28 ≠ E) => (hkt.out E).trans (PM.KT.ofx (E := E) hxf hZ hne)
  refine ⟨⟨2, hv0, [], [], xa, xb, xd, xe⟩, none, 0, none, 0, xaa, xac, xba, xbc, xda, xdc, xea, xec, 0, ?_, ?_, hmw.out, .inl ⟨rfl, hDy.out⟩, hxf.below hB.out hg2w hB.out.size⟩
  · rw [hxan.out, hxbn.out, hxdn.out, hxen.out]
    try rfl
  · have e1 := hxan.out
    have e2 := hxbn.out
    have e3 := hxdn.out
    have e4 := hxen.out
    subst e1 e2 e3 e4
    exact hmR.out wf (hk2 _ (by decide)) (hk2 _ (by decide)) (hk2 _ (by decide)) (hk2 _ (by decide)) (hk2 _ (by decide)) (hk2 _ (by decide))
theorem wdecode_any (v : Value) (l : List UInt8) (w : World) (hv : PM.BS w v l) (hl : l.length ≤ 70368744177664) : Calls Try.prog 15 #[v] w (RetWD w l) := by
  by_cases h1 : PM.sm (PM.stepN l false).1 = 1
  · exact wdecode_1 v l w hv hl h1
  · by_cases h2 : PM.sm (PM.stepN l false).1 = 2
    · exact wdecode_2 v l w hv hl h2
    · exact wdecode_0 v l w hv hl ⟨h1, h2⟩
end Go.Proofs.Ytokfookandfemaa
