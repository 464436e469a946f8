/-
  CONTRACT OF entry.Unpack: records that hold an entry.
-/
import Derived.Test.YtphdadlpfjfeoaaJl
namespace Go.Proofs.Ytphdadlpfjfeoaa
open Go.RowKit
set_option linter.unusedVariables false
set_option linter.unusedSimpArgs false
set_option maxRecDepth 100000 in
set_option maxHeartbeats 16000000 in
theorem unpack_2 (v : Value) (l : List UInt8) (w : World) (hv : PM.BS w v l) (hl : l.length ≤ 70368744177664) (hk : PM.sm (PM.stepN l false).1 = 2) :
    Calls Try.prog 20 #[v] w (RetUN w l) := by
  obtain ⟨k, l1, wr1, s1⟩ : ∃ a b c, PM.stepN l false = (a, b, c) := ⟨_, _, _, rfl⟩
  obtain ⟨rn, l2, wr2, s2⟩ : ∃ a b c, PM.stepN l1 wr1 = (a, b, c) := ⟨_, _, _, rfl⟩
  have hDE := PM.hid (PM.decRc_eq s1 s2)
  have p1 := (PM.stepN_lt l false).2
  have p2 := PM.stepN_lt l1 wr1
  have hN1 := fun (b : Nat) (W : World) (h : PM.RD 102 W b l false) => small_any b l false W h
  have hN2 := fun (b : Nat) (W : World) (h : PM.RD 102 W b l1 wr1) => rnumber_any b l1 wr1 W h
  rw [s1] at p1 hN1 hk
  rw [s2] at p2 hN2
  have hkw := PM.sm_wf k
  simp only at p1 p2 hN1 hN2 hk
  obtain ⟨hn64, p2⟩ := p2
  clear s1 s2
  generalize PM.sm k = rk at *
  replace hk := PM.hid hk
  obtain ⟨g2, hg2⟩ : ∃ g, g = w.heap.size := ⟨_, rfl⟩
  obtain ⟨W0, hW0⟩ : ∃ W, W = w.alloc (.cells #[.int .i64 0, .int .u64 0, .int .i64 0, .int .i64 0, .int .u64 0, .int .u64 0, .int .i64 0, .int .u64 0, .slice none 0 0, .slice none 0 0, .int .i64 0, .int .u64 0, .int .u64 0] 46) := ⟨_, rfl⟩
  have hB0 : Below w.heap.size w W0 := by rw [hW0]; exact (Below.refl _ _).alloc (Nat.le_refl _) _
  have hZ : PM.BK W0 g2 #[.int .i64 0, .int .u64 0, .int .i64 0, .int .i64 0, .int .u64 0, .int .u64 0, .int .i64 0, .int .u64 0, .slice none 0 0, .slice none 0 0, .int .i64 0, .int .u64 0, .int .u64 0] 46 := by rw [hW0, hg2]; exact PM.BK.new _ _ _
  have hNw := new_any v l W0 (hv.keep hB0) hl
  obtain ⟨va, vc, hve⟩ := hv.len
  subst hve
  have hg2w : w.heap.size ≤ g2 := by omega
  clear hv
  go_enter Try.func20, Try.ntmps20
  go_upto_region 1 with fail
  rw [← hW0, ← hg2]
  clear hW0 hg2
  go_wp2_with fail
  refine hNw.mono ?_
  clear hNw
  rintro e w1 ⟨b, rfl, hb0, hr, hB1⟩
  have hg2b : g2 ≠ b := by have := hZ.lt; omega
  have hbw : w.heap.size ≤ b := by have := hB0.size; omega
  replace hZ := hZ.keep hB1
  have hB := PM.hid (PM.chain hB0 hB1)
  clear hB0 hB1 hb0
  go_wp2_with fail
  refine (hN1 b w1 hr).mono ?_
  clear hN1
  rintro e w2 ⟨rfl, hr2, hx2⟩
  replace hZ := hZ.keepx hx2 hg2b
  replace hB := PM.hid (hx2.below hB.out hbw hB.out.size)
  clear hx2 hr
  go_upto_region 3 with fail
  obtain ⟨g5, hg5⟩ : ∃ g, g = w2.heap.size := ⟨_, rfl⟩
  obtain ⟨W2, hW2⟩ : ∃ W, W = w2.alloc (.cells #[.int .i64 rk, .int .u64 0, .int .i64 0, .int .i64 0, .int .u64 0, .int .u64 0, .int .i64 0, .int .u64 0, .slice none 0 0, .slice none 0 0, .int .i64 0, .int .u64 0, .int .u64 0] 46) := ⟨_, rfl⟩
  have hB2 : Below w2.heap.size w2 W2 := by rw [hW2]; exact (Below.refl _ _).alloc (Nat.le_refl _) _
  have hX : PM.BK W2 g5 #[.int .i64 rk, .int .u64 0, .int .i64 0, .int .i64 0, .int .u64 0, .int .u64 0, .int .i64 0, .int .u64 0, .slice none 0 0, .slice none 0 0, .int .i64 0, .int .u64 0, .int .u64 0] 46 := by rw [hW2, hg5]; exact PM.BK.new _ _ _
  have hg5b : g5 ≠ b := by have := hr2.lt; omega
  have hg25 : g2 ≠ g5 := by have := hZ.lt; omega
  have hg5w : w.heap.size ≤ g5 := by have := hB.out.size; omega
  replace hr2 := hr2.keep hB2
  replace hZ := hZ.keep hB2
  replace hB := PM.hid (PM.chain hB.out hB2)
  rw [← hW2, ← hg5]
  clear hW2 hg5 hB2
  go_wp2_with fail
  refine (hN2 b W2 hr2).mono ?_
  clear hN2
  rintro e w3 ⟨rfl, hr3, hx3⟩
  replace hZ := hZ.keepx hx3 hg2b
  replace hX := hX.keepx hx3 hg5b
  replace hB := PM.hid (hx3.below hB.out hbw hB.out.size)
  clear hx3 hr2
  have f1 := hX.free 1
  have t1 := hX.cell 1
  go_upto_region 4 with fail
  have kn := hX.set 1 (.int .u64 (rn : Int))
  replace kn : PM.BK (w3.setCell ⟨g5, 1, none⟩ (.int .u64 (rn : Int))) g5 #[.int .i64 rk, .int .u64 (rn : Int), .int .i64 0, .int .i64 0, .int .u64 0, .int .u64 0, .int .i64 0, .int .u64 0, .slice none 0 0, .slice none 0 0, .int .i64 0, .int .u64 0, .int .u64 0] 46 := by simpa using kn
  have hxs : PM.Bx g5 w3 (w3.setCell ⟨g5, 1, none⟩ (.int .u64 (rn : Int))) := PM.Bx.set g5 1 w3 (.int .u64 (rn : Int))
  generalize (w3.setCell ⟨g5, 1, none⟩ (.int .u64 (rn : Int))) = w4 at *
  replace hZ := hZ.keepx hxs hg25
  have hr := PM.RD.keepy hxs (Ne.symm hg5b) hX (PM.rc_nobyte _ _ _ _ _ _ _ _ _ _ _ rfl rfl) hr3
  replace hB := PM.hid (hxs.below hB.out hg5w hB.out.size)
  replace hX := kn
  clear hxs kn hr3
  clear f1 t1
  replace hk := hk.out
  subst hk
  have hby := rbytes_any b l2 wr2 (l.length : Int) w4 hr (by omega) (by omega) (by omega)
  have hSl := PM.stepB_lt l2 wr2 (l.length : Int)
  have hD0 : Hid (PM.decRc l = PM.decR2 2 rn (PM.stepB l2 wr2 (l.length : Int))) := PM.hid (by rw [hDE.out]; unfold PM.decRK; rw [if_pos (by decide)])
  generalize PM.stepB l2 wr2 (l.length : Int) = S at *
  obtain ⟨m, l', wr'⟩ := S
  simp only at hby hSl
  clear hDE
  have c0 : w4.cell? ⟨g5, 0, none⟩ = some (.int .i64 2) := hX.cell 0
  have c1 : w4.cell? ⟨g5, 1, none⟩ = some (.int .u64 (rn : Int)) := hX.cell 1
  have c2 : w4.cell? ⟨g5, 2, none⟩ = some (.int .i64 0) := hX.cell 2
  have c3 : w4.cell? ⟨g5, 3, none⟩ = some (.int .i64 0) := hX.cell 3
  have c4 : w4.cell? ⟨g5, 4, none⟩ = some (.int .u64 0) := hX.cell 4
  have c5 : w4.cell? ⟨g5, 5, none⟩ = some (.int .u64 0) := hX.cell 5
  have c6 : w4.cell? ⟨g5, 6, none⟩ = some (.int .i64 0) := hX.cell 6
  have c7 : w4.cell? ⟨g5, 7, none⟩ = some (.int .u64 0) := hX.cell 7
  have c8 : w4.cell? ⟨g5, 8, none⟩ = some (.slice none 0 0) := hX.cell 8
  have c9 : w4.cell? ⟨g5, 9, none⟩ = some (.slice none 0 0) := hX.cell 9
  have c10 : w4.cell? ⟨g5, 10, none⟩ = some (.int .i64 0) := hX.cell 10
  have c11 : w4.cell? ⟨g5, 11, none⟩ = some (.int .u64 0) := hX.cell 11
  have c12 : w4.cell? ⟨g5, 12, none⟩ = some (.int .u64 0) := hX.cell 12
  go_wp2_with fail
  refine hby.mono ?_
  clear hby c0 c1 c2 c3 c4 c5 c6 c7 c8 c9 c10 c11 c12
  rintro e w9 ⟨vm, rfl, hm, hr9, hx9⟩
  replace hZ := hZ.keepx hx9 hg2b
  replace hX := hX.keepx hx9 hg5b
  replace hB := PM.hid (hx9.below hB.out hbw hB.out.size)
  clear hx9 hr
  have hfd := endecode_any vm m w9 hm.bs (by omega)
  clear hm
  have c0 : w9.cell? ⟨g5, 0, none⟩ = some (.int .i64 2) := hX.cell 0
  have c1 : w9.cell? ⟨g5, 1, none⟩ = some (.int .u64 (rn : Int)) := hX.cell 1
  have c2 : w9.cell? ⟨g5, 2, none⟩ = some (.int .i64 0) := hX.cell 2
  have c3 : w9.cell? ⟨g5, 3, none⟩ = some (.int .i64 0) := hX.cell 3
  have c4 : w9.cell? ⟨g5, 4, none⟩ = some (.int .u64 0) := hX.cell 4
  have c5 : w9.cell? ⟨g5, 5, none⟩ = some (.int .u64 0) := hX.cell 5
  have c6 : w9.cell? ⟨g5, 6, none⟩ = some (.int .i64 0) := hX.cell 6
  have c7 : w9.cell? ⟨g5, 7, none⟩ = some (.int .u64 0) := hX.cell 7
  have c8 : w9.cell? ⟨g5, 8, none⟩ = some (.slice none 0 0) := hX.cell 8
  have c9 : w9.cell? ⟨g5, 9, none⟩ = some (.slice none 0 0) := hX.cell 9
  have c10 : w9.cell? ⟨g5, 10, none⟩ = some (.int .i64 0) := hX.cell 10
  have c11 : w9.cell? ⟨g5, 11, none⟩ = some (.int .u64 0) := hX.cell 11
  have c12 : w9.cell? ⟨g5, 12, none⟩ = some (.int .u64 0) := hX.cell 12
  go_wp2_with fail
  refine hfd.mono ?_
  clear hfd c0 c1 c2 c3 c4 c5 c6 c7 c8 c9 c10 c11 c12
  rintro e wP ⟨x, vf, ve, n, rfl, hcase, hO, hE, hBP⟩
  replace hO := hO.mono hB.out.size
  replace hE := hE.mono hB.out.size
  replace hZ := hZ.keep hBP
  replace hX := hX.keep hBP
  replace hr9 := hr9.keep hBP
  replace hB := PM.hid (PM.chain hB.out hBP)
  clear hBP
  have f2 := hX.free 2
  have t2 := hX.cell 2
  have f3 := hX.free 3
  have t3 := hX.cell 3
  have f4 := hX.free 4
  have t4 := hX.cell 4
  have f5 := hX.free 5
  have t5 := hX.cell 5
  have f6 := hX.free 6
  have t6 := hX.cell 6
  have f7 := hX.free 7
  have t7 := hX.cell 7
  have f8 := hX.free 8
  have t8 := hX.cell 8
  have f9 := hX.free 9
  have t9 := hX.cell 9
  rcases hcase with ⟨rfl, hdx⟩ | ⟨rfl, hdx, rfl, rfl, rfl⟩
  · obtain ⟨ek, ⟨eb, el, eq⟩, ec, eu, fi, ev⟩ := x
    have hD : Hid (PM.decRc l = PM.finR ⟨2, rn, ⟨ek, ⟨eb, el, eq⟩, ec, eu, fi, ev⟩, PM.Id0⟩ l' wr') := PM.hid (by rw [hD0.out]; unfold PM.decR2; simp only [hdx])
    have hew := (PM.decEn_back hdx).2.2
    simp only at hO hE
    obtain ⟨fa, fc, hf⟩ := (hO.em PM.teL_len).len
    obtain ⟨ea, eac, he⟩ := hE.len
    subst hf he
    clear hdx hD0
    replace hew := PM.hid hew
    simp only [PM.enC]
    go_upto_region 12 with fail
    have kn := (((((((hX.set 2 (.int .i64 ek)).set 3 (.int .i64 eb)).set 4 (.int .u64 (el : Int))).set 5 (.int .u64 (eq : Int))).set 6 (.int .i64 ec)).set 7 (.int .u64 (eu : Int))).set 8 (.slice fa fi.length fc)).set 9 (.slice ea ev.length eac)
    replace kn : PM.BK ((((((((wP.setCell ⟨g5, 2, none⟩ (.int .i64 ek)).setCell ⟨g5, 3, none⟩ (.int .i64 eb)).setCell ⟨g5, 4, none⟩ (.int .u64 (el : Int))).setCell ⟨g5, 5, none⟩ (.int .u64 (eq : Int))).setCell ⟨g5, 6, none⟩ (.int .i64 ec)).setCell ⟨g5, 7, none⟩ (.int .u64 (eu : Int))).setCell ⟨g5, 8, none⟩ (.slice fa fi.length fc)).setCell ⟨g5, 9, none⟩ (.slice ea ev.length eac)) g5 #[.int .i64 2, .int .u64 (rn : Int), .int .i64 ek, .int .i64 eb, .int .u64 (el : Int), .int .u64 (eq : Int), .int .i64 ec, .int .u64 (eu : Int), .slice fa fi.length fc, .slice ea ev.length eac, .int .i64 0, .int .u64 0, .int .u64 0] 46 := by simpa using kn
    have hxs : PM.Bx g5 wP ((((((((wP.setCell ⟨g5, 2, none⟩ (.int .i64 ek)).setCell ⟨g5, 3, none⟩ (.int .i64 eb)).setCell ⟨g5, 4, none⟩ (.int .u64 (el : Int))).setCell ⟨g5, 5, none⟩ (.int .u64 (eq : Int))).setCell ⟨g5, 6, none⟩ (.int .i64 ec)).setCell ⟨g5, 7, none⟩ (.int .u64 (eu : Int))).setCell ⟨g5, 8, none⟩ (.slice fa fi.length fc)).setCell ⟨g5, 9, none⟩ (.slice ea ev.length eac)) := (((((((PM.Bx.set g5 2 wP (.int .i64 ek)).trans (PM.Bx.set g5 3 _ (.int .i64 eb))).trans (PM.Bx.set g5 4 _ (.int .u64 (el : Int)))).trans (PM.Bx.set g5 5 _ (.int .u64 (eq : Int)))).trans (PM.Bx.set g5 6 _ (.int .i64 ec))).trans (PM.Bx.set g5 7 _ (.int .u64 (eu : Int)))).trans (PM.Bx.set g5 8 _ (.slice fa fi.length fc))).trans (PM.Bx.set g5 9 _ (.slice ea ev.length eac))
    generalize ((((((((wP.setCell ⟨g5, 2, none⟩ (.int .i64 ek)).setCell ⟨g5, 3, none⟩ (.int .i64 eb)).setCell ⟨g5, 4, none⟩ (.int .u64 (el : Int))).setCell ⟨g5, 5, none⟩ (.int .u64 (eq : Int))).setCell ⟨g5, 6, none⟩ (.int .i64 ec)).setCell ⟨g5, 7, none⟩ (.int .u64 (eu : Int))).setCell ⟨g5, 8, none⟩ (.slice fa fi.length fc)).setCell ⟨g5, 9, none⟩ (.slice ea ev.length eac)) = wA at *
    replace hO := hO.keepx hxs hX (by decide)
    replace hE := hE.keepx hxs hX (by decide) (by decide)
    replace hZ := hZ.keepx hxs hg25
    have hr := PM.RD.keepy hxs (Ne.symm hg5b) hX (PM.rc_nobyte _ _ _ _ _ _ _ _ _ _ _ rfl rfl) hr9
    replace hB := PM.hid (hxs.below hB.out hg5w hB.out.size)
    replace hX := kn
    clear hxs kn hr9
    clear f2 t2 f3 t3 f4 t4 f5 t5 f6 t6 f7 t7 f8 t8 f9 t9
    have hdn := done_any b l' wr' wA hr
    by_cases hdone : wr' = false ∧ l' = []
    case neg =>
      have hDn : Hid (PM.decRc l = none) := PM.hid (by rw [hD.out]; exact PM.finR_no fun h => hdone ⟨h.1, h.2.1⟩)
      have hdf : (!wr' && decide (l' = [])) = false := by
        cases wr' <;> simp at hdone ⊢
        exact hdone
      rw [hdf] at hdn
      clear hdone hdf
      have c0 : wA.cell? ⟨g5, 0, none⟩ = some (.int .i64 2) := hX.cell 0
      have c1 : wA.cell? ⟨g5, 1, none⟩ = some (.int .u64 (rn : Int)) := hX.cell 1
      have c2 : wA.cell? ⟨g5, 2, none⟩ = some (.int .i64 ek) := hX.cell 2
      have c3 : wA.cell? ⟨g5, 3, none⟩ = some (.int .i64 eb) := hX.cell 3
      have c4 : wA.cell? ⟨g5, 4, none⟩ = some (.int .u64 (el : Int)) := hX.cell 4
      have c5 : wA.cell? ⟨g5, 5, none⟩ = some (.int .u64 (eq : Int)) := hX.cell 5
      have c6 : wA.cell? ⟨g5, 6, none⟩ = some (.int .i64 ec) := hX.cell 6
      have c7 : wA.cell? ⟨g5, 7, none⟩ = some (.int .u64 (eu : Int)) := hX.cell 7
      have c8 : wA.cell? ⟨g5, 8, none⟩ = some (.slice fa fi.length fc) := hX.cell 8
      have c9 : wA.cell? ⟨g5, 9, none⟩ = some (.slice ea ev.length eac) := hX.cell 9
      have c10 : wA.cell? ⟨g5, 10, none⟩ = some (.int .i64 0) := hX.cell 10
      have c11 : wA.cell? ⟨g5, 11, none⟩ = some (.int .u64 0) := hX.cell 11
      have c12 : wA.cell? ⟨g5, 12, none⟩ = some (.int .u64 0) := hX.cell 12
      go_wp2_with fail
      refine hdn.mono ?_
      clear hdn
      rintro e wd ⟨rfl, rfl⟩
      clear c0 c1 c2 c3 c4 c5 c6 c7 c8 c9 c10 c11 c12
      have z0 := hZ.cell 0
      have f0 := hZ.free 0
      have z1 := hZ.cell 1
      have f1 := hZ.free 1
      have z2 := hZ.cell 2
      have f2 := hZ.free 2
      have z3 := hZ.cell 3
      have f3 := hZ.free 3
      have z4 := hZ.cell 4
      have f4 := hZ.free 4
      have z5 := hZ.cell 5
      have f5 := hZ.free 5
      have z6 := hZ.cell 6
      have f6 := hZ.free 6
      have z7 := hZ.cell 7
      have f7 := hZ.free 7
      have z8 := hZ.cell 8
      have f8 := hZ.free 8
      have z9 := hZ.cell 9
      have f9 := hZ.free 9
      have z10 := hZ.cell 10
      have f10 := hZ.free 10
      have z11 := hZ.cell 11
      have f11 := hZ.free 11
      have z12 := hZ.cell 12
      have f12 := hZ.free 12
      go_wp2
      have ZF := hZ.set13 (.int .i64 0) (.int .u64 0) (.int .i64 0) (.int .i64 0) (.int .u64 0) (.int .u64 0) (.int .i64 0) (.int .u64 0) (.slice none 0 0) (.slice none 0 0) (.int .i64 0) (.int .u64 0) (.int .u64 0)
      have hxf := PM.Bx.set13 g2 wA (.int .i64 0) (.int .u64 0) (.int .i64 0) (.int .i64 0) (.int .u64 0) (.int .u64 0) (.int .i64 0) (.int .u64 0) (.slice none 0 0) (.slice none 0 0) (.int .i64 0) (.int .u64 0) (.int .u64 0)
      generalize (((((((((((((wA.setCell ⟨g2, 0, none⟩ (.int .i64 0)).setCell ⟨g2, 1, none⟩ (.int .u64 0)).setCell ⟨g2, 2, none⟩ (.int .i64 0)).setCell ⟨g2, 3, none⟩ (.int .i64 0)).setCell ⟨g2, 4, none⟩ (.int .u64 0)).setCell ⟨g2, 5, none⟩ (.int .u64 0)).setCell ⟨g2, 6, none⟩ (.int .i64 0)).setCell ⟨g2, 7, none⟩ (.int .u64 0)).setCell ⟨g2, 8, none⟩ (.slice none 0 0)).setCell ⟨g2, 9, none⟩ (.slice none 0 0)).setCell ⟨g2, 10, none⟩ (.int .i64 0)).setCell ⟨g2, 11, none⟩ (.int .u64 0)).setCell ⟨g2, 12, none⟩ (.int .u64 0)) = wf at *
      have q0 := ZF.cell 0
      have q1 := ZF.cell 1
      have q2 := ZF.cell 2
      have q3 := ZF.cell 3
      have q4 := ZF.cell 4
      have q5 := ZF.cell 5
      have q6 := ZF.cell 6
      have q7 := ZF.cell 7
      have q8 := ZF.cell 8
      have q9 := ZF.cell 9
      have q10 := ZF.cell 10
      have q11 := ZF.cell 11
      have q12 := ZF.cell 12
      refine bodyPost_ret (v := .tuple #[.agg #[.int .i64 0, .int .u64 0, .int .i64 0, .int .i64 0, .int .u64 0, .int .u64 0, .int .i64 0, .int .u64 0, .slice none 0 0, .slice none 0 0, .int .i64 0, .int .u64 0, .int .u64 0], .int .i64 110]) (by simp [results, Try.results20, go_sem, q0, q1, q2, q3, q4, q5, q6, q7, q8, q9, q10, q11, q12]) rfl ?_
      exact ⟨PM.Rc0, .slice none 0 0, .slice none 0 0, 110, rfl, .inr ⟨rfl, hDn.out, rfl, rfl, rfl⟩, PM.OM.nilrow _, PM.OEv.nil _, hxf.below hB.out hg2w hB.out.size⟩
    obtain ⟨rfl, rfl⟩ := hdone
    have hdn' : Calls Try.prog 39 #[.pointer (some ⟨b, 0, none⟩)] wA fun e w' => e = .returned (.bool true) ∧ wA = w' := hdn
    clear hdn
    have hwfx : PM.Rc.wf ⟨2, rn, ⟨ek, ⟨eb, el, eq⟩, ec, eu, fi, ev⟩, PM.Id0⟩ := ⟨rfl, hn64, hew.out, PM.Id0_wf⟩
    have hck := record_any ⟨2, rn, ⟨ek, ⟨eb, el, eq⟩, ec, eu, fi, ev⟩, PM.Id0⟩ (.slice fa fi.length fc) (.slice ea ev.length eac) wA hwfx (hO.em PM.teL_len) hE.evl
    unfold PM.rcC PM.enC PM.idL at hck
    simp only [List.cons_append, List.nil_append] at hck
    have c0 : wA.cell? ⟨g5, 0, none⟩ = some (.int .i64 2) := hX.cell 0
    have c1 : wA.cell? ⟨g5, 1, none⟩ = some (.int .u64 (rn : Int)) := hX.cell 1
    have c2 : wA.cell? ⟨g5, 2, none⟩ = some (.int .i64 ek) := hX.cell 2
    have c3 : wA.cell? ⟨g5, 3, none⟩ = some (.int .i64 eb) := hX.cell 3
    have c4 : wA.cell? ⟨g5, 4, none⟩ = some (.int .u64 (el : Int)) := hX.cell 4
    have c5 : wA.cell? ⟨g5, 5, none⟩ = some (.int .u64 (eq : Int)) := hX.cell 5
    have c6 : wA.cell? ⟨g5, 6, none⟩ = some (.int .i64 ec) := hX.cell 6
    have c7 : wA.cell? ⟨g5, 7, none⟩ = some (.int .u64 (eu : Int)) := hX.cell 7
    have c8 : wA.cell? ⟨g5, 8, none⟩ = some (.slice fa fi.length fc) := hX.cell 8
    have c9 : wA.cell? ⟨g5, 9, none⟩ = some (.slice ea ev.length eac) := hX.cell 9
    have c10 : wA.cell? ⟨g5, 10, none⟩ = some (.int .i64 0) := hX.cell 10
    have c11 : wA.cell? ⟨g5, 11, none⟩ = some (.int .u64 0) := hX.cell 11
    have c12 : wA.cell? ⟨g5, 12, none⟩ = some (.int .u64 0) := hX.cell 12
    go_wp2_with fail
    refine hdn'.mono ?_
    clear hdn'
    rintro e wd ⟨rfl, rfl⟩
    go_wp2_with fail
    refine hck.mono ?_
    clear hck
    rintro e we ⟨hr', hBe⟩
    rcases hr' with ⟨rfl, hok⟩ | ⟨rfl, hok⟩
    case inr =>
      have hDn : Hid (PM.decRc l = none) := PM.hid (by rw [hD.out]; exact PM.finR_no fun h => hok h.2.2)
      clear hok
      replace hZ := hZ.keep hBe
      replace hB := PM.hid (PM.chain hB.out hBe)
      clear hBe c0 c1 c2 c3 c4 c5 c6 c7 c8 c9 c10 c11 c12
      have z0 := hZ.cell 0
      have f0 := hZ.free 0
      have z1 := hZ.cell 1
      have f1 := hZ.free 1
      have z2 := hZ.cell 2
      have f2 := hZ.free 2
      have z3 := hZ.cell 3
      have f3 := hZ.free 3
      have z4 := hZ.cell 4
      have f4 := hZ.free 4
      have z5 := hZ.cell 5
      have f5 := hZ.free 5
      have z6 := hZ.cell 6
      have f6 := hZ.free 6
      have z7 := hZ.cell 7
      have f7 := hZ.free 7
      have z8 := hZ.cell 8
      have f8 := hZ.free 8
      have z9 := hZ.cell 9
      have f9 := hZ.free 9
      have z10 := hZ.cell 10
      have f10 := hZ.free 10
      have z11 := hZ.cell 11
      have f11 := hZ.free 11
      have z12 := hZ.cell 12
      have f12 := hZ.free 12
      go_wp2
      have ZF := hZ.set13 (.int .i64 0) (.int .u64 0) (.int .i64 0) (.int .i64 0) (.int .u64 0) (.int .u64 0) (.int .i64 0) (.int .u64 0) (.slice none 0 0) (.slice none 0 0) (.int .i64 0) (.int .u64 0) (.int .u64 0)
      have hxf := PM.Bx.set13 g2 we (.int .i64 0) (.int .u64 0) (.int .i64 0) (.int .i64 0) (.int .u64 0) (.int .u64 0) (.int .i64 0) (.int .u64 0) (.slice none 0 0) (.slice none 0 0) (.int .i64 0) (.int .u64 0) (.int .u64 0)
      generalize (((((((((((((we.setCell ⟨g2, 0, none⟩ (.int .i64 0)).setCell ⟨g2, 1, none⟩ (.int .u64 0)).setCell ⟨g2, 2, none⟩ (.int .i64 0)).setCell ⟨g2, 3, none⟩ (.int .i64 0)).setCell ⟨g2, 4, none⟩ (.int .u64 0)).setCell ⟨g2, 5, none⟩ (.int .u64 0)).setCell ⟨g2, 6, none⟩ (.int .i64 0)).setCell ⟨g2, 7, none⟩ (.int .u64 0)).setCell ⟨g2, 8, none⟩ (.slice none 0 0)).setCell ⟨g2, 9, none⟩ (.slice none 0 0)).setCell ⟨g2, 10, none⟩ (.int .i64 0)).setCell ⟨g2, 11, none⟩ (.int .u64 0)).setCell ⟨g2, 12, none⟩ (.int .u64 0)) = wf at *
      have q0 := ZF.cell 0
      have q1 := ZF.cell 1
      have q2 := ZF.cell 2
      have q3 := ZF.cell 3
      have q4 := ZF.cell 4
      have q5 := ZF.cell 5
      have q6 := ZF.cell 6
      have q7 := ZF.cell 7
      have q8 := ZF.cell 8
      have q9 := ZF.cell 9
      have q10 := ZF.cell 10
      have q11 := ZF.cell 11
      have q12 := ZF.cell 12
      refine bodyPost_ret (v := .tuple #[.agg #[.int .i64 0, .int .u64 0, .int .i64 0, .int .i64 0, .int .u64 0, .int .u64 0, .int .i64 0, .int .u64 0, .slice none 0 0, .slice none 0 0, .int .i64 0, .int .u64 0, .int .u64 0], .int .i64 110]) (by simp [results, Try.results20, go_sem, q0, q1, q2, q3, q4, q5, q6, q7, q8, q9, q10, q11, q12]) rfl ?_
      exact ⟨PM.Rc0, .slice none 0 0, .slice none 0 0, 110, rfl, .inr ⟨rfl, hDn.out, rfl, rfl, rfl⟩, PM.OM.nilrow _, PM.OEv.nil _, hxf.below hB.out hg2w hB.out.size⟩
    have hDy : Hid (PM.decRc l = some ⟨2, rn, ⟨ek, ⟨eb, el, eq⟩, ec, eu, fi, ev⟩, PM.Id0⟩) := PM.hid (by rw [hD.out]; exact PM.finR_yes hok)
    clear hok
    replace hZ := hZ.keep hBe
    replace hX := hX.keep hBe
    replace hB := PM.hid (PM.chain hB.out hBe)
    have hfk := PM.hid (hO.keep hBe)
    have hok := PM.hid (hE.keep hBe)
    clear hBe c0 c1 c2 c3 c4 c5 c6 c7 c8 c9 c10 c11 c12
    have c0 : we.cell? ⟨g5, 0, none⟩ = some (.int .i64 2) := hX.cell 0
    have c1 : we.cell? ⟨g5, 1, none⟩ = some (.int .u64 (rn : Int)) := hX.cell 1
    have c2 : we.cell? ⟨g5, 2, none⟩ = some (.int .i64 ek) := hX.cell 2
    have c3 : we.cell? ⟨g5, 3, none⟩ = some (.int .i64 eb) := hX.cell 3
    have c4 : we.cell? ⟨g5, 4, none⟩ = some (.int .u64 (el : Int)) := hX.cell 4
    have c5 : we.cell? ⟨g5, 5, none⟩ = some (.int .u64 (eq : Int)) := hX.cell 5
    have c6 : we.cell? ⟨g5, 6, none⟩ = some (.int .i64 ec) := hX.cell 6
    have c7 : we.cell? ⟨g5, 7, none⟩ = some (.int .u64 (eu : Int)) := hX.cell 7
    have c8 : we.cell? ⟨g5, 8, none⟩ = some (.slice fa fi.length fc) := hX.cell 8
    have c9 : we.cell? ⟨g5, 9, none⟩ = some (.slice ea ev.length eac) := hX.cell 9
    have c10 : we.cell? ⟨g5, 10, none⟩ = some (.int .i64 0) := hX.cell 10
    have c11 : we.cell? ⟨g5, 11, none⟩ = some (.int .u64 0) := hX.cell 11
    have c12 : we.cell? ⟨g5, 12, none⟩ = some (.int .u64 0) := hX.cell 12
    have z0 := hZ.cell 0
    have f0 := hZ.free 0
    have z1 := hZ.cell 1
    have f1 := hZ.free 1
    have z2 := hZ.cell 2
    have f2 := hZ.free 2
    have z3 := hZ.cell 3
    have f3 := hZ.free 3
    have z4 := hZ.cell 4
    have f4 := hZ.free 4
    have z5 := hZ.cell 5
    have f5 := hZ.free 5
    have z6 := hZ.cell 6
    have f6 := hZ.free 6
    have z7 := hZ.cell 7
    have f7 := hZ.free 7
    have z8 := hZ.cell 8
    have f8 := hZ.free 8
    have z9 := hZ.cell 9
    have f9 := hZ.free 9
    have z10 := hZ.cell 10
    have f10 := hZ.free 10
    have z11 := hZ.cell 11
    have f11 := hZ.free 11
    have z12 := hZ.cell 12
    have f12 := hZ.free 12
    go_wp2
    have ZF := hZ.set13 (.int .i64 2) (.int .u64 (rn : Int)) (.int .i64 ek) (.int .i64 eb) (.int .u64 (el : Int)) (.int .u64 (eq : Int)) (.int .i64 ec) (.int .u64 (eu : Int)) (.slice fa fi.length fc) (.slice ea ev.length eac) (.int .i64 0) (.int .u64 0) (.int .u64 0)
    have hxf := PM.Bx.set13 g2 we (.int .i64 2) (.int .u64 (rn : Int)) (.int .i64 ek) (.int .i64 eb) (.int .u64 (el : Int)) (.int .u64 (eq : Int)) (.int .i64 ec) (.int .u64 (eu : Int)) (.slice fa fi.length fc) (.slice ea ev.length eac) (.int .i64 0) (.int .u64 0) (.int .u64 0)
    generalize (((((((((((((we.setCell ⟨g2, 0, none⟩ (.int .i64 2)).setCell ⟨g2, 1, none⟩ (.int .u64 (rn : Int))).setCell ⟨g2, 2, none⟩ (.int .i64 ek)).setCell ⟨g2, 3, none⟩ (.int .i64 eb)).setCell ⟨g2, 4, none⟩ (.int .u64 (el : Int))).setCell ⟨g2, 5, none⟩ (.int .u64 (eq : Int))).setCell ⟨g2, 6, none⟩ (.int .i64 ec)).setCell ⟨g2, 7, none⟩ (.int .u64 (eu : Int))).setCell ⟨g2, 8, none⟩ (.slice fa fi.length fc)).setCell ⟨g2, 9, none⟩ (.slice ea ev.length eac)).setCell ⟨g2, 10, none⟩ (.int .i64 0)).setCell ⟨g2, 11, none⟩ (.int .u64 0)).setCell ⟨g2, 12, none⟩ (.int .u64 0)) = wf at *
    have q0 := ZF.cell 0
    have q1 := ZF.cell 1
    have q2 := ZF.cell 2
    have q3 := ZF.cell 3
    have q4 := ZF.cell 4
    have q5 := ZF.cell 5
    have q6 := ZF.cell 6
    have q7 := ZF.cell 7
    have q8 := ZF.cell 8
    have q9 := ZF.cell 9
    have q10 := ZF.cell 10
    have q11 := ZF.cell 11
    have q12 := ZF.cell 12
    refine bodyPost_ret (v := .tuple #[.agg #[.int .i64 2, .int .u64 (rn : Int), .int .i64 ek, .int .i64 eb, .int .u64 (el : Int), .int .u64 (eq : Int), .int .i64 ec, .int .u64 (eu : Int), .slice fa fi.length fc, .slice ea ev.length eac, .int .i64 0, .int .u64 0, .int .u64 0], .int .i64 0]) (by simp [results, Try.results20, go_sem, q0, q1, q2, q3, q4, q5, q6, q7, q8, q9, q10, q11, q12]) rfl ?_
    exact ⟨⟨2, rn, ⟨ek, ⟨eb, el, eq⟩, ec, eu, fi, ev⟩, PM.Id0⟩, _, _, 0, rfl, .inl ⟨rfl, hDy.out⟩, hfk.out.keepx hxf hZ (by decide), hok.out.keepx hxf hZ (by decide) (by decide), hxf.below hB.out hg2w hB.out.size⟩
  · have hDn : Hid (PM.decRc l = none) := PM.hid (by rw [hD0.out]; unfold PM.decR2; simp only [hdx])
    clear hdx hD0 hO hE hr9
    simp only [PM.enC, PM.En0]
    go_upto_region 12 with fail
    have kn := (((((((hX.set 2 (.int .i64 0)).set 3 (.int .i64 0)).set 4 (.int .u64 0)).set 5 (.int .u64 0)).set 6 (.int .i64 0)).set 7 (.int .u64 0)).set 8 (.slice none 0 0)).set 9 (.slice none 0 0)
    replace kn : PM.BK ((((((((wP.setCell ⟨g5, 2, none⟩ (.int .i64 0)).setCell ⟨g5, 3, none⟩ (.int .i64 0)).setCell ⟨g5, 4, none⟩ (.int .u64 0)).setCell ⟨g5, 5, none⟩ (.int .u64 0)).setCell ⟨g5, 6, none⟩ (.int .i64 0)).setCell ⟨g5, 7, none⟩ (.int .u64 0)).setCell ⟨g5, 8, none⟩ (.slice none 0 0)).setCell ⟨g5, 9, none⟩ (.slice none 0 0)) g5 #[.int .i64 2, .int .u64 (rn : Int), .int .i64 0, .int .i64 0, .int .u64 0, .int .u64 0, .int .i64 0, .int .u64 0, .slice none 0 0, .slice none 0 0, .int .i64 0, .int .u64 0, .int .u64 0] 46 := by simpa using kn
    have hxs : PM.Bx g5 wP ((((((((wP.setCell ⟨g5, 2, none⟩ (.int .i64 0)).setCell ⟨g5, 3, none⟩ (.int .i64 0)).setCell ⟨g5, 4, none⟩ (.int .u64 0)).setCell ⟨g5, 5, none⟩ (.int .u64 0)).setCell ⟨g5, 6, none⟩ (.int .i64 0)).setCell ⟨g5, 7, none⟩ (.int .u64 0)).setCell ⟨g5, 8, none⟩ (.slice none 0 0)).setCell ⟨g5, 9, none⟩ (.slice none 0 0)) := (((((((PM.Bx.set g5 2 wP (.int .i64 0)).trans (PM.Bx.set g5 3 _ (.int .i64 0))).trans (PM.Bx.set g5 4 _ (.int .u64 0))).trans (PM.Bx.set g5 5 _ (.int .u64 0))).trans (PM.Bx.set g5 6 _ (.int .i64 0))).trans (PM.Bx.set g5 7 _ (.int .u64 0))).trans (PM.Bx.set g5 8 _ (.slice none 0 0))).trans (PM.Bx.set g5 9 _ (.slice none 0 0))
    generalize ((((((((wP.setCell ⟨g5, 2, none⟩ (.int .i64 0)).setCell ⟨g5, 3, none⟩ (.int .i64 0)).setCell ⟨g5, 4, none⟩ (.int .u64 0)).setCell ⟨g5, 5, none⟩ (.int .u64 0)).setCell ⟨g5, 6, none⟩ (.int .i64 0)).setCell ⟨g5, 7, none⟩ (.int .u64 0)).setCell ⟨g5, 8, none⟩ (.slice none 0 0)).setCell ⟨g5, 9, none⟩ (.slice none 0 0)) = wA at *
    replace hZ := hZ.keepx hxs hg25
    replace hB := PM.hid (hxs.below hB.out hg5w hB.out.size)
    clear hxs kn hX
    clear f2 t2 f3 t3 f4 t4 f5 t5 f6 t6 f7 t7 f8 t8 f9 t9
    have z0 := hZ.cell 0
    have f0 := hZ.free 0
    have z1 := hZ.cell 1
    have f1 := hZ.free 1
    have z2 := hZ.cell 2
    have f2 := hZ.free 2
    have z3 := hZ.cell 3
    have f3 := hZ.free 3
    have z4 := hZ.cell 4
    have f4 := hZ.free 4
    have z5 := hZ.cell 5
    have f5 := hZ.free 5
    have z6 := hZ.cell 6
    have f6 := hZ.free 6
    have z7 := hZ.cell 7
    have f7 := hZ.free 7
    have z8 := hZ.cell 8
    have f8 := hZ.free 8
    have z9 := hZ.cell 9
    have f9 := hZ.free 9
    have z10 := hZ.cell 10
    have f10 := hZ.free 10
    have z11 := hZ.cell 11
    have f11 := hZ.free 11
    have z12 := hZ.cell 12
    have f12 := hZ.free 12
    go_wp2
    have ZF := hZ.set13 (.int .i64 0) (.int .u64 0) (.int .i64 0) (.int .i64 0) (.int .u64 0) (.int .u64 0) (.int .i64 0) (.int .u64 0) (.slice none 0 0) (.slice none 0 0) (.int .i64 0) (.int .u64 0) (.int .u64 0)
    have hxf := PM.Bx.set13 g2 wA (.int .i64 0) (.int .u64 0) (.int .i64 0) (.int .i64 0) (.int .u64 0) (.int .u64 0) (.int .i64 0) (.int .u64 0) (.slice none 0 0) (.slice none 0 0) (.int .i64 0) (.int .u64 0) (.int .u64 0)
    generalize (((((((((((((wA.setCell ⟨g2, 0, none⟩ (.int .i64 0)).setCell ⟨g2, 1, none⟩ (.int .u64 0)).setCell ⟨g2, 2, none⟩ (.int .i64 0)).setCell ⟨g2, 3, none⟩ (.int .i64 0)).setCell ⟨g2, 4, none⟩ (.int .u64 0)).setCell ⟨g2, 5, none⟩ (.int .u64 0)).setCell ⟨g2, 6, none⟩ (.int .i64 0)).setCell ⟨g2, 7, none⟩ (.int .u64 0)).setCell ⟨g2, 8, none⟩ (.slice none 0 0)).setCell ⟨g2, 9, none⟩ (.slice none 0 0)).setCell ⟨g2, 10, none⟩ (.int .i64 0)).setCell ⟨g2, 11, none⟩ (.int .u64 0)).setCell ⟨g2, 12, none⟩ (.int .u64 0)) = wf at *
    have q0 := ZF.cell 0
    have q1 := ZF.cell 1
    have q2 := ZF.cell 2
    have q3 := ZF.cell 3
    have q4 := ZF.cell 4
    have q5 := ZF.cell 5
    have q6 := ZF.cell 6
    have q7 := ZF.cell 7
    have q8 := ZF.cell 8
    have q9 := ZF.cell 9
    have q10 := ZF.cell 10
    have q11 := ZF.cell 11
    have q12 := ZF.cell 12
    refine bodyPost_ret (v := .tuple #[.agg #[.int .i64 0, .int .u64 0, .int .i64 0, .int .i64 0, .int .u64 0, .int .u64 0, .int .i64 0, .int .u64 0, .slice none 0 0, .slice none 0 0, .int .i64 0, .int .u64 0, .int .u64 0], .int .i64 110]) (by simp [results, Try.results20, go_sem, q0, q1, q2, q3, q4, q5, q6, q7, q8, q9, q10, q11, q12]) rfl ?_
    exact ⟨PM.Rc0, .slice none 0 0, .slice none 0 0, 110, rfl, .inr ⟨rfl, hDn.out, rfl, rfl, rfl⟩, PM.OM.nilrow _, PM.OEv.nil _, hxf.below hB.out hg2w hB.out.size⟩
set_option maxRecDepth 100000 in
set_option maxHeartbeats 16000000 in
theorem unpack_3 (v : Value) (l : List UInt8) (w : World) (hv : PM.BS w v l) (hl : l.length ≤ 70368744177664) (hk : PM.sm (PM.stepN l false).1 = 3) :
    Calls Try.prog 20 #[v] w (RetUN w l) := by
  obtain ⟨k, l1, wr1, s1⟩ : ∃ a b c, PM.stepN l false = (a, b, c) := ⟨_, _, _, rfl⟩
  obtain ⟨rn, l2, wr2, s2⟩ : ∃ a b c, PM.stepN l1 wr1 = (a, b, c) := ⟨_, _, _, rfl⟩
  have hDE := PM.hid (PM.decRc_eq s1 s2)
  have p1 := (PM.stepN_lt l false).2
  have p2 := PM.stepN_lt l1 wr1
  have hN1 := fun (b : Nat) (W : World) (h : PM.RD 102 W b l false) => small_any b l false W h
  have hN2 := fun (b : Nat) (W : World) (h : PM.RD 102 W b l1 wr1) => rnumber_any b l1 wr1 W h
  rw [s1] at p1 hN1 hk
  rw [s2] at p2 hN2
  have hkw := PM.sm_wf k
  simp only at p1 p2 hN1 hN2 hk
  obtain ⟨hn64, p2⟩ := p2
  clear s1 s2
  generalize PM.sm k = rk at *
  replace hk := PM.hid hk
  obtain ⟨g2, hg2⟩ : ∃ g, g = w.heap.size := ⟨_, rfl⟩
  obtain ⟨W0, hW0⟩ : ∃ W, W = w.alloc (.cells #[.int .i64 0, .int .u64 0, .int .i64 0, .int .i64 0, .int .u64 0, .int .u64 0, .int .i64 0, .int .u64 0, .slice none 0 0, .slice none 0 0, .int .i64 0, .int .u64 0, .int .u64 0] 46) := ⟨_, rfl⟩
  have hB0 : Below w.heap.size w W0 := by rw [hW0]; exact (Below.refl _ _).alloc (Nat.le_refl _) _
  have hZ : PM.BK W0 g2 #[.int .i64 0, .int .u64 0, .int .i64 0, .int .i64 0, .int .u64 0, .int .u64 0, .int .i64 0, .int .u64 0, .slice none 0 0, .slice none 0 0, .int .i64 0, .int .u64 0, .int .u64 0] 46 := by rw [hW0, hg2]; exact PM.BK.new _ _ _
  have hNw := new_any v l W0 (hv.keep hB0) hl
  obtain ⟨va, vc, hve⟩ := hv.len
  subst hve
  have hg2w : w.heap.size ≤ g2 := by omega
  clear hv
  go_enter Try.func20, Try.ntmps20
  go_upto_region 1 with fail
  rw [← hW0, ← hg2]
  clear hW0 hg2
  go_wp2_with fail
  refine hNw.mono ?_
  clear hNw
  rintro e w1 ⟨b, rfl, hb0, hr, hB1⟩
  have hg2b : g2 ≠ b := by have := hZ.lt; omega
  have hbw : w.heap.size ≤ b := by have := hB0.size; omega
  replace hZ := hZ.keep hB1
  have hB := PM.hid (PM.chain hB0 hB1)
  clear hB0 hB1 hb0
  go_wp2_with fail
  refine (hN1 b w1 hr).mono ?_
  clear hN1
  rintro e w2 ⟨rfl, hr2, hx2⟩
  replace hZ := hZ.keepx hx2 hg2b
  replace hB := PM.hid (hx2.below hB.out hbw hB.out.size)
  clear hx2 hr
  go_upto_region 3 with fail
  obtain ⟨g5, hg5⟩ : ∃ g, g = w2.heap.size := ⟨_, rfl⟩
  obtain ⟨W2, hW2⟩ : ∃ W, W = w2.alloc (.cells #[.int .i64 rk, .int .u64 0, .int .i64 0, .int .i64 0, .int .u64 0, .int .u64 0, .int .i64 0, .int .u64 0, .slice none 0 0, .slice none 0 0, .int .i64 0, .int .u64 0, .int .u64 0] 46) := ⟨_, rfl⟩
  have hB2 : Below w2.heap.size w2 W2 := by rw [hW2]; exact (Below.refl _ _).alloc (Nat.le_refl _) _
  have hX : PM.BK W2 g5 #[.int .i64 rk, .int .u64 0, .int .i64 0, .int .i64 0, .int .u64 0, .int .u64 0, .int .i64 0, .int .u64 0, .slice none 0 0, .slice none 0 0, .int .i64 0, .int .u64 0, .int .u64 0] 46 := by rw [hW2, hg5]; exact PM.BK.new _ _ _
  have hg5b : g5 ≠ b := by have := hr2.lt; omega
  have hg25 : g2 ≠ g5 := by have := hZ.lt; omega
  have hg5w : w.heap.size ≤ g5 := by have := hB.out.size; omega
  replace hr2 := hr2.keep hB2
  replace hZ := hZ.keep hB2
  replace hB := PM.hid (PM.chain hB.out hB2)
  rw [← hW2, ← hg5]
  clear hW2 hg5 hB2
  go_wp2_with fail
  refine (hN2 b W2 hr2).mono ?_
  clear hN2
  rintro e w3 ⟨rfl, hr3, hx3⟩
  replace hZ := hZ.keepx hx3 hg2b
  replace hX := hX.keepx hx3 hg5b
  replace hB := PM.hid (hx3.below hB.out hbw hB.out.size)
  clear hx3 hr2
  have f1 := hX.free 1
  have t1 := hX.cell 1
  go_upto_region 4 with fail
  have kn := hX.set 1 (.int .u64 (rn : Int))
  replace kn : PM.BK (w3.setCell ⟨g5, 1, none⟩ (.int .u64 (rn : Int))) g5 #[.int .i64 rk, .int .u64 (rn : Int), .int .i64 0, .int .i64 0, .int .u64 0, .int .u64 0, .int .i64 0, .int .u64 0, .slice none 0 0, .slice none 0 0, .int .i64 0, .int .u64 0, .int .u64 0] 46 := by simpa using kn
  have hxs : PM.Bx g5 w3 (w3.setCell ⟨g5, 1, none⟩ (.int .u64 (rn : Int))) := PM.Bx.set g5 1 w3 (.int .u64 (rn : Int))
  generalize (w3.setCell ⟨g5, 1, none⟩ (.int .u64 (rn : Int))) = w4 at *
  replace hZ := hZ.keepx hxs hg25
  have hr := PM.RD.keepy hxs (Ne.symm hg5b) hX (PM.rc_nobyte _ _ _ _ _ _ _ _ _ _ _ rfl rfl) hr3
  replace hB := PM.hid (hxs.below hB.out hg5w hB.out.size)
  replace hX := kn
  clear hxs kn hr3
  clear f1 t1
  replace hk := hk.out
  subst hk
  have hby := rbytes_any b l2 wr2 (l.length : Int) w4 hr (by omega) (by omega) (by omega)
  have hSl := PM.stepB_lt l2 wr2 (l.length : Int)
  have hD0 : Hid (PM.decRc l = PM.decR2 3 rn (PM.stepB l2 wr2 (l.length : Int))) := PM.hid (by rw [hDE.out]; unfold PM.decRK; rw [if_pos (by decide)])
  generalize PM.stepB l2 wr2 (l.length : Int) = S at *
  obtain ⟨m, l', wr'⟩ := S
  simp only at hby hSl
  clear hDE
  have c0 : w4.cell? ⟨g5, 0, none⟩ = some (.int .i64 3) := hX.cell 0
  have c1 : w4.cell? ⟨g5, 1, none⟩ = some (.int .u64 (rn : Int)) := hX.cell 1
  have c2 : w4.cell? ⟨g5, 2, none⟩ = some (.int .i64 0) := hX.cell 2
  have c3 : w4.cell? ⟨g5, 3, none⟩ = some (.int .i64 0) := hX.cell 3
  have c4 : w4.cell? ⟨g5, 4, none⟩ = some (.int .u64 0) := hX.cell 4
  have c5 : w4.cell? ⟨g5, 5, none⟩ = some (.int .u64 0) := hX.cell 5
  have c6 : w4.cell? ⟨g5, 6, none⟩ = some (.int .i64 0) := hX.cell 6
  have c7 : w4.cell? ⟨g5, 7, none⟩ = some (.int .u64 0) := hX.cell 7
  have c8 : w4.cell? ⟨g5, 8, none⟩ = some (.slice none 0 0) := hX.cell 8
  have c9 : w4.cell? ⟨g5, 9, none⟩ = some (.slice none 0 0) := hX.cell 9
  have c10 : w4.cell? ⟨g5, 10, none⟩ = some (.int .i64 0) := hX.cell 10
  have c11 : w4.cell? ⟨g5, 11, none⟩ = some (.int .u64 0) := hX.cell 11
  have c12 : w4.cell? ⟨g5, 12, none⟩ = some (.int .u64 0) := hX.cell 12
  go_wp2_with fail
  refine hby.mono ?_
  clear hby c0 c1 c2 c3 c4 c5 c6 c7 c8 c9 c10 c11 c12
  rintro e w9 ⟨vm, rfl, hm, hr9, hx9⟩
  replace hZ := hZ.keepx hx9 hg2b
  replace hX := hX.keepx hx9 hg5b
  replace hB := PM.hid (hx9.below hB.out hbw hB.out.size)
  clear hx9 hr
  have hfd := endecode_any vm m w9 hm.bs (by omega)
  clear hm
  have c0 : w9.cell? ⟨g5, 0, none⟩ = some (.int .i64 3) := hX.cell 0
  have c1 : w9.cell? ⟨g5, 1, none⟩ = some (.int .u64 (rn : Int)) := hX.cell 1
  have c2 : w9.cell? ⟨g5, 2, none⟩ = some (.int .i64 0) := hX.cell 2
  have c3 : w9.cell? ⟨g5, 3, none⟩ = some (.int .i64 0) := hX.cell 3
  have c4 : w9.cell? ⟨g5, 4, none⟩ = some (.int .u64 0) := hX.cell 4
  have c5 : w9.cell? ⟨g5, 5, none⟩ = some (.int .u64 0) := hX.cell 5
  have c6 : w9.cell? ⟨g5, 6, none⟩ = some (.int .i64 0) := hX.cell 6
  have c7 : w9.cell? ⟨g5, 7, none⟩ = some (.int .u64 0) := hX.cell 7
  have c8 : w9.cell? ⟨g5, 8, none⟩ = some (.slice none 0 0) := hX.cell 8
  have c9 : w9.cell? ⟨g5, 9, none⟩ = some (.slice none 0 0) := hX.cell 9
  have c10 : w9.cell? ⟨g5, 10, none⟩ = some (.int .i64 0) := hX.cell 10
  have c11 : w9.cell? ⟨g5, 11, none⟩ = some (.int .u64 0) := hX.cell 11
  have c12 : w9.cell? ⟨g5, 12, none⟩ = some (.int .u64 0) := hX.cell 12
  go_wp2_with fail
  refine hfd.mono ?_
  clear hfd c0 c1 c2 c3 c4 c5 c6 c7 c8 c9 c10 c11 c12
  rintro e wP ⟨x, vf, ve, n, rfl, hcase, hO, hE, hBP⟩
  replace hO := hO.mono hB.out.size
  replace hE := hE.mono hB.out.size
  replace hZ := hZ.keep hBP
  replace hX := hX.keep hBP
  replace hr9 := hr9.keep hBP
  replace hB := PM.hid (PM.chain hB.out hBP)
  clear hBP
  have f2 := hX.free 2
  have t2 := hX.cell 2
  have f3 := hX.free 3
  have t3 := hX.cell 3
  have f4 := hX.free 4
  have t4 := hX.cell 4
  have f5 := hX.free 5
  have t5 := hX.cell 5
  have f6 := hX.free 6
  have t6 := hX.cell 6
  have f7 := hX.free 7
  have t7 := hX.cell 7
  have f8 := hX.free 8
  have t8 := hX.cell 8
  have f9 := hX.free 9
  have t9 := hX.cell 9
  rcases hcase with ⟨rfl, hdx⟩ | ⟨rfl, hdx, rfl, rfl, rfl⟩
  · obtain ⟨ek, ⟨eb, el, eq⟩, ec, eu, fi, ev⟩ := x
    have hD : Hid (PM.decRc l = PM.finR ⟨3, rn, ⟨ek, ⟨eb, el, eq⟩, ec, eu, fi, ev⟩, PM.Id0⟩ l' wr') := PM.hid (by rw [hD0.out]; unfold PM.decR2; simp only [hdx])
    have hew := (PM.decEn_back hdx).2.2
    simp only at hO hE
    obtain ⟨fa, fc, hf⟩ := (hO.em PM.teL_len).len
    obtain ⟨ea, eac, he⟩ := hE.len
    subst hf he
    clear hdx hD0
    replace hew := PM.hid hew
    simp only [PM.enC]
    go_upto_region 12 with fail
    have kn := (((((((hX.set 2 (.int .i64 ek)).set 3 (.int .i64 eb)).set 4 (.int .u64 (el : Int))).set 5 (.int .u64 (eq : Int))).set 6 (.int .i64 ec)).set 7 (.int .u64 (eu : Int))).set 8 (.slice fa fi.length fc)).set 9 (.slice ea ev.length eac)
    replace kn : PM.BK ((((((((wP.setCell ⟨g5, 2, none⟩ (.int .i64 ek)).setCell ⟨g5, 3, none⟩ (.int .i64 eb)).setCell ⟨g5, 4, none⟩ (.int .u64 (el : Int))).setCell ⟨g5, 5, none⟩ (.int .u64 (eq : Int))).setCell ⟨g5, 6, none⟩ (.int .i64 ec)).setCell ⟨g5, 7, none⟩ (.int .u64 (eu : Int))).setCell ⟨g5, 8, none⟩ (.slice fa fi.length fc)).setCell ⟨g5, 9, none⟩ (.slice ea ev.length eac)) g5 #[.int .i64 3, .int .u64 (rn : Int), .int .i64 ek, .int .i64 eb, .int .u64 (el : Int), .int .u64 (eq : Int), .int .i64 ec, .int .u64 (eu : Int), .slice fa fi.length fc, .slice ea ev.length eac, .int .i64 0, .int .u64 0, .int .u64 0] 46 := by simpa using kn
    have hxs : PM.Bx g5 wP ((((((((wP.setCell ⟨g5, 2, none⟩ (.int .i64 ek)).setCell ⟨g5, 3, none⟩ (.int .i64 eb)).setCell ⟨g5, 4, none⟩ (.int .u64 (el : Int))).setCell ⟨g5, 5, none⟩ (.int .u64 (eq : Int))).setCell ⟨g5, 6, none⟩ (.int .i64 ec)).setCell ⟨g5, 7, none⟩ (.int .u64 (eu : Int))).setCell ⟨g5, 8, none⟩ (.slice fa fi.length fc)).setCell ⟨g5, 9, none⟩ (.slice ea ev.length eac)) := (((((((PM.Bx.set g5 2 wP (.int .i64 ek)).trans (PM.Bx.set g5 3 _ (.int .i64 eb))).trans (PM.Bx.set g5 4 _ (.int .u64 (el : Int)))).trans (PM.Bx.set g5 5 _ (.int .u64 (eq : Int)))).trans (PM.Bx.set g5 6 _ (.int .i64 ec))).trans (PM.Bx.set g5 7 _ (.int .u64 (eu : Int)))).trans (PM.Bx.set g5 8 _ (.slice fa fi.length fc))).trans (PM.Bx.set g5 9 _ (.slice ea ev.length eac))
    generalize ((((((((wP.setCell ⟨g5, 2, none⟩ (.int .i64 ek)).setCell ⟨g5, 3, none⟩ (.int .i64 eb)).setCell ⟨g5, 4, none⟩ (.int .u64 (el : Int))).setCell ⟨g5, 5, none⟩ (.int .u64 (eq : Int))).setCell ⟨g5, 6, none⟩ (.int .i64 ec)).setCell ⟨g5, 7, none⟩ (.int .u64 (eu : Int))).setCell ⟨g5, 8, none⟩ (.slice fa fi.length fc)).setCell ⟨g5, 9, none⟩ (.slice ea ev.length eac)) = wA at *
    replace hO := hO.keepx hxs hX (by decide)
    replace hE := hE.keepx hxs hX (by decide) (by decide)
    replace hZ := hZ.keepx hxs hg25
    have hr := PM.RD.keepy hxs (Ne.symm hg5b) hX (PM.rc_nobyte _ _ _ _ _ _ _ _ _ _ _ rfl rfl) hr9
    replace hB := PM.hid (hxs.below hB.out hg5w hB.out.size)
    replace hX := kn
    clear hxs kn hr9
    clear f2 t2 f3 t3 f4 t4 f5 t5 f6 t6 f7 t7 f8 t8 f9 t9
    have hdn := done_any b l' wr' wA hr
    by_cases hdone : wr' = false ∧ l' = []
    case neg =>
      have hDn : Hid (PM.decRc l = none) := PM.hid (by rw [hD.out]; exact PM.finR_no fun h => hdone ⟨h.1, h.2.1⟩)
      have hdf : (!wr' && decide (l' = [])) = false := by
        cases wr' <;> simp at hdone ⊢
        exact hdone
      rw [hdf] at hdn
      clear hdone hdf
      have c0 : wA.cell? ⟨g5, 0, none⟩ = some (.int .i64 3) := hX.cell 0
      have c1 : wA.cell? ⟨g5, 1, none⟩ = some (.int .u64 (rn : Int)) := hX.cell 1
      have c2 : wA.cell? ⟨g5, 2, none⟩ = some (.int .i64 ek) := hX.cell 2
      have c3 : wA.cell? ⟨g5, 3, none⟩ = some (.int .i64 eb) := hX.cell 3
      have c4 : wA.cell? ⟨g5, 4, none⟩ = some (.int .u64 (el : Int)) := hX.cell 4
      have c5 : wA.cell? ⟨g5, 5, none⟩ = some (.int .u64 (eq : Int)) := hX.cell 5
      have c6 : wA.cell? ⟨g5, 6, none⟩ = some (.int .i64 ec) := hX.cell 6
      have c7 : wA.cell? ⟨g5, 7, none⟩ = some (.int .u64 (eu : Int)) := hX.cell 7
      have c8 : wA.cell? ⟨g5, 8, none⟩ = some (.slice fa fi.length fc) := hX.cell 8
      have c9 : wA.cell? ⟨g5, 9, none⟩ = some (.slice ea ev.length eac) := hX.cell 9
      have c10 : wA.cell? ⟨g5, 10, none⟩ = some (.int .i64 0) := hX.cell 10
      have c11 : wA.cell? ⟨g5, 11, none⟩ = some (.int .u64 0) := hX.cell 11
      have c12 : wA.cell? ⟨g5, 12, none⟩ = some (.int .u64 0) := hX.cell 12
      go_wp2_with fail
      refine hdn.mono ?_
      clear hdn
      rintro e wd ⟨rfl, rfl⟩
      clear c0 c1 c2 c3 c4 c5 c6 c7 c8 c9 c10 c11 c12
      have z0 := hZ.cell 0
      have f0 := hZ.free 0
      have z1 := hZ.cell 1
      have f1 := hZ.free 1
      have z2 := hZ.cell 2
      have f2 := hZ.free 2
      have z3 := hZ.cell 3
      have f3 := hZ.free 3
      have z4 := hZ.cell 4
      have f4 := hZ.free 4
      have z5 := hZ.cell 5
      have f5 := hZ.free 5
      have z6 := hZ.cell 6
      have f6 := hZ.free 6
      have z7 := hZ.cell 7
      have f7 := hZ.free 7
      have z8 := hZ.cell 8
      have f8 := hZ.free 8
      have z9 := hZ.cell 9
      have f9 := hZ.free 9
      have z10 := hZ.cell 10
      have f10 := hZ.free 10
      have z11 := hZ.cell 11
      have f11 := hZ.free 11
      have z12 := hZ.cell 12
      have f12 := hZ.free 12
      go_wp2
      have ZF := hZ.set13 (.int .i64 0) (.int .u64 0) (.int .i64 0) (.int .i64 0) (.int .u64 0) (.int .u64 0) (.int .i64 0) (.int .u64 0) (.slice none 0 0) (.slice none 0 0) (.int .i64 0) (.int .u64 0) (.int .u64 0)
      have hxf := PM.Bx.set13 g2 wA (.int .i64 0) (.int .u64 0) (.int .i64 0) (.int .i64 0) (.int .u64 0) (.int .u64 0) (.int .i64 0) (.int .u64 0) (.slice none 0 0) (.slice none 0 0) (.int .i64 0) (.int .u64 0) (.int .u64 0)
      generalize (((((((((((((wA.setCell ⟨g2, 0, none⟩ (.int .i64 0)).setCell ⟨g2, 1, none⟩ (.int .u64 0)).setCell ⟨g2, 2, none⟩ (.int .i64 0)).setCell ⟨g2, 3, none⟩ (.int .i64 0)).setCell ⟨g2, 4, none⟩ (.int .u64 0)).setCell ⟨g2, 5, none⟩ (.int .u64 0)).setCell ⟨g2, 6, none⟩ (.int .i64 0)).setCell ⟨g2, 7, none⟩ (.int .u64 0)).setCell ⟨g2, 8, none⟩ (.slice none 0 0)).setCell ⟨g2, 9, none⟩ (.slice none 0 0)).setCell ⟨g2, 10, none⟩ (.int .i64 0)).setCell ⟨g2, 11, none⟩ (.int .u64 0)).setCell ⟨g2, 12, none⟩ (.int .u64 0)) = wf at *
      have q0 := ZF.cell 0
      have q1 := ZF.cell 1
      have q2 := ZF.cell 2
      have q3 := ZF.cell 3
      have q4 := ZF.cell 4
      have q5 := ZF.cell 5
      have q6 := ZF.cell 6
      have q7 := ZF.cell 7
      have q8 := ZF.cell 8
      have q9 := ZF.cell 9
      have q10 := ZF.cell 10
      have q11 := ZF.cell 11
      have q12 := ZF.cell 12
      refine bodyPost_ret (v := .tuple #[.agg #[.int .i64 0, .int .u64 0, .int .i64 0, .int .i64 0, .int .u64 0, .int .u64 0, .int .i64 0, .int .u64 0, .slice none 0 0, .slice none 0 0, .int .i64 0, .int .u64 0, .int .u64 0], .int .i64 110]) (by simp [results, Try.results20, go_sem, q0, q1, q2, q3, q4, q5, q6, q7, q8, q9, q10, q11, q12]) rfl ?_
      exact ⟨PM.Rc0, .slice none 0 0, .slice none 0 0, 110, rfl, .inr ⟨rfl, hDn.out, rfl, rfl, rfl⟩, PM.OM.nilrow _, PM.OEv.nil _, hxf.below hB.out hg2w hB.out.size⟩
    obtain ⟨rfl, rfl⟩ := hdone
    have hdn' : Calls Try.prog 39 #[.pointer (some ⟨b, 0, none⟩)] wA fun e w' => e = .returned (.bool true) ∧ wA = w' := hdn
    clear hdn
    have hwfx : PM.Rc.wf ⟨3, rn, ⟨ek, ⟨eb, el, eq⟩, ec, eu, fi, ev⟩, PM.Id0⟩ := ⟨rfl, hn64, hew.out, PM.Id0_wf⟩
    have hck := record_any ⟨3, rn, ⟨ek, ⟨eb, el, eq⟩, ec, eu, fi, ev⟩, PM.Id0⟩ (.slice fa fi.length fc) (.slice ea ev.length eac) wA hwfx (hO.em PM.teL_len) hE.evl
    unfold PM.rcC PM.enC PM.idL at hck
    simp only [List.cons_append, List.nil_append] at hck
    have c0 : wA.cell? ⟨g5, 0, none⟩ = some (.int .i64 3) := hX.cell 0
    have c1 : wA.cell? ⟨g5, 1, none⟩ = some (.int .u64 (rn : Int)) := hX.cell 1
    have c2 : wA.cell? ⟨g5, 2, none⟩ = some (.int .i64 ek) := hX.cell 2
    have c3 : wA.cell? ⟨g5, 3, none⟩ = some (.int .i64 eb) := hX.cell 3
    have c4 : wA.cell? ⟨g5, 4, none⟩ = some (.int .u64 (el : Int)) := hX.cell 4
    have c5 : wA.cell? ⟨g5, 5, none⟩ = some (.int .u64 (eq : Int)) := hX.cell 5
    have c6 : wA.cell? ⟨g5, 6, none⟩ = some (.int .i64 ec) := hX.cell 6
    have c7 : wA.cell? ⟨g5, 7, none⟩ = some (.int .u64 (eu : Int)) := hX.cell 7
    have c8 : wA.cell? ⟨g5, 8, none⟩ = some (.slice fa fi.length fc) := hX.cell 8
    have c9 : wA.cell? ⟨g5, 9, none⟩ = some (.slice ea ev.length eac) := hX.cell 9
    have c10 : wA.cell? ⟨g5, 10, none⟩ = some (.int .i64 0) := hX.cell 10
    have c11 : wA.cell? ⟨g5, 11, none⟩ = some (.int .u64 0) := hX.cell 11
    have c12 : wA.cell? ⟨g5, 12, none⟩ = some (.int .u64 0) := hX.cell 12
    go_wp2_with fail
    refine hdn'.mono ?_
    clear hdn'
    rintro e wd ⟨rfl, rfl⟩
    go_wp2_with fail
    refine hck.mono ?_
    clear hck
    rintro e we ⟨hr', hBe⟩
    rcases hr' with ⟨rfl, hok⟩ | ⟨rfl, hok⟩
    case inr =>
      have hDn : Hid (PM.decRc l = none) := PM.hid (by rw [hD.out]; exact PM.finR_no fun h => hok h.2.2)
      clear hok
      replace hZ := hZ.keep hBe
      replace hB := PM.hid (PM.chain hB.out hBe)
      clear hBe c0 c1 c2 c3 c4 c5 c6 c7 c8 c9 c10 c11 c12
      have z0 := hZ.cell 0
      have f0 := hZ.free 0
      have z1 := hZ.cell 1
      have f1 := hZ.free 1
      have z2 := hZ.cell 2
      have f2 := hZ.free 2
      have z3 := hZ.cell 3
      have f3 := hZ.free 3
      have z4 := hZ.cell 4
      have f4 := hZ.free 4
      have z5 := hZ.cell 5
      have f5 := hZ.free 5
      have z6 := hZ.cell 6
      have f6 := hZ.free 6
      have z7 := hZ.cell 7
      have f7 := hZ.free 7
      have z8 := hZ.cell 8
      have f8 := hZ.free 8
      have z9 := hZ.cell 9
      have f9 := hZ.free 9
      have z10 := hZ.cell 10
      have f10 := hZ.free 10
      have z11 := hZ.cell 11
      have f11 := hZ.free 11
      have z12 := hZ.cell 12
      have f12 := hZ.free 12
      go_wp2
      have ZF := hZ.set13 (.int .i64 0) (.int .u64 0) (.int .i64 0) (.int .i64 0) (.int .u64 0) (.int .u64 0) (.int .i64 0) (.int .u64 0) (.slice none 0 0) (.slice none 0 0) (.int .i64 0) (.int .u64 0) (.int .u64 0)
      have hxf := PM.Bx.set13 g2 we (.int .i64 0) (.int .u64 0) (.int .i64 0) (.int .i64 0) (.int .u64 0) (.int .u64 0) (.int .i64 0) (.int .u64 0) (.slice none 0 0) (.slice none 0 0) (.int .i64 0) (.int .u64 0) (.int .u64 0)
      generalize (((((((((((((we.setCell ⟨g2, 0, none⟩ (.int .i64 0)).setCell ⟨g2, 1, none⟩ (.int .u64 0)).setCell ⟨g2, 2, none⟩ (.int .i64 0)).setCell ⟨g2, 3, none⟩ (.int .i64 0)).setCell ⟨g2, 4, none⟩ (.int .u64 0)).setCell ⟨g2, 5, none⟩ (.int .u64 0)).setCell ⟨g2, 6, none⟩ (.int .i64 0)).setCell ⟨g2, 7, none⟩ (.int .u64 0)).setCell ⟨g2, 8, none⟩ (.slice none 0 0)).setCell ⟨g2, 9, none⟩ (.slice none 0 0)).setCell ⟨g2, 10, none⟩ (.int .i64 0)).setCell ⟨g2, 11, none⟩ (.int .u64 0)).setCell ⟨g2, 12, none⟩ (.int .u64 0)) = wf at *
      have q0 := ZF.cell 0
      have q1 := ZF.cell 1
      have q2 := ZF.cell 2
      have q3 := ZF.cell 3
      have q4 := ZF.cell 4
      have q5 := ZF.cell 5
      have q6 := ZF.cell 6
      have q7 := ZF.cell 7
      have q8 := ZF.cell 8
      have q9 := ZF.cell 9
      have q10 := ZF.cell 10
      have q11 := ZF.cell 11
      have q12 := ZF.cell 12
      refine bodyPost_ret (v := .tuple #[.agg #[.int .i64 0, .int .u64 0, .int .i64 0, .int .i64 0, .int .u64 0, .int .u64 0, .int .i64 0, .int .u64 0, .slice none 0 0, .slice none 0 0, .int .i64 0, .int .u64 0, .int .u64 0], .int .i64 110]) (by simp [results, Try.results20, go_sem, q0, q1, q2, q3, q4, q5, q6, q7, q8, q9, q10, q11, q12]) rfl ?_
      exact ⟨PM.Rc0, .slice none 0 0, .slice none 0 0, 110, rfl, .inr ⟨rfl, hDn.out, rfl, rfl, rfl⟩, PM.OM.nilrow _, PM.OEv.nil _, hxf.below hB.out hg2w hB.out.size⟩
    have hDy : Hid (PM.decRc l = some ⟨3, rn, ⟨ek, ⟨eb, el, eq⟩, ec, eu, fi, ev⟩, PM.Id0⟩) := PM.hid (by rw [hD.out]; exact PM.finR_yes hok)
    clear hok
    replace hZ := hZ.keep hBe
    replace hX := hX.keep hBe
    replace hB := PM.hid (PM.chain hB.out hBe)
    have hfk := PM.hid (hO.keep hBe)
    have hok := PM.hid (hE.keep hBe)
    clear hBe c0 c1 c2 c3 c4 c5 c6 c7 c8 c9 c10 c11 c12
    have c0 : we.cell? ⟨g5, 0, none⟩ = some (.int .i64 3) := hX.cell 0
    have c1 : we.cell? ⟨g5, 1, none⟩ = some (.int .u64 (rn : Int)) := hX.cell 1
    have c2 : we.cell? ⟨g5, 2, none⟩ = some (.int .i64 ek) := hX.cell 2
    have c3 : we.cell? ⟨g5, 3, none⟩ = some (.int .i64 eb) := hX.cell 3
    have c4 : we.cell? ⟨g5, 4, none⟩ = some (.int .u64 (el : Int)) := hX.cell 4
    have c5 : we.cell? ⟨g5, 5, none⟩ = some (.int .u64 (eq : Int)) := hX.cell 5
    have c6 : we.cell? ⟨g5, 6, none⟩ = some (.int .i64 ec) := hX.cell 6
    have c7 : we.cell? ⟨g5, 7, none⟩ = some (.int .u64 (eu : Int)) := hX.cell 7
    have c8 : we.cell? ⟨g5, 8, none⟩ = some (.slice fa fi.length fc) := hX.cell 8
    have c9 : we.cell? ⟨g5, 9, none⟩ = some (.slice ea ev.length eac) := hX.cell 9
    have c10 : we.cell? ⟨g5, 10, none⟩ = some (.int .i64 0) := hX.cell 10
    have c11 : we.cell? ⟨g5, 11, none⟩ = some (.int .u64 0) := hX.cell 11
    have c12 : we.cell? ⟨g5, 12, none⟩ = some (.int .u64 0) := hX.cell 12
    have z0 := hZ.cell 0
    have f0 := hZ.free 0
    have z1 := hZ.cell 1
    have f1 := hZ.free 1
    have z2 := hZ.cell 2
    have f2 := hZ.free 2
    have z3 := hZ.cell 3
    have f3 := hZ.free 3
    have z4 := hZ.cell 4
    have f4 := hZ.free 4
    have z5 := hZ.cell 5
    have f5 := hZ.free 5
    have z6 := hZ.cell 6
    have f6 := hZ.free 6
    have z7 := hZ.cell 7
    have f7 := hZ.free 7
    have z8 := hZ.cell 8
    have f8 := hZ.free 8
    have z9 := hZ.cell 9
    have f9 := hZ.free 9
    have z10 := hZ.cell 10
    have f10 := hZ.free 10
    have z11 := hZ.cell 11
    have f11 := hZ.free 11
    have z12 := hZ.cell 12
    have f12 := hZ.free 12
    go_wp2
    have ZF := hZ.set13 (.int .i64 3) (.int .u64 (rn : Int)) (.int .i64 ek) (.int .i64 eb) (.int .u64 (el : Int)) (.int .u64 (eq : Int)) (.int .i64 ec) (.int .u64 (eu : Int)) (.slice fa fi.length fc) (.slice ea ev.length eac) (.int .i64 0) (.int .u64 0) (.int .u64 0)
    have hxf := PM.Bx.set13 g2 we (.int .i64 3) (.int .u64 (rn : Int)) (.int .i64 ek) (.int .i64 eb) (.int .u64 (el : Int)) (.int .u64 (eq : Int)) (.int .i64 ec) (.int .u64 (eu : Int)) (.slice fa fi.length fc) (.slice ea ev.length eac) (.int .i64 0) (.int .u64 0) (.int .u64 0)
    generalize (((((((((((((we.setCell ⟨g2, 0, none⟩ (.int .i64 3)).setCell ⟨g2, 1, none⟩ (.int .u64 (rn : Int))).setCell ⟨g2, 2, none⟩ (.int .i64 ek)).setCell ⟨g2, 3, none⟩ (.int .i64 eb)).setCell ⟨g2, 4, none⟩ (.int .u64 (el : Int))).setCell ⟨g2, 5, none⟩ (.int .u64 (eq : Int))).setCell ⟨g2, 6, none⟩ (.int .i64 ec)).setCell ⟨g2, 7, none⟩ (.int .u64 (eu : Int))).setCell ⟨g2, 8, none⟩ (.slice fa fi.length fc)).setCell ⟨g2, 9, none⟩ (.slice ea ev.length eac)).setCell ⟨g2, 10, none⟩ (.int .i64 0)).setCell ⟨g2, 11, none⟩ (.int .u64 0)).setCell ⟨g2, 12, none⟩ (.int .u64 0)) = wf at *
    have q0 := ZF.cell 0
    have q1 := ZF.cell 1
    have q2 := ZF.cell 2
    have q3 := ZF.cell 3
    have q4 := ZF.cell 4
    have q5 := ZF.cell 5
    have q6 := ZF.cell 6
    have q7 := ZF.cell 7
    have q8 := ZF.cell 8
    have q9 := ZF.cell 9
    have q10 := ZF.cell 10
    have q11 := ZF.cell 11
    have q12 := ZF.cell 12
    refine bodyPost_ret (v := .tuple #[.agg #[.int .i64 3, .int .u64 (rn : Int), .int .i64 ek, .int .i64 eb, .int .u64 (el : Int), .int .u64 (eq : Int), .int .i64 ec, .int .u64 (eu : Int), .slice fa fi.length fc, .slice ea ev.length eac, .int .i64 0, .int .u64 0, .int .u64 0], .int .i64 0]) (by simp [results, Try.results20, go_sem, q0, q1, q2, q3, q4, q5, q6, q7, q8, q9, q10, q11, q12]) rfl ?_
    exact ⟨⟨3, rn, ⟨ek, ⟨eb, el, eq⟩, ec, eu, fi, ev⟩, PM.Id0⟩, _, _, 0, rfl, .inl ⟨rfl, hDy.out⟩, hfk.out.keepx hxf hZ (by decide), hok.out.keepx hxf hZ (by decide) (by decide), hxf.below hB.out hg2w hB.out.size⟩
  · have hDn : Hid (PM.decRc l = none) := PM.hid (by rw [hD0.out]; unfold PM.decR2; simp only [hdx])
    clear hdx hD0 hO hE hr9
    simp only [PM.enC, PM.En0]
    go_upto_region 12 with fail
    have kn := (((((((hX.set 2 (.int .i64 0)).set 3 (.int .i64 0)).set 4 (.int .u64 0)).set 5 (.int .u64 0)).set 6 (.int .i64 0)).set 7 (.int .u64 0)).set 8 (.slice none 0 0)).set 9 (.slice none 0 0)
    replace kn : PM.BK ((((((((wP.setCell ⟨g5, 2, none⟩ (.int .i64 0)).setCell ⟨g5, 3, none⟩ (.int .i64 0)).setCell ⟨g5, 4, none⟩ (.int .u64 0)).setCell ⟨g5, 5, none⟩ (.int .u64 0)).setCell ⟨g5, 6, none⟩ (.int .i64 0)).setCell ⟨g5, 7, none⟩ (.int .u64 0)).setCell ⟨g5, 8, none⟩ (.slice none 0 0)).setCell ⟨g5, 9, none⟩ (.slice none 0 0)) g5 #[.int .i64 3, .int .u64 (rn : Int), .int .i64 0, .int .i64 0, .int .u64 0, .int .u64 0, .int .i64 0, .int .u64 0, .slice none 0 0, .slice none 0 0, .int .i64 0, .int .u64 0, .int .u64 0] 46 := by simpa using kn
    have hxs : PM.Bx g5 wP ((((((((wP.setCell ⟨g5, 2, none⟩ (.int .i64 0)).setCell ⟨g5, 3, none⟩ (.int .i64 0)).setCell ⟨g5, 4, none⟩ (.int .u64 0)).setCell ⟨g5, 5, none⟩ (.int .u64 0)).setCell ⟨g5, 6, none⟩ (.int .i64 0)).setCell ⟨g5, 7, none⟩ (.int .u64 0)).setCell ⟨g5, 8, none⟩ (.slice none 0 0)).setCell ⟨g5, 9, none⟩ (.slice none 0 0)) := (((((((PM.Bx.set g5 2 wP (.int .i64 0)).trans (PM.Bx.set g5 3 _ (.int .i64 0))).trans (PM.Bx.set g5 4 _ (.int .u64 0))).trans (PM.Bx.set g5 5 _ (.int .u64 0))).trans (PM.Bx.set g5 6 _ (.int .i64 0))).trans (PM.Bx.set g5 7 _ (.int .u64 0))).trans (PM.Bx.set g5 8 _ (.slice none 0 0))).trans (PM.Bx.set g5 9 _ (.slice none 0 0))
    generalize ((((((((wP.setCell ⟨g5, 2, none⟩ (.int .i64 0)).setCell ⟨g5, 3, none⟩ (.int .i64 0)).setCell ⟨g5, 4, none⟩ (.int .u64 0)).setCell ⟨g5, 5, none⟩ (.int .u64 0)).setCell ⟨g5, 6, none⟩ (.int .i64 0)).setCell ⟨g5, 7, none⟩ (.int .u64 0)).setCell ⟨g5, 8, none⟩ (.slice none 0 0)).setCell ⟨g5, 9, none⟩ (.slice none 0 0)) = wA at *
    replace hZ := hZ.keepx hxs hg25
    replace hB := PM.hid (hxs.below hB.out hg5w hB.out.size)
    clear hxs kn hX
    clear f2 t2 f3 t3 f4 t4 f5 t5 f6 t6 f7 t7 f8 t8 f9 t9
    have z0 := hZ.cell 0
    have f0 := hZ.free 0
    have z1 := hZ.cell 1
    have f1 := hZ.free 1
    have z2 := hZ.cell 2
    have f2 := hZ.free 2
    have z3 := hZ.cell 3
    have f3 := hZ.free 3
    have z4 := hZ.cell 4
    have f4 := hZ.free 4
    have z5 := hZ.cell 5
    have f5 := hZ.free 5
    have z6 := hZ.cell 6
    have f6 := hZ.free 6
    have z7 := hZ.cell 7
    have f7 := hZ.free 7
    have z8 := hZ.cell 8
    have f8 := hZ.free 8
    have z9 := hZ.cell 9
    have f9 := hZ.free 9
    have z10 := hZ.cell 10
    have f10 := hZ.free 10
    have z11 := hZ.cell 11
    have f11 := hZ.free 11
    have z12 := hZ.cell 12
    have f12 := hZ.free 12
    go_wp2
    have ZF := hZ.set13 (.int .i64 0) (.int .u64 0) (.int .i64 0) (.int .i64 0) (.int .u64 0) (.int .u64 0) (.int .i64 0) (.int .u64 0) (.slice none 0 0) (.slice none 0 0) (.int .i64 0) (.int .u64 0) (.int .u64 0)
    have hxf := PM.Bx.set13 g2 wA (.int .i64 0) (.int .u64 0) (.int .i64 0) (.int .i64 0) (.int .u64 0) (.int .u64 0) (.int .i64 0) (.int .u64 0) (.slice none 0 0) (.slice none 0 0) (.int .i64 0) (.int .u64 0) (.int .u64 0)
    generalize (((((((((((((wA.setCell ⟨g2, 0, none⟩ (.int .i64 0)).setCell ⟨g2, 1, none⟩ (.int .u64 0)).setCell ⟨g2, 2, none⟩ (.int .i64 0)).setCell ⟨g2, 3, none⟩ (.int .i64 0)).setCell ⟨g2, 4, none⟩ (.int .u64 0)).setCell ⟨g2, 5, none⟩ (.int .u64 0)).setCell ⟨g2, 6, none⟩ (.int .i64 0)).setCell ⟨g2, 7, none⟩ (.int .u64 0)).setCell ⟨g2, 8, none⟩ (.slice none 0 0)).setCell ⟨g2, 9, none⟩ (.slice none 0 0)).setCell ⟨g2, 10, none⟩ (.int .i64 0)).setCell ⟨g2, 11, none⟩ (.int .u64 0)).setCell ⟨g2, 12, none⟩ (.int .u64 0)) = wf at *
    have q0 := ZF.cell 0
    have q1 := ZF.cell 1
    have q2 := ZF.cell 2
    have q3 := ZF.cell 3
    have q4 := ZF.cell 4
    have q5 := ZF.cell 5
    have q6 := ZF.cell 6
    have q7 := ZF.cell 7
    have q8 := ZF.cell 8
    have q9 := ZF.cell 9
    have q10 := ZF.cell 10
    have q11 := ZF.cell 11
    have q12 := ZF.cell 12
    refine bodyPost_ret (v := .tuple #[.agg #[.int .i64 0, .int .u64 0, .int .i64 0, .int .i64 0, .int .u64 0, .int .u64 0, .int .i64 0, .int .u64 0, .slice none 0 0, .slice none 0 0, .int .i64 0, .int .u64 0, .int .u64 0], .int .i64 110]) (by simp [results, Try.results20, go_sem, q0, q1, q2, q3, q4, q5, q6, q7, q8, q9, q10, q11, q12]) rfl ?_
    exact ⟨PM.Rc0, .slice none 0 0, .slice none 0 0, 110, rfl, .inr ⟨rfl, hDn.out, rfl, rfl, rfl⟩, PM.OM.nilrow _, PM.OEv.nil _, hxf.below hB.out hg2w hB.out.size⟩
end Go.Proofs.Ytphdadlpfjfeoaa
