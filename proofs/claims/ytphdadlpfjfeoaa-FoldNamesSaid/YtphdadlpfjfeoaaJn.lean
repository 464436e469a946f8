/-
  CONTRACT OF entry.Unpack: the other records; the whole.
-/
import Derived.Test.YtphdadlpfjfeoaaJl
namespace Go.Proofs.Ytphdadlpfjfeoaa
open Go.RowKit
set_option linter.unusedVariables false
set_option linter.unusedSimpArgs false
set_option maxRecDepth 100000 in
set_option maxHeartbeats 16000000 in
theorem unpack_4 (v : Value) (l : List UInt8) (w : World) (hv : PM.BS w v l) (hl : l.length ≤ 70368744177664) (hk : PM.sm (PM.stepN l false).1 = 4) :
    Calls Try.prog 20 #[v] w (RetUN w l) := by
  obtain ⟨k, l1, wr1, s1⟩ : ∃ a b c, PM.stepN l false = (a, b, c) := ⟨_, _, _, rfl⟩
  obtain ⟨rn, l2, wr2, s2⟩ : ∃ a b c, PM.stepN l1 wr1 = (a, b, c) := ⟨_, _, _, rfl⟩
  have hDE := PM.hid (PM.decRc_eq s1 s2)
  have p1 := (PM.stepN_lt l false).2
  have p2 := PM.stepN_lt l1 wr1
  have hN1 := fun (b : Nat) (W : World) (h : PM.RD 102 W b l false) => small_any b l false W h
  have hN2 := fun (b : Nat) (W : World) (h : PM.RD 102 W b l1 wr1) => rnumber_any b l1 wr1 W h
  rw [s1] at p1 hN1 hk
  rw [s2] at p2 hN2
  have hkw := PM.sm_wf k
  simp only at p1 p2 hN1 hN2 hk
  obtain ⟨hn64, p2⟩ := p2
  clear s1 s2
  generalize PM.sm k = rk at *
  replace hk := PM.hid hk
  obtain ⟨g2, hg2⟩ : ∃ g, g = w.heap.size := ⟨_, rfl⟩
  obtain ⟨W0, hW0⟩ : ∃ W, W = w.alloc (.cells #[.int .i64 0, .int .u64 0, .int .i64 0, .int .i64 0, .int .u64 0, .int .u64 0, .int .i64 0, .int .u64 0, .slice none 0 0, .slice none 0 0, .int .i64 0, .int .u64 0, .int .u64 0] 46) := ⟨_, rfl⟩
  have hB0 : Below w.heap.size w W0 := by rw [hW0]; exact (Below.refl _ _).alloc (Nat.le_refl _) _
  have hZ : PM.BK W0 g2 #[.int .i64 0, .int .u64 0, .int .i64 0, .int .i64 0, .int .u64 0, .int .u64 0, .int .i64 0, .int .u64 0, .slice none 0 0, .slice none 0 0, .int .i64 0, .int .u64 0, .int .u64 0] 46 := by rw [hW0, hg2]; exact PM.BK.new _ _ _
  have hNw := new_any v l W0 (hv.keep hB0) hl
  obtain ⟨va, vc, hve⟩ := hv.len
  subst hve
  have hg2w : w.heap.size ≤ g2 := by omega
  clear hv
  go_enter Try.func20, Try.ntmps20
  go_upto_region 1 with fail
  rw [← hW0, ← hg2]
  clear hW0 hg2
  go_wp2_with fail
  refine hNw.mono ?_
  clear hNw
  rintro e w1 ⟨b, rfl, hb0, hr, hB1⟩
  have hg2b : g2 ≠ b := by have := hZ.lt; omega
  have hbw : w.heap.size ≤ b := by have := hB0.size; omega
  replace hZ := hZ.keep hB1
  have hB := PM.hid (PM.chain hB0 hB1)
  clear hB0 hB1 hb0
  go_wp2_with fail
  refine (hN1 b w1 hr).mono ?_
  clear hN1
  rintro e w2 ⟨rfl, hr2, hx2⟩
  replace hZ := hZ.keepx hx2 hg2b
  replace hB := PM.hid (hx2.below hB.out hbw hB.out.size)
  clear hx2 hr
  go_upto_region 3 with fail
  obtain ⟨g5, hg5⟩ : ∃ g, g = w2.heap.size := ⟨_, rfl⟩
  obtain ⟨W2, hW2⟩ : ∃ W, W = w2.alloc (.cells #[.int .i64 rk, .int .u64 0, .int .i64 0, .int .i64 0, .int .u64 0, .int .u64 0, .int .i64 0, .int .u64 0, .slice none 0 0, .slice none 0 0, .int .i64 0, .int .u64 0, .int .u64 0] 46) := ⟨_, rfl⟩
  have hB2 : Below w2.heap.size w2 W2 := by rw [hW2]; exact (Below.refl _ _).alloc (Nat.le_refl _) _
  have hX : PM.BK W2 g5 #[.int .i64 rk, .int .u64 0, .int .i64 0, .int .i64 0, .int .u64 0, .int .u64 0, .int .i64 0, .int .u64 0, .slice none 0 0, .slice none 0 0, .int .i64 0, .int .u64 0, .int .u64 0] 46 := by rw [hW2, hg5]; exact PM.BK.new _ _ _
  have hg5b : g5 ≠ b := by have := hr2.lt; omega
  have hg25 : g2 ≠ g5 := by have := hZ.lt; omega
  have hg5w : w.heap.size ≤ g5 := by have := hB.out.size; omega
  replace hr2 := hr2.keep hB2
  replace hZ := hZ.keep hB2
  replace hB := PM.hid (PM.chain hB.out hB2)
  rw [← hW2, ← hg5]
  clear hW2 hg5 hB2
  go_wp2_with fail
  refine (hN2 b W2 hr2).mono ?_
  clear hN2
  rintro e w3 ⟨rfl, hr3, hx3⟩
  replace hZ := hZ.keepx hx3 hg2b
  replace hX := hX.keepx hx3 hg5b
  replace hB := PM.hid (hx3.below hB.out hbw hB.out.size)
  clear hx3 hr2
  have f1 := hX.free 1
  have t1 := hX.cell 1
  go_upto_region 4 with fail
  have kn := hX.set 1 (.int .u64 (rn : Int))
  replace kn : PM.BK (w3.setCell ⟨g5, 1, none⟩ (.int .u64 (rn : Int))) g5 #[.int .i64 rk, .int .u64 (rn : Int), .int .i64 0, .int .i64 0, .int .u64 0, .int .u64 0, .int .i64 0, .int .u64 0, .slice none 0 0, .slice none 0 0, .int .i64 0, .int .u64 0, .int .u64 0] 46 := by simpa using kn
  have hxs : PM.Bx g5 w3 (w3.setCell ⟨g5, 1, none⟩ (.int .u64 (rn : Int))) := PM.Bx.set g5 1 w3 (.int .u64 (rn : Int))
  generalize (w3.setCell ⟨g5, 1, none⟩ (.int .u64 (rn : Int))) = w4 at *
  replace hZ := hZ.keepx hxs hg25
  have hr := PM.RD.keepy hxs (Ne.symm hg5b) hX (PM.rc_nobyte _ _ _ _ _ _ _ _ _ _ _ rfl rfl) hr3
  replace hB := PM.hid (hxs.below hB.out hg5w hB.out.size)
  replace hX := kn
  clear hxs kn hr3
  clear f1 t1
  replace hk := hk.out
  subst hk
  have hir := idread_any b l2 wr2 w4 hr
  have hiw := PM.readI_wf l2 wr2
  have hD0 : Hid (PM.decRc l = PM.finR ⟨4, rn, PM.En0, (PM.readI l2 wr2).1⟩ (PM.readI l2 wr2).2.1 (PM.readI l2 wr2).2.2) := PM.hid (by rw [hDE.out]; unfold PM.decRK; rw [if_neg (by decide), if_pos (by decide)])
  generalize PM.readI l2 wr2 = S at *
  obtain ⟨⟨ib, il, is⟩, l', wr'⟩ := S
  simp only at hir hiw
  have hD : Hid (PM.decRc l = PM.finR ⟨4, rn, PM.En0, ⟨ib, il, is⟩⟩ l' wr') := PM.hid hD0.out
  clear hDE hD0
  have hw0 := hiw.2.1
  have hw1 := hiw.2.2
  simp only at hw0 hw1
  have c0 : w4.cell? ⟨g5, 0, none⟩ = some (.int .i64 4) := hX.cell 0
  have c1 : w4.cell? ⟨g5, 1, none⟩ = some (.int .u64 (rn : Int)) := hX.cell 1
  have c2 : w4.cell? ⟨g5, 2, none⟩ = some (.int .i64 0) := hX.cell 2
  have c3 : w4.cell? ⟨g5, 3, none⟩ = some (.int .i64 0) := hX.cell 3
  have c4 : w4.cell? ⟨g5, 4, none⟩ = some (.int .u64 0) := hX.cell 4
  have c5 : w4.cell? ⟨g5, 5, none⟩ = some (.int .u64 0) := hX.cell 5
  have c6 : w4.cell? ⟨g5, 6, none⟩ = some (.int .i64 0) := hX.cell 6
  have c7 : w4.cell? ⟨g5, 7, none⟩ = some (.int .u64 0) := hX.cell 7
  have c8 : w4.cell? ⟨g5, 8, none⟩ = some (.slice none 0 0) := hX.cell 8
  have c9 : w4.cell? ⟨g5, 9, none⟩ = some (.slice none 0 0) := hX.cell 9
  have c10 : w4.cell? ⟨g5, 10, none⟩ = some (.int .i64 0) := hX.cell 10
  have c11 : w4.cell? ⟨g5, 11, none⟩ = some (.int .u64 0) := hX.cell 11
  have c12 : w4.cell? ⟨g5, 12, none⟩ = some (.int .u64 0) := hX.cell 12
  go_wp2_with fail
  refine hir.mono ?_
  clear hir c0 c1 c2 c3 c4 c5 c6 c7 c8 c9 c10 c11 c12
  rintro e w9 ⟨rfl, hr9, hx9⟩
  replace hZ := hZ.keepx hx9 hg2b
  replace hX := hX.keepx hx9 hg5b
  replace hB := PM.hid (hx9.below hB.out hbw hB.out.size)
  clear hx9 hr
  have f10 := hX.free 10
  have t10 := hX.cell 10
  have f11 := hX.free 11
  have t11 := hX.cell 11
  have f12 := hX.free 12
  have t12 := hX.cell 12
  go_upto_region 12 with fail
  have kn := ((hX.set 10 (.int .i64 ib)).set 11 (.int .u64 (il : Int))).set 12 (.int .u64 (is : Int))
  replace kn : PM.BK (((w9.setCell ⟨g5, 10, none⟩ (.int .i64 ib)).setCell ⟨g5, 11, none⟩ (.int .u64 (il : Int))).setCell ⟨g5, 12, none⟩ (.int .u64 (is : Int))) g5 #[.int .i64 4, .int .u64 (rn : Int), .int .i64 0, .int .i64 0, .int .u64 0, .int .u64 0, .int .i64 0, .int .u64 0, .slice none 0 0, .slice none 0 0, .int .i64 ib, .int .u64 (il : Int), .int .u64 (is : Int)] 46 := by simpa using kn
  have hxs : PM.Bx g5 w9 (((w9.setCell ⟨g5, 10, none⟩ (.int .i64 ib)).setCell ⟨g5, 11, none⟩ (.int .u64 (il : Int))).setCell ⟨g5, 12, none⟩ (.int .u64 (is : Int))) := ((PM.Bx.set g5 10 w9 (.int .i64 ib)).trans (PM.Bx.set g5 11 _ (.int .u64 (il : Int)))).trans (PM.Bx.set g5 12 _ (.int .u64 (is : Int)))
  generalize (((w9.setCell ⟨g5, 10, none⟩ (.int .i64 ib)).setCell ⟨g5, 11, none⟩ (.int .u64 (il : Int))).setCell ⟨g5, 12, none⟩ (.int .u64 (is : Int))) = wA at *
  replace hZ := hZ.keepx hxs hg25
  have hr := PM.RD.keepy hxs (Ne.symm hg5b) hX (PM.rc_nobyte _ _ _ _ _ _ _ _ _ _ _ rfl rfl) hr9
  replace hB := PM.hid (hxs.below hB.out hg5w hB.out.size)
  replace hX := kn
  clear hxs kn hr9
  clear f10 t10 f11 t11 f12 t12
  have hdn := done_any b l' wr' wA hr
  by_cases hdone : wr' = false ∧ l' = []
  case neg =>
    have hDn : Hid (PM.decRc l = none) := PM.hid (by rw [hD.out]; exact PM.finR_no fun h => hdone ⟨h.1, h.2.1⟩)
    have hdf : (!wr' && decide (l' = [])) = false := by
      cases wr' <;> simp at hdone ⊢
      exact hdone
    rw [hdf] at hdn
    clear hdone hdf
    have c0 : wA.cell? ⟨g5, 0, none⟩ = some (.int .i64 4) := hX.cell 0
    have c1 : wA.cell? ⟨g5, 1, none⟩ = some (.int .u64 (rn : Int)) := hX.cell 1
    have c2 : wA.cell? ⟨g5, 2, none⟩ = some (.int .i64 0) := hX.cell 2
    have c3 : wA.cell? ⟨g5, 3, none⟩ = some (.int .i64 0) := hX.cell 3
    have c4 : wA.cell? ⟨g5, 4, none⟩ = some (.int .u64 0) := hX.cell 4
    have c5 : wA.cell? ⟨g5, 5, none⟩ = some (.int .u64 0) := hX.cell 5
    have c6 : wA.cell? ⟨g5, 6, none⟩ = some (.int .i64 0) := hX.cell 6
    have c7 : wA.cell? ⟨g5, 7, none⟩ = some (.int .u64 0) := hX.cell 7
    have c8 : wA.cell? ⟨g5, 8, none⟩ = some (.slice none 0 0) := hX.cell 8
    have c9 : wA.cell? ⟨g5, 9, none⟩ = some (.slice none 0 0) := hX.cell 9
    have c10 : wA.cell? ⟨g5, 10, none⟩ = some (.int .i64 ib) := hX.cell 10
    have c11 : wA.cell? ⟨g5, 11, none⟩ = some (.int .u64 (il : Int)) := hX.cell 11
    have c12 : wA.cell? ⟨g5, 12, none⟩ = some (.int .u64 (is : Int)) := hX.cell 12
    go_wp2_with fail
    refine hdn.mono ?_
    clear hdn
    rintro e wd ⟨rfl, rfl⟩
    clear c0 c1 c2 c3 c4 c5 c6 c7 c8 c9 c10 c11 c12
    have z0 := hZ.cell 0
    have f0 := hZ.free 0
    have z1 := hZ.cell 1
    have f1 := hZ.free 1
    have z2 := hZ.cell 2
    have f2 := hZ.free 2
    have z3 := hZ.cell 3
    have f3 := hZ.free 3
    have z4 := hZ.cell 4
    have f4 := hZ.free 4
    have z5 := hZ.cell 5
    have f5 := hZ.free 5
    have z6 := hZ.cell 6
    have f6 := hZ.free 6
    have z7 := hZ.cell 7
    have f7 := hZ.free 7
    have z8 := hZ.cell 8
    have f8 := hZ.free 8
    have z9 := hZ.cell 9
    have f9 := hZ.free 9
    have z10 := hZ.cell 10
    have f10 := hZ.free 10
    have z11 := hZ.cell 11
    have f11 := hZ.free 11
    have z12 := hZ.cell 12
    have f12 := hZ.free 12
    go_wp2
    have ZF := hZ.set13 (.int .i64 0) (.int .u64 0) (.int .i64 0) (.int .i64 0) (.int .u64 0) (.int .u64 0) (.int .i64 0) (.int .u64 0) (.slice none 0 0) (.slice none 0 0) (.int .i64 0) (.int .u64 0) (.int .u64 0)
    have hxf := PM.Bx.set13 g2 wA (.int .i64 0) (.int .u64 0) (.int .i64 0) (.int .i64 0) (.int .u64 0) (.int .u64 0) (.int .i64 0) (.int .u64 0) (.slice none 0 0) (.slice none 0 0) (.int .i64 0) (.int .u64 0) (.int .u64 0)
    generalize (((((((((((((wA.setCell ⟨g2, 0, none⟩ (.int .i64 0)).setCell ⟨g2, 1, none⟩ (.int .u64 0)).setCell ⟨g2, 2, none⟩ (.int .i64 0)).setCell ⟨g2, 3, none⟩ (.int .i64 0)).setCell ⟨g2, 4, none⟩ (.int .u64 0)).setCell ⟨g2, 5, none⟩ (.int .u64 0)).setCell ⟨g2, 6, none⟩ (.int .i64 0)).setCell ⟨g2, 7, none⟩ (.int .u64 0)).setCell ⟨g2, 8, none⟩ (.slice none 0 0)).setCell ⟨g2, 9, none⟩ (.slice none 0 0)).setCell ⟨g2, 10, none⟩ (.int .i64 0)).setCell ⟨g2, 11, none⟩ (.int .u64 0)).setCell ⟨g2, 12, none⟩ (.int .u64 0)) = wf at *
    have q0 := ZF.cell 0
    have q1 := ZF.cell 1
    have q2 := ZF.cell 2
    have q3 := ZF.cell 3
    have q4 := ZF.cell 4
    have q5 := ZF.cell 5
    have q6 := ZF.cell 6
    have q7 := ZF.cell 7
    have q8 := ZF.cell 8
    have q9 := ZF.cell 9
    have q10 := ZF.cell 10
    have q11 := ZF.cell 11
    have q12 := ZF.cell 12
    refine bodyPost_ret (v := .tuple #[.agg #[.int .i64 0, .int .u64 0, .int .i64 0, .int .i64 0, .int .u64 0, .int .u64 0, .int .i64 0, .int .u64 0, .slice none 0 0, .slice none 0 0, .int .i64 0, .int .u64 0, .int .u64 0], .int .i64 110]) (by simp [results, Try.results20, go_sem, q0, q1, q2, q3, q4, q5, q6, q7, q8, q9, q10, q11, q12]) rfl ?_
    exact ⟨PM.Rc0, .slice none 0 0, .slice none 0 0, 110, rfl, .inr ⟨rfl, hDn.out, rfl, rfl, rfl⟩, PM.OM.nilrow _, PM.OEv.nil _, hxf.below hB.out hg2w hB.out.size⟩
  obtain ⟨rfl, rfl⟩ := hdone
  have hdn' : Calls Try.prog 39 #[.pointer (some ⟨b, 0, none⟩)] wA fun e w' => e = .returned (.bool true) ∧ wA = w' := hdn
  clear hdn
  have hwfx : PM.Rc.wf ⟨4, rn, PM.En0, ⟨ib, il, is⟩⟩ := ⟨rfl, hn64, PM.En0_wf, hiw⟩
  have hck := record_any ⟨4, rn, PM.En0, ⟨ib, il, is⟩⟩ (.slice none 0 0) (.slice none 0 0) wA hwfx ((PM.OM.nilrow (e := PM.teL) (c := 5) (E := 114) (B := w.heap.size) wA).em PM.teL_len) (PM.OEv.nil (TE := 84) (TA := 112) (B := w.heap.size) wA).evl
  unfold PM.rcC PM.enC PM.idL at hck
  simp only [List.cons_append, List.nil_append] at hck
  have c0 : wA.cell? ⟨g5, 0, none⟩ = some (.int .i64 4) := hX.cell 0
  have c1 : wA.cell? ⟨g5, 1, none⟩ = some (.int .u64 (rn : Int)) := hX.cell 1
  have c2 : wA.cell? ⟨g5, 2, none⟩ = some (.int .i64 0) := hX.cell 2
  have c3 : wA.cell? ⟨g5, 3, none⟩ = some (.int .i64 0) := hX.cell 3
  have c4 : wA.cell? ⟨g5, 4, none⟩ = some (.int .u64 0) := hX.cell 4
  have c5 : wA.cell? ⟨g5, 5, none⟩ = some (.int .u64 0) := hX.cell 5
  have c6 : wA.cell? ⟨g5, 6, none⟩ = some (.int .i64 0) := hX.cell 6
  have c7 : wA.cell? ⟨g5, 7, none⟩ = some (.int .u64 0) := hX.cell 7
  have c8 : wA.cell? ⟨g5, 8, none⟩ = some (.slice none 0 0) := hX.cell 8
  have c9 : wA.cell? ⟨g5, 9, none⟩ = some (.slice none 0 0) := hX.cell 9
  have c10 : wA.cell? ⟨g5, 10, none⟩ = some (.int .i64 ib) := hX.cell 10
  have c11 : wA.cell? ⟨g5, 11, none⟩ = some (.int .u64 (il : Int)) := hX.cell 11
  have c12 : wA.cell? ⟨g5, 12, none⟩ = some (.int .u64 (is : Int)) := hX.cell 12
  go_wp2_with fail
  refine hdn'.mono ?_
  clear hdn'
  rintro e wd ⟨rfl, rfl⟩
  go_wp2_with fail
  refine hck.mono ?_
  clear hck
  rintro e we ⟨hr', hBe⟩
  rcases hr' with ⟨rfl, hok⟩ | ⟨rfl, hok⟩
  case inr =>
    have hDn : Hid (PM.decRc l = none) := PM.hid (by rw [hD.out]; exact PM.finR_no fun h => hok h.2.2)
    clear hok
    replace hZ := hZ.keep hBe
    replace hB := PM.hid (PM.chain hB.out hBe)
    clear hBe c0 c1 c2 c3 c4 c5 c6 c7 c8 c9 c10 c11 c12
    have z0 := hZ.cell 0
    have f0 := hZ.free 0
    have z1 := hZ.cell 1
    have f1 := hZ.free 1
    have z2 := hZ.cell 2
    have f2 := hZ.free 2
    have z3 := hZ.cell 3
    have f3 := hZ.free 3
    have z4 := hZ.cell 4
    have f4 := hZ.free 4
    have z5 := hZ.cell 5
    have f5 := hZ.free 5
    have z6 := hZ.cell 6
    have f6 := hZ.free 6
    have z7 := hZ.cell 7
    have f7 := hZ.free 7
    have z8 := hZ.cell 8
    have f8 := hZ.free 8
    have z9 := hZ.cell 9
    have f9 := hZ.free 9
    have z10 := hZ.cell 10
    have f10 := hZ.free 10
    have z11 := hZ.cell 11
    have f11 := hZ.free 11
    have z12 := hZ.cell 12
    have f12 := hZ.free 12
    go_wp2
    have ZF := hZ.set13 (.int .i64 0) (.int .u64 0) (.int .i64 0) (.int .i64 0) (.int .u64 0) (.int .u64 0) (.int .i64 0) (.int .u64 0) (.slice none 0 0) (.slice none 0 0) (.int .i64 0) (.int .u64 0) (.int .u64 0)
    have hxf := PM.Bx.set13 g2 we (.int .i64 0) (.int .u64 0) (.int .i64 0) (.int .i64 0) (.int .u64 0) (.int .u64 0) (.int .i64 0) (.int .u64 0) (.slice none 0 0) (.slice none 0 0) (.int .i64 0) (.int .u64 0) (.int .u64 0)
    generalize (((((((((((((we.setCell ⟨g2, 0, none⟩ (.int .i64 0)).setCell ⟨g2, 1, none⟩ (.int .u64 0)).setCell ⟨g2, 2, none⟩ (.int .i64 0)).setCell ⟨g2, 3, none⟩ (.int .i64 0)).setCell ⟨g2, 4, none⟩ (.int .u64 0)).setCell ⟨g2, 5, none⟩ (.int .u64 0)).setCell ⟨g2, 6, none⟩ (.int .i64 0)).setCell ⟨g2, 7, none⟩ (.int .u64 0)).setCell ⟨g2, 8, none⟩ (.slice none 0 0)).setCell ⟨g2, 9, none⟩ (.slice none 0 0)).setCell ⟨g2, 10, none⟩ (.int .i64 0)).setCell ⟨g2, 11, none⟩ (.int .u64 0)).setCell ⟨g2, 12, none⟩ (.int .u64 0)) = wf at *
    have q0 := ZF.cell 0
    have q1 := ZF.cell 1
    have q2 := ZF.cell 2
    have q3 := ZF.cell 3
    have q4 := ZF.cell 4
    have q5 := ZF.cell 5
    have q6 := ZF.cell 6
    have q7 := ZF.cell 7
    have q8 := ZF.cell 8
    have q9 := ZF.cell 9
    have q10 := ZF.cell 10
    have q11 := ZF.cell 11
    have q12 := ZF.cell 12
    refine bodyPost_ret (v := .tuple #[.agg #[.int .i64 0, .int .u64 0, .int .i64 0, .int .i64 0, .int .u64 0, .int .u64 0, .int .i64 0, .int .u64 0, .slice none 0 0, .slice none 0 0, .int .i64 0, .int .u64 0, .int .u64 0], .int .i64 110]) (by simp [results, Try.results20, go_sem, q0, q1, q2, q3, q4, q5, q6, q7, q8, q9, q10, q11, q12]) rfl ?_
    exact ⟨PM.Rc0, .slice none 0 0, .slice none 0 0, 110, rfl, .inr ⟨rfl, hDn.out, rfl, rfl, rfl⟩, PM.OM.nilrow _, PM.OEv.nil _, hxf.below hB.out hg2w hB.out.size⟩
  have hDy : Hid (PM.decRc l = some ⟨4, rn, PM.En0, ⟨ib, il, is⟩⟩) := PM.hid (by rw [hD.out]; exact PM.finR_yes hok)
  clear hok
  replace hZ := hZ.keep hBe
  replace hX := hX.keep hBe
  replace hB := PM.hid (PM.chain hB.out hBe)
  have hfk := PM.hid ((PM.OM.nilrow (e := PM.teL) (c := 5) (E := 114) (B := w.heap.size) wA).keep hBe)
  have hok := PM.hid ((PM.OEv.nil (TE := 84) (TA := 112) (B := w.heap.size) wA).keep hBe)
  clear hBe c0 c1 c2 c3 c4 c5 c6 c7 c8 c9 c10 c11 c12
  have c0 : we.cell? ⟨g5, 0, none⟩ = some (.int .i64 4) := hX.cell 0
  have c1 : we.cell? ⟨g5, 1, none⟩ = some (.int .u64 (rn : Int)) := hX.cell 1
  have c2 : we.cell? ⟨g5, 2, none⟩ = some (.int .i64 0) := hX.cell 2
  have c3 : we.cell? ⟨g5, 3, none⟩ = some (.int .i64 0) := hX.cell 3
  have c4 : we.cell? ⟨g5, 4, none⟩ = some (.int .u64 0) := hX.cell 4
  have c5 : we.cell? ⟨g5, 5, none⟩ = some (.int .u64 0) := hX.cell 5
  have c6 : we.cell? ⟨g5, 6, none⟩ = some (.int .i64 0) := hX.cell 6
  have c7 : we.cell? ⟨g5, 7, none⟩ = some (.int .u64 0) := hX.cell 7
  have c8 : we.cell? ⟨g5, 8, none⟩ = some (.slice none 0 0) := hX.cell 8
  have c9 : we.cell? ⟨g5, 9, none⟩ = some (.slice none 0 0) := hX.cell 9
  have c10 : we.cell? ⟨g5, 10, none⟩ = some (.int .i64 ib) := hX.cell 10
  have c11 : we.cell? ⟨g5, 11, none⟩ = some (.int .u64 (il : Int)) := hX.cell 11
  have c12 : we.cell? ⟨g5, 12, none⟩ = some (.int .u64 (is : Int)) := hX.cell 12
  have z0 := hZ.cell 0
  have f0 := hZ.free 0
  have z1 := hZ.cell 1
  have f1 := hZ.free 1
  have z2 := hZ.cell 2
  have f2 := hZ.free 2
  have z3 := hZ.cell 3
  have f3 := hZ.free 3
  have z4 := hZ.cell 4
  have f4 := hZ.free 4
  have z5 := hZ.cell 5
  have f5 := hZ.free 5
  have z6 := hZ.cell 6
  have f6 := hZ.free 6
  have z7 := hZ.cell 7
  have f7 := hZ.free 7
  have z8 := hZ.cell 8
  have f8 := hZ.free 8
  have z9 := hZ.cell 9
  have f9 := hZ.free 9
  have z10 := hZ.cell 10
  have f10 := hZ.free 10
  have z11 := hZ.cell 11
  have f11 := hZ.free 11
  have z12 := hZ.cell 12
  have f12 := hZ.free 12
  go_wp2
  have ZF := hZ.set13 (.int .i64 4) (.int .u64 (rn : Int)) (.int .i64 0) (.int .i64 0) (.int .u64 0) (.int .u64 0) (.int .i64 0) (.int .u64 0) (.slice none 0 0) (.slice none 0 0) (.int .i64 ib) (.int .u64 (il : Int)) (.int .u64 (is : Int))
  have hxf := PM.Bx.set13 g2 we (.int .i64 4) (.int .u64 (rn : Int)) (.int .i64 0) (.int .i64 0) (.int .u64 0) (.int .u64 0) (.int .i64 0) (.int .u64 0) (.slice none 0 0) (.slice none 0 0) (.int .i64 ib) (.int .u64 (il : Int)) (.int .u64 (is : Int))
  generalize (((((((((((((we.setCell ⟨g2, 0, none⟩ (.int .i64 4)).setCell ⟨g2, 1, none⟩ (.int .u64 (rn : Int))).setCell ⟨g2, 2, none⟩ (.int .i64 0)).setCell ⟨g2, 3, none⟩ (.int .i64 0)).setCell ⟨g2, 4, none⟩ (.int .u64 0)).setCell ⟨g2, 5, none⟩ (.int .u64 0)).setCell ⟨g2, 6, none⟩ (.int .i64 0)).setCell ⟨g2, 7, none⟩ (.int .u64 0)).setCell ⟨g2, 8, none⟩ (.slice none 0 0)).setCell ⟨g2, 9, none⟩ (.slice none 0 0)).setCell ⟨g2, 10, none⟩ (.int .i64 ib)).setCell ⟨g2, 11, none⟩ (.int .u64 (il : Int))).setCell ⟨g2, 12, none⟩ (.int .u64 (is : Int))) = wf at *
  have q0 := ZF.cell 0
  have q1 := ZF.cell 1
  have q2 := ZF.cell 2
  have q3 := ZF.cell 3
  have q4 := ZF.cell 4
  have q5 := ZF.cell 5
  have q6 := ZF.cell 6
  have q7 := ZF.cell 7
  have q8 := ZF.cell 8
  have q9 := ZF.cell 9
  have q10 := ZF.cell 10
  have q11 := ZF.cell 11
  have q12 := ZF.cell 12
  refine bodyPost_ret (v := .tuple #[.agg #[.int .i64 4, .int .u64 (rn : Int), .int .i64 0, .int .i64 0, .int .u64 0, .int .u64 0, .int .i64 0, .int .u64 0, .slice none 0 0, .slice none 0 0, .int .i64 ib, .int .u64 (il : Int), .int .u64 (is : Int)], .int .i64 0]) (by simp [results, Try.results20, go_sem, q0, q1, q2, q3, q4, q5, q6, q7, q8, q9, q10, q11, q12]) rfl ?_
  exact ⟨⟨4, rn, PM.En0, ⟨ib, il, is⟩⟩, _, _, 0, rfl, .inl ⟨rfl, hDy.out⟩, hfk.out.keepx hxf hZ (by decide), hok.out.keepx hxf hZ (by decide) (by decide), hxf.below hB.out hg2w hB.out.size⟩
set_option maxRecDepth 100000 in
set_option maxHeartbeats 16000000 in
theorem unpack_5 (v : Value) (l : List UInt8) (w : World) (hv : PM.BS w v l) (hl : l.length ≤ 70368744177664) (hk : PM.sm (PM.stepN l false).1 = 5) :
    Calls Try.prog 20 #[v] w (RetUN w l) := by
  obtain ⟨k, l1, wr1, s1⟩ : ∃ a b c, PM.stepN l false = (a, b, c) := ⟨_, _, _, rfl⟩
  obtain ⟨rn, l2, wr2, s2⟩ : ∃ a b c, PM.stepN l1 wr1 = (a, b, c) := ⟨_, _, _, rfl⟩
  have hDE := PM.hid (PM.decRc_eq s1 s2)
  have p1 := (PM.stepN_lt l false).2
  have p2 := PM.stepN_lt l1 wr1
  have hN1 := fun (b : Nat) (W : World) (h : PM.RD 102 W b l false) => small_any b l false W h
  have hN2 := fun (b : Nat) (W : World) (h : PM.RD 102 W b l1 wr1) => rnumber_any b l1 wr1 W h
  rw [s1] at p1 hN1 hk
  rw [s2] at p2 hN2
  have hkw := PM.sm_wf k
  simp only at p1 p2 hN1 hN2 hk
  obtain ⟨hn64, p2⟩ := p2
  clear s1 s2
  generalize PM.sm k = rk at *
  replace hk := PM.hid hk
  obtain ⟨g2, hg2⟩ : ∃ g, g = w.heap.size := ⟨_, rfl⟩
  obtain ⟨W0, hW0⟩ : ∃ W, W = w.alloc (.cells #[.int .i64 0, .int .u64 0, .int .i64 0, .int .i64 0, .int .u64 0, .int .u64 0, .int .i64 0, .int .u64 0, .slice none 0 0, .slice none 0 0, .int .i64 0, .int .u64 0, .int .u64 0] 46) := ⟨_, rfl⟩
  have hB0 : Below w.heap.size w W0 := by rw [hW0]; exact (Below.refl _ _).alloc (Nat.le_refl _) _
  have hZ : PM.BK W0 g2 #[.int .i64 0, .int .u64 0, .int .i64 0, .int .i64 0, .int .u64 0, .int .u64 0, .int .i64 0, .int .u64 0, .slice none 0 0, .slice none 0 0, .int .i64 0, .int .u64 0, .int .u64 0] 46 := by rw [hW0, hg2]; exact PM.BK.new _ _ _
  have hNw := new_any v l W0 (hv.keep hB0) hl
  obtain ⟨va, vc, hve⟩ := hv.len
  subst hve
  have hg2w : w.heap.size ≤ g2 := by omega
  clear hv
  go_enter Try.func20, Try.ntmps20
  go_upto_region 1 with fail
  rw [← hW0, ← hg2]
  clear hW0 hg2
  go_wp2_with fail
  refine hNw.mono ?_
  clear hNw
  rintro e w1 ⟨b, rfl, hb0, hr, hB1⟩
  have hg2b : g2 ≠ b := by have := hZ.lt; omega
  have hbw : w.heap.size ≤ b := by have := hB0.size; omega
  replace hZ := hZ.keep hB1
  have hB := PM.hid (PM.chain hB0 hB1)
  clear hB0 hB1 hb0
  go_wp2_with fail
  refine (hN1 b w1 hr).mono ?_
  clear hN1
  rintro e w2 ⟨rfl, hr2, hx2⟩
  replace hZ := hZ.keepx hx2 hg2b
  replace hB := PM.hid (hx2.below hB.out hbw hB.out.size)
  clear hx2 hr
  go_upto_region 3 with fail
  obtain ⟨g5, hg5⟩ : ∃ g, g = w2.heap.size := ⟨_, rfl⟩
  obtain ⟨W2, hW2⟩ : ∃ W, W = w2.alloc (.cells #[.int .i64 rk, .int .u64 0, .int .i64 0, .int .i64 0, .int .u64 0, .int .u64 0, .int .i64 0, .int .u64 0, .slice none 0 0, .slice none 0 0, .int .i64 0, .int .u64 0, .int .u64 0] 46) := ⟨_, rfl⟩
  have hB2 : Below w2.heap.size w2 W2 := by rw [hW2]; exact (Below.refl _ _).alloc (Nat.le_refl _) _
  have hX : PM.BK W2 g5 #[.int .i64 rk, .int .u64 0, .int .i64 0, .int .i64 0, .int .u64 0, .int .u64 0, .int .i64 0, .int .u64 0, .slice none 0 0, .slice none 0 0, .int .i64 0, .int .u64 0, .int .u64 0] 46 := by rw [hW2, hg5]; exact PM.BK.new _ _ _
  have hg5b : g5 ≠ b := by have := hr2.lt; omega
  have hg25 : g2 ≠ g5 := by have := hZ.lt; omega
  have hg5w : w.heap.size ≤ g5 := by have := hB.out.size; omega
  replace hr2 := hr2.keep hB2
  replace hZ := hZ.keep hB2
  replace hB := PM.hid (PM.chain hB.out hB2)
  rw [← hW2, ← hg5]
  clear hW2 hg5 hB2
  go_wp2_with fail
  refine (hN2 b W2 hr2).mono ?_
  clear hN2
  rintro e w3 ⟨rfl, hr3, hx3⟩
  replace hZ := hZ.keepx hx3 hg2b
  replace hX := hX.keepx hx3 hg5b
  replace hB := PM.hid (hx3.below hB.out hbw hB.out.size)
  clear hx3 hr2
  have f1 := hX.free 1
  have t1 := hX.cell 1
  go_upto_region 4 with fail
  have kn := hX.set 1 (.int .u64 (rn : Int))
  replace kn : PM.BK (w3.setCell ⟨g5, 1, none⟩ (.int .u64 (rn : Int))) g5 #[.int .i64 rk, .int .u64 (rn : Int), .int .i64 0, .int .i64 0, .int .u64 0, .int .u64 0, .int .i64 0, .int .u64 0, .slice none 0 0, .slice none 0 0, .int .i64 0, .int .u64 0, .int .u64 0] 46 := by simpa using kn
  have hxs : PM.Bx g5 w3 (w3.setCell ⟨g5, 1, none⟩ (.int .u64 (rn : Int))) := PM.Bx.set g5 1 w3 (.int .u64 (rn : Int))
  generalize (w3.setCell ⟨g5, 1, none⟩ (.int .u64 (rn : Int))) = w4 at *
  replace hZ := hZ.keepx hxs hg25
  have hr := PM.RD.keepy hxs (Ne.symm hg5b) hX (PM.rc_nobyte _ _ _ _ _ _ _ _ _ _ _ rfl rfl) hr3
  replace hB := PM.hid (hxs.below hB.out hg5w hB.out.size)
  replace hX := kn
  clear hxs kn hr3
  clear f1 t1
  replace hk := hk.out
  subst hk
  have hir := idread_any b l2 wr2 w4 hr
  have hiw := PM.readI_wf l2 wr2
  have hD0 : Hid (PM.decRc l = PM.finR ⟨5, rn, PM.En0, (PM.readI l2 wr2).1⟩ (PM.readI l2 wr2).2.1 (PM.readI l2 wr2).2.2) := PM.hid (by rw [hDE.out]; unfold PM.decRK; rw [if_neg (by decide), if_pos (by decide)])
  generalize PM.readI l2 wr2 = S at *
  obtain ⟨⟨ib, il, is⟩, l', wr'⟩ := S
  simp only at hir hiw
  have hD : Hid (PM.decRc l = PM.finR ⟨5, rn, PM.En0, ⟨ib, il, is⟩⟩ l' wr') := PM.hid hD0.out
  clear hDE hD0
  have hw0 := hiw.2.1
  have hw1 := hiw.2.2
  simp only at hw0 hw1
  have c0 : w4.cell? ⟨g5, 0, none⟩ = some (.int .i64 5) := hX.cell 0
  have c1 : w4.cell? ⟨g5, 1, none⟩ = some (.int .u64 (rn : Int)) := hX.cell 1
  have c2 : w4.cell? ⟨g5, 2, none⟩ = some (.int .i64 0) := hX.cell 2
  have c3 : w4.cell? ⟨g5, 3, none⟩ = some (.int .i64 0) := hX.cell 3
  have c4 : w4.cell? ⟨g5, 4, none⟩ = some (.int .u64 0) := hX.cell 4
  have c5 : w4.cell? ⟨g5, 5, none⟩ = some (.int .u64 0) := hX.cell 5
  have c6 : w4.cell? ⟨g5, 6, none⟩ = some (.int .i64 0) := hX.cell 6
  have c7 : w4.cell? ⟨g5, 7, none⟩ = some (.int .u64 0) := hX.cell 7
  have c8 : w4.cell? ⟨g5, 8, none⟩ = some (.slice none 0 0) := hX.cell 8
  have c9 : w4.cell? ⟨g5, 9, none⟩ = some (.slice none 0 0) := hX.cell 9
  have c10 : w4.cell? ⟨g5, 10, none⟩ = some (.int .i64 0) := hX.cell 10
  have c11 : w4.cell? ⟨g5, 11, none⟩ = some (.int .u64 0) := hX.cell 11
  have c12 : w4.cell? ⟨g5, 12, none⟩ = some (.int .u64 0) := hX.cell 12
  go_wp2_with fail
  refine hir.mono ?_
  clear hir c0 c1 c2 c3 c4 c5 c6 c7 c8 c9 c10 c11 c12
  rintro e w9 ⟨rfl, hr9, hx9⟩
  replace hZ := hZ.keepx hx9 hg2b
  replace hX := hX.keepx hx9 hg5b
  replace hB := PM.hid (hx9.below hB.out hbw hB.out.size)
  clear hx9 hr
  have f10 := hX.free 10
  have t10 := hX.cell 10
  have f11 := hX.free 11
  have t11 := hX.cell 11
  have f12 := hX.free 12
  have t12 := hX.cell 12
  go_upto_region 12 with fail
  have kn := ((hX.set 10 (.int .i64 ib)).set 11 (.int .u64 (il : Int))).set 12 (.int .u64 (is : Int))
  replace kn : PM.BK (((w9.setCell ⟨g5, 10, none⟩ (.int .i64 ib)).setCell ⟨g5, 11, none⟩ (.int .u64 (il : Int))).setCell ⟨g5, 12, none⟩ (.int .u64 (is : Int))) g5 #[.int .i64 5, .int .u64 (rn : Int), .int .i64 0, .int .i64 0, .int .u64 0, .int .u64 0, .int .i64 0, .int .u64 0, .slice none 0 0, .slice none 0 0, .int .i64 ib, .int .u64 (il : Int), .int .u64 (is : Int)] 46 := by simpa using kn
  have hxs : PM.Bx g5 w9 (((w9.setCell ⟨g5, 10, none⟩ (.int .i64 ib)).setCell ⟨g5, 11, none⟩ (.int .u64 (il : Int))).setCell ⟨g5, 12, none⟩ (.int .u64 (is : Int))) := ((PM.Bx.set g5 10 w9 (.int .i64 ib)).trans (PM.Bx.set g5 11 _ (.int .u64 (il : Int)))).trans (PM.Bx.set g5 12 _ (.int .u64 (is : Int)))
  generalize (((w9.setCell ⟨g5, 10, none⟩ (.int .i64 ib)).setCell ⟨g5, 11, none⟩ (.int .u64 (il : Int))).setCell ⟨g5, 12, none⟩ (.int .u64 (is : Int))) = wA at *
  replace hZ := hZ.keepx hxs hg25
  have hr := PM.RD.keepy hxs (Ne.symm hg5b) hX (PM.rc_nobyte _ _ _ _ _ _ _ _ _ _ _ rfl rfl) hr9
  replace hB := PM.hid (hxs.below hB.out hg5w hB.out.size)
  replace hX := kn
  clear hxs kn hr9
  clear f10 t10 f11 t11 f12 t12
  have hdn := done_any b l' wr' wA hr
  by_cases hdone : wr' = false ∧ l' = []
  case neg =>
    have hDn : Hid (PM.decRc l = none) := PM.hid (by rw [hD.out]; exact PM.finR_no fun h => hdone ⟨h.1, h.2.1⟩)
    have hdf : (!wr' && decide (l' = [])) = false := by
      cases wr' <;> simp at hdone ⊢
      exact hdone
    rw [hdf] at hdn
    clear hdone hdf
    have c0 : wA.cell? ⟨g5, 0, none⟩ = some (.int .i64 5) := hX.cell 0
    have c1 : wA.cell? ⟨g5, 1, none⟩ = some (.int .u64 (rn : Int)) := hX.cell 1
    have c2 : wA.cell? ⟨g5, 2, none⟩ = some (.int .i64 0) := hX.cell 2
    have c3 : wA.cell? ⟨g5, 3, none⟩ = some (.int .i64 0) := hX.cell 3
    have c4 : wA.cell? ⟨g5, 4, none⟩ = some (.int .u64 0) := hX.cell 4
    have c5 : wA.cell? ⟨g5, 5, none⟩ = some (.int .u64 0) := hX.cell 5
    have c6 : wA.cell? ⟨g5, 6, none⟩ = some (.int .i64 0) := hX.cell 6
    have c7 : wA.cell? ⟨g5, 7, none⟩ = some (.int .u64 0) := hX.cell 7
    have c8 : wA.cell? ⟨g5, 8, none⟩ = some (.slice none 0 0) := hX.cell 8
    have c9 : wA.cell? ⟨g5, 9, none⟩ = some (.slice none 0 0) := hX.cell 9
    have c10 : wA.cell? ⟨g5, 10, none⟩ = some (.int .i64 ib) := hX.cell 10
    have c11 : wA.cell? ⟨g5, 11, none⟩ = some (.int .u64 (il : Int)) := hX.cell 11
    have c12 : wA.cell? ⟨g5, 12, none⟩ = some (.int .u64 (is : Int)) := hX.cell 12
    go_wp2_with fail
    refine hdn.mono ?_
    clear hdn
    rintro e wd ⟨rfl, rfl⟩
    clear c0 c1 c2 c3 c4 c5 c6 c7 c8 c9 c10 c11 c12
    have z0 := hZ.cell 0
    have f0 := hZ.free 0
    have z1 := hZ.cell 1
    have f1 := hZ.free 1
    have z2 := hZ.cell 2
    have f2 := hZ.free 2
    have z3 := hZ.cell 3
    have f3 := hZ.free 3
    have z4 := hZ.cell 4
    have f4 := hZ.free 4
    have z5 := hZ.cell 5
    have f5 := hZ.free 5
    have z6 := hZ.cell 6
    have f6 := hZ.free 6
    have z7 := hZ.cell 7
    have f7 := hZ.free 7
    have z8 := hZ.cell 8
    have f8 := hZ.free 8
    have z9 := hZ.cell 9
    have f9 := hZ.free 9
    have z10 := hZ.cell 10
    have f10 := hZ.free 10
    have z11 := hZ.cell 11
    have f11 := hZ.free 11
    have z12 := hZ.cell 12
    have f12 := hZ.free 12
    go_wp2
    have ZF := hZ.set13 (.int .i64 0) (.int .u64 0) (.int .i64 0) (.int .i64 0) (.int .u64 0) (.int .u64 0) (.int .i64 0) (.int .u64 0) (.slice none 0 0) (.slice none 0 0) (.int .i64 0) (.int .u64 0) (.int .u64 0)
    have hxf := PM.Bx.set13 g2 wA (.int .i64 0) (.int .u64 0) (.int .i64 0) (.int .i64 0) (.int .u64 0) (.int .u64 0) (.int .i64 0) (.int .u64 0) (.slice none 0 0) (.slice none 0 0) (.int .i64 0) (.int .u64 0) (.int .u64 0)
    generalize (((((((((((((wA.setCell ⟨g2, 0, none⟩ (.int .i64 0)).setCell ⟨g2, 1, none⟩ (.int .u64 0)).setCell ⟨g2, 2, none⟩ (.int .i64 0)).setCell ⟨g2, 3, none⟩ (.int .i64 0)).setCell ⟨g2, 4, none⟩ (.int .u64 0)).setCell ⟨g2, 5, none⟩ (.int .u64 0)).setCell ⟨g2, 6, none⟩ (.int .i64 0)).setCell ⟨g2, 7, none⟩ (.int .u64 0)).setCell ⟨g2, 8, none⟩ (.slice none 0 0)).setCell ⟨g2, 9, none⟩ (.slice none 0 0)).setCell ⟨g2, 10, none⟩ (.int .i64 0)).setCell ⟨g2, 11, none⟩ (.int .u64 0)).setCell ⟨g2, 12, none⟩ (.int .u64 0)) = wf at *
    have q0 := ZF.cell 0
    have q1 := ZF.cell 1
    have q2 := ZF.cell 2
    have q3 := ZF.cell 3
    have q4 := ZF.cell 4
    have q5 := ZF.cell 5
    have q6 := ZF.cell 6
    have q7 := ZF.cell 7
    have q8 := ZF.cell 8
    have q9 := ZF.cell 9
    have q10 := ZF.cell 10
    have q11 := ZF.cell 11
    have q12 := ZF.cell 12
    refine bodyPost_ret (v := .tuple #[.agg #[.int .i64 0, .int .u64 0, .int .i64 0, .int .i64 0, .int .u64 0, .int .u64 0, .int .i64 0, .int .u64 0, .slice none 0 0, .slice none 0 0, .int .i64 0, .int .u64 0, .int .u64 0], .int .i64 110]) (by simp [results, Try.results20, go_sem, q0, q1, q2, q3, q4, q5, q6, q7, q8, q9, q10, q11, q12]) rfl ?_
    exact ⟨PM.Rc0, .slice none 0 0, .slice none 0 0, 110, rfl, .inr ⟨rfl, hDn.out, rfl, rfl, rfl⟩, PM.OM.nilrow _, PM.OEv.nil _, hxf.below hB.out hg2w hB.out.size⟩
  obtain ⟨rfl, rfl⟩ := hdone
  have hdn' : Calls Try.prog 39 #[.pointer (some ⟨b, 0, none⟩)] wA fun e w' => e = .returned (.bool true) ∧ wA = w' := hdn
  clear hdn
  have hwfx : PM.Rc.wf ⟨5, rn, PM.En0, ⟨ib, il, is⟩⟩ := ⟨rfl, hn64, PM.En0_wf, hiw⟩
  have hck := record_any ⟨5, rn, PM.En0, ⟨ib, il, is⟩⟩ (.slice none 0 0) (.slice none 0 0) wA hwfx ((PM.OM.nilrow (e := PM.teL) (c := 5) (E := 114) (B := w.heap.size) wA).em PM.teL_len) (PM.OEv.nil (TE := 84) (TA := 112) (B := w.heap.size) wA).evl
  unfold PM.rcC PM.enC PM.idL at hck
  simp only [List.cons_append, List.nil_append] at hck
  have c0 : wA.cell? ⟨g5, 0, none⟩ = some (.int .i64 5) := hX.cell 0
  have c1 : wA.cell? ⟨g5, 1, none⟩ = some (.int .u64 (rn : Int)) := hX.cell 1
  have c2 : wA.cell? ⟨g5, 2, none⟩ = some (.int .i64 0) := hX.cell 2
  have c3 : wA.cell? ⟨g5, 3, none⟩ = some (.int .i64 0) := hX.cell 3
  have c4 : wA.cell? ⟨g5, 4, none⟩ = some (.int .u64 0) := hX.cell 4
  have c5 : wA.cell? ⟨g5, 5, none⟩ = some (.int .u64 0) := hX.cell 5
  have c6 : wA.cell? ⟨g5, 6, none⟩ = some (.int .i64 0) := hX.cell 6
  have c7 : wA.cell? ⟨g5, 7, none⟩ = some (.int .u64 0) := hX.cell 7
  have c8 : wA.cell? ⟨g5, 8, none⟩ = some (.slice none 0 0) := hX.cell 8
  have c9 : wA.cell? ⟨g5, 9, none⟩ = some (.slice none 0 0) := hX.cell 9
  have c10 : wA.cell? ⟨g5, 10, none⟩ = some (.int .i64 ib) := hX.cell 10
  have c11 : wA.cell? ⟨g5, 11, none⟩ = some (.int .u64 (il : Int)) := hX.cell 11
  have c12 : wA.cell? ⟨g5, 12, none⟩ = some (.int .u64 (is : Int)) := hX.cell 12
  go_wp2_with fail
  refine hdn'.mono ?_
  clear hdn'
  rintro e wd ⟨rfl, rfl⟩
  go_wp2_with fail
  refine hck.mono ?_
  clear hck
  rintro e we ⟨hr', hBe⟩
  rcases hr' with ⟨rfl, hok⟩ | ⟨rfl, hok⟩
  case inr =>
    have hDn : Hid (PM.decRc l = none) := PM.hid (by rw [hD.out]; exact PM.finR_no fun h => hok h.2.2)
    clear hok
    replace hZ := hZ.keep hBe
    replace hB := PM.hid (PM.chain hB.out hBe)
    clear hBe c0 c1 c2 c3 c4 c5 c6 c7 c8 c9 c10 c11 c12
    have z0 := hZ.cell 0
    have f0 := hZ.free 0
    have z1 := hZ.cell 1
    have f1 := hZ.free 1
    have z2 := hZ.cell 2
    have f2 := hZ.free 2
    have z3 := hZ.cell 3
    have f3 := hZ.free 3
    have z4 := hZ.cell 4
    have f4 := hZ.free 4
    have z5 := hZ.cell 5
    have f5 := hZ.free 5
    have z6 := hZ.cell 6
    have f6 := hZ.free 6
    have z7 := hZ.cell 7
    have f7 := hZ.free 7
    have z8 := hZ.cell 8
    have f8 := hZ.free 8
    have z9 := hZ.cell 9
    have f9 := hZ.free 9
    have z10 := hZ.cell 10
    have f10 := hZ.free 10
    have z11 := hZ.cell 11
    have f11 := hZ.free 11
    have z12 := hZ.cell 12
    have f12 := hZ.free 12
    go_wp2
    have ZF := hZ.set13 (.int .i64 0) (.int .u64 0) (.int .i64 0) (.int .i64 0) (.int .u64 0) (.int .u64 0) (.int .i64 0) (.int .u64 0) (.slice none 0 0) (.slice none 0 0) (.int .i64 0) (.int .u64 0) (.int .u64 0)
    have hxf := PM.Bx.set13 g2 we (.int .i64 0) (.int .u64 0) (.int .i64 0) (.int .i64 0) (.int .u64 0) (.int .u64 0) (.int .i64 0) (.int .u64 0) (.slice none 0 0) (.slice none 0 0) (.int .i64 0) (.int .u64 0) (.int .u64 0)
    generalize (((((((((((((we.setCell ⟨g2, 0, none⟩ (.int .i64 0)).setCell ⟨g2, 1, none⟩ (.int .u64 0)).setCell ⟨g2, 2, none⟩ (.int .i64 0)).setCell ⟨g2, 3, none⟩ (.int .i64 0)).setCell ⟨g2, 4, none⟩ (.int .u64 0)).setCell ⟨g2, 5, none⟩ (.int .u64 0)).setCell ⟨g2, 6, none⟩ (.int .i64 0)).setCell ⟨g2, 7, none⟩ (.int .u64 0)).setCell ⟨g2, 8, none⟩ (.slice none 0 0)).setCell ⟨g2, 9, none⟩ (.slice none 0 0)).setCell ⟨g2, 10, none⟩ (.int .i64 0)).setCell ⟨g2, 11, none⟩ (.int .u64 0)).setCell ⟨g2, 12, none⟩ (.int .u64 0)) = wf at *
    have q0 := ZF.cell 0
    have q1 := ZF.cell 1
    have q2 := ZF.cell 2
    have q3 := ZF.cell 3
    have q4 := ZF.cell 4
    have q5 := ZF.cell 5
    have q6 := ZF.cell 6
    have q7 := ZF.cell 7
    have q8 := ZF.cell 8
    have q9 := ZF.cell 9
    have q10 := ZF.cell 10
    have q11 := ZF.cell 11
    have q12 := ZF.cell 12
    refine bodyPost_ret (v := .tuple #[.agg #[.int .i64 0, .int .u64 0, .int .i64 0, .int .i64 0, .int .u64 0, .int .u64 0, .int .i64 0, .int .u64 0, .slice none 0 0, .slice none 0 0, .int .i64 0, .int .u64 0, .int .u64 0], .int .i64 110]) (by simp [results, Try.results20, go_sem, q0, q1, q2, q3, q4, q5, q6, q7, q8, q9, q10, q11, q12]) rfl ?_
    exact ⟨PM.Rc0, .slice none 0 0, .slice none 0 0, 110, rfl, .inr ⟨rfl, hDn.out, rfl, rfl, rfl⟩, PM.OM.nilrow _, PM.OEv.nil _, hxf.below hB.out hg2w hB.out.size⟩
  have hDy : Hid (PM.decRc l = some ⟨5, rn, PM.En0, ⟨ib, il, is⟩⟩) := PM.hid (by rw [hD.out]; exact PM.finR_yes hok)
  clear hok
  replace hZ := hZ.keep hBe
  replace hX := hX.keep hBe
  replace hB := PM.hid (PM.chain hB.out hBe)
  have hfk := PM.hid ((PM.OM.nilrow (e := PM.teL) (c := 5) (E := 114) (B := w.heap.size) wA).keep hBe)
  have hok := PM.hid ((PM.OEv.nil (TE := 84) (TA := 112) (B := w.heap.size) wA).keep hBe)
  clear hBe c0 c1 c2 c3 c4 c5 c6 c7 c8 c9 c10 c11 c12
  have c0 : we.cell? ⟨g5, 0, none⟩ = some (.int .i64 5) := hX.cell 0
  have c1 : we.cell? ⟨g5, 1, none⟩ = some (.int .u64 (rn : Int)) := hX.cell 1
  have c2 : we.cell? ⟨g5, 2, none⟩ = some (.int .i64 0) := hX.cell 2
  have c3 : we.cell? ⟨g5, 3, none⟩ = some (.int .i64 0) := hX.cell 3
  have c4 : we.cell? ⟨g5, 4, none⟩ = some (.int .u64 0) := hX.cell 4
  have c5 : we.cell? ⟨g5, 5, none⟩ = some (.int .u64 0) := hX.cell 5
  have c6 : we.cell? ⟨g5, 6, none⟩ = some (.int .i64 0) := hX.cell 6
  have c7 : we.cell? ⟨g5, 7, none⟩ = some (.int .u64 0) := hX.cell 7
  have c8 : we.cell? ⟨g5, 8, none⟩ = some (.slice none 0 0) := hX.cell 8
  have c9 : we.cell? ⟨g5, 9, none⟩ = some (.slice none 0 0) := hX.cell 9
  have c10 : we.cell? ⟨g5, 10, none⟩ = some (.int .i64 ib) := hX.cell 10
  have c11 : we.cell? ⟨g5, 11, none⟩ = some (.int .u64 (il : Int)) := hX.cell 11
  have c12 : we.cell? ⟨g5, 12, none⟩ = some (.int .u64 (is : Int)) := hX.cell 12
  have z0 := hZ.cell 0
  have f0 := hZ.free 0
  have z1 := hZ.cell 1
  have f1 := hZ.free 1
  have z2 := hZ.cell 2
  have f2 := hZ.free 2
  have z3 := hZ.cell 3
  have f3 := hZ.free 3
  have z4 := hZ.cell 4
  have f4 := hZ.free 4
  have z5 := hZ.cell 5
  have f5 := hZ.free 5
  have z6 := hZ.cell 6
  have f6 := hZ.free 6
  have z7 := hZ.cell 7
  have f7 := hZ.free 7
  have z8 := hZ.cell 8
  have f8 := hZ.free 8
  have z9 := hZ.cell 9
  have f9 := hZ.free 9
  have z10 := hZ.cell 10
  have f10 := hZ.free 10
  have z11 := hZ.cell 11
  have f11 := hZ.free 11
  have z12 := hZ.cell 12
  have f12 := hZ.free 12
  go_wp2
  have ZF := hZ.set13 (.int .i64 5) (.int .u64 (rn : Int)) (.int .i64 0) (.int .i64 0) (.int .u64 0) (.int .u64 0) (.int .i64 0) (.int .u64 0) (.slice none 0 0) (.slice none 0 0) (.int .i64 ib) (.int .u64 (il : Int)) (.int .u64 (is : Int))
  have hxf := PM.Bx.set13 g2 we (.int .i64 5) (.int .u64 (rn : Int)) (.int .i64 0) (.int .i64 0) (.int .u64 0) (.int .u64 0) (.int .i64 0) (.int .u64 0) (.slice none 0 0) (.slice none 0 0) (.int .i64 ib) (.int .u64 (il : Int)) (.int .u64 (is : Int))
  generalize (((((((((((((we.setCell ⟨g2, 0, none⟩ (.int .i64 5)).setCell ⟨g2, 1, none⟩ (.int .u64 (rn : Int))).setCell ⟨g2, 2, none⟩ (.int .i64 0)).setCell ⟨g2, 3, none⟩ (.int .i64 0)).setCell ⟨g2, 4, none⟩ (.int .u64 0)).setCell ⟨g2, 5, none⟩ (.int .u64 0)).setCell ⟨g2, 6, none⟩ (.int .i64 0)).setCell ⟨g2, 7, none⟩ (.int .u64 0)).setCell ⟨g2, 8, none⟩ (.slice none 0 0)).setCell ⟨g2, 9, none⟩ (.slice none 0 0)).setCell ⟨g2, 10, none⟩ (.int .i64 ib)).setCell ⟨g2, 11, none⟩ (.int .u64 (il : Int))).setCell ⟨g2, 12, none⟩ (.int .u64 (is : Int))) = wf at *
  have q0 := ZF.cell 0
  have q1 := ZF.cell 1
  have q2 := ZF.cell 2
  have q3 := ZF.cell 3
  have q4 := ZF.cell 4
  have q5 := ZF.cell 5
  have q6 := ZF.cell 6
  have q7 := ZF.cell 7
  have q8 := ZF.cell 8
  have q9 := ZF.cell 9
  have q10 := ZF.cell 10
  have q11 := ZF.cell 11
  have q12 := ZF.cell 12
  refine bodyPost_ret (v := .tuple #[.agg #[.int .i64 5, .int .u64 (rn : Int), .int .i64 0, .int .i64 0, .int .u64 0, .int .u64 0, .int .i64 0, .int .u64 0, .slice none 0 0, .slice none 0 0, .int .i64 ib, .int .u64 (il : Int), .int .u64 (is : Int)], .int .i64 0]) (by simp [results, Try.results20, go_sem, q0, q1, q2, q3, q4, q5, q6, q7, q8, q9, q10, q11, q12]) rfl ?_
  exact ⟨⟨5, rn, PM.En0, ⟨ib, il, is⟩⟩, _, _, 0, rfl, .inl ⟨rfl, hDy.out⟩, hfk.out.keepx hxf hZ (by decide), hok.out.keepx hxf hZ (by decide) (by decide), hxf.below hB.out hg2w hB.out.size⟩
set_option maxRecDepth 100000 in
set_option maxHeartbeats 16000000 in
theorem unpack_else (v : Value) (l : List UInt8) (w : World) (hv : PM.BS w v l) (hl : l.length ≤ 70368744177664) (hk : PM.sm (PM.stepN l false).1 ≠ 2 ∧ PM.sm (PM.stepN l false).1 ≠ 3 ∧ PM.sm (PM.stepN l false).1 ≠ 4 ∧ PM.sm (PM.stepN l false).1 ≠ 5) :
    Calls Try.prog 20 #[v] w (RetUN w l) := by
  obtain ⟨k, l1, wr1, s1⟩ : ∃ a b c, PM.stepN l false = (a, b, c) := ⟨_, _, _, rfl⟩
  obtain ⟨rn, l2, wr2, s2⟩ : ∃ a b c, PM.stepN l1 wr1 = (a, b, c) := ⟨_, _, _, rfl⟩
  have hDE := PM.hid (PM.decRc_eq s1 s2)
  have p1 := (PM.stepN_lt l false).2
  have p2 := PM.stepN_lt l1 wr1
  have hN1 := fun (b : Nat) (W : World) (h : PM.RD 102 W b l false) => small_any b l false W h
  have hN2 := fun (b : Nat) (W : World) (h : PM.RD 102 W b l1 wr1) => rnumber_any b l1 wr1 W h
  rw [s1] at p1 hN1 hk
  rw [s2] at p2 hN2
  have hkw := PM.sm_wf k
  simp only at p1 p2 hN1 hN2 hk
  obtain ⟨hn64, p2⟩ := p2
  clear s1 s2
  generalize PM.sm k = rk at *
  replace hk := PM.hid hk
  obtain ⟨g2, hg2⟩ : ∃ g, g = w.heap.size := ⟨_, rfl⟩
  obtain ⟨W0, hW0⟩ : ∃ W, W = w.alloc (.cells #[.int .i64 0, .int .u64 0, .int .i64 0, .int .i64 0, .int .u64 0, .int .u64 0, .int .i64 0, .int .u64 0, .slice none 0 0, .slice none 0 0, .int .i64 0, .int .u64 0, .int .u64 0] 46) := ⟨_, rfl⟩
  have hB0 : Below w.heap.size w W0 := by rw [hW0]; exact (Below.refl _ _).alloc (Nat.le_refl _) _
  have hZ : PM.BK W0 g2 #[.int .i64 0, .int .u64 0, .int .i64 0, .int .i64 0, .int .u64 0, .int .u64 0, .int .i64 0, .int .u64 0, .slice none 0 0, .slice none 0 0, .int .i64 0, .int .u64 0, .int .u64 0] 46 := by rw [hW0, hg2]; exact PM.BK.new _ _ _
  have hNw := new_any v l W0 (hv.keep hB0) hl
  obtain ⟨va, vc, hve⟩ := hv.len
  subst hve
  have hg2w : w.heap.size ≤ g2 := by omega
  clear hv
  go_enter Try.func20, Try.ntmps20
  go_upto_region 1 with fail
  rw [← hW0, ← hg2]
  clear hW0 hg2
  go_wp2_with fail
  refine hNw.mono ?_
  clear hNw
  rintro e w1 ⟨b, rfl, hb0, hr, hB1⟩
  have hg2b : g2 ≠ b := by have := hZ.lt; omega
  have hbw : w.heap.size ≤ b := by have := hB0.size; omega
  replace hZ := hZ.keep hB1
  have hB := PM.hid (PM.chain hB0 hB1)
  clear hB0 hB1 hb0
  go_wp2_with fail
  refine (hN1 b w1 hr).mono ?_
  clear hN1
  rintro e w2 ⟨rfl, hr2, hx2⟩
  replace hZ := hZ.keepx hx2 hg2b
  replace hB := PM.hid (hx2.below hB.out hbw hB.out.size)
  clear hx2 hr
  go_upto_region 3 with fail
  obtain ⟨g5, hg5⟩ : ∃ g, g = w2.heap.size := ⟨_, rfl⟩
  obtain ⟨W2, hW2⟩ : ∃ W, W = w2.alloc (.cells #[.int .i64 rk, .int .u64 0, .int .i64 0, .int .i64 0, .int .u64 0, .int .u64 0, .int .i64 0, .int .u64 0, .slice none 0 0, .slice none 0 0, .int .i64 0, .int .u64 0, .int .u64 0] 46) := ⟨_, rfl⟩
  have hB2 : Below w2.heap.size w2 W2 := by rw [hW2]; exact (Below.refl _ _).alloc (Nat.le_refl _) _
  have hX : PM.BK W2 g5 #[.int .i64 rk, .int .u64 0, .int .i64 0, .int .i64 0, .int .u64 0, .int .u64 0, .int .i64 0, .int .u64 0, .slice none 0 0, .slice none 0 0, .int .i64 0, .int .u64 0, .int .u64 0] 46 := by rw [hW2, hg5]; exact PM.BK.new _ _ _
  have hg5b : g5 ≠ b := by have := hr2.lt; omega
  have hg25 : g2 ≠ g5 := by have := hZ.lt; omega
  have hg5w : w.heap.size ≤ g5 := by have := hB.out.size; omega
  replace hr2 := hr2.keep hB2
  replace hZ := hZ.keep hB2
  replace hB := PM.hid (PM.chain hB.out hB2)
  rw [← hW2, ← hg5]
  clear hW2 hg5 hB2
  go_wp2_with fail
  refine (hN2 b W2 hr2).mono ?_
  clear hN2
  rintro e w3 ⟨rfl, hr3, hx3⟩
  replace hZ := hZ.keepx hx3 hg2b
  replace hX := hX.keepx hx3 hg5b
  replace hB := PM.hid (hx3.below hB.out hbw hB.out.size)
  clear hx3 hr2
  have f1 := hX.free 1
  have t1 := hX.cell 1
  go_upto_region 4 with fail
  have kn := hX.set 1 (.int .u64 (rn : Int))
  replace kn : PM.BK (w3.setCell ⟨g5, 1, none⟩ (.int .u64 (rn : Int))) g5 #[.int .i64 rk, .int .u64 (rn : Int), .int .i64 0, .int .i64 0, .int .u64 0, .int .u64 0, .int .i64 0, .int .u64 0, .slice none 0 0, .slice none 0 0, .int .i64 0, .int .u64 0, .int .u64 0] 46 := by simpa using kn
  have hxs : PM.Bx g5 w3 (w3.setCell ⟨g5, 1, none⟩ (.int .u64 (rn : Int))) := PM.Bx.set g5 1 w3 (.int .u64 (rn : Int))
  generalize (w3.setCell ⟨g5, 1, none⟩ (.int .u64 (rn : Int))) = w4 at *
  replace hZ := hZ.keepx hxs hg25
  have hr := PM.RD.keepy hxs (Ne.symm hg5b) hX (PM.rc_nobyte _ _ _ _ _ _ _ _ _ _ _ rfl rfl) hr3
  replace hB := PM.hid (hxs.below hB.out hg5w hB.out.size)
  replace hX := kn
  clear hxs kn hr3
  clear f1 t1
  obtain ⟨hk2, hk3, hk4, hk5⟩ := hk.out
  clear hk
  have hD : Hid (PM.decRc l = PM.finR ⟨rk, rn, PM.En0, PM.Id0⟩ l2 wr2) := PM.hid (by rw [hDE.out]; unfold PM.decRK; rw [if_neg (by omega), if_neg (by omega)])
  clear hDE
  have hdn := done_any b l2 wr2 w4 hr
  by_cases hdone : wr2 = false ∧ l2 = []
  case neg =>
    have hDn : Hid (PM.decRc l = none) := PM.hid (by rw [hD.out]; exact PM.finR_no fun h => hdone ⟨h.1, h.2.1⟩)
    have hdf : (!wr2 && decide (l2 = [])) = false := by
      cases wr2 <;> simp at hdone ⊢
      exact hdone
    rw [hdf] at hdn
    clear hdone hdf
    have c0 : w4.cell? ⟨g5, 0, none⟩ = some (.int .i64 rk) := hX.cell 0
    have c1 : w4.cell? ⟨g5, 1, none⟩ = some (.int .u64 (rn : Int)) := hX.cell 1
    have c2 : w4.cell? ⟨g5, 2, none⟩ = some (.int .i64 0) := hX.cell 2
    have c3 : w4.cell? ⟨g5, 3, none⟩ = some (.int .i64 0) := hX.cell 3
    have c4 : w4.cell? ⟨g5, 4, none⟩ = some (.int .u64 0) := hX.cell 4
    have c5 : w4.cell? ⟨g5, 5, none⟩ = some (.int .u64 0) := hX.cell 5
    have c6 : w4.cell? ⟨g5, 6, none⟩ = some (.int .i64 0) := hX.cell 6
    have c7 : w4.cell? ⟨g5, 7, none⟩ = some (.int .u64 0) := hX.cell 7
    have c8 : w4.cell? ⟨g5, 8, none⟩ = some (.slice none 0 0) := hX.cell 8
    have c9 : w4.cell? ⟨g5, 9, none⟩ = some (.slice none 0 0) := hX.cell 9
    have c10 : w4.cell? ⟨g5, 10, none⟩ = some (.int .i64 0) := hX.cell 10
    have c11 : w4.cell? ⟨g5, 11, none⟩ = some (.int .u64 0) := hX.cell 11
    have c12 : w4.cell? ⟨g5, 12, none⟩ = some (.int .u64 0) := hX.cell 12
    go_wp2_with fail
    refine hdn.mono ?_
    clear hdn
    rintro e wd ⟨rfl, rfl⟩
    clear c0 c1 c2 c3 c4 c5 c6 c7 c8 c9 c10 c11 c12
    have z0 := hZ.cell 0
    have f0 := hZ.free 0
    have z1 := hZ.cell 1
    have f1 := hZ.free 1
    have z2 := hZ.cell 2
    have f2 := hZ.free 2
    have z3 := hZ.cell 3
    have f3 := hZ.free 3
    have z4 := hZ.cell 4
    have f4 := hZ.free 4
    have z5 := hZ.cell 5
    have f5 := hZ.free 5
    have z6 := hZ.cell 6
    have f6 := hZ.free 6
    have z7 := hZ.cell 7
    have f7 := hZ.free 7
    have z8 := hZ.cell 8
    have f8 := hZ.free 8
    have z9 := hZ.cell 9
    have f9 := hZ.free 9
    have z10 := hZ.cell 10
    have f10 := hZ.free 10
    have z11 := hZ.cell 11
    have f11 := hZ.free 11
    have z12 := hZ.cell 12
    have f12 := hZ.free 12
    go_wp2
    have ZF := hZ.set13 (.int .i64 0) (.int .u64 0) (.int .i64 0) (.int .i64 0) (.int .u64 0) (.int .u64 0) (.int .i64 0) (.int .u64 0) (.slice none 0 0) (.slice none 0 0) (.int .i64 0) (.int .u64 0) (.int .u64 0)
    have hxf := PM.Bx.set13 g2 w4 (.int .i64 0) (.int .u64 0) (.int .i64 0) (.int .i64 0) (.int .u64 0) (.int .u64 0) (.int .i64 0) (.int .u64 0) (.slice none 0 0) (.slice none 0 0) (.int .i64 0) (.int .u64 0) (.int .u64 0)
    generalize (((((((((((((w4.setCell ⟨g2, 0, none⟩ (.int .i64 0)).setCell ⟨g2, 1, none⟩ (.int .u64 0)).setCell ⟨g2, 2, none⟩ (.int .i64 0)).setCell ⟨g2, 3, none⟩ (.int .i64 0)).setCell ⟨g2, 4, none⟩ (.int .u64 0)).setCell ⟨g2, 5, none⟩ (.int .u64 0)).setCell ⟨g2, 6, none⟩ (.int .i64 0)).setCell ⟨g2, 7, none⟩ (.int .u64 0)).setCell ⟨g2, 8, none⟩ (.slice none 0 0)).setCell ⟨g2, 9, none⟩ (.slice none 0 0)).setCell ⟨g2, 10, none⟩ (.int .i64 0)).setCell ⟨g2, 11, none⟩ (.int .u64 0)).setCell ⟨g2, 12, none⟩ (.int .u64 0)) = wf at *
    have q0 := ZF.cell 0
    have q1 := ZF.cell 1
    have q2 := ZF.cell 2
    have q3 := ZF.cell 3
    have q4 := ZF.cell 4
    have q5 := ZF.cell 5
    have q6 := ZF.cell 6
    have q7 := ZF.cell 7
    have q8 := ZF.cell 8
    have q9 := ZF.cell 9
    have q10 := ZF.cell 10
    have q11 := ZF.cell 11
    have q12 := ZF.cell 12
    refine bodyPost_ret (v := .tuple #[.agg #[.int .i64 0, .int .u64 0, .int .i64 0, .int .i64 0, .int .u64 0, .int .u64 0, .int .i64 0, .int .u64 0, .slice none 0 0, .slice none 0 0, .int .i64 0, .int .u64 0, .int .u64 0], .int .i64 110]) (by simp [results, Try.results20, go_sem, q0, q1, q2, q3, q4, q5, q6, q7, q8, q9, q10, q11, q12]) rfl ?_
    exact ⟨PM.Rc0, .slice none 0 0, .slice none 0 0, 110, rfl, .inr ⟨rfl, hDn.out, rfl, rfl, rfl⟩, PM.OM.nilrow _, PM.OEv.nil _, hxf.below hB.out hg2w hB.out.size⟩
  obtain ⟨rfl, rfl⟩ := hdone
  have hdn' : Calls Try.prog 39 #[.pointer (some ⟨b, 0, none⟩)] w4 fun e w' => e = .returned (.bool true) ∧ w4 = w' := hdn
  clear hdn
  have hwfx : PM.Rc.wf ⟨rk, rn, PM.En0, PM.Id0⟩ := ⟨hkw, hn64, PM.En0_wf, PM.Id0_wf⟩
  have hck := record_any ⟨rk, rn, PM.En0, PM.Id0⟩ (.slice none 0 0) (.slice none 0 0) w4 hwfx ((PM.OM.nilrow (e := PM.teL) (c := 5) (E := 114) (B := w.heap.size) w4).em PM.teL_len) (PM.OEv.nil (TE := 84) (TA := 112) (B := w.heap.size) w4).evl
  unfold PM.rcC PM.enC PM.idL at hck
  simp only [List.cons_append, List.nil_append] at hck
  have c0 : w4.cell? ⟨g5, 0, none⟩ = some (.int .i64 rk) := hX.cell 0
  have c1 : w4.cell? ⟨g5, 1, none⟩ = some (.int .u64 (rn : Int)) := hX.cell 1
  have c2 : w4.cell? ⟨g5, 2, none⟩ = some (.int .i64 0) := hX.cell 2
  have c3 : w4.cell? ⟨g5, 3, none⟩ = some (.int .i64 0) := hX.cell 3
  have c4 : w4.cell? ⟨g5, 4, none⟩ = some (.int .u64 0) := hX.cell 4
  have c5 : w4.cell? ⟨g5, 5, none⟩ = some (.int .u64 0) := hX.cell 5
  have c6 : w4.cell? ⟨g5, 6, none⟩ = some (.int .i64 0) := hX.cell 6
  have c7 : w4.cell? ⟨g5, 7, none⟩ = some (.int .u64 0) := hX.cell 7
  have c8 : w4.cell? ⟨g5, 8, none⟩ = some (.slice none 0 0) := hX.cell 8
  have c9 : w4.cell? ⟨g5, 9, none⟩ = some (.slice none 0 0) := hX.cell 9
  have c10 : w4.cell? ⟨g5, 10, none⟩ = some (.int .i64 0) := hX.cell 10
  have c11 : w4.cell? ⟨g5, 11, none⟩ = some (.int .u64 0) := hX.cell 11
  have c12 : w4.cell? ⟨g5, 12, none⟩ = some (.int .u64 0) := hX.cell 12
  go_wp2_with fail
  refine hdn'.mono ?_
  clear hdn'
  rintro e wd ⟨rfl, rfl⟩
  go_wp2_with fail
  refine hck.mono ?_
  clear hck
  rintro e we ⟨hr', hBe⟩
  rcases hr' with ⟨rfl, hok⟩ | ⟨rfl, hok⟩
  case inr =>
    have hDn : Hid (PM.decRc l = none) := PM.hid (by rw [hD.out]; exact PM.finR_no fun h => hok h.2.2)
    clear hok
    replace hZ := hZ.keep hBe
    replace hB := PM.hid (PM.chain hB.out hBe)
    clear hBe c0 c1 c2 c3 c4 c5 c6 c7 c8 c9 c10 c11 c12
    have z0 := hZ.cell 0
    have f0 := hZ.free 0
    have z1 := hZ.cell 1
    have f1 := hZ.free 1
    have z2 := hZ.cell 2
    have f2 := hZ.free 2
    have z3 := hZ.cell 3
    have f3 := hZ.free 3
    have z4 := hZ.cell 4
    have f4 := hZ.free 4
    have z5 := hZ.cell 5
    have f5 := hZ.free 5
    have z6 := hZ.cell 6
    have f6 := hZ.free 6
    have z7 := hZ.cell 7
    have f7 := hZ.free 7
    have z8 := hZ.cell 8
    have f8 := hZ.free 8
    have z9 := hZ.cell 9
    have f9 := hZ.free 9
    have z10 := hZ.cell 10
    have f10 := hZ.free 10
    have z11 := hZ.cell 11
    have f11 := hZ.free 11
    have z12 := hZ.cell 12
    have f12 := hZ.free 12
    go_wp2
    have ZF := hZ.set13 (.int .i64 0) (.int .u64 0) (.int .i64 0) (.int .i64 0) (.int .u64 0) (.int .u64 0) (.int .i64 0) (.int .u64 0) (.slice none 0 0) (.slice none 0 0) (.int .i64 0) (.int .u64 0) (.int .u64 0)
    have hxf := PM.Bx.set13 g2 we (.int .i64 0) (.int .u64 0) (.int .i64 0) (.int .i64 0) (.int .u64 0) (.int .u64 0) (.int .i64 0) (.int .u64 0) (.slice none 0 0) (.slice none 0 0) (.int .i64 0) (.int .u64 0) (.int .u64 0)
    generalize (((((((((((((we.setCell ⟨g2, 0, none⟩ (.int .i64 0)).setCell ⟨g2, 1, none⟩ (.int .u64 0)).setCell ⟨g2, 2, none⟩ (.int .i64 0)).setCell ⟨g2, 3, none⟩ (.int .i64 0)).setCell ⟨g2, 4, none⟩ (.int .u64 0)).setCell ⟨g2, 5, none⟩ (.int .u64 0)).setCell ⟨g2, 6, none⟩ (.int .i64 0)).setCell ⟨g2, 7, none⟩ (.int .u64 0)).setCell ⟨g2, 8, none⟩ (.slice none 0 0)).setCell ⟨g2, 9, none⟩ (.slice none 0 0)).setCell ⟨g2, 10, none⟩ (.int .i64 0)).setCell ⟨g2, 11, none⟩ (.int .u64 0)).setCell ⟨g2, 12, none⟩ (.int .u64 0)) = wf at *
    have q0 := ZF.cell 0
    have q1 := ZF.cell 1
    have q2 := ZF.cell 2
    have q3 := ZF.cell 3
    have q4 := ZF.cell 4
    have q5 := ZF.cell 5
    have q6 := ZF.cell 6
    have q7 := ZF.cell 7
    have q8 := ZF.cell 8
    have q9 := ZF.cell 9
    have q10 := ZF.cell 10
    have q11 := ZF.cell 11
    have q12 := ZF.cell 12
    refine bodyPost_ret (v := .tuple #[.agg #[.int .i64 0, .int .u64 0, .int .i64 0, .int .i64 0, .int .u64 0, .int .u64 0, .int .i64 0, .int .u64 0, .slice none 0 0, .slice none 0 0, .int .i64 0, .int .u64 0, .int .u64 0], .int .i64 110]) (by simp [results, Try.results20, go_sem, q0, q1, q2, q3, q4, q5, q6, q7, q8, q9, q10, q11, q12]) rfl ?_
    exact ⟨PM.Rc0, .slice none 0 0, .slice none 0 0, 110, rfl, .inr ⟨rfl, hDn.out, rfl, rfl, rfl⟩, PM.OM.nilrow _, PM.OEv.nil _, hxf.below hB.out hg2w hB.out.size⟩
  have hDy : Hid (PM.decRc l = some ⟨rk, rn, PM.En0, PM.Id0⟩) := PM.hid (by rw [hD.out]; exact PM.finR_yes hok)
  clear hok
  replace hZ := hZ.keep hBe
  replace hX := hX.keep hBe
  replace hB := PM.hid (PM.chain hB.out hBe)
  have hfk := PM.hid ((PM.OM.nilrow (e := PM.teL) (c := 5) (E := 114) (B := w.heap.size) w4).keep hBe)
  have hok := PM.hid ((PM.OEv.nil (TE := 84) (TA := 112) (B := w.heap.size) w4).keep hBe)
  clear hBe c0 c1 c2 c3 c4 c5 c6 c7 c8 c9 c10 c11 c12
  have c0 : we.cell? ⟨g5, 0, none⟩ = some (.int .i64 rk) := hX.cell 0
  have c1 : we.cell? ⟨g5, 1, none⟩ = some (.int .u64 (rn : Int)) := hX.cell 1
  have c2 : we.cell? ⟨g5, 2, none⟩ = some (.int .i64 0) := hX.cell 2
  have c3 : we.cell? ⟨g5, 3, none⟩ = some (.int .i64 0) := hX.cell 3
  have c4 : we.cell? ⟨g5, 4, none⟩ = some (.int .u64 0) := hX.cell 4
  have c5 : we.cell? ⟨g5, 5, none⟩ = some (.int .u64 0) := hX.cell 5
  have c6 : we.cell? ⟨g5, 6, none⟩ = some (.int .i64 0) := hX.cell 6
  have c7 : we.cell? ⟨g5, 7, none⟩ = some (.int .u64 0) := hX.cell 7
  have c8 : we.cell? ⟨g5, 8, none⟩ = some (.slice none 0 0) := hX.cell 8
  have c9 : we.cell? ⟨g5, 9, none⟩ = some (.slice none 0 0) := hX.cell 9
  have c10 : we.cell? ⟨g5, 10, none⟩ = some (.int .i64 0) := hX.cell 10
  have c11 : we.cell? ⟨g5, 11, none⟩ = some (.int .u64 0) := hX.cell 11
  have c12 : we.cell? ⟨g5, 12, none⟩ = some (.int .u64 0) := hX.cell 12
  have z0 := hZ.cell 0
  have f0 := hZ.free 0
  have z1 := hZ.cell 1
  have f1 := hZ.free 1
  have z2 := hZ.cell 2
  have f2 := hZ.free 2
  have z3 := hZ.cell 3
  have f3 := hZ.free 3
  have z4 := hZ.cell 4
  have f4 := hZ.free 4
  have z5 := hZ.cell 5
  have f5 := hZ.free 5
  have z6 := hZ.cell 6
  have f6 := hZ.free 6
  have z7 := hZ.cell 7
  have f7 := hZ.free 7
  have z8 := hZ.cell 8
  have f8 := hZ.free 8
  have z9 := hZ.cell 9
  have f9 := hZ.free 9
  have z10 := hZ.cell 10
  have f10 := hZ.free 10
  have z11 := hZ.cell 11
  have f11 := hZ.free 11
  have z12 := hZ.cell 12
  have f12 := hZ.free 12
  go_wp2
  have ZF := hZ.set13 (.int .i64 rk) (.int .u64 (rn : Int)) (.int .i64 0) (.int .i64 0) (.int .u64 0) (.int .u64 0) (.int .i64 0) (.int .u64 0) (.slice none 0 0) (.slice none 0 0) (.int .i64 0) (.int .u64 0) (.int .u64 0)
  have hxf := PM.Bx.set13 g2 we (.int .i64 rk) (.int .u64 (rn : Int)) (.int .i64 0) (.int .i64 0) (.int .u64 0) (.int .u64 0) (.int .i64 0) (.int .u64 0) (.slice none 0 0) (.slice none 0 0) (.int .i64 0) (.int .u64 0) (.int .u64 0)
  generalize (((((((((((((we.setCell ⟨g2, 0, none⟩ (.int .i64 rk)).setCell ⟨g2, 1, none⟩ (.int .u64 (rn : Int))).setCell ⟨g2, 2, none⟩ (.int .i64 0)).setCell ⟨g2, 3, none⟩ (.int .i64 0)).setCell ⟨g2, 4, none⟩ (.int .u64 0)).setCell ⟨g2, 5, none⟩ (.int .u64 0)).setCell ⟨g2, 6, none⟩ (.int .i64 0)).setCell ⟨g2, 7, none⟩ (.int .u64 0)).setCell ⟨g2, 8, none⟩ (.slice none 0 0)).setCell ⟨g2, 9, none⟩ (.slice none 0 0)).setCell ⟨g2, 10, none⟩ (.int .i64 0)).setCell ⟨g2, 11, none⟩ (.int .u64 0)).setCell ⟨g2, 12, none⟩ (.int .u64 0)) = wf at *
  have q0 := ZF.cell 0
  have q1 := ZF.cell 1
  have q2 := ZF.cell 2
  have q3 := ZF.cell 3
  have q4 := ZF.cell 4
  have q5 := ZF.cell 5
  have q6 := ZF.cell 6
  have q7 := ZF.cell 7
  have q8 := ZF.cell 8
  have q9 := ZF.cell 9
  have q10 := ZF.cell 10
  have q11 := ZF.cell 11
  have q12 := ZF.cell 12
  refine bodyPost_ret (v := .tuple #[.agg #[.int .i64 rk, .int .u64 (rn : Int), .int .i64 0, .int .i64 0, .int .u64 0, .int .u64 0, .int .i64 0, .int .u64 0, .slice none 0 0, .slice none 0 0, .int .i64 0, .int .u64 0, .int .u64 0], .int .i64 0]) (by simp [results, Try.results20, go_sem, q0, q1, q2, q3, q4, q5, q6, q7, q8, q9, q10, q11, q12]) rfl ?_
  exact ⟨⟨rk, rn, PM.En0, PM.Id0⟩, _, _, 0, rfl, .inl ⟨rfl, hDy.out⟩, hfk.out.keepx hxf hZ (by decide), hok.out.keepx hxf hZ (by decide) (by decide), hxf.below hB.out hg2w hB.out.size⟩
end Go.Proofs.Ytphdadlpfjfeoaa
