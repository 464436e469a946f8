/-
  CONTRACT OF entry.Decode.
-/
import Derived.Test.YtphdadlpfjfeoaaJC
import Derived.Test.YtphdadlpfjfeoaaIC
import Derived.Test.YtphdadlpfjfeoaaP1
namespace Go.Proofs.Ytphdadlpfjfeoaa
open Go.RowKit
set_option linter.unusedVariables false
set_option linter.unusedSimpArgs false
namespace PM
def En0 : En := ⟨0, ⟨0, 0, 0⟩, 0, 0, [], []⟩
def isSl (v : Value) : Bool := match v with | .slice _ _ _ => true | _ => false
theorem en_nobyte (a b c d e f : Int) {x y : Value} (hx : isSl x = true) (hy : isSl y = true) : ∀ (i : Nat) (z : UInt8), (#[Value.int .i64 a, Value.int .i64 b, Value.int .u64 c, Value.int .u64 d, Value.int .i64 e, Value.int .u64 f, x, y] : Array Value)[i]? ≠ Option.some (bv z) := by
  intro i z he
  match i with
  | 0 => simp [bv] at he
  | 1 => simp [bv] at he
  | 2 => simp [bv] at he
  | 3 => simp [bv] at he
  | 4 => simp [bv] at he
  | 5 => simp [bv] at he
  | 6 => simp at he; subst he; simp [isSl, bv] at hx
  | 7 => simp at he; subst he; simp [isSl, bv] at hy
  | i + 8 => simp at he
theorem Bx.set8 (g : Nat) (w : World) (a b c d e f x y : Value) : Bx g w ((((((((w.setCell ⟨g, 0, Option.none⟩ a).setCell ⟨g, 1, Option.none⟩ b).setCell ⟨g, 2, Option.none⟩ c).setCell ⟨g, 3, Option.none⟩ d).setCell ⟨g, 4, Option.none⟩ e).setCell ⟨g, 5, Option.none⟩ f).setCell ⟨g, 6, Option.none⟩ x).setCell ⟨g, 7, Option.none⟩ y) :=
  ((((((((Bx.set g 0 w a)).trans (Bx.set g 1 _ b)).trans (Bx.set g 2 _ c)).trans (Bx.set g 3 _ d)).trans (Bx.set g 4 _ e)).trans (Bx.set g 5 _ f)).trans (Bx.set g 6 _ x)).trans (Bx.set g 7 _ y)
theorem BK.set8 {w : World} {r : Nat} {a b c d e f g h : Value} {T : TypeId} (k : BK w r #[a, b, c, d, e, f, g, h] T) (a' b' c' d' e' f' g' h' : Value) : BK ((((((((w.setCell ⟨r, 0, Option.none⟩ a').setCell ⟨r, 1, Option.none⟩ b').setCell ⟨r, 2, Option.none⟩ c').setCell ⟨r, 3, Option.none⟩ d').setCell ⟨r, 4, Option.none⟩ e').setCell ⟨r, 5, Option.none⟩ f').setCell ⟨r, 6, Option.none⟩ g').setCell ⟨r, 7, Option.none⟩ h') r #[a', b', c', d', e', f', g', h'] T := by
  have := (((((((k.set 0 a').set 1 b').set 2 c').set 3 d').set 4 e').set 5 f').set 6 g').set 7 h'
  simpa using this
end PM
/-- what Decode answers -/
def RetDE (W : World) (l : List UInt8) (e : Ending) (w' : World) : Prop :=
  ∃ (x : PM.En) (fv ev : Value) (n : Int), e = .returned (.tuple #[.agg (PM.enC x fv ev).toArray, .int .i64 n]) ∧ (n = 0 ∧ PM.decEn l = some x ∨ n = 110 ∧ PM.decEn l = none ∧ x = PM.En0 ∧ fv = .slice none 0 0 ∧ ev = .slice none 0 0) ∧
    PM.OM PM.teL 5 114 W.heap.size w' fv x.fil ∧ PM.OEv 84 112 W.heap.size w' ev x.evs ∧ Below W.heap.size W w'
set_option maxRecDepth 100000 in
set_option maxHeartbeats 16000000 in
theorem endecode_any (v : Value) (l : List UInt8) (w : World) (hv : PM.BS w v l) (hl : l.length ≤ 70368744177664) :
    Calls Try.prog 36 #[v] w (RetDE w l) := by
  obtain ⟨k, l1, wr1, s1⟩ : ∃ a b c, PM.stepN l false = (a, b, c) := ⟨_, _, _, rfl⟩
  obtain ⟨i, l2, wr2, s2⟩ : ∃ a b c, PM.readI l1 wr1 = (a, b, c) := ⟨_, _, _, rfl⟩
  obtain ⟨c, l3, wr3, s3⟩ : ∃ a b c, PM.stepN l2 wr2 = (a, b, c) := ⟨_, _, _, rfl⟩
  obtain ⟨sub, l4, wr4, s4⟩ : ∃ a b c, PM.stepN l3 wr3 = (a, b, c) := ⟨_, _, _, rfl⟩
  have hDE := PM.hid (PM.decEn_eq (PM.headE_eq s1 s2 s3 s4))
  have p1 := (PM.stepN_lt l false).2
  have p2 := PM.readI_le l1 wr1
  have p3 := (PM.stepN_lt l2 wr2).2
  have p4 := PM.stepN_lt l3 wr3
  have hiw := PM.readI_wf l1 wr1
  have hN1 := fun (b : Nat) (W : World) (h : PM.RD 102 W b l false) => small_any b l false W h
  have hN2 := fun (b : Nat) (W : World) (h : PM.RD 102 W b l1 wr1) => idread_any b l1 wr1 W h
  have hN3 := fun (b : Nat) (W : World) (h : PM.RD 102 W b l2 wr2) => small_any b l2 wr2 W h
  have hN4 := fun (b : Nat) (W : World) (h : PM.RD 102 W b l3 wr3) => rnumber_any b l3 wr3 W h
  rw [s1] at p1 hN1
  rw [s2] at p2 hN2 hiw
  rw [s3] at p3 hN3
  rw [s4] at p4 hN4
  obtain ⟨ib, il, is⟩ := i
  have hkw := PM.sm_wf k
  have hcw := PM.sm_wf c
  simp only at p1 p2 p3 p4 hN1 hN2 hN3 hN4 hiw
  obtain ⟨hs64, p4⟩ := p4
  have hw0 := hiw.2.1
  have hw1 := hiw.2.2
  simp only at hw0 hw1
  clear s1 s2 s3 s4
  generalize PM.sm k = kd at *
  generalize PM.sm c = cl at *
  obtain ⟨g2, hg2⟩ : ∃ g, g = w.heap.size := ⟨_, rfl⟩
  obtain ⟨W0, hW0⟩ : ∃ W, W = w.alloc (.cells #[.int .i64 0, .int .i64 0, .int .u64 0, .int .u64 0, .int .i64 0, .int .u64 0, .slice none 0 0, .slice none 0 0] 44) := ⟨_, rfl⟩
  have hB0 : Below w.heap.size w W0 := by rw [hW0]; exact (Below.refl _ _).alloc (Nat.le_refl _) _
  have hZ : PM.BK W0 g2 #[.int .i64 0, .int .i64 0, .int .u64 0, .int .u64 0, .int .i64 0, .int .u64 0, .slice none 0 0, .slice none 0 0] 44 := by rw [hW0, hg2]; exact PM.BK.new _ _ _
  have hNw := new_any v l W0 (hv.keep hB0) hl
  obtain ⟨va, vc, hve⟩ := hv.len
  subst hve
  have hg2w : w.heap.size ≤ g2 := by omega
  clear hv
  go_enter Try.func36, Try.ntmps36
  go_upto_region 1 with fail
  rw [← hW0, ← hg2]
  clear hW0 hg2
  go_wp2_with fail
  refine hNw.mono ?_
  clear hNw
  rintro e w1 ⟨b, rfl, hb0, hr, hB1⟩
  have hg2b : g2 ≠ b := by have := hZ.lt; omega
  have hbw : w.heap.size ≤ b := by have := hB0.size; omega
  replace hZ := hZ.keep hB1
  have hB := PM.hid (PM.chain hB0 hB1)
  clear hB0 hB1 hb0
  go_wp2_with fail
  refine (hN1 b w1 hr).mono ?_
  clear hN1
  rintro e w2 ⟨rfl, hr2, hx2⟩
  replace hZ := hZ.keepx hx2 hg2b
  replace hB := PM.hid (hx2.below hB.out hbw hB.out.size)
  clear hx2 hr
  go_upto_region 3 with fail
  obtain ⟨g5, hg5⟩ : ∃ g, g = w2.heap.size := ⟨_, rfl⟩
  obtain ⟨W2, hW2⟩ : ∃ W, W = w2.alloc (.cells #[.int .i64 kd, .int .i64 0, .int .u64 0, .int .u64 0, .int .i64 0, .int .u64 0, .slice none 0 0, .slice none 0 0] 44) := ⟨_, rfl⟩
  have hB2 : Below w2.heap.size w2 W2 := by rw [hW2]; exact (Below.refl _ _).alloc (Nat.le_refl _) _
  have hX : PM.BK W2 g5 #[.int .i64 kd, .int .i64 0, .int .u64 0, .int .u64 0, .int .i64 0, .int .u64 0, .slice none 0 0, .slice none 0 0] 44 := by rw [hW2, hg5]; exact PM.BK.new _ _ _
  have hg5b : g5 ≠ b := by have := hr2.lt; omega
  have hg25 : g2 ≠ g5 := by have := hZ.lt; omega
  have hg5w : w.heap.size ≤ g5 := by have := hB.out.size; omega
  replace hr2 := hr2.keep hB2
  replace hZ := hZ.keep hB2
  replace hB := PM.hid (PM.chain hB.out hB2)
  rw [← hW2, ← hg5]
  clear hW2 hg5 hB2
  go_wp2_with fail
  refine (hN2 b W2 hr2).mono ?_
  clear hN2
  rintro e w3 ⟨rfl, hr3, hx3⟩
  replace hZ := hZ.keepx hx3 hg2b
  replace hX := hX.keepx hx3 hg5b
  replace hB := PM.hid (hx3.below hB.out hbw hB.out.size)
  clear hx3 hr2
  have f1 := hX.free 1
  have t1 := hX.cell 1
  have f2 := hX.free 2
  have t2 := hX.cell 2
  have f3 := hX.free 3
  have t3 := hX.cell 3
  go_upto_region 4 with fail
  have kn := ((hX.set 1 (.int .i64 ib)).set 2 (.int .u64 (il : Int))).set 3 (.int .u64 (is : Int))
  replace kn : PM.BK (((w3.setCell ⟨g5, 1, none⟩ (.int .i64 ib)).setCell ⟨g5, 2, none⟩ (.int .u64 (il : Int))).setCell ⟨g5, 3, none⟩ (.int .u64 (is : Int))) g5 #[.int .i64 kd, .int .i64 ib, .int .u64 (il : Int), .int .u64 (is : Int), .int .i64 0, .int .u64 0, .slice none 0 0, .slice none 0 0] 44 := by simpa using kn
  have hxs : PM.Bx g5 w3 (((w3.setCell ⟨g5, 1, none⟩ (.int .i64 ib)).setCell ⟨g5, 2, none⟩ (.int .u64 (il : Int))).setCell ⟨g5, 3, none⟩ (.int .u64 (is : Int))) := ((PM.Bx.set g5 1 w3 (.int .i64 ib)).trans (PM.Bx.set g5 2 _ (.int .u64 (il : Int)))).trans (PM.Bx.set g5 3 _ (.int .u64 (is : Int)))
  generalize (((w3.setCell ⟨g5, 1, none⟩ (.int .i64 ib)).setCell ⟨g5, 2, none⟩ (.int .u64 (il : Int))).setCell ⟨g5, 3, none⟩ (.int .u64 (is : Int))) = w4 at *
  replace hZ := hZ.keepx hxs hg25
  have hr := PM.RD.keepy hxs (Ne.symm hg5b) hX (PM.en_nobyte _ _ _ _ _ _ rfl rfl) hr3
  replace hB := PM.hid (hxs.below hB.out hg5w hB.out.size)
  replace hX := kn
  clear hxs kn hr3
  clear f1 f2 f3 t1 t2 t3
  go_wp2_with fail
  refine (hN3 b w4 hr).mono ?_
  clear hN3
  rintro e w5 ⟨rfl, hr5, hx5⟩
  replace hZ := hZ.keepx hx5 hg2b
  replace hX := hX.keepx hx5 hg5b
  replace hB := PM.hid (hx5.below hB.out hbw hB.out.size)
  clear hx5 hr
  have f4 := hX.free 4
  have t4 := hX.cell 4
  go_upto_region 5 with fail
  have kn := hX.set 4 (.int .i64 cl)
  replace kn : PM.BK (w5.setCell ⟨g5, 4, none⟩ (.int .i64 cl)) g5 #[.int .i64 kd, .int .i64 ib, .int .u64 (il : Int), .int .u64 (is : Int), .int .i64 cl, .int .u64 0, .slice none 0 0, .slice none 0 0] 44 := by simpa using kn
  have hxs : PM.Bx g5 w5 (w5.setCell ⟨g5, 4, none⟩ (.int .i64 cl)) := PM.Bx.set g5 4 w5 (.int .i64 cl)
  generalize (w5.setCell ⟨g5, 4, none⟩ (.int .i64 cl)) = w6 at *
  replace hZ := hZ.keepx hxs hg25
  have hr := PM.RD.keepy hxs (Ne.symm hg5b) hX (PM.en_nobyte _ _ _ _ _ _ rfl rfl) hr5
  replace hB := PM.hid (hxs.below hB.out hg5w hB.out.size)
  replace hX := kn
  clear hxs kn hr5
  clear f4 t4
  go_wp2_with fail
  refine (hN4 b w6 hr).mono ?_
  clear hN4
  rintro e w7 ⟨rfl, hr7, hx7⟩
  replace hZ := hZ.keepx hx7 hg2b
  replace hX := hX.keepx hx7 hg5b
  replace hB := PM.hid (hx7.below hB.out hbw hB.out.size)
  clear hx7 hr
  have f5 := hX.free 5
  have t5 := hX.cell 5
  go_upto_region 6 with fail
  have kn := hX.set 5 (.int .u64 (sub : Int))
  replace kn : PM.BK (w7.setCell ⟨g5, 5, none⟩ (.int .u64 (sub : Int))) g5 #[.int .i64 kd, .int .i64 ib, .int .u64 (il : Int), .int .u64 (is : Int), .int .i64 cl, .int .u64 (sub : Int), .slice none 0 0, .slice none 0 0] 44 := by simpa using kn
  have hxs : PM.Bx g5 w7 (w7.setCell ⟨g5, 5, none⟩ (.int .u64 (sub : Int))) := PM.Bx.set g5 5 w7 (.int .u64 (sub : Int))
  generalize (w7.setCell ⟨g5, 5, none⟩ (.int .u64 (sub : Int))) = w8 at *
  replace hZ := hZ.keepx hxs hg25
  have hr := PM.RD.keepy hxs (Ne.symm hg5b) hX (PM.en_nobyte _ _ _ _ _ _ rfl rfl) hr7
  replace hB := PM.hid (hxs.below hB.out hg5w hB.out.size)
  replace hX := kn
  clear hxs kn hr7
  clear f5 t5
  by_cases k1 : kd = 1
  case pos =>
    subst k1
    have hev := readEvents_any b l4 wr4 (l.length : Int) w8 hr (by omega) (by omega) (by omega)
    have c0 : w8.cell? ⟨g5, 0, none⟩ = some (.int .i64 1) := hX.cell 0
    have c1 : w8.cell? ⟨g5, 1, none⟩ = some (.int .i64 ib) := hX.cell 1
    have c2 : w8.cell? ⟨g5, 2, none⟩ = some (.int .u64 (il : Int)) := hX.cell 2
    have c3 : w8.cell? ⟨g5, 3, none⟩ = some (.int .u64 (is : Int)) := hX.cell 3
    have c4 : w8.cell? ⟨g5, 4, none⟩ = some (.int .i64 cl) := hX.cell 4
    have c5 : w8.cell? ⟨g5, 5, none⟩ = some (.int .u64 (sub : Int)) := hX.cell 5
    have c6 : w8.cell? ⟨g5, 6, none⟩ = some (.slice none 0 0) := hX.cell 6
    have c7 : w8.cell? ⟨g5, 7, none⟩ = some (.slice none 0 0) := hX.cell 7
    go_wp2_with fail
    refine hev.mono ?_
    clear hev c0 c1 c2 c3 c4 c5 c6 c7
    rintro e w9 (⟨es, l', wr', o, h8, hst, rfl, hO, hr9, hx9⟩ | ⟨z, hz0, hbad, rfl, hx9⟩)
    · have hD : Hid (PM.decEn l = PM.finE ⟨1, ⟨ib, il, is⟩, cl, sub, [], es⟩ l' wr') := PM.hid (by rw [hDE.out]; unfold PM.decK; rw [if_pos rfl, if_neg h8, hst])
      obtain ⟨oa, oc, hoe⟩ := hO.len
      subst hoe
      replace hO := hO.mono hB.out.size
      replace hZ := hZ.keepx hx9 hg2b
      replace hX := hX.keepx hx9 hg5b
      replace hB := PM.hid (hx9.below hB.out hbw hB.out.size)
      clear hx9 hr
      have hsth := PM.hid hst
      clear hst h8 hDE
      have f7 := hX.free 7
      have t7 := hX.cell 7
      go_upto_region 12 with fail
      have kn := hX.set 7 (.slice oa es.length oc)
      replace kn : PM.BK (w9.setCell ⟨g5, 7, none⟩ (.slice oa es.length oc)) g5 #[.int .i64 1, .int .i64 ib, .int .u64 (il : Int), .int .u64 (is : Int), .int .i64 cl, .int .u64 (sub : Int), .slice none 0 0, .slice oa es.length oc] 44 := by simpa using kn
      have hxs : PM.Bx g5 w9 (w9.setCell ⟨g5, 7, none⟩ (.slice oa es.length oc)) := PM.Bx.set g5 7 w9 (.slice oa es.length oc)
      generalize (w9.setCell ⟨g5, 7, none⟩ (.slice oa es.length oc)) = wA at *
      replace hO := hO.keepx hxs hX (by decide) (by decide)
      replace hZ := hZ.keepx hxs hg25
      have hr := PM.RD.keepy hxs (Ne.symm hg5b) hX (PM.en_nobyte _ _ _ _ _ _ rfl rfl) hr9
      replace hB := PM.hid (hxs.below hB.out hg5w hB.out.size)
      replace hX := kn
      clear hxs kn hr9
      clear f7 t7
      have hdn := done_any b l' wr' wA hr
      by_cases hdone : wr' = false ∧ l' = []
      case neg =>
        have hDn : Hid (PM.decEn l = none) := PM.hid (by rw [hD.out]; exact PM.finE_no fun h => hdone ⟨h.1, h.2.1⟩)
        have hdf : (!wr' && decide (l' = [])) = false := by
          cases wr' <;> simp at hdone ⊢
          exact hdone
        rw [hdf] at hdn
        clear hdone hdf
        have c0 : wA.cell? ⟨g5, 0, none⟩ = some (.int .i64 1) := hX.cell 0
        have c1 : wA.cell? ⟨g5, 1, none⟩ = some (.int .i64 ib) := hX.cell 1
        have c2 : wA.cell? ⟨g5, 2, none⟩ = some (.int .u64 (il : Int)) := hX.cell 2
        have c3 : wA.cell? ⟨g5, 3, none⟩ = some (.int .u64 (is : Int)) := hX.cell 3
        have c4 : wA.cell? ⟨g5, 4, none⟩ = some (.int .i64 cl) := hX.cell 4
        have c5 : wA.cell? ⟨g5, 5, none⟩ = some (.int .u64 (sub : Int)) := hX.cell 5
        have c6 : wA.cell? ⟨g5, 6, none⟩ = some (.slice none 0 0) := hX.cell 6
        have c7 : wA.cell? ⟨g5, 7, none⟩ = some (.slice oa es.length oc) := hX.cell 7
        go_wp2_with fail
        refine hdn.mono ?_
        clear hdn
        rintro e wd ⟨rfl, rfl⟩
        clear c0 c1 c2 c3 c4 c5 c6 c7
        have z0 := hZ.cell 0
        have f0 := hZ.free 0
        have z1 := hZ.cell 1
        have f1 := hZ.free 1
        have z2 := hZ.cell 2
        have f2 := hZ.free 2
        have z3 := hZ.cell 3
        have f3 := hZ.free 3
        have z4 := hZ.cell 4
        have f4 := hZ.free 4
        have z5 := hZ.cell 5
        have f5 := hZ.free 5
        have z6 := hZ.cell 6
        have f6 := hZ.free 6
        have z7 := hZ.cell 7
        have f7 := hZ.free 7
        go_wp2
        have ZF := hZ.set8 (.int .i64 0) (.int .i64 0) (.int .u64 0) (.int .u64 0) (.int .i64 0) (.int .u64 0) (.slice none 0 0) (.slice none 0 0)
        have hxf := PM.Bx.set8 g2 wA (.int .i64 0) (.int .i64 0) (.int .u64 0) (.int .u64 0) (.int .i64 0) (.int .u64 0) (.slice none 0 0) (.slice none 0 0)
        generalize ((((((((wA.setCell ⟨g2, 0, none⟩ (.int .i64 0)).setCell ⟨g2, 1, none⟩ (.int .i64 0)).setCell ⟨g2, 2, none⟩ (.int .u64 0)).setCell ⟨g2, 3, none⟩ (.int .u64 0)).setCell ⟨g2, 4, none⟩ (.int .i64 0)).setCell ⟨g2, 5, none⟩ (.int .u64 0)).setCell ⟨g2, 6, none⟩ (.slice none 0 0)).setCell ⟨g2, 7, none⟩ (.slice none 0 0)) = wf at *
        have q0 := ZF.cell 0
        have q1 := ZF.cell 1
        have q2 := ZF.cell 2
        have q3 := ZF.cell 3
        have q4 := ZF.cell 4
        have q5 := ZF.cell 5
        have q6 := ZF.cell 6
        have q7 := ZF.cell 7
        refine bodyPost_ret (v := .tuple #[.agg #[.int .i64 0, .int .i64 0, .int .u64 0, .int .u64 0, .int .i64 0, .int .u64 0, .slice none 0 0, .slice none 0 0], .int .i64 110]) (by simp [results, Try.results36, go_sem, q0, q1, q2, q3, q4, q5, q6, q7]) rfl ?_
        exact ⟨PM.En0, .slice none 0 0, .slice none 0 0, 110, rfl, .inr ⟨rfl, hDn.out, rfl, rfl, rfl⟩, PM.OM.nilrow _, PM.OEv.nil _, hxf.below hB.out hg2w hB.out.size⟩
      obtain ⟨rfl, rfl⟩ := hdone
      have hdn' : Calls Try.prog 39 #[.pointer (some ⟨b, 0, none⟩)] wA fun e w' => e = .returned (.bool true) ∧ wA = w' := hdn
      clear hdn
      have hwfx : PM.En.wf ⟨1, ⟨ib, il, is⟩, cl, sub, [], es⟩ := ⟨rfl, hiw, hcw, hs64, by simp, fun e he => ((PM.stepsV_back _ _ _ _ _ hsth.out).2.2 e he).2⟩
      have hck := encheck_any ⟨1, ⟨ib, il, is⟩, cl, sub, [], es⟩ (.slice none 0 0) (.slice oa es.length oc) wA hwfx ((PM.OM.nilrow (e := PM.teL) (c := 5) (E := 114) (B := w.heap.size) wA).em PM.teL_len) hO.evl
      unfold PM.enC at hck
      simp only at hck
      have c0 : wA.cell? ⟨g5, 0, none⟩ = some (.int .i64 1) := hX.cell 0
      have c1 : wA.cell? ⟨g5, 1, none⟩ = some (.int .i64 ib) := hX.cell 1
      have c2 : wA.cell? ⟨g5, 2, none⟩ = some (.int .u64 (il : Int)) := hX.cell 2
      have c3 : wA.cell? ⟨g5, 3, none⟩ = some (.int .u64 (is : Int)) := hX.cell 3
      have c4 : wA.cell? ⟨g5, 4, none⟩ = some (.int .i64 cl) := hX.cell 4
      have c5 : wA.cell? ⟨g5, 5, none⟩ = some (.int .u64 (sub : Int)) := hX.cell 5
      have c6 : wA.cell? ⟨g5, 6, none⟩ = some (.slice none 0 0) := hX.cell 6
      have c7 : wA.cell? ⟨g5, 7, none⟩ = some (.slice oa es.length oc) := hX.cell 7
      by_cases hok : PM.enOk ⟨1, ⟨ib, il, is⟩, cl, sub, [], es⟩
      case neg =>
        have hDn : Hid (PM.decEn l = none) := PM.hid (by rw [hD.out]; exact PM.finE_no fun h => hok h.2.2)
        rw [PM.enE_no hok] at hck
        clear hok
        go_wp2_with fail
        refine hdn'.mono ?_
        clear hdn'
        rintro e wd ⟨rfl, rfl⟩
        go_wp2_with fail
        refine hck.mono ?_
        clear hck
        rintro e we ⟨rfl, hBe⟩
        replace hZ := hZ.keep hBe
        replace hB := PM.hid (PM.chain hB.out hBe)
        clear hBe c0 c1 c2 c3 c4 c5 c6 c7
        have z0 := hZ.cell 0
        have f0 := hZ.free 0
        have z1 := hZ.cell 1
        have f1 := hZ.free 1
        have z2 := hZ.cell 2
        have f2 := hZ.free 2
        have z3 := hZ.cell 3
        have f3 := hZ.free 3
        have z4 := hZ.cell 4
        have f4 := hZ.free 4
        have z5 := hZ.cell 5
        have f5 := hZ.free 5
        have z6 := hZ.cell 6
        have f6 := hZ.free 6
        have z7 := hZ.cell 7
        have f7 := hZ.free 7
        go_wp2
        have ZF := hZ.set8 (.int .i64 0) (.int .i64 0) (.int .u64 0) (.int .u64 0) (.int .i64 0) (.int .u64 0) (.slice none 0 0) (.slice none 0 0)
        have hxf := PM.Bx.set8 g2 we (.int .i64 0) (.int .i64 0) (.int .u64 0) (.int .u64 0) (.int .i64 0) (.int .u64 0) (.slice none 0 0) (.slice none 0 0)
        generalize ((((((((we.setCell ⟨g2, 0, none⟩ (.int .i64 0)).setCell ⟨g2, 1, none⟩ (.int .i64 0)).setCell ⟨g2, 2, none⟩ (.int .u64 0)).setCell ⟨g2, 3, none⟩ (.int .u64 0)).setCell ⟨g2, 4, none⟩ (.int .i64 0)).setCell ⟨g2, 5, none⟩ (.int .u64 0)).setCell ⟨g2, 6, none⟩ (.slice none 0 0)).setCell ⟨g2, 7, none⟩ (.slice none 0 0)) = wf at *
        have q0 := ZF.cell 0
        have q1 := ZF.cell 1
        have q2 := ZF.cell 2
        have q3 := ZF.cell 3
        have q4 := ZF.cell 4
        have q5 := ZF.cell 5
        have q6 := ZF.cell 6
        have q7 := ZF.cell 7
        refine bodyPost_ret (v := .tuple #[.agg #[.int .i64 0, .int .i64 0, .int .u64 0, .int .u64 0, .int .i64 0, .int .u64 0, .slice none 0 0, .slice none 0 0], .int .i64 110]) (by simp [results, Try.results36, go_sem, q0, q1, q2, q3, q4, q5, q6, q7]) rfl ?_
        exact ⟨PM.En0, .slice none 0 0, .slice none 0 0, 110, rfl, .inr ⟨rfl, hDn.out, rfl, rfl, rfl⟩, PM.OM.nilrow _, PM.OEv.nil _, hxf.below hB.out hg2w hB.out.size⟩
      have hDy : Hid (PM.decEn l = some ⟨1, ⟨ib, il, is⟩, cl, sub, [], es⟩) := PM.hid (by rw [hD.out]; exact PM.finE_yes hok)
      rw [PM.enE_yes hok] at hck
      clear hok
      go_wp2_with fail
      refine hdn'.mono ?_
      clear hdn'
      rintro e wd ⟨rfl, rfl⟩
      go_wp2_with fail
      refine hck.mono ?_
      clear hck
      rintro e we ⟨rfl, hBe⟩
      replace hZ := hZ.keep hBe
      replace hX := hX.keep hBe
      replace hB := PM.hid (PM.chain hB.out hBe)
      have hfk := PM.hid ((PM.OM.nilrow (e := PM.teL) (c := 5) (E := 114) (B := w.heap.size) wA).keep hBe)
      have hok := PM.hid (hO.keep hBe)
      clear hBe c0 c1 c2 c3 c4 c5 c6 c7
      have c0 : we.cell? ⟨g5, 0, none⟩ = some (.int .i64 1) := hX.cell 0
      have c1 : we.cell? ⟨g5, 1, none⟩ = some (.int .i64 ib) := hX.cell 1
      have c2 : we.cell? ⟨g5, 2, none⟩ = some (.int .u64 (il : Int)) := hX.cell 2
      have c3 : we.cell? ⟨g5, 3, none⟩ = some (.int .u64 (is : Int)) := hX.cell 3
      have c4 : we.cell? ⟨g5, 4, none⟩ = some (.int .i64 cl) := hX.cell 4
      have c5 : we.cell? ⟨g5, 5, none⟩ = some (.int .u64 (sub : Int)) := hX.cell 5
      have c6 : we.cell? ⟨g5, 6, none⟩ = some (.slice none 0 0) := hX.cell 6
      have c7 : we.cell? ⟨g5, 7, none⟩ = some (.slice oa es.length oc) := hX.cell 7
      have z0 := hZ.cell 0
      have f0 := hZ.free 0
      have z1 := hZ.cell 1
      have f1 := hZ.free 1
      have z2 := hZ.cell 2
      have f2 := hZ.free 2
      have z3 := hZ.cell 3
      have f3 := hZ.free 3
      have z4 := hZ.cell 4
      have f4 := hZ.free 4
      have z5 := hZ.cell 5
      have f5 := hZ.free 5
      have z6 := hZ.cell 6
      have f6 := hZ.free 6
      have z7 := hZ.cell 7
      have f7 := hZ.free 7
      go_wp2
      have ZF := hZ.set8 (.int .i64 1) (.int .i64 ib) (.int .u64 (il : Int)) (.int .u64 (is : Int)) (.int .i64 cl) (.int .u64 (sub : Int)) (.slice none 0 0) (.slice oa es.length oc)
      have hxf := PM.Bx.set8 g2 we (.int .i64 1) (.int .i64 ib) (.int .u64 (il : Int)) (.int .u64 (is : Int)) (.int .i64 cl) (.int .u64 (sub : Int)) (.slice none 0 0) (.slice oa es.length oc)
      generalize ((((((((we.setCell ⟨g2, 0, none⟩ (.int .i64 1)).setCell ⟨g2, 1, none⟩ (.int .i64 ib)).setCell ⟨g2, 2, none⟩ (.int .u64 (il : Int))).setCell ⟨g2, 3, none⟩ (.int .u64 (is : Int))).setCell ⟨g2, 4, none⟩ (.int .i64 cl)).setCell ⟨g2, 5, none⟩ (.int .u64 (sub : Int))).setCell ⟨g2, 6, none⟩ (.slice none 0 0)).setCell ⟨g2, 7, none⟩ (.slice oa es.length oc)) = wf at *
      have q0 := ZF.cell 0
      have q1 := ZF.cell 1
      have q2 := ZF.cell 2
      have q3 := ZF.cell 3
      have q4 := ZF.cell 4
      have q5 := ZF.cell 5
      have q6 := ZF.cell 6
      have q7 := ZF.cell 7
      refine bodyPost_ret (v := .tuple #[.agg #[.int .i64 1, .int .i64 ib, .int .u64 (il : Int), .int .u64 (is : Int), .int .i64 cl, .int .u64 (sub : Int), .slice none 0 0, .slice oa es.length oc], .int .i64 0]) (by simp [results, Try.results36, go_sem, q0, q1, q2, q3, q4, q5, q6, q7]) rfl ?_
      exact ⟨⟨1, ⟨ib, il, is⟩, cl, sub, [], es⟩, _, _, 0, rfl, .inl ⟨rfl, hDy.out⟩, hfk.out.keepx hxf hZ (by decide), hok.out.keepx hxf hZ (by decide) (by decide), hxf.below hB.out hg2w hB.out.size⟩
    · have hDn : Hid (PM.decEn l = none) := PM.hid (by
        rw [hDE.out]; unfold PM.decK; rw [if_pos rfl]
        rcases hbad with h | h
        · rw [if_pos h]
        · split
          · rfl
          · split
            · rename_i hq; rw [hq] at h; cases h
            · rfl)
      have hzt : (z != 0) = true := by simpa using hz0
      replace hZ := hZ.keepx hx9 hg2b
      replace hX := hX.keepx hx9 hg5b
      replace hB := PM.hid (hx9.below hB.out hbw hB.out.size)
      clear hx9 hr hbad hDE hz0
      have f7 := hX.free 7
      have t7 := hX.cell 7
      go_upto_region 12 with fail
      have kn := hX.set 7 (.slice none 0 0)
      replace kn : PM.BK (w9.setCell ⟨g5, 7, none⟩ (.slice none 0 0)) g5 #[.int .i64 1, .int .i64 ib, .int .u64 (il : Int), .int .u64 (is : Int), .int .i64 cl, .int .u64 (sub : Int), .slice none 0 0, .slice none 0 0] 44 := by simpa using kn
      have hxs : PM.Bx g5 w9 (w9.setCell ⟨g5, 7, none⟩ (.slice none 0 0)) := PM.Bx.set g5 7 w9 (.slice none 0 0)
      generalize (w9.setCell ⟨g5, 7, none⟩ (.slice none 0 0)) = wA at *
      replace hZ := hZ.keepx hxs hg25
      replace hB := PM.hid (hxs.below hB.out hg5w hB.out.size)
      clear hxs kn hX f7 t7
      have z0 := hZ.cell 0
      have f0 := hZ.free 0
      have z1 := hZ.cell 1
      have f1 := hZ.free 1
      have z2 := hZ.cell 2
      have f2 := hZ.free 2
      have z3 := hZ.cell 3
      have f3 := hZ.free 3
      have z4 := hZ.cell 4
      have f4 := hZ.free 4
      have z5 := hZ.cell 5
      have f5 := hZ.free 5
      have z6 := hZ.cell 6
      have f6 := hZ.free 6
      have z7 := hZ.cell 7
      have f7 := hZ.free 7
      go_wp2
      have ZF := hZ.set8 (.int .i64 0) (.int .i64 0) (.int .u64 0) (.int .u64 0) (.int .i64 0) (.int .u64 0) (.slice none 0 0) (.slice none 0 0)
      have hxf := PM.Bx.set8 g2 wA (.int .i64 0) (.int .i64 0) (.int .u64 0) (.int .u64 0) (.int .i64 0) (.int .u64 0) (.slice none 0 0) (.slice none 0 0)
      generalize ((((((((wA.setCell ⟨g2, 0, none⟩ (.int .i64 0)).setCell ⟨g2, 1, none⟩ (.int .i64 0)).setCell ⟨g2, 2, none⟩ (.int .u64 0)).setCell ⟨g2, 3, none⟩ (.int .u64 0)).setCell ⟨g2, 4, none⟩ (.int .i64 0)).setCell ⟨g2, 5, none⟩ (.int .u64 0)).setCell ⟨g2, 6, none⟩ (.slice none 0 0)).setCell ⟨g2, 7, none⟩ (.slice none 0 0)) = wf at *
      have q0 := ZF.cell 0
      have q1 := ZF.cell 1
      have q2 := ZF.cell 2
      have q3 := ZF.cell 3
      have q4 := ZF.cell 4
      have q5 := ZF.cell 5
      have q6 := ZF.cell 6
      have q7 := ZF.cell 7
      refine bodyPost_ret (v := .tuple #[.agg #[.int .i64 0, .int .i64 0, .int .u64 0, .int .u64 0, .int .i64 0, .int .u64 0, .slice none 0 0, .slice none 0 0], .int .i64 110]) (by simp [results, Try.results36, go_sem, q0, q1, q2, q3, q4, q5, q6, q7]) rfl ?_
      exact ⟨PM.En0, .slice none 0 0, .slice none 0 0, 110, rfl, .inr ⟨rfl, hDn.out, rfl, rfl, rfl⟩, PM.OM.nilrow _, PM.OEv.nil _, hxf.below hB.out hg2w hB.out.size⟩
  by_cases k2 : kd = 2
  case pos =>
    subst k2
    have hby := rbytes_any b l4 wr4 (l.length : Int) w8 hr (by omega) (by omega) (by omega)
    have hSl := PM.stepB_lt l4 wr4 (l.length : Int)
    have hD0 : Hid (PM.decEn l = match PM.decT (PM.stepB l4 wr4 l.length).1 with
        | some f => PM.finE ⟨2, ⟨ib, il, is⟩, cl, sub, f, []⟩ (PM.stepB l4 wr4 l.length).2.1 (PM.stepB l4 wr4 l.length).2.2
        | none => none) := PM.hid (by rw [hDE.out]; unfold PM.decK; rw [if_neg (by decide), if_pos rfl]; rfl)
    generalize PM.stepB l4 wr4 (l.length : Int) = S at *
    obtain ⟨m, l', wr'⟩ := S
    simp only at hby hSl hD0
    clear hDE
    have c0 : w8.cell? ⟨g5, 0, none⟩ = some (.int .i64 2) := hX.cell 0
    have c1 : w8.cell? ⟨g5, 1, none⟩ = some (.int .i64 ib) := hX.cell 1
    have c2 : w8.cell? ⟨g5, 2, none⟩ = some (.int .u64 (il : Int)) := hX.cell 2
    have c3 : w8.cell? ⟨g5, 3, none⟩ = some (.int .u64 (is : Int)) := hX.cell 3
    have c4 : w8.cell? ⟨g5, 4, none⟩ = some (.int .i64 cl) := hX.cell 4
    have c5 : w8.cell? ⟨g5, 5, none⟩ = some (.int .u64 (sub : Int)) := hX.cell 5
    have c6 : w8.cell? ⟨g5, 6, none⟩ = some (.slice none 0 0) := hX.cell 6
    have c7 : w8.cell? ⟨g5, 7, none⟩ = some (.slice none 0 0) := hX.cell 7
    go_wp2_with fail
    refine hby.mono ?_
    clear hby c0 c1 c2 c3 c4 c5 c6 c7
    rintro e w9 ⟨vm, rfl, hm, hr9, hx9⟩
    replace hZ := hZ.keepx hx9 hg2b
    replace hX := hX.keepx hx9 hg5b
    replace hB := PM.hid (hx9.below hB.out hbw hB.out.size)
    clear hx9 hr
    have hfd := fdecode_any vm m w9 hm.bs (by omega)
    unfold RetFD at hfd
    clear hm
    cases hdt : PM.decT m with
    | some f =>
      have hdn : PM.decTN m = 0 := PM.decTN_some hdt
      have hD : Hid (PM.decEn l = PM.finE ⟨2, ⟨ib, il, is⟩, cl, sub, f, []⟩ l' wr') := PM.hid (by rw [hD0.out, hdt])
      have hdth := PM.hid hdt
      rw [hdn] at hfd
      clear hdn hdt
      have c0 : w9.cell? ⟨g5, 0, none⟩ = some (.int .i64 2) := hX.cell 0
      have c1 : w9.cell? ⟨g5, 1, none⟩ = some (.int .i64 ib) := hX.cell 1
      have c2 : w9.cell? ⟨g5, 2, none⟩ = some (.int .u64 (il : Int)) := hX.cell 2
      have c3 : w9.cell? ⟨g5, 3, none⟩ = some (.int .u64 (is : Int)) := hX.cell 3
      have c4 : w9.cell? ⟨g5, 4, none⟩ = some (.int .i64 cl) := hX.cell 4
      have c5 : w9.cell? ⟨g5, 5, none⟩ = some (.int .u64 (sub : Int)) := hX.cell 5
      have c6 : w9.cell? ⟨g5, 6, none⟩ = some (.slice none 0 0) := hX.cell 6
      have c7 : w9.cell? ⟨g5, 7, none⟩ = some (.slice none 0 0) := hX.cell 7
      go_wp2_with fail
      refine hfd.mono ?_
      clear hfd c0 c1 c2 c3 c4 c5 c6 c7
      rintro e wP ⟨o, rfl, ho, -, hBP⟩
      replace ho := (ho f hdth.out).mono hB.out.size
      obtain ⟨oa, oc, hoe⟩ := (ho.em PM.teL_len).len
      subst hoe
      replace hZ := hZ.keep hBP
      replace hX := hX.keep hBP
      replace hr9 := hr9.keep hBP
      replace hB := PM.hid (PM.chain hB.out hBP)
      clear hBP
      have f6 := hX.free 6
      have t6 := hX.cell 6
      go_upto_region 12 with fail
      have kn := hX.set 6 (.slice oa f.length oc)
      replace kn : PM.BK (wP.setCell ⟨g5, 6, none⟩ (.slice oa f.length oc)) g5 #[.int .i64 2, .int .i64 ib, .int .u64 (il : Int), .int .u64 (is : Int), .int .i64 cl, .int .u64 (sub : Int), .slice oa f.length oc, .slice none 0 0] 44 := by simpa using kn
      have hxs : PM.Bx g5 wP (wP.setCell ⟨g5, 6, none⟩ (.slice oa f.length oc)) := PM.Bx.set g5 6 wP (.slice oa f.length oc)
      generalize (wP.setCell ⟨g5, 6, none⟩ (.slice oa f.length oc)) = wA at *
      replace ho := ho.keepx hxs hX (by decide)
      replace hZ := hZ.keepx hxs hg25
      have hr := PM.RD.keepy hxs (Ne.symm hg5b) hX (PM.en_nobyte _ _ _ _ _ _ rfl rfl) hr9
      replace hB := PM.hid (hxs.below hB.out hg5w hB.out.size)
      replace hX := kn
      clear hxs kn hr9
      clear f6 t6
      have hdn := done_any b l' wr' wA hr
      by_cases hdone : wr' = false ∧ l' = []
      case neg =>
        have hDn : Hid (PM.decEn l = none) := PM.hid (by rw [hD.out]; exact PM.finE_no fun h => hdone ⟨h.1, h.2.1⟩)
        have hdf : (!wr' && decide (l' = [])) = false := by
          cases wr' <;> simp at hdone ⊢
          exact hdone
        rw [hdf] at hdn
        clear hdone hdf
        have c0 : wA.cell? ⟨g5, 0, none⟩ = some (.int .i64 2) := hX.cell 0
        have c1 : wA.cell? ⟨g5, 1, none⟩ = some (.int .i64 ib) := hX.cell 1
        have c2 : wA.cell? ⟨g5, 2, none⟩ = some (.int .u64 (il : Int)) := hX.cell 2
        have c3 : wA.cell? ⟨g5, 3, none⟩ = some (.int .u64 (is : Int)) := hX.cell 3
        have c4 : wA.cell? ⟨g5, 4, none⟩ = some (.int .i64 cl) := hX.cell 4
        have c5 : wA.cell? ⟨g5, 5, none⟩ = some (.int .u64 (sub : Int)) := hX.cell 5
        have c6 : wA.cell? ⟨g5, 6, none⟩ = some (.slice oa f.length oc) := hX.cell 6
        have c7 : wA.cell? ⟨g5, 7, none⟩ = some (.slice none 0 0) := hX.cell 7
        go_wp2_with fail
        refine hdn.mono ?_
        clear hdn
        rintro e wd ⟨rfl, rfl⟩
        clear c0 c1 c2 c3 c4 c5 c6 c7
        have z0 := hZ.cell 0
        have f0 := hZ.free 0
        have z1 := hZ.cell 1
        have f1 := hZ.free 1
        have z2 := hZ.cell 2
        have f2 := hZ.free 2
        have z3 := hZ.cell 3
        have f3 := hZ.free 3
        have z4 := hZ.cell 4
        have f4 := hZ.free 4
        have z5 := hZ.cell 5
        have f5 := hZ.free 5
        have z6 := hZ.cell 6
        have f6 := hZ.free 6
        have z7 := hZ.cell 7
        have f7 := hZ.free 7
        go_wp2
        have ZF := hZ.set8 (.int .i64 0) (.int .i64 0) (.int .u64 0) (.int .u64 0) (.int .i64 0) (.int .u64 0) (.slice none 0 0) (.slice none 0 0)
        have hxf := PM.Bx.set8 g2 wA (.int .i64 0) (.int .i64 0) (.int .u64 0) (.int .u64 0) (.int .i64 0) (.int .u64 0) (.slice none 0 0) (.slice none 0 0)
        generalize ((((((((wA.setCell ⟨g2, 0, none⟩ (.int .i64 0)).setCell ⟨g2, 1, none⟩ (.int .i64 0)).setCell ⟨g2, 2, none⟩ (.int .u64 0)).setCell ⟨g2, 3, none⟩ (.int .u64 0)).setCell ⟨g2, 4, none⟩ (.int .i64 0)).setCell ⟨g2, 5, none⟩ (.int .u64 0)).setCell ⟨g2, 6, none⟩ (.slice none 0 0)).setCell ⟨g2, 7, none⟩ (.slice none 0 0)) = wf at *
        have q0 := ZF.cell 0
        have q1 := ZF.cell 1
        have q2 := ZF.cell 2
        have q3 := ZF.cell 3
        have q4 := ZF.cell 4
        have q5 := ZF.cell 5
        have q6 := ZF.cell 6
        have q7 := ZF.cell 7
        refine bodyPost_ret (v := .tuple #[.agg #[.int .i64 0, .int .i64 0, .int .u64 0, .int .u64 0, .int .i64 0, .int .u64 0, .slice none 0 0, .slice none 0 0], .int .i64 110]) (by simp [results, Try.results36, go_sem, q0, q1, q2, q3, q4, q5, q6, q7]) rfl ?_
        exact ⟨PM.En0, .slice none 0 0, .slice none 0 0, 110, rfl, .inr ⟨rfl, hDn.out, rfl, rfl, rfl⟩, PM.OM.nilrow _, PM.OEv.nil _, hxf.below hB.out hg2w hB.out.size⟩
      obtain ⟨rfl, rfl⟩ := hdone
      have hdn' : Calls Try.prog 39 #[.pointer (some ⟨b, 0, none⟩)] wA fun e w' => e = .returned (.bool true) ∧ wA = w' := hdn
      clear hdn
      have hwfx : PM.En.wf ⟨2, ⟨ib, il, is⟩, cl, sub, f, []⟩ := ⟨rfl, hiw, hcw, hs64, (PM.decT_back hdth.out).2.2, by simp⟩
      have hck := encheck_any ⟨2, ⟨ib, il, is⟩, cl, sub, f, []⟩ (.slice oa f.length oc) (.slice none 0 0) wA hwfx (ho.em PM.teL_len) (PM.OEv.nil (TE := 84) (TA := 112) (B := w.heap.size) wA).evl
      unfold PM.enC at hck
      simp only at hck
      have c0 : wA.cell? ⟨g5, 0, none⟩ = some (.int .i64 2) := hX.cell 0
      have c1 : wA.cell? ⟨g5, 1, none⟩ = some (.int .i64 ib) := hX.cell 1
      have c2 : wA.cell? ⟨g5, 2, none⟩ = some (.int .u64 (il : Int)) := hX.cell 2
      have c3 : wA.cell? ⟨g5, 3, none⟩ = some (.int .u64 (is : Int)) := hX.cell 3
      have c4 : wA.cell? ⟨g5, 4, none⟩ = some (.int .i64 cl) := hX.cell 4
      have c5 : wA.cell? ⟨g5, 5, none⟩ = some (.int .u64 (sub : Int)) := hX.cell 5
      have c6 : wA.cell? ⟨g5, 6, none⟩ = some (.slice oa f.length oc) := hX.cell 6
      have c7 : wA.cell? ⟨g5, 7, none⟩ = some (.slice none 0 0) := hX.cell 7
      by_cases hok : PM.enOk ⟨2, ⟨ib, il, is⟩, cl, sub, f, []⟩
      case neg =>
        have hDn : Hid (PM.decEn l = none) := PM.hid (by rw [hD.out]; exact PM.finE_no fun h => hok h.2.2)
        rw [PM.enE_no hok] at hck
        clear hok
        go_wp2_with fail
        refine hdn'.mono ?_
        clear hdn'
        rintro e wd ⟨rfl, rfl⟩
        go_wp2_with fail
        refine hck.mono ?_
        clear hck
        rintro e we ⟨rfl, hBe⟩
        replace hZ := hZ.keep hBe
        replace hB := PM.hid (PM.chain hB.out hBe)
        clear hBe c0 c1 c2 c3 c4 c5 c6 c7
        have z0 := hZ.cell 0
        have f0 := hZ.free 0
        have z1 := hZ.cell 1
        have f1 := hZ.free 1
        have z2 := hZ.cell 2
        have f2 := hZ.free 2
        have z3 := hZ.cell 3
        have f3 := hZ.free 3
        have z4 := hZ.cell 4
        have f4 := hZ.free 4
        have z5 := hZ.cell 5
        have f5 := hZ.free 5
        have z6 := hZ.cell 6
        have f6 := hZ.free 6
        have z7 := hZ.cell 7
        have f7 := hZ.free 7
        go_wp2
        have ZF := hZ.set8 (.int .i64 0) (.int .i64 0) (.int .u64 0) (.int .u64 0) (.int .i64 0) (.int .u64 0) (.slice none 0 0) (.slice none 0 0)
        have hxf := PM.Bx.set8 g2 we (.int .i64 0) (.int .i64 0) (.int .u64 0) (.int .u64 0) (.int .i64 0) (.int .u64 0) (.slice none 0 0) (.slice none 0 0)
        generalize ((((((((we.setCell ⟨g2, 0, none⟩ (.int .i64 0)).setCell ⟨g2, 1, none⟩ (.int .i64 0)).setCell ⟨g2, 2, none⟩ (.int .u64 0)).setCell ⟨g2, 3, none⟩ (.int .u64 0)).setCell ⟨g2, 4, none⟩ (.int .i64 0)).setCell ⟨g2, 5, none⟩ (.int .u64 0)).setCell ⟨g2, 6, none⟩ (.slice none 0 0)).setCell ⟨g2, 7, none⟩ (.slice none 0 0)) = wf at *
        have q0 := ZF.cell 0
        have q1 := ZF.cell 1
        have q2 := ZF.cell 2
        have q3 := ZF.cell 3
        have q4 := ZF.cell 4
        have q5 := ZF.cell 5
        have q6 := ZF.cell 6
        have q7 := ZF.cell 7
        refine bodyPost_ret (v := .tuple #[.agg #[.int .i64 0, .int .i64 0, .int .u64 0, .int .u64 0, .int .i64 0, .int .u64 0, .slice none 0 0, .slice none 0 0], .int .i64 110]) (by simp [results, Try.results36, go_sem, q0, q1, q2, q3, q4, q5, q6, q7]) rfl ?_
        exact ⟨PM.En0, .slice none 0 0, .slice none 0 0, 110, rfl, .inr ⟨rfl, hDn.out, rfl, rfl, rfl⟩, PM.OM.nilrow _, PM.OEv.nil _, hxf.below hB.out hg2w hB.out.size⟩
      have hDy : Hid (PM.decEn l = some ⟨2, ⟨ib, il, is⟩, cl, sub, f, []⟩) := PM.hid (by rw [hD.out]; exact PM.finE_yes hok)
      rw [PM.enE_yes hok] at hck
      clear hok
      go_wp2_with fail
      refine hdn'.mono ?_
      clear hdn'
      rintro e wd ⟨rfl, rfl⟩
      go_wp2_with fail
      refine hck.mono ?_
      clear hck
      rintro e we ⟨rfl, hBe⟩
      replace hZ := hZ.keep hBe
      replace hX := hX.keep hBe
      replace hB := PM.hid (PM.chain hB.out hBe)
      have hfk := PM.hid (ho.keep hBe)
      have hok := PM.hid ((PM.OEv.nil (TE := 84) (TA := 112) (B := w.heap.size) wA).keep hBe)
      clear hBe c0 c1 c2 c3 c4 c5 c6 c7
      have c0 : we.cell? ⟨g5, 0, none⟩ = some (.int .i64 2) := hX.cell 0
      have c1 : we.cell? ⟨g5, 1, none⟩ = some (.int .i64 ib) := hX.cell 1
      have c2 : we.cell? ⟨g5, 2, none⟩ = some (.int .u64 (il : Int)) := hX.cell 2
      have c3 : we.cell? ⟨g5, 3, none⟩ = some (.int .u64 (is : Int)) := hX.cell 3
      have c4 : we.cell? ⟨g5, 4, none⟩ = some (.int .i64 cl) := hX.cell 4
      have c5 : we.cell? ⟨g5, 5, none⟩ = some (.int .u64 (sub : Int)) := hX.cell 5
      have c6 : we.cell? ⟨g5, 6, none⟩ = some (.slice oa f.length oc) := hX.cell 6
      have c7 : we.cell? ⟨g5, 7, none⟩ = some (.slice none 0 0) := hX.cell 7
      have z0 := hZ.cell 0
      have f0 := hZ.free 0
      have z1 := hZ.cell 1
      have f1 := hZ.free 1
      have z2 := hZ.cell 2
      have f2 := hZ.free 2
      have z3 := hZ.cell 3
      have f3 := hZ.free 3
      have z4 := hZ.cell 4
      have f4 := hZ.free 4
      have z5 := hZ.cell 5
      have f5 := hZ.free 5
      have z6 := hZ.cell 6
      have f6 := hZ.free 6
      have z7 := hZ.cell 7
      have f7 := hZ.free 7
      go_wp2
      have ZF := hZ.set8 (.int .i64 2) (.int .i64 ib) (.int .u64 (il : Int)) (.int .u64 (is : Int)) (.int .i64 cl) (.int .u64 (sub : Int)) (.slice oa f.length oc) (.slice none 0 0)
      have hxf := PM.Bx.set8 g2 we (.int .i64 2) (.int .i64 ib) (.int .u64 (il : Int)) (.int .u64 (is : Int)) (.int .i64 cl) (.int .u64 (sub : Int)) (.slice oa f.length oc) (.slice none 0 0)
      generalize ((((((((we.setCell ⟨g2, 0, none⟩ (.int .i64 2)).setCell ⟨g2, 1, none⟩ (.int .i64 ib)).setCell ⟨g2, 2, none⟩ (.int .u64 (il : Int))).setCell ⟨g2, 3, none⟩ (.int .u64 (is : Int))).setCell ⟨g2, 4, none⟩ (.int .i64 cl)).setCell ⟨g2, 5, none⟩ (.int .u64 (sub : Int))).setCell ⟨g2, 6, none⟩ (.slice oa f.length oc)).setCell ⟨g2, 7, none⟩ (.slice none 0 0)) = wf at *
      have q0 := ZF.cell 0
      have q1 := ZF.cell 1
      have q2 := ZF.cell 2
      have q3 := ZF.cell 3
      have q4 := ZF.cell 4
      have q5 := ZF.cell 5
      have q6 := ZF.cell 6
      have q7 := ZF.cell 7
      refine bodyPost_ret (v := .tuple #[.agg #[.int .i64 2, .int .i64 ib, .int .u64 (il : Int), .int .u64 (is : Int), .int .i64 cl, .int .u64 (sub : Int), .slice oa f.length oc, .slice none 0 0], .int .i64 0]) (by simp [results, Try.results36, go_sem, q0, q1, q2, q3, q4, q5, q6, q7]) rfl ?_
      exact ⟨⟨2, ⟨ib, il, is⟩, cl, sub, f, []⟩, _, _, 0, rfl, .inl ⟨rfl, hDy.out⟩, hfk.out.keepx hxf hZ (by decide), hok.out.keepx hxf hZ (by decide) (by decide), hxf.below hB.out hg2w hB.out.size⟩
    | none =>
      have hdn : PM.decTN m = 50 := PM.decTN_none hdt
      have hDn : Hid (PM.decEn l = none) := PM.hid (by rw [hD0.out, hdt])
      have hdth := PM.hid hdt
      rw [hdn] at hfd
      clear hdn hdt
      have c0 : w9.cell? ⟨g5, 0, none⟩ = some (.int .i64 2) := hX.cell 0
      have c1 : w9.cell? ⟨g5, 1, none⟩ = some (.int .i64 ib) := hX.cell 1
      have c2 : w9.cell? ⟨g5, 2, none⟩ = some (.int .u64 (il : Int)) := hX.cell 2
      have c3 : w9.cell? ⟨g5, 3, none⟩ = some (.int .u64 (is : Int)) := hX.cell 3
      have c4 : w9.cell? ⟨g5, 4, none⟩ = some (.int .i64 cl) := hX.cell 4
      have c5 : w9.cell? ⟨g5, 5, none⟩ = some (.int .u64 (sub : Int)) := hX.cell 5
      have c6 : w9.cell? ⟨g5, 6, none⟩ = some (.slice none 0 0) := hX.cell 6
      have c7 : w9.cell? ⟨g5, 7, none⟩ = some (.slice none 0 0) := hX.cell 7
      go_wp2_with fail
      refine hfd.mono ?_
      clear hfd c0 c1 c2 c3 c4 c5 c6 c7
      rintro e wP ⟨o, rfl, -, ho, hBP⟩
      replace ho := ho hdth.out
      subst ho
      replace hZ := hZ.keep hBP
      replace hX := hX.keep hBP
      replace hB := PM.hid (PM.chain hB.out hBP)
      clear hBP
      have f6 := hX.free 6
      have t6 := hX.cell 6
      go_upto_region 12 with fail
      have kn := hX.set 6 (.slice none 0 0)
      replace kn : PM.BK (wP.setCell ⟨g5, 6, none⟩ (.slice none 0 0)) g5 #[.int .i64 2, .int .i64 ib, .int .u64 (il : Int), .int .u64 (is : Int), .int .i64 cl, .int .u64 (sub : Int), .slice none 0 0, .slice none 0 0] 44 := by simpa using kn
      have hxs : PM.Bx g5 wP (wP.setCell ⟨g5, 6, none⟩ (.slice none 0 0)) := PM.Bx.set g5 6 wP (.slice none 0 0)
      generalize (wP.setCell ⟨g5, 6, none⟩ (.slice none 0 0)) = wA at *
      replace hZ := hZ.keepx hxs hg25
      replace hB := PM.hid (hxs.below hB.out hg5w hB.out.size)
      clear hxs kn hX f6 t6 hr9
      have z0 := hZ.cell 0
      have f0 := hZ.free 0
      have z1 := hZ.cell 1
      have f1 := hZ.free 1
      have z2 := hZ.cell 2
      have f2 := hZ.free 2
      have z3 := hZ.cell 3
      have f3 := hZ.free 3
      have z4 := hZ.cell 4
      have f4 := hZ.free 4
      have z5 := hZ.cell 5
      have f5 := hZ.free 5
      have z6 := hZ.cell 6
      have f6 := hZ.free 6
      have z7 := hZ.cell 7
      have f7 := hZ.free 7
      go_wp2
      have ZF := hZ.set8 (.int .i64 0) (.int .i64 0) (.int .u64 0) (.int .u64 0) (.int .i64 0) (.int .u64 0) (.slice none 0 0) (.slice none 0 0)
      have hxf := PM.Bx.set8 g2 wA (.int .i64 0) (.int .i64 0) (.int .u64 0) (.int .u64 0) (.int .i64 0) (.int .u64 0) (.slice none 0 0) (.slice none 0 0)
      generalize ((((((((wA.setCell ⟨g2, 0, none⟩ (.int .i64 0)).setCell ⟨g2, 1, none⟩ (.int .i64 0)).setCell ⟨g2, 2, none⟩ (.int .u64 0)).setCell ⟨g2, 3, none⟩ (.int .u64 0)).setCell ⟨g2, 4, none⟩ (.int .i64 0)).setCell ⟨g2, 5, none⟩ (.int .u64 0)).setCell ⟨g2, 6, none⟩ (.slice none 0 0)).setCell ⟨g2, 7, none⟩ (.slice none 0 0)) = wf at *
      have q0 := ZF.cell 0
      have q1 := ZF.cell 1
      have q2 := ZF.cell 2
      have q3 := ZF.cell 3
      have q4 := ZF.cell 4
      have q5 := ZF.cell 5
      have q6 := ZF.cell 6
      have q7 := ZF.cell 7
      refine bodyPost_ret (v := .tuple #[.agg #[.int .i64 0, .int .i64 0, .int .u64 0, .int .u64 0, .int .i64 0, .int .u64 0, .slice none 0 0, .slice none 0 0], .int .i64 110]) (by simp [results, Try.results36, go_sem, q0, q1, q2, q3, q4, q5, q6, q7]) rfl ?_
      exact ⟨PM.En0, .slice none 0 0, .slice none 0 0, 110, rfl, .inr ⟨rfl, hDn.out, rfl, rfl, rfl⟩, PM.OM.nilrow _, PM.OEv.nil _, hxf.below hB.out hg2w hB.out.size⟩
  have hD : Hid (PM.decEn l = PM.finE ⟨kd, ⟨ib, il, is⟩, cl, sub, [], []⟩ l4 wr4) := PM.hid (by rw [hDE.out]; unfold PM.decK; rw [if_neg k1, if_neg k2])
  clear hDE
  have hdn := done_any b l4 wr4 w8 hr
  by_cases hdone : wr4 = false ∧ l4 = []
  case neg =>
    have hDn : Hid (PM.decEn l = none) := PM.hid (by rw [hD.out]; exact PM.finE_no fun h => hdone ⟨h.1, h.2.1⟩)
    have hdf : (!wr4 && decide (l4 = [])) = false := by
      cases wr4 <;> simp at hdone ⊢
      exact hdone
    rw [hdf] at hdn
    clear hdone hdf
    have c0 : w8.cell? ⟨g5, 0, none⟩ = some (.int .i64 kd) := hX.cell 0
    have c1 : w8.cell? ⟨g5, 1, none⟩ = some (.int .i64 ib) := hX.cell 1
    have c2 : w8.cell? ⟨g5, 2, none⟩ = some (.int .u64 (il : Int)) := hX.cell 2
    have c3 : w8.cell? ⟨g5, 3, none⟩ = some (.int .u64 (is : Int)) := hX.cell 3
    have c4 : w8.cell? ⟨g5, 4, none⟩ = some (.int .i64 cl) := hX.cell 4
    have c5 : w8.cell? ⟨g5, 5, none⟩ = some (.int .u64 (sub : Int)) := hX.cell 5
    have c6 : w8.cell? ⟨g5, 6, none⟩ = some (.slice none 0 0) := hX.cell 6
    have c7 : w8.cell? ⟨g5, 7, none⟩ = some (.slice none 0 0) := hX.cell 7
    go_wp2_with fail
    refine hdn.mono ?_
    clear hdn
    rintro e wd ⟨rfl, rfl⟩
    clear c0 c1 c2 c3 c4 c5 c6 c7
    have z0 := hZ.cell 0
    have f0 := hZ.free 0
    have z1 := hZ.cell 1
    have f1 := hZ.free 1
    have z2 := hZ.cell 2
    have f2 := hZ.free 2
    have z3 := hZ.cell 3
    have f3 := hZ.free 3
    have z4 := hZ.cell 4
    have f4 := hZ.free 4
    have z5 := hZ.cell 5
    have f5 := hZ.free 5
    have z6 := hZ.cell 6
    have f6 := hZ.free 6
    have z7 := hZ.cell 7
    have f7 := hZ.free 7
    go_wp2
    have ZF := hZ.set8 (.int .i64 0) (.int .i64 0) (.int .u64 0) (.int .u64 0) (.int .i64 0) (.int .u64 0) (.slice none 0 0) (.slice none 0 0)
    have hxf := PM.Bx.set8 g2 w8 (.int .i64 0) (.int .i64 0) (.int .u64 0) (.int .u64 0) (.int .i64 0) (.int .u64 0) (.slice none 0 0) (.slice none 0 0)
    generalize ((((((((w8.setCell ⟨g2, 0, none⟩ (.int .i64 0)).setCell ⟨g2, 1, none⟩ (.int .i64 0)).setCell ⟨g2, 2, none⟩ (.int .u64 0)).setCell ⟨g2, 3, none⟩ (.int .u64 0)).setCell ⟨g2, 4, none⟩ (.int .i64 0)).setCell ⟨g2, 5, none⟩ (.int .u64 0)).setCell ⟨g2, 6, none⟩ (.slice none 0 0)).setCell ⟨g2, 7, none⟩ (.slice none 0 0)) = wf at *
    have q0 := ZF.cell 0
    have q1 := ZF.cell 1
    have q2 := ZF.cell 2
    have q3 := ZF.cell 3
    have q4 := ZF.cell 4
    have q5 := ZF.cell 5
    have q6 := ZF.cell 6
    have q7 := ZF.cell 7
    refine bodyPost_ret (v := .tuple #[.agg #[.int .i64 0, .int .i64 0, .int .u64 0, .int .u64 0, .int .i64 0, .int .u64 0, .slice none 0 0, .slice none 0 0], .int .i64 110]) (by simp [results, Try.results36, go_sem, q0, q1, q2, q3, q4, q5, q6, q7]) rfl ?_
    exact ⟨PM.En0, .slice none 0 0, .slice none 0 0, 110, rfl, .inr ⟨rfl, hDn.out, rfl, rfl, rfl⟩, PM.OM.nilrow _, PM.OEv.nil _, hxf.below hB.out hg2w hB.out.size⟩
  obtain ⟨rfl, rfl⟩ := hdone
  have hdn' : Calls Try.prog 39 #[.pointer (some ⟨b, 0, none⟩)] w8 fun e w' => e = .returned (.bool true) ∧ w8 = w' := hdn
  clear hdn
  have hwfx : PM.En.wf ⟨kd, ⟨ib, il, is⟩, cl, sub, [], []⟩ := ⟨hkw, hiw, hcw, hs64, by simp, by simp⟩
  have hck := encheck_any ⟨kd, ⟨ib, il, is⟩, cl, sub, [], []⟩ (.slice none 0 0) (.slice none 0 0) w8 hwfx ((PM.OM.nilrow (e := PM.teL) (c := 5) (E := 114) (B := w.heap.size) w8).em PM.teL_len) (PM.OEv.nil (TE := 84) (TA := 112) (B := w.heap.size) w8).evl
  unfold PM.enC at hck
  simp only at hck
  have c0 : w8.cell? ⟨g5, 0, none⟩ = some (.int .i64 kd) := hX.cell 0
  have c1 : w8.cell? ⟨g5, 1, none⟩ = some (.int .i64 ib) := hX.cell 1
  have c2 : w8.cell? ⟨g5, 2, none⟩ = some (.int .u64 (il : Int)) := hX.cell 2
  have c3 : w8.cell? ⟨g5, 3, none⟩ = some (.int .u64 (is : Int)) := hX.cell 3
  have c4 : w8.cell? ⟨g5, 4, none⟩ = some (.int .i64 cl) := hX.cell 4
  have c5 : w8.cell? ⟨g5, 5, none⟩ = some (.int .u64 (sub : Int)) := hX.cell 5
  have c6 : w8.cell? ⟨g5, 6, none⟩ = some (.slice none 0 0) := hX.cell 6
  have c7 : w8.cell? ⟨g5, 7, none⟩ = some (.slice none 0 0) := hX.cell 7
  by_cases hok : PM.enOk ⟨kd, ⟨ib, il, is⟩, cl, sub, [], []⟩
  case neg =>
    have hDn : Hid (PM.decEn l = none) := PM.hid (by rw [hD.out]; exact PM.finE_no fun h => hok h.2.2)
    rw [PM.enE_no hok] at hck
    clear hok
    go_wp2_with fail
    refine hdn'.mono ?_
    clear hdn'
    rintro e wd ⟨rfl, rfl⟩
    go_wp2_with fail
    refine hck.mono ?_
    clear hck
    rintro e we ⟨rfl, hBe⟩
    replace hZ := hZ.keep hBe
    replace hB := PM.hid (PM.chain hB.out hBe)
    clear hBe c0 c1 c2 c3 c4 c5 c6 c7
    have z0 := hZ.cell 0
    have f0 := hZ.free 0
    have z1 := hZ.cell 1
    have f1 := hZ.free 1
    have z2 := hZ.cell 2
    have f2 := hZ.free 2
    have z3 := hZ.cell 3
    have f3 := hZ.free 3
    have z4 := hZ.cell 4
    have f4 := hZ.free 4
    have z5 := hZ.cell 5
    have f5 := hZ.free 5
    have z6 := hZ.cell 6
    have f6 := hZ.free 6
    have z7 := hZ.cell 7
    have f7 := hZ.free 7
    go_wp2
    have ZF := hZ.set8 (.int .i64 0) (.int .i64 0) (.int .u64 0) (.int .u64 0) (.int .i64 0) (.int .u64 0) (.slice none 0 0) (.slice none 0 0)
    have hxf := PM.Bx.set8 g2 we (.int .i64 0) (.int .i64 0) (.int .u64 0) (.int .u64 0) (.int .i64 0) (.int .u64 0) (.slice none 0 0) (.slice none 0 0)
    generalize ((((((((we.setCell ⟨g2, 0, none⟩ (.int .i64 0)).setCell ⟨g2, 1, none⟩ (.int .i64 0)).setCell ⟨g2, 2, none⟩ (.int .u64 0)).setCell ⟨g2, 3, none⟩ (.int .u64 0)).setCell ⟨g2, 4, none⟩ (.int .i64 0)).setCell ⟨g2, 5, none⟩ (.int .u64 0)).setCell ⟨g2, 6, none⟩ (.slice none 0 0)).setCell ⟨g2, 7, none⟩ (.slice none 0 0)) = wf at *
    have q0 := ZF.cell 0
    have q1 := ZF.cell 1
    have q2 := ZF.cell 2
    have q3 := ZF.cell 3
    have q4 := ZF.cell 4
    have q5 := ZF.cell 5
    have q6 := ZF.cell 6
    have q7 := ZF.cell 7
    refine bodyPost_ret (v := .tuple #[.agg #[.int .i64 0, .int .i64 0, .int .u64 0, .int .u64 0, .int .i64 0, .int .u64 0, .slice none 0 0, .slice none 0 0], .int .i64 110]) (by simp [results, Try.results36, go_sem, q0, q1, q2, q3, q4, q5, q6, q7]) rfl ?_
    exact ⟨PM.En0, .slice none 0 0, .slice none 0 0, 110, rfl, .inr ⟨rfl, hDn.out, rfl, rfl, rfl⟩, PM.OM.nilrow _, PM.OEv.nil _, hxf.below hB.out hg2w hB.out.size⟩
  have hDy : Hid (PM.decEn l = some ⟨kd, ⟨ib, il, is⟩, cl, sub, [], []⟩) := PM.hid (by rw [hD.out]; exact PM.finE_yes hok)
  rw [PM.enE_yes hok] at hck
  clear hok
  go_wp2_with fail
  refine hdn'.mono ?_
  clear hdn'
  rintro e wd ⟨rfl, rfl⟩
  go_wp2_with fail
  refine hck.mono ?_
  clear hck
  rintro e we ⟨rfl, hBe⟩
  replace hZ := hZ.keep hBe
  replace hX := hX.keep hBe
  replace hB := PM.hid (PM.chain hB.out hBe)
  have hfk := PM.hid ((PM.OM.nilrow (e := PM.teL) (c := 5) (E := 114) (B := w.heap.size) w8).keep hBe)
  have hok := PM.hid ((PM.OEv.nil (TE := 84) (TA := 112) (B := w.heap.size) w8).keep hBe)
  clear hBe c0 c1 c2 c3 c4 c5 c6 c7
  have c0 : we.cell? ⟨g5, 0, none⟩ = some (.int .i64 kd) := hX.cell 0
  have c1 : we.cell? ⟨g5, 1, none⟩ = some (.int .i64 ib) := hX.cell 1
  have c2 : we.cell? ⟨g5, 2, none⟩ = some (.int .u64 (il : Int)) := hX.cell 2
  have c3 : we.cell? ⟨g5, 3, none⟩ = some (.int .u64 (is : Int)) := hX.cell 3
  have c4 : we.cell? ⟨g5, 4, none⟩ = some (.int .i64 cl) := hX.cell 4
  have c5 : we.cell? ⟨g5, 5, none⟩ = some (.int .u64 (sub : Int)) := hX.cell 5
  have c6 : we.cell? ⟨g5, 6, none⟩ = some (.slice none 0 0) := hX.cell 6
  have c7 : we.cell? ⟨g5, 7, none⟩ = some (.slice none 0 0) := hX.cell 7
  have z0 := hZ.cell 0
  have f0 := hZ.free 0
  have z1 := hZ.cell 1
  have f1 := hZ.free 1
  have z2 := hZ.cell 2
  have f2 := hZ.free 2
  have z3 := hZ.cell 3
  have f3 := hZ.free 3
  have z4 := hZ.cell 4
  have f4 := hZ.free 4
  have z5 := hZ.cell 5
  have f5 := hZ.free 5
  have z6 := hZ.cell 6
  have f6 := hZ.free 6
  have z7 := hZ.cell 7
  have f7 := hZ.free 7
  go_wp2
  have ZF := hZ.set8 (.int .i64 kd) (.int .i64 ib) (.int .u64 (il : Int)) (.int .u64 (is : Int)) (.int .i64 cl) (.int .u64 (sub : Int)) (.slice none 0 0) (.slice none 0 0)
  have hxf := PM.Bx.set8 g2 we (.int .i64 kd) (.int .i64 ib) (.int .u64 (il : Int)) (.int .u64 (is : Int)) (.int .i64 cl) (.int .u64 (sub : Int)) (.slice none 0 0) (.slice none 0 0)
  generalize ((((((((we.setCell ⟨g2, 0, none⟩ (.int .i64 kd)).setCell ⟨g2, 1, none⟩ (.int .i64 ib)).setCell ⟨g2, 2, none⟩ (.int .u64 (il : Int))).setCell ⟨g2, 3, none⟩ (.int .u64 (is : Int))).setCell ⟨g2, 4, none⟩ (.int .i64 cl)).setCell ⟨g2, 5, none⟩ (.int .u64 (sub : Int))).setCell ⟨g2, 6, none⟩ (.slice none 0 0)).setCell ⟨g2, 7, none⟩ (.slice none 0 0)) = wf at *
  have q0 := ZF.cell 0
  have q1 := ZF.cell 1
  have q2 := ZF.cell 2
  have q3 := ZF.cell 3
  have q4 := ZF.cell 4
  have q5 := ZF.cell 5
  have q6 := ZF.cell 6
  have q7 := ZF.cell 7
  refine bodyPost_ret (v := .tuple #[.agg #[.int .i64 kd, .int .i64 ib, .int .u64 (il : Int), .int .u64 (is : Int), .int .i64 cl, .int .u64 (sub : Int), .slice none 0 0, .slice none 0 0], .int .i64 0]) (by simp [results, Try.results36, go_sem, q0, q1, q2, q3, q4, q5, q6, q7]) rfl ?_
  exact ⟨⟨kd, ⟨ib, il, is⟩, cl, sub, [], []⟩, _, _, 0, rfl, .inl ⟨rfl, hDy.out⟩, hfk.out.keepx hxf hZ (by decide), hok.out.keepx hxf hZ (by decide) (by decide), hxf.below hB.out hg2w hB.out.size⟩
end Go.Proofs.Ytphdadlpfjfeoaa
