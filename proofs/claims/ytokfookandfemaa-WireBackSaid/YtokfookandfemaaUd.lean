/-
  CONTRACTS of layer 13: wire.readID, readVote.
-/
import Derived.Test.YtokfookandfemaaUc
import Derived.Test.YtokfookandfemaaGk
import Derived.Test.YtokfookandfemaaJk
namespace Go.Proofs.Ytokfookandfemaa
open Go.RowKit
set_option linter.unusedVariables false
set_option linter.unusedSimpArgs false
namespace PM
/-- a message's reader: its box, the bytes' box behind it -/
def WR (TR TP : TypeId) (w : World) (g b : Nat) (long : Int) (s : Rs) : Prop := BK w g #[.pointer (some ⟨b, 0, none⟩), .int .i64 long, .bool s.bad] TR ∧ RD TP w b s.l s.wr
theorem WR.keep {TR TP : TypeId} {W w : World} {g b : Nat} {long : Int} {s : Rs} (hb : Below W.heap.size W w) (h : WR TR TP W g b long s) : WR TR TP w g b long s := ⟨h.1.keep hb, h.2.keep hb⟩
theorem WR.ne {TR TP : TypeId} {w : World} {g b : Nat} {long : Int} {s : Rs} (h : WR TR TP w g b long s) (hT : TR ≠ TP) : g ≠ b := by
  intro he
  subst he
  obtain ⟨v, h2, _⟩ := h.2
  have h1 := h.1
  unfold BK at h1 h2
  rw [h1] at h2
  injection h2 with h2
  injection h2 with _ h2 _
  exact hT h2
/-- behind a call on the bytes' box -/
theorem WR.num {TR TP : TypeId} {w w' : World} {g b : Nat} {long : Int} {s : Rs} {l : List UInt8} {wr : Bool} (hT : TR ≠ TP) (h : WR TR TP w g b long s) (hr : RD TP w' b l wr) (hx : Bx b w w') : WR TR TP w' g b long ⟨l, wr, s.bad⟩ :=
  ⟨h.1.keepx hx (h.ne hT), hr⟩
theorem rd_nobyte (b : Nat) (long : Int) (bd : Bool) : ∀ (n : Nat) (z : UInt8), (#[Value.pointer (some ⟨b, 0, none⟩), Value.int .i64 long, Value.bool bd] : Array Value)[n]? ≠ Option.some (bv z) := by
  intro i z he
  match i with
  | 0 => simp [bv] at he
  | 1 => simp [bv] at he
  | 2 => simp [bv] at he
  | i + 3 => simp at he
/-- bad from here on -/
theorem WR.setBad {TR TP : TypeId} {w : World} {g b : Nat} {long : Int} {s : Rs} (hT : TR ≠ TP) (h : WR TR TP w g b long s) : WR TR TP (w.setCell ⟨g, 2, none⟩ (.bool true)) g b long ⟨s.l, s.wr, true⟩ := by
  refine ⟨?_, RD.keepy (Bx.set g 2 w (.bool true)) (h.ne hT).symm h.1 (rd_nobyte _ _ _) h.2⟩
  have := h.1.set 2 (.bool true)
  simpa using this
theorem WR.kt {TR TP : TypeId} {w w' : World} {g b : Nat} {long : Int} {s : Rs} {x : Value} (h : WR TR TP w g b long s) (hg : w.grownBy w' x.ownBlock) (hn : NBv w x) (h1 : ∀ k, x.ownBlock = some k → b ≠ k) (h2 : ∀ k, x.ownBlock = some k → g ≠ k) : WR TR TP w' g b long s :=
  ⟨(hg.block g h.1.lt (fun he => h2 g he.symm rfl)).trans h.1, h.2.keptv hg hn h1⟩
theorem ORn.nev {α : Type} {R : World → List Value → α → Prop} {c : Nat} {E : TypeId} {B : Nat} {w : World} {v : Value} {b : Nat} {l : List α} {cs : Array Value} {T : TypeId} (h : ORn R c E B w v l) (hb : BK w b cs T) (hT : T ≠ E) : ∀ g, v.ownBlock = some g → b ≠ g := by
  obtain ⟨css, h1, _⟩ := h
  exact h1.nev hb hT
theorem RD.bk {T : TypeId} {w : World} {b : Nat} {l : List UInt8} {wr : Bool} (h : RD T w b l wr) : ∃ cs, BK w b cs T := ⟨_, h.choose_spec.1⟩
end PM
namespace PM
theorem BK.keepx2 {W w : World} {b g r : Nat} {cs : Array Value} {T : TypeId} (h : BK W r cs T) (hx : Bx2 b g W w) (h1 : r ≠ b) (h2 : r ≠ g) : BK w r cs T := (hx.block r h.lt h1 h2).trans h
theorem Bx.set4v (r : Nat) (w : World) (x y z u : Value) : Bx r w ((((w.setCell ⟨r, 0, Option.none⟩ x).setCell ⟨r, 1, Option.none⟩ y).setCell ⟨r, 2, Option.none⟩ z).setCell ⟨r, 3, Option.none⟩ u) :=
  (((Bx.set r 0 w x).trans (Bx.set r 1 _ y)).trans (Bx.set r 2 _ z)).trans (Bx.set r 3 _ u)
theorem BK.set4v {w : World} {r : Nat} {a b c d : Value} {T : TypeId} (h : BK w r #[a, b, c, d] T) (x y z u : Value) : BK ((((w.setCell ⟨r, 0, Option.none⟩ x).setCell ⟨r, 1, Option.none⟩ y).setCell ⟨r, 2, Option.none⟩ z).setCell ⟨r, 3, Option.none⟩ u) r #[x, y, z, u] T := by
  have := (((h.set 0 x).set 1 y).set 2 z).set 3 u
  simpa using this
theorem vo_nobyte (a b c : Int) (d : Bool) : ∀ (n : Nat) (z : UInt8), (#[Value.int .i64 a, Value.int .u64 b, Value.int .u64 c, Value.bool d] : Array Value)[n]? ≠ Option.some (bv z) := by
  intro i z he
  match i with
  | 0 => simp [bv] at he
  | 1 => simp [bv] at he
  | 2 => simp [bv] at he
  | 3 => simp [bv] at he
  | i + 4 => simp at he
end PM
set_option maxRecDepth 100000 in
set_option maxHeartbeats 4000000 in
theorem rdId_any (g b : Nat) (long : Int) (s : PM.Rs) (w : World) (h : PM.WR 74 99 w g b long s) :
    Calls Try.prog 47 #[.pointer (some ⟨g, 0, none⟩)] w fun e w' => e = .returned (.agg #[.int .i64 (PM.rdId s).1.br, .int .u64 ((PM.rdId s).1.life : Int), .int .u64 ((PM.rdId s).1.ser : Int)]) ∧ PM.WR 74 99 w' g b long (PM.rdId s).2 ∧ PM.Bx2 b g w w' := by
  obtain ⟨g2, hg2⟩ : ∃ g, g = w.heap.size := ⟨_, rfl⟩
  obtain ⟨W0, hW0⟩ : ∃ W, W = w.alloc (.cells #[.int .i64 0, .int .u64 0, .int .u64 0] 45) := ⟨_, rfl⟩
  have hB0 : Below w.heap.size w W0 := by rw [hW0]; exact (Below.refl _ _).alloc (Nat.le_refl _) _
  have hZ : PM.BK W0 g2 #[.int .i64 0, .int .u64 0, .int .u64 0] 45 := by rw [hW0, hg2]; exact PM.BK.new _ _ _
  have hg2w : w.heap.size ≤ g2 := by omega
  have hg2g : g2 ≠ g := by have := h.1.lt; omega
  have hg2b : g2 ≠ b := by have := h.2.lt; omega
  replace h := h.keep hB0
  have hX := PM.hid (PM.Bx2.of (b := b) (g := g) hB0)
  have hT : 74 ≠ 99 := by decide
  obtain ⟨l, wr, bd⟩ := s
  obtain ⟨i, l1, wr1, s1⟩ : ∃ a b c, PM.readI l wr = (a, b, c) := ⟨_, _, _, rfl⟩
  have hN := idread_any b l wr W0 h.2
  unfold PM.rdId
  rw [s1] at hN
  simp only
  rw [s1]
  simp only at hN h ⊢
  clear s1
  have hWR := PM.hid h
  have c0 : W0.cell? ⟨g, 0, none⟩ = some (.pointer (some ⟨b, 0, none⟩)) := h.1.cell 0
  clear h
  obtain ⟨ib, il, is⟩ := i
  simp only at hN ⊢
  go_enter Try.func47, Try.ntmps47
  go_upto_region 1 with fail
  rw [← hW0, ← hg2]
  clear hW0 hg2 hB0
  go_wp2_with fail
  refine hN.mono ?_
  clear hN c0
  rintro e w1 ⟨rfl, hr, hx1⟩
  replace hZ := hZ.keepx hx1 hg2b
  replace hX := PM.hid (hX.out.trans (PM.Bx2.ofb hx1))
  have hW1 := PM.hid (hWR.out.num hT hr hx1)
  clear hx1 hr hWR
  have z0 := hZ.cell 0
  have f0 := hZ.free 0
  have z1 := hZ.cell 1
  have f1 := hZ.free 1
  have z2 := hZ.cell 2
  have f2 := hZ.free 2
  go_wp2
  have ZF := hZ.set3 (.int .i64 ib) (.int .u64 (il : Int)) (.int .u64 (is : Int))
  have hxf := PM.Bx.set3 g2 w1 (.int .i64 ib) (.int .u64 (il : Int)) (.int .u64 (is : Int))
  generalize (((w1.setCell ⟨g2, 0, none⟩ (.int .i64 ib)).setCell ⟨g2, 1, none⟩ (.int .u64 (il : Int))).setCell ⟨g2, 2, none⟩ (.int .u64 (is : Int))) = wf at *
  have q0 := ZF.cell 0
  have q1 := ZF.cell 1
  have q2 := ZF.cell 2
  refine bodyPost_ret (v := .agg #[.int .i64 ib, .int .u64 (il : Int), .int .u64 (is : Int)]) (by simp [results, Try.results47, go_sem, q0, q1, q2]) rfl ?_
  refine ⟨rfl, ⟨hW1.out.1.keepx hxf (Ne.symm hg2g), PM.RD.keepy hxf (Ne.symm hg2b) hZ (PM.id_nobyte _ _ _) hW1.out.2⟩, hX.out.low1 hxf hg2w⟩
set_option maxRecDepth 100000 in
set_option maxHeartbeats 4000000 in
theorem rdVo_any (g b : Nat) (long : Int) (s : PM.Rs) (w : World) (h : PM.WR 74 99 w g b long s) :
    Calls Try.prog 43 #[.pointer (some ⟨g, 0, none⟩)] w fun e w' => e = .returned (.agg #[.int .i64 (PM.rdVo s).1.id.br, .int .u64 ((PM.rdVo s).1.id.life : Int), .int .u64 ((PM.rdVo s).1.id.ser : Int), .bool (PM.rdVo s).1.yes]) ∧ PM.WR 74 99 w' g b long (PM.rdVo s).2 ∧ PM.Bx2 b g w w' := by
  obtain ⟨g2, hg2⟩ : ∃ g, g = w.heap.size := ⟨_, rfl⟩
  obtain ⟨W0, hW0⟩ : ∃ W, W = w.alloc (.cells #[.int .i64 0, .int .u64 0, .int .u64 0, .bool false] 53) := ⟨_, rfl⟩
  have hB0 : Below w.heap.size w W0 := by rw [hW0]; exact (Below.refl _ _).alloc (Nat.le_refl _) _
  have hZ : PM.BK W0 g2 #[.int .i64 0, .int .u64 0, .int .u64 0, .bool false] 53 := by rw [hW0, hg2]; exact PM.BK.new _ _ _
  have hg2w : w.heap.size ≤ g2 := by omega
  have hg2g : g2 ≠ g := by have := h.1.lt; omega
  have hg2b : g2 ≠ b := by have := h.2.lt; omega
  replace h := h.keep hB0
  have hX := PM.hid (PM.Bx2.of (b := b) (g := g) hB0)
  have hT : 74 ≠ 99 := by decide
  obtain ⟨i, s1, e1⟩ : ∃ a b, PM.rdId s = (a, b) := ⟨_, _, rfl⟩
  obtain ⟨n, l2, wr2, e2⟩ : ∃ a b c, PM.stepN s1.l s1.wr = (a, b, c) := ⟨_, _, _, rfl⟩
  have hI := rdId_any g b long s W0 h
  have hbd : s1.bad = s.bad := by rw [← (congrArg (fun p => p.2.bad) e1 : (PM.rdId s).2.bad = s1.bad)]; rfl
  rw [e1] at hI
  unfold PM.rdVo
  rw [e1]
  simp only
  rw [e2]
  simp only at hI ⊢
  rw [← hbd]
  have hN := PM.hid fun (W : World) (hr : PM.RD 99 W b s1.l s1.wr) => rnumber_any b s1.l s1.wr W hr
  rw [e2] at hN
  simp only at hN
  clear e1 hbd h
  have hn64 := (PM.stepN_lt s1.l s1.wr).1
  rw [e2] at hn64
  simp only at hn64
  clear e2
  obtain ⟨ib, il, is⟩ := i
  simp only at hI ⊢
  obtain ⟨Y, hY0⟩ : ∃ Y, Y = decide (n = 1) := ⟨_, rfl⟩
  obtain ⟨D, hD0⟩ : ∃ D, D = (s1.bad || decide (1 < n)) := ⟨_, rfl⟩
  rw [← hY0, ← hD0]
  replace hY0 := PM.hid hY0
  replace hD0 := PM.hid hD0
  go_enter Try.func43, Try.ntmps43
  go_upto_region 1 with fail
  rw [← hW0, ← hg2]
  clear hW0 hg2 hB0
  go_wp2_with fail
  refine hI.mono ?_
  clear hI
  rintro e w1 ⟨rfl, hW1, hx1⟩
  replace hZ := hZ.keepx2 hx1 hg2b hg2g
  replace hX := PM.hid (hX.out.trans hx1)
  clear hx1
  go_upto_region 2 with fail
  obtain ⟨g3, hg3⟩ : ∃ g, g = w1.heap.size := ⟨_, rfl⟩
  obtain ⟨W2, hW2⟩ : ∃ W, W = w1.alloc (.cells #[.int .i64 ib, .int .u64 (il : Int), .int .u64 (is : Int), .bool false] 53) := ⟨_, rfl⟩
  have hB2 : Below w1.heap.size w1 W2 := by rw [hW2]; exact (Below.refl _ _).alloc (Nat.le_refl _) _
  have hY : PM.BK W2 g3 #[.int .i64 ib, .int .u64 (il : Int), .int .u64 (is : Int), .bool false] 53 := by rw [hW2, hg3]; exact PM.BK.new _ _ _
  have hg3b : g3 ≠ b := by have := hW1.2.lt; omega
  have hg3g : g3 ≠ g := by have := hW1.1.lt; omega
  have hg23 : g2 ≠ g3 := by have := hZ.lt; omega
  have hg3w : w.heap.size ≤ g3 := by have := hX.out.size; omega
  replace hZ := hZ.keep hB2
  replace hX := PM.hid (hX.out.trans (PM.Bx2.of hB2))
  have hWR := PM.hid (hW1.keep hB2)
  rw [← hW2, ← hg3]
  clear hW2 hg3 hB2 hW1
  have c0 : W2.cell? ⟨g, 0, none⟩ = some (.pointer (some ⟨b, 0, none⟩)) := hWR.out.1.cell 0
  go_wp2_with fail
  refine (hN.out W2 hWR.out.2).mono ?_
  clear hN c0
  rintro e w4 ⟨rfl, hr4, hx4⟩
  replace hZ := hZ.keepx hx4 hg2b
  replace hY := hY.keepx hx4 hg3b
  replace hX := PM.hid (hX.out.trans (PM.Bx2.ofb hx4))
  have hW4 := PM.hid (hWR.out.num hT hr4 hx4)
  clear hr4 hx4 hWR
  by_cases h1 : 1 < n
  · have q1 : decide ((1 : Int) < (n : Int)) = true := by simp; omega
    have q2 : ((n : Int) == 1) = false := by simp; omega
    obtain rfl : D = true := by rw [hD0.out, decide_eq_true h1, Bool.or_true]
    obtain rfl : Y = false := by rw [hY0.out]; simp; omega
    clear hD0 hY0
    have c2 := hW4.out.1.cell 2
    have k2 := hW4.out.1.free 2
    go_upto_region 5 with fail
    have hW5 := PM.hid (hW4.out.setBad hT)
    have hx5 : PM.Bx g w4 (w4.setCell ⟨g, 2, none⟩ (.bool true)) := PM.Bx.set g 2 w4 (.bool true)
    generalize (w4.setCell ⟨g, 2, none⟩ (.bool true)) = w5 at *
    replace hZ := hZ.keepx hx5 hg2g
    replace hY := hY.keepx hx5 hg3g
    replace hX := PM.hid (hX.out.trans (PM.Bx2.ofg hx5))
    clear hx5 hW4 c2 k2 q1
    have f3 := hY.free 3
    have t3 := hY.cell 3
    have t0 := hY.cell 0
    have t1 := hY.cell 1
    have t2 := hY.cell 2
    go_upto_region 6 with fail
    have kn := hY.set 3 (.bool false)
    replace kn : PM.BK (w5.setCell ⟨g3, 3, none⟩ (.bool false)) g3 #[.int .i64 ib, .int .u64 (il : Int), .int .u64 (is : Int), .bool false] 53 := by simpa using kn
    have hxs : PM.Bx g3 w5 (w5.setCell ⟨g3, 3, none⟩ (.bool false)) := PM.Bx.set g3 3 w5 (.bool false)
    generalize (w5.setCell ⟨g3, 3, none⟩ (.bool false)) = wA at *
    replace hZ := hZ.keepx hxs hg23
    have hWA := PM.hid (show PM.WR 74 99 wA g b long _ from ⟨hW5.out.1.keepx hxs (Ne.symm hg3g), PM.RD.keepy hxs (Ne.symm hg3b) hY (PM.vo_nobyte _ _ _ _) hW5.out.2⟩)
    replace hX := PM.hid (hX.out.low1 hxs hg3w)
    clear hxs f3 t0 t1 t2 t3 hY
    have y0 := kn.cell 0
    have y1 := kn.cell 1
    have y2 := kn.cell 2
    have y3 := kn.cell 3
    have z0 := hZ.cell 0
    have f0 := hZ.free 0
    have z1 := hZ.cell 1
    have f1 := hZ.free 1
    have z2 := hZ.cell 2
    have f2 := hZ.free 2
    have z3 := hZ.cell 3
    have f3 := hZ.free 3
    go_wp2
    have ZF := hZ.set4v (.int .i64 ib) (.int .u64 (il : Int)) (.int .u64 (is : Int)) (.bool false)
    have hxf := PM.Bx.set4v g2 wA (.int .i64 ib) (.int .u64 (il : Int)) (.int .u64 (is : Int)) (.bool false)
    generalize ((((wA.setCell ⟨g2, 0, none⟩ (.int .i64 ib)).setCell ⟨g2, 1, none⟩ (.int .u64 (il : Int))).setCell ⟨g2, 2, none⟩ (.int .u64 (is : Int))).setCell ⟨g2, 3, none⟩ (.bool false)) = wf at *
    have q0 := ZF.cell 0
    have q1 := ZF.cell 1
    have q2 := ZF.cell 2
    have q3 := ZF.cell 3
    refine bodyPost_ret (v := .agg #[.int .i64 ib, .int .u64 (il : Int), .int .u64 (is : Int), .bool false]) (by simp [results, Try.results43, go_sem, q0, q1, q2, q3]) rfl ?_
    exact ⟨rfl, ⟨hWA.out.1.keepx hxf (Ne.symm hg2g), PM.RD.keepy hxf (Ne.symm hg2b) hZ (PM.vo_nobyte _ _ _ _) hWA.out.2⟩, hX.out.low1 hxf hg2w⟩
  · have q1 : decide ((1 : Int) < (n : Int)) = false := by simp; omega
    obtain rfl : D = s1.bad := by rw [hD0.out, decide_eq_false h1, Bool.or_false]
    clear hD0
    by_cases hn1 : n = 1
    · have q2 : ((n : Int) == 1) = true := by simp; omega
      obtain rfl : Y = true := by rw [hY0.out]; simp [hn1]
      clear hY0 hn1
      go_upto_region 5 with fail
      clear q1
      have f3 := hY.free 3
      have t3 := hY.cell 3
      have t0 := hY.cell 0
      have t1 := hY.cell 1
      have t2 := hY.cell 2
      go_upto_region 6 with fail
      have kn := hY.set 3 (.bool true)
      replace kn : PM.BK (w4.setCell ⟨g3, 3, none⟩ (.bool true)) g3 #[.int .i64 ib, .int .u64 (il : Int), .int .u64 (is : Int), .bool true] 53 := by simpa using kn
      have hxs : PM.Bx g3 w4 (w4.setCell ⟨g3, 3, none⟩ (.bool true)) := PM.Bx.set g3 3 w4 (.bool true)
      generalize (w4.setCell ⟨g3, 3, none⟩ (.bool true)) = wA at *
      replace hZ := hZ.keepx hxs hg23
      have hWA := PM.hid (show PM.WR 74 99 wA g b long _ from ⟨hW4.out.1.keepx hxs (Ne.symm hg3g), PM.RD.keepy hxs (Ne.symm hg3b) hY (PM.vo_nobyte _ _ _ _) hW4.out.2⟩)
      replace hX := PM.hid (hX.out.low1 hxs hg3w)
      clear hxs f3 t0 t1 t2 t3 hY
      have y0 := kn.cell 0
      have y1 := kn.cell 1
      have y2 := kn.cell 2
      have y3 := kn.cell 3
      have z0 := hZ.cell 0
      have f0 := hZ.free 0
      have z1 := hZ.cell 1
      have f1 := hZ.free 1
      have z2 := hZ.cell 2
      have f2 := hZ.free 2
      have z3 := hZ.cell 3
      have f3 := hZ.free 3
      go_wp2
      have ZF := hZ.set4v (.int .i64 ib) (.int .u64 (il : Int)) (.int .u64 (is : Int)) (.bool true)
      have hxf := PM.Bx.set4v g2 wA (.int .i64 ib) (.int .u64 (il : Int)) (.int .u64 (is : Int)) (.bool true)
      generalize ((((wA.setCell ⟨g2, 0, none⟩ (.int .i64 ib)).setCell ⟨g2, 1, none⟩ (.int .u64 (il : Int))).setCell ⟨g2, 2, none⟩ (.int .u64 (is : Int))).setCell ⟨g2, 3, none⟩ (.bool true)) = wf at *
      have q0 := ZF.cell 0
      have q1 := ZF.cell 1
      have q2 := ZF.cell 2
      have q3 := ZF.cell 3
      refine bodyPost_ret (v := .agg #[.int .i64 ib, .int .u64 (il : Int), .int .u64 (is : Int), .bool true]) (by simp [results, Try.results43, go_sem, q0, q1, q2, q3]) rfl ?_
      exact ⟨rfl, ⟨hWA.out.1.keepx hxf (Ne.symm hg2g), PM.RD.keepy hxf (Ne.symm hg2b) hZ (PM.vo_nobyte _ _ _ _) hWA.out.2⟩, hX.out.low1 hxf hg2w⟩
    · have q2 : ((n : Int) == 1) = false := by simp; omega
      obtain rfl : Y = false := by rw [hY0.out]; simp [hn1]
      clear hY0 hn1
      go_upto_region 5 with fail
      clear q1
      have f3 := hY.free 3
      have t3 := hY.cell 3
      have t0 := hY.cell 0
      have t1 := hY.cell 1
      have t2 := hY.cell 2
      go_upto_region 6 with fail
      have kn := hY.set 3 (.bool false)
      replace kn : PM.BK (w4.setCell ⟨g3, 3, none⟩ (.bool false)) g3 #[.int .i64 ib, .int .u64 (il : Int), .int .u64 (is : Int), .bool false] 53 := by simpa using kn
      have hxs : PM.Bx g3 w4 (w4.setCell ⟨g3, 3, none⟩ (.bool false)) := PM.Bx.set g3 3 w4 (.bool false)
      generalize (w4.setCell ⟨g3, 3, none⟩ (.bool false)) = wA at *
      replace hZ := hZ.keepx hxs hg23
      have hWA := PM.hid (show PM.WR 74 99 wA g b long _ from ⟨hW4.out.1.keepx hxs (Ne.symm hg3g), PM.RD.keepy hxs (Ne.symm hg3b) hY (PM.vo_nobyte _ _ _ _) hW4.out.2⟩)
      replace hX := PM.hid (hX.out.low1 hxs hg3w)
      clear hxs f3 t0 t1 t2 t3 hY
      have y0 := kn.cell 0
      have y1 := kn.cell 1
      have y2 := kn.cell 2
      have y3 := kn.cell 3
      have z0 := hZ.cell 0
      have f0 := hZ.free 0
      have z1 := hZ.cell 1
      have f1 := hZ.free 1
      have z2 := hZ.cell 2
      have f2 := hZ.free 2
      have z3 := hZ.cell 3
      have f3 := hZ.free 3
      go_wp2
      have ZF := hZ.set4v (.int .i64 ib) (.int .u64 (il : Int)) (.int .u64 (is : Int)) (.bool false)
      have hxf := PM.Bx.set4v g2 wA (.int .i64 ib) (.int .u64 (il : Int)) (.int .u64 (is : Int)) (.bool false)
      generalize ((((wA.setCell ⟨g2, 0, none⟩ (.int .i64 ib)).setCell ⟨g2, 1, none⟩ (.int .u64 (il : Int))).setCell ⟨g2, 2, none⟩ (.int .u64 (is : Int))).setCell ⟨g2, 3, none⟩ (.bool false)) = wf at *
      have q0 := ZF.cell 0
      have q1 := ZF.cell 1
      have q2 := ZF.cell 2
      have q3 := ZF.cell 3
      refine bodyPost_ret (v := .agg #[.int .i64 ib, .int .u64 (il : Int), .int .u64 (is : Int), .bool false]) (by simp [results, Try.results43, go_sem, q0, q1, q2, q3]) rfl ?_
      exact ⟨rfl, ⟨hWA.out.1.keepx hxf (Ne.symm hg2g), PM.RD.keepy hxf (Ne.symm hg2b) hZ (PM.vo_nobyte _ _ _ _) hWA.out.2⟩, hX.out.low1 hxf hg2w⟩
end Go.Proofs.Ytokfookandfemaa
