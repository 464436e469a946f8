/-
  CONTRACT OF filter.test: a reader's next test.
-/
import Derived.Test.YtklgibkdbdhaiaaPx
import Derived.Test.YtklgibkdbdhaiaaQf
import Derived.Deep.CutRange
namespace Go.Proofs.Ytklgibkdbdhaiaa
open Go.RowKit
set_option linter.unusedVariables false
namespace PM
theorem te_nobyte (x y : ByteArray) (a b c : Int) : ∀ (i : Nat) (z : UInt8), (#[Value.string x, Value.int .i64 a, Value.int .i64 b, Value.int .i64 c, Value.string y] : Array Value)[i]? ≠ Option.some (bv z) := by
  intro i z he
  match i with
  | 0 => simp [bv] at he
  | 1 => simp [bv] at he
  | 2 => simp [bv] at he
  | 3 => simp [bv] at he
  | 4 => simp [bv] at he
  | i + 5 => simp at he
theorem Bx.set5 (r : Nat) (w : World) (x y z u v : Value) : Bx r w (((((w.setCell ⟨r, 0, Option.none⟩ x).setCell ⟨r, 1, Option.none⟩ y).setCell ⟨r, 2, Option.none⟩ z).setCell ⟨r, 3, Option.none⟩ u).setCell ⟨r, 4, Option.none⟩ v) :=
  ((Bx.set3 r w x y z).trans (Bx.set r 3 _ u)).trans (Bx.set r 4 _ v)
theorem BK.set5 {w : World} {r : Nat} {a b c d e : Value} {T : TypeId} (h : BK w r #[a, b, c, d, e] T) (x y z u v : Value) : BK (((((w.setCell ⟨r, 0, Option.none⟩ x).setCell ⟨r, 1, Option.none⟩ y).setCell ⟨r, 2, Option.none⟩ z).setCell ⟨r, 3, Option.none⟩ u).setCell ⟨r, 4, Option.none⟩ v) r #[x, y, z, u, v] T := by
  have := ((((h.set 0 x).set 1 y).set 2 z).set 3 u).set 4 v
  simpa using this
theorem BK.tail3 {w : World} {r : Nat} {a b c d e : Value} {T : TypeId} (h : BK w r #[a, b, c, d, e] T) (z u v : Value) : BK (((w.setCell ⟨r, 2, Option.none⟩ z).setCell ⟨r, 3, Option.none⟩ u).setCell ⟨r, 4, Option.none⟩ v) r #[a, b, z, u, v] T := by
  have := ((h.set 2 z).set 3 u).set 4 v
  simpa using this
theorem Bx.tail3 (r : Nat) (w : World) (z u v : Value) : Bx r w (((w.setCell ⟨r, 2, Option.none⟩ z).setCell ⟨r, 3, Option.none⟩ u).setCell ⟨r, 4, Option.none⟩ v) :=
  ((Bx.set r 2 w z).trans (Bx.set r 3 _ u)).trans (Bx.set r 4 _ v)
end PM
def RetT (T : TypeId) (W : World) (b : Nat) (z : PM.Te) (l : List UInt8) (wr : Bool) (e : Ending) (w' : World) : Prop :=
  e = .returned (.agg #[.string z.name, .int .i64 z.op, .int .i64 z.k, .int .i64 z.n, .string z.s]) ∧ PM.RD T w' b l wr ∧ PM.Bx b W w'
set_option maxRecDepth 100000 in
set_option maxHeartbeats 4000000 in
theorem test_any (b : Nat) (l : List UInt8) (wr : Bool) (w : World) (h : PM.RD 88 w b l wr) (hl : l.length ≤ 70368744177664) :
    Calls Try.prog 47 #[.pointer (some ⟨b, 0, none⟩)] w (RetT 88 w b (PM.readT l wr).1 (PM.readT l wr).2.1 (PM.readT l wr).2.2) := by
  have hbw : b < w.heap.size := h.lt
  obtain ⟨g2, hg2⟩ : ∃ g, g = w.heap.size := ⟨_, rfl⟩
  obtain ⟨W0, hW0⟩ : ∃ W, W = w.alloc (.cells #[.string ⟨#[]⟩, .int .i64 0, .int .i64 0, .int .i64 0, .string ⟨#[]⟩] 81) := ⟨_, rfl⟩
  have hB0 : Below w.heap.size w W0 := by rw [hW0]; exact (Below.refl _ _).alloc (Nat.le_refl _) _
  have hZ0 : PM.BK W0 g2 #[.string ⟨#[]⟩, .int .i64 0, .int .i64 0, .int .i64 0, .string ⟨#[]⟩] 81 := by rw [hW0, hg2]; exact PM.BK.new _ _ _
  have hR0 := h.keep hB0
  have hg2b : g2 ≠ b := by omega
  obtain ⟨nm, l1, wr1, s1⟩ : ∃ a b c, PM.stepB l wr 16 = (a, b, c) := ⟨_, _, _, rfl⟩
  obtain ⟨n, l2, wr2, s2⟩ : ∃ a b c, PM.stepN l1 wr1 = (a, b, c) := ⟨_, _, _, rfl⟩
  have HE := PM.hid (PM.readT_eq l wr nm l1 l2 n wr1 wr2 s1 s2)
  have hl1 := (PM.stepB_lt l wr 16).2
  rw [s1] at hl1
  have hn := PM.stepN_lt l1 wr1
  rw [s2] at hn
  obtain ⟨hn64, hl2⟩ := hn
  simp only at hn64 hl1 hl2
  have hBy := rbytes_any b l wr 16 W0 hR0 hl (by omega) (by omega)
  rw [s1] at hBy
  have hNu := fun (W : World) (h : PM.RD 88 W b l1 wr1) => rnumber_any b l1 wr1 W h
  rw [s2] at hNu
  clear s1 s2 h
  go_enter Try.func47, Try.ntmps47
  go_upto_region 1 with fail
  rw [← hW0, ← hg2]
  have hg2w : w.heap.size ≤ g2 := by omega
  clear hW0 hg2
  go_wp2_with fail
  refine hBy.mono ?_
  rintro e w1 ⟨v1, rfl, ho1, hr1, hx1⟩
  have kc := PM.run_str bty Try.underlying9 ho1.bs
  have hZ1 := hZ0.keepx hx1 hg2b
  have hs1 := hx1.size
  have hX1 := PM.hid (And.intro hB0 hx1)
  have hg2l := hZ0.lt
  clear hBy hR0 hZ0 hB0 hx1 ho1
  go_upto_region 2 with fail
  obtain ⟨g3, hg3⟩ : ∃ g, g = w1.heap.size := ⟨_, rfl⟩
  obtain ⟨W2, hW2⟩ : ∃ W, W = w1.alloc (.cells #[.string ⟨nm.toArray⟩, .int .i64 0, .int .i64 0, .int .i64 0, .string ⟨#[]⟩] 81) := ⟨_, rfl⟩
  have hB2 : Below w1.heap.size w1 W2 := by rw [hW2]; exact (Below.refl _ _).alloc (Nat.le_refl _) _
  have hT2 : PM.BK W2 g3 #[.string ⟨nm.toArray⟩, .int .i64 0, .int .i64 0, .int .i64 0, .string ⟨#[]⟩] 81 := by rw [hW2, hg3]; exact PM.BK.new _ _ _
  have hr2 := hr1.keep hB2
  have hZ2 := hZ1.keep hB2
  have hg3b : g3 ≠ b := by have := hr1.lt; omega
  have hg23 : g2 ≠ g3 := by have := hZ1.lt; omega
  have hg3w : w.heap.size ≤ g3 := by have := hX1.out.1.size; omega
  have hNm := hNu W2 hr2
  have hX2 := PM.hid (And.intro hX1.out hB2)
  rw [← hW2, ← hg3]
  clear hW2 hg3 hr1 hZ1 kc hr2 hB2 hNu hX1
  go_wp2_with fail
  refine hNm.mono ?_
  rintro e w3 ⟨rfl, hr3, hx3⟩
  have hZ3 := hZ2.keepx hx3 hg2b
  have hT3 := hT2.keepx hx3 hg3b
  have hX3 : PM.Bx b w w3 := (((PM.Bx.of hX2.out.1.1).trans hX2.out.1.2).trans (PM.Bx.of hX2.out.2)).trans hx3
  have hXh := PM.hid hX3
  clear hNm hZ2 hT2 hX2 hx3 hX3
  by_cases h8 : 8 < n
  · have q8 : decide ((8 : Int) < (n : Int)) = true := by simp; omega
    have HR : Hid (PM.readT l wr = (PM.teR nm 0 (0, 0, []), l2, wr2)) := PM.hid (by rw [HE.out, if_pos h8])
    have t0 := hT3.cell 0
    have t1 := hT3.cell 1
    have t2 := hT3.cell 2
    have t3 := hT3.cell 3
    have t4 := hT3.cell 4
    have z0 := hZ3.cell 0
    have z1 := hZ3.cell 1
    have z2 := hZ3.cell 2
    have z3 := hZ3.cell 3
    have z4 := hZ3.cell 4
    have f0 := hZ3.free 0
    have f1 := hZ3.free 1
    have f2 := hZ3.free 2
    have f3 := hZ3.free 3
    have f4 := hZ3.free 4
    go_wp2
    have ZF := hZ3.set5 (.string ⟨nm.toArray⟩) (.int .i64 0) (.int .i64 0) (.int .i64 0) (.string ⟨#[]⟩)
    have hxf := PM.Bx.set5 g2 w3 (.string ⟨nm.toArray⟩) (.int .i64 0) (.int .i64 0) (.int .i64 0) (.string ⟨#[]⟩)
    generalize (((((w3.setCell ⟨g2, 0, none⟩ (.string ⟨nm.toArray⟩)).setCell ⟨g2, 1, none⟩ (.int .i64 0)).setCell ⟨g2, 2, none⟩ (.int .i64 0)).setCell ⟨g2, 3, none⟩ (.int .i64 0)).setCell ⟨g2, 4, none⟩ (.string ⟨#[]⟩)) = wf at *
    have q0 := ZF.cell 0
    have q1 := ZF.cell 1
    have q2 := ZF.cell 2
    have q3 := ZF.cell 3
    have q4 := ZF.cell 4
    refine bodyPost_ret (v := .agg #[.string ⟨nm.toArray⟩, .int .i64 0, .int .i64 0, .int .i64 0, .string ⟨#[]⟩]) (by simp [results, Try.results47, go_sem, q0, q1, q2, q3, q4]) rfl ?_
    rw [HR.out]
    exact ⟨rfl, PM.RD.keepy hxf (Ne.symm hg2b) hZ3 (PM.te_nobyte _ _ _ _ _) hr3, hXh.out.low hxf (by omega)⟩
  have q8 : decide ((8 : Int) < (n : Int)) = false := by simp; omega
  have hwn : IntKind.i64.wrap (n : Int) = (n : Int) := by rw [IntKind.wrap_i64]; omega
  have t0 := hT3.cell 0
  have t1 := hT3.cell 1
  have t2 := hT3.cell 2
  have t3 := hT3.cell 3
  have t4 := hT3.cell 4
  have f1 := hT3.free 1
  go_upto_region 6 with fail
  have hT4 := hT3.set 1 (.int .i64 (n : Int))
  replace hT4 : PM.BK (w3.setCell ⟨g3, 1, none⟩ (.int .i64 (n : Int))) g3 #[.string ⟨nm.toArray⟩, .int .i64 (n : Int), .int .i64 0, .int .i64 0, .string ⟨#[]⟩] 81 := by simpa using hT4
  have hx4 := PM.Bx.set g3 1 w3 (.int .i64 (n : Int))
  generalize w3.setCell ⟨g3, 1, none⟩ (.int .i64 (n : Int)) = w4 at *
  have hZ4 := hZ3.keepx hx4 hg23
  have hr4 := PM.RD.keepy hx4 (Ne.symm hg3b) hT3 (PM.te_nobyte _ _ _ _ _) hr3
  have hX4 := PM.hid (hXh.out.low hx4 hg3w)
  clear t0 t1 t2 t3 t4 f1 hT3 hZ3 hr3 hXh hx4 hwn
  have t0 := hT4.cell 0
  have t1 := hT4.cell 1
  have t2 := hT4.cell 2
  have t3 := hT4.cell 3
  have t4 := hT4.cell 4
  by_cases h88 : n = 8
  · have qn : ((n : Int) != 8) = false := by simp; omega
    have HR : Hid (PM.readT l wr = (PM.teR nm 8 (0, 0, []), l2, wr2)) := PM.hid (by rw [HE.out, if_neg h8, if_pos h88])
    have hn8 : (n : Int) = 8 := by omega
    have hnh := PM.hid hn8
    clear hn8 h88 h8
    have z0 := hZ4.cell 0
    have z1 := hZ4.cell 1
    have z2 := hZ4.cell 2
    have z3 := hZ4.cell 3
    have z4 := hZ4.cell 4
    have f0 := hZ4.free 0
    have f1 := hZ4.free 1
    have f2 := hZ4.free 2
    have f3 := hZ4.free 3
    have f4 := hZ4.free 4
    go_wp2
    have ZF := hZ4.set5 (.string ⟨nm.toArray⟩) (.int .i64 (n : Int)) (.int .i64 0) (.int .i64 0) (.string ⟨#[]⟩)
    have hxf := PM.Bx.set5 g2 w4 (.string ⟨nm.toArray⟩) (.int .i64 (n : Int)) (.int .i64 0) (.int .i64 0) (.string ⟨#[]⟩)
    generalize (((((w4.setCell ⟨g2, 0, none⟩ (.string ⟨nm.toArray⟩)).setCell ⟨g2, 1, none⟩ (.int .i64 (n : Int))).setCell ⟨g2, 2, none⟩ (.int .i64 0)).setCell ⟨g2, 3, none⟩ (.int .i64 0)).setCell ⟨g2, 4, none⟩ (.string ⟨#[]⟩)) = wf at *
    have q0 := ZF.cell 0
    have q1 := ZF.cell 1
    have q2 := ZF.cell 2
    have q3 := ZF.cell 3
    have q4 := ZF.cell 4
    refine bodyPost_ret (v := .agg #[.string ⟨nm.toArray⟩, .int .i64 (n : Int), .int .i64 0, .int .i64 0, .string ⟨#[]⟩]) (by simp [results, Try.results47, go_sem, q0, q1, q2, q3, q4]) rfl ?_
    rw [HR.out]
    exact ⟨by rw [hnh.out]; rfl, PM.RD.keepy hxf (Ne.symm hg2b) hZ4 (PM.te_nobyte _ _ _ _ _) hr4, hX4.out.low hxf (by omega)⟩
  · have qn : ((n : Int) != 8) = true := by simp; omega
    have HR : Hid (PM.readT l wr = (PM.teR nm (n : Nat) (PM.stepV l2 wr2).1, (PM.stepV l2 wr2).2.1, (PM.stepV l2 wr2).2.2)) := PM.hid (by rw [HE.out, if_neg h8, if_neg h88])
    have hVa := rvalue_any b l2 wr2 w4 hr4 (by omega)
    clear h88 h8
    generalize PM.stepV l2 wr2 = V at *
    obtain ⟨⟨vk, vn, vs⟩, l5, wr5⟩ := V
    simp only at hVa
    go_wp2_with fail
    refine hVa.mono ?_
    rintro e w5 ⟨rfl, hr5, hx5⟩
    have hZ5 := hZ4.keepx hx5 hg2b
    have hT5 := hT4.keepx hx5 hg3b
    have hX5 := PM.hid (hX4.out.trans hx5)
    clear t0 t1 t2 t3 t4 hT4 hZ4 hr4 hX4 hx5 hVa
    have z2 := hT5.cell 2
    have z3 := hT5.cell 3
    have z4 := hT5.cell 4
    have f2 := hT5.free 2
    have f3 := hT5.free 3
    have f4 := hT5.free 4
    go_upto_region 8 with fail
    have hT6 := hT5.tail3 (.int .i64 vk) (.int .i64 vn) (.string ⟨vs.toArray⟩)
    have hx6 := PM.Bx.tail3 g3 w5 (.int .i64 vk) (.int .i64 vn) (.string ⟨vs.toArray⟩)
    generalize (((w5.setCell ⟨g3, 2, none⟩ (.int .i64 vk)).setCell ⟨g3, 3, none⟩ (.int .i64 vn)).setCell ⟨g3, 4, none⟩ (.string ⟨vs.toArray⟩)) = w6 at *
    have hZ6 := hZ5.keepx hx6 hg23
    have hr6 := PM.RD.keepy hx6 (Ne.symm hg3b) hT5 (PM.te_nobyte _ _ _ _ _) hr5
    have hX6 := PM.hid (hX5.out.low hx6 hg3w)
    clear f2 f3 f4 z2 z3 z4 hT5 hZ5 hr5 hX5 hx6
    have t0 := hT6.cell 0
    have t1 := hT6.cell 1
    have t2 := hT6.cell 2
    have t3 := hT6.cell 3
    have t4 := hT6.cell 4
    have z0 := hZ6.cell 0
    have z1 := hZ6.cell 1
    have z2 := hZ6.cell 2
    have z3 := hZ6.cell 3
    have z4 := hZ6.cell 4
    have f0 := hZ6.free 0
    have f1 := hZ6.free 1
    have f2 := hZ6.free 2
    have f3 := hZ6.free 3
    have f4 := hZ6.free 4
    go_wp2
    have ZF := hZ6.set5 (.string ⟨nm.toArray⟩) (.int .i64 (n : Int)) (.int .i64 vk) (.int .i64 vn) (.string ⟨vs.toArray⟩)
    have hxf := PM.Bx.set5 g2 w6 (.string ⟨nm.toArray⟩) (.int .i64 (n : Int)) (.int .i64 vk) (.int .i64 vn) (.string ⟨vs.toArray⟩)
    generalize (((((w6.setCell ⟨g2, 0, none⟩ (.string ⟨nm.toArray⟩)).setCell ⟨g2, 1, none⟩ (.int .i64 (n : Int))).setCell ⟨g2, 2, none⟩ (.int .i64 vk)).setCell ⟨g2, 3, none⟩ (.int .i64 vn)).setCell ⟨g2, 4, none⟩ (.string ⟨vs.toArray⟩)) = wf at *
    have q0 := ZF.cell 0
    have q1 := ZF.cell 1
    have q2 := ZF.cell 2
    have q3 := ZF.cell 3
    have q4 := ZF.cell 4
    refine bodyPost_ret (v := .agg #[.string ⟨nm.toArray⟩, .int .i64 (n : Int), .int .i64 vk, .int .i64 vn, .string ⟨vs.toArray⟩]) (by simp [results, Try.results47, go_sem, q0, q1, q2, q3, q4]) rfl ?_
    rw [HR.out]
    exact ⟨rfl, PM.RD.keepy hxf (Ne.symm hg2b) hZ6 (PM.te_nobyte _ _ _ _ _) hr6, hX6.out.low hxf (by omega)⟩
end Go.Proofs.Ytklgibkdbdhaiaa
