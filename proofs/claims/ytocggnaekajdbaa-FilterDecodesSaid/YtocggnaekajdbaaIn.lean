/-
  CONTRACT OF postilionref05.test.
-/
import Derived.Test.YtocggnaekajdbaaPj
import Derived.Test.YtocggnaekajdbaaPz
import Derived.Test.YtocggnaekajdbaaQg
import Derived.Test.YtocggnaekajdbaaIg
import Derived.Deep.CutRange
namespace Go.Proofs.Ytocggnaekajdbaa
open Go.RowKit
set_option linter.unusedVariables false
theorem PM.Below_size' {w w' : World} (k : Below w.heap.size w w') : w.heap.size ≤ w'.heap.size := k.size
def RetTG (W : World) (l : List UInt8) (e : Ending) (w' : World) : Prop :=
  e = .returned (.tuple #[.agg #[.string (PM.getT l).1.name, .int .i64 (PM.getT l).1.op, .int .i64 (PM.getT l).1.k, .int .i64 (PM.getT l).1.n, .string (PM.getT l).1.s], .int .i64 ((PM.getT l).2 : Nat)]) ∧ Below W.heap.size W w'
set_option maxRecDepth 100000 in
set_option maxHeartbeats 4000000 in
theorem rtest_any (v : Value) (l : List UInt8) (w : World) (hv : PM.BS w v l) (hl : l.length ≤ 70368744177664) :
    Calls Try.prog 70 #[v] w (RetTG w l) := by
  obtain ⟨g2, hg2⟩ : ∃ g, g = w.heap.size := ⟨_, rfl⟩
  obtain ⟨W0, hW0⟩ : ∃ W, W = w.alloc (.cells #[.string ⟨#[]⟩, .int .i64 0, .int .i64 0, .int .i64 0, .string ⟨#[]⟩] 30) := ⟨_, rfl⟩
  have hB0 : Below w.heap.size w W0 := by rw [hW0]; exact (Below.refl _ _).alloc (Nat.le_refl _) _
  have hZ0 : PM.BK W0 g2 #[.string ⟨#[]⟩, .int .i64 0, .int .i64 0, .int .i64 0, .string ⟨#[]⟩] 30 := by rw [hW0, hg2]; exact PM.BK.new _ _ _
  have hv0 := hv.keep hB0
  obtain ⟨nm, k1, s1⟩ : ∃ a b, PM.getB l 16 = (a, b) := ⟨_, _, rfl⟩
  obtain ⟨n, k2, s2⟩ : ∃ a b, PM.getK (l.drop k1) = (a, b) := ⟨_, _, rfl⟩
  have HE := PM.hid (PM.getT_eq l nm k1 n k2 s1 s2)
  have hl1 := (PM.getB_lt l 16).1
  rw [s1] at hl1
  have hn := PM.getK_lt (l.drop k1)
  rw [s2] at hn
  obtain ⟨hn64, hl2⟩ := hn
  rw [List.length_drop] at hl2
  simp only at hn64 hl1 hl2
  have hgB := rgetB_any v l 16 W0 hv0 hl (by omega) (by omega)
  rw [s1] at hgB
  obtain ⟨va, vc, hve⟩ := hv.len
  subst hve
  have hre1 := PM.run_rest' bty hv hl1
  have hre2 := PM.run_rest' bty hv (K := k1 + k2) (by omega)
  obtain ⟨ra1, rc1, hrun1, hrs1⟩ := hre1
  obtain ⟨ra2, rc2, hrun2, hrs2⟩ := hre2
  have hgK := fun (W : World) (h : PM.BS W (.slice ra1 (l.length - k1) rc1) (l.drop k1)) => rget_any _ (l.drop k1) W h (by rw [List.length_drop]; omega)
  rw [s2] at hgK
  have hgV := fun (W : World) (h : PM.BS W (.slice ra2 (l.length - (k1 + k2)) rc2) (l.drop (k1 + k2))) => rgetV_any _ (l.drop (k1 + k2)) W h (by rw [List.length_drop]; omega)
  clear s1 s2 hv hv0
  go_enter Try.func70, Try.ntmps70
  go_upto_region 1 with fail
  rw [← hW0, ← hg2]
  have hg2w : w.heap.size ≤ g2 := by omega
  clear hW0 hg2
  go_wp2_with fail
  refine hgB.mono ?_
  rintro e w1 ⟨x1, rfl, hx1, hB1⟩
  have hZ1 := hZ0.keep hB1
  have hBB1 := PM.hid (PM.chain hB0 hB1)
  clear hgB hZ0 hB0 hB1
  by_cases c1 : k1 = 0
  · subst c1
    have HG : Hid (PM.getT l = (PM.teR [] 0 (0, 0, []), 0)) := PM.hid (by rw [HE.out, if_pos (Or.inl rfl)])
    clear hgK hgV hrun1 hrun2 hx1
    have z0 := hZ1.cell 0
    have z1 := hZ1.cell 1
    have z2 := hZ1.cell 2
    have z3 := hZ1.cell 3
    have z4 := hZ1.cell 4
    have f0 := hZ1.free 0
    have f1 := hZ1.free 1
    have f2 := hZ1.free 2
    have f3 := hZ1.free 3
    have f4 := hZ1.free 4
    go_wp2
    have ZF := hZ1.set5 (.string ⟨#[]⟩) (.int .i64 0) (.int .i64 0) (.int .i64 0) (.string ⟨#[]⟩)
    have hxf := PM.Bx.set5 g2 w1 (.string ⟨#[]⟩) (.int .i64 0) (.int .i64 0) (.int .i64 0) (.string ⟨#[]⟩)
    generalize (((((w1.setCell ⟨g2, 0, none⟩ (.string ⟨#[]⟩)).setCell ⟨g2, 1, none⟩ (.int .i64 0)).setCell ⟨g2, 2, none⟩ (.int .i64 0)).setCell ⟨g2, 3, none⟩ (.int .i64 0)).setCell ⟨g2, 4, none⟩ (.string ⟨#[]⟩)) = wf at *
    have q0 := ZF.cell 0
    have q1 := ZF.cell 1
    have q2 := ZF.cell 2
    have q3 := ZF.cell 3
    have q4 := ZF.cell 4
    refine bodyPost_ret (v := .tuple #[.agg #[.string ⟨#[]⟩, .int .i64 0, .int .i64 0, .int .i64 0, .string ⟨#[]⟩], .int .i64 0]) (by simp [results, Try.results70, go_sem, q0, q1, q2, q3, q4]) rfl ?_
    exact ⟨by rw [HG.out] <;> rfl, hxf.below hBB1.out hg2w (PM.Below_size' hBB1.out)⟩
  have c1' : ((k1 : Int) == 0) = false := by simp; omega
  have hK := hgK w1 (hrs1.keep hBB1.out)
  have hr1 := hrun1 w1
  clear hgK hrun1 hrs1
  go_wp2_with fail
  refine hK.mono ?_
  rintro e w2 ⟨rfl, hB2⟩
  have hZ2 := hZ1.keep hB2
  have hx2 := hx1.keep hB2
  have hBB2 := PM.hid (PM.chain hBB1.out hB2)
  clear hK hr1 hZ1 hx1 hBB1 hB2
  by_cases c2 : k2 = 0
  · subst c2
    have HG : Hid (PM.getT l = (PM.teR [] 0 (0, 0, []), 0)) := PM.hid (by rw [HE.out, if_pos (Or.inr (Or.inl rfl))])
    clear hgV hrun2 hx2
    have z0 := hZ2.cell 0
    have z1 := hZ2.cell 1
    have z2 := hZ2.cell 2
    have z3 := hZ2.cell 3
    have z4 := hZ2.cell 4
    have f0 := hZ2.free 0
    have f1 := hZ2.free 1
    have f2 := hZ2.free 2
    have f3 := hZ2.free 3
    have f4 := hZ2.free 4
    go_wp2
    have ZF := hZ2.set5 (.string ⟨#[]⟩) (.int .i64 0) (.int .i64 0) (.int .i64 0) (.string ⟨#[]⟩)
    have hxf := PM.Bx.set5 g2 w2 (.string ⟨#[]⟩) (.int .i64 0) (.int .i64 0) (.int .i64 0) (.string ⟨#[]⟩)
    generalize (((((w2.setCell ⟨g2, 0, none⟩ (.string ⟨#[]⟩)).setCell ⟨g2, 1, none⟩ (.int .i64 0)).setCell ⟨g2, 2, none⟩ (.int .i64 0)).setCell ⟨g2, 3, none⟩ (.int .i64 0)).setCell ⟨g2, 4, none⟩ (.string ⟨#[]⟩)) = wf at *
    have q0 := ZF.cell 0
    have q1 := ZF.cell 1
    have q2 := ZF.cell 2
    have q3 := ZF.cell 3
    have q4 := ZF.cell 4
    refine bodyPost_ret (v := .tuple #[.agg #[.string ⟨#[]⟩, .int .i64 0, .int .i64 0, .int .i64 0, .string ⟨#[]⟩], .int .i64 0]) (by simp [results, Try.results70, go_sem, q0, q1, q2, q3, q4]) rfl ?_
    exact ⟨by rw [HG.out] <;> rfl, hxf.below hBB2.out hg2w (PM.Below_size' hBB2.out)⟩
  have c2' : ((k2 : Int) == 0) = false := by simp; omega
  by_cases h8 : 8 < n
  · have q8 : decide ((8 : Int) < (n : Int)) = true := by simp; omega
    have HG : Hid (PM.getT l = (PM.teR [] 0 (0, 0, []), 0)) := PM.hid (by rw [HE.out, if_pos (Or.inr (Or.inr h8))])
    clear hgV hrun2 hx2
    have z0 := hZ2.cell 0
    have z1 := hZ2.cell 1
    have z2 := hZ2.cell 2
    have z3 := hZ2.cell 3
    have z4 := hZ2.cell 4
    have f0 := hZ2.free 0
    have f1 := hZ2.free 1
    have f2 := hZ2.free 2
    have f3 := hZ2.free 3
    have f4 := hZ2.free 4
    go_wp2
    have ZF := hZ2.set5 (.string ⟨#[]⟩) (.int .i64 0) (.int .i64 0) (.int .i64 0) (.string ⟨#[]⟩)
    have hxf := PM.Bx.set5 g2 w2 (.string ⟨#[]⟩) (.int .i64 0) (.int .i64 0) (.int .i64 0) (.string ⟨#[]⟩)
    generalize (((((w2.setCell ⟨g2, 0, none⟩ (.string ⟨#[]⟩)).setCell ⟨g2, 1, none⟩ (.int .i64 0)).setCell ⟨g2, 2, none⟩ (.int .i64 0)).setCell ⟨g2, 3, none⟩ (.int .i64 0)).setCell ⟨g2, 4, none⟩ (.string ⟨#[]⟩)) = wf at *
    have q0 := ZF.cell 0
    have q1 := ZF.cell 1
    have q2 := ZF.cell 2
    have q3 := ZF.cell 3
    have q4 := ZF.cell 4
    refine bodyPost_ret (v := .tuple #[.agg #[.string ⟨#[]⟩, .int .i64 0, .int .i64 0, .int .i64 0, .string ⟨#[]⟩], .int .i64 0]) (by simp [results, Try.results70, go_sem, q0, q1, q2, q3, q4]) rfl ?_
    exact ⟨by rw [HG.out] <;> rfl, hxf.below hBB2.out hg2w (PM.Below_size' hBB2.out)⟩
  have q8 : decide ((8 : Int) < (n : Int)) = false := by simp; omega
  have hwn : IntKind.i64.wrap (n : Int) = (n : Int) := by rw [IntKind.wrap_i64]; omega
  have kc := PM.run_str bty Try.underlying9 hx2
  have HF := PM.hid (HE.out.trans (if_neg (by omega)))
  go_upto_region 8 with fail
  obtain ⟨g3, hg3⟩ : ∃ g, g = w2.heap.size := ⟨_, rfl⟩
  obtain ⟨w3, hw3⟩ : ∃ W, W = w2.alloc (.cells #[.string ⟨nm.toArray⟩, .int .i64 (n : Int), .int .i64 0, .int .i64 0, .string ⟨#[]⟩] 30) := ⟨_, rfl⟩
  have hB3 : Below w2.heap.size w2 w3 := by rw [hw3]; exact (Below.refl _ _).alloc (Nat.le_refl _) _
  have hT3 : PM.BK w3 g3 #[.string ⟨nm.toArray⟩, .int .i64 (n : Int), .int .i64 0, .int .i64 0, .string ⟨#[]⟩] 30 := by rw [hw3, hg3]; exact PM.BK.new _ _ _
  have hZ3 := hZ2.keep hB3
  have hBB3 := PM.hid (PM.chain hBB2.out hB3)
  have hg3w : w.heap.size ≤ g3 := by have := hBB2.out.size; omega
  have hg23 : g2 ≠ g3 := by have := hZ2.lt; omega
  rw [← hw3, ← hg3]
  clear hw3 hg3 hZ2 kc hwn hx2 hBB2 HE
  by_cases h88 : n = 8
  · have qn : ((n : Int) == 8) = true := by simp; omega
    have HG : Hid (PM.getT l = (PM.teR nm (n : Nat) (0, 0, []), k1 + k2)) := PM.hid (by rw [HF.out, if_pos h88, h88]; rfl)
    have t0 := hT3.cell 0
    have t1 := hT3.cell 1
    have t2 := hT3.cell 2
    have t3 := hT3.cell 3
    have t4 := hT3.cell 4
    clear hgV hrun2 h88
    have z0 := hZ3.cell 0
    have z1 := hZ3.cell 1
    have z2 := hZ3.cell 2
    have z3 := hZ3.cell 3
    have z4 := hZ3.cell 4
    have f0 := hZ3.free 0
    have f1 := hZ3.free 1
    have f2 := hZ3.free 2
    have f3 := hZ3.free 3
    have f4 := hZ3.free 4
    go_wp2
    have ZF := hZ3.set5 (.string ⟨nm.toArray⟩) (.int .i64 (n : Int)) (.int .i64 0) (.int .i64 0) (.string ⟨#[]⟩)
    have hxf := PM.Bx.set5 g2 w3 (.string ⟨nm.toArray⟩) (.int .i64 (n : Int)) (.int .i64 0) (.int .i64 0) (.string ⟨#[]⟩)
    generalize (((((w3.setCell ⟨g2, 0, none⟩ (.string ⟨nm.toArray⟩)).setCell ⟨g2, 1, none⟩ (.int .i64 (n : Int))).setCell ⟨g2, 2, none⟩ (.int .i64 0)).setCell ⟨g2, 3, none⟩ (.int .i64 0)).setCell ⟨g2, 4, none⟩ (.string ⟨#[]⟩)) = wf at *
    have q0 := ZF.cell 0
    have q1 := ZF.cell 1
    have q2 := ZF.cell 2
    have q3 := ZF.cell 3
    have q4 := ZF.cell 4
    refine bodyPost_ret (v := .tuple #[.agg #[.string ⟨nm.toArray⟩, .int .i64 (n : Int), .int .i64 0, .int .i64 0, .string ⟨#[]⟩], .int .i64 ((k1 : Int) + (k2 : Int))]) (by simp [results, Try.results70, go_sem, q0, q1, q2, q3, q4]) rfl ?_
    exact ⟨by rw [HG.out] <;> rfl, hxf.below hBB3.out hg2w (PM.Below_size' hBB3.out)⟩
  have qn : ((n : Int) == 8) = false := by simp; omega
  have HH := PM.hid (HF.out.trans (if_neg h88))
  have hr2 := hrun2 w3
  have hV := hgV w3 (hrs2.keep hBB3.out)
  have hVl := PM.getV_le (l.drop (k1 + k2))
  rw [List.length_drop] at hVl
  rw [Int.natCast_add] at hr2
  clear hgV hrun2 hrs2 h88 HF
  generalize PM.getV (l.drop (k1 + k2)) = V at *
  obtain ⟨⟨vk, vn, vs⟩, k3⟩ := V
  simp only at hV hVl
  go_wp2_with fail
  refine hV.mono ?_
  rintro e w4 ⟨rfl, hB4⟩
  go_upto_region 11 with fail
  obtain ⟨g5, hg5⟩ : ∃ g, g = w4.heap.size := ⟨_, rfl⟩
  obtain ⟨w5, hw5⟩ : ∃ W, W = w4.alloc (.cells #[.int .i64 vk, .int .i64 vn, .string ⟨vs.toArray⟩] 28) := ⟨_, rfl⟩
  have hB5 : Below w4.heap.size w4 w5 := by rw [hw5]; exact (Below.refl _ _).alloc (Nat.le_refl _) _
  have hv5 : PM.BK w5 g5 #[.int .i64 vk, .int .i64 vn, .string ⟨vs.toArray⟩] 28 := by rw [hw5, hg5]; exact PM.BK.new _ _ _
  have hB45 := PM.chain hB4 hB5
  have hZ5 := hZ3.keep hB45
  have hT5 := hT3.keep hB45
  have hBB5 := PM.hid (PM.chain hBB3.out hB45)
  rw [← hw5, ← hg5]
  clear hw5 hg5 hB4 hB5 hB45 hZ3 hT3 hr2 hV hBB3
  by_cases c3 : k3 = 0
  · subst c3
    have HG : Hid (PM.getT l = (PM.teR [] 0 (0, 0, []), 0)) := PM.hid (by rw [HH.out, if_pos rfl])
    clear hv5 hT5
    have z0 := hZ5.cell 0
    have z1 := hZ5.cell 1
    have z2 := hZ5.cell 2
    have z3 := hZ5.cell 3
    have z4 := hZ5.cell 4
    have f0 := hZ5.free 0
    have f1 := hZ5.free 1
    have f2 := hZ5.free 2
    have f3 := hZ5.free 3
    have f4 := hZ5.free 4
    go_wp2
    have ZF := hZ5.set5 (.string ⟨#[]⟩) (.int .i64 0) (.int .i64 0) (.int .i64 0) (.string ⟨#[]⟩)
    have hxf := PM.Bx.set5 g2 w5 (.string ⟨#[]⟩) (.int .i64 0) (.int .i64 0) (.int .i64 0) (.string ⟨#[]⟩)
    generalize (((((w5.setCell ⟨g2, 0, none⟩ (.string ⟨#[]⟩)).setCell ⟨g2, 1, none⟩ (.int .i64 0)).setCell ⟨g2, 2, none⟩ (.int .i64 0)).setCell ⟨g2, 3, none⟩ (.int .i64 0)).setCell ⟨g2, 4, none⟩ (.string ⟨#[]⟩)) = wf at *
    have q0 := ZF.cell 0
    have q1 := ZF.cell 1
    have q2 := ZF.cell 2
    have q3 := ZF.cell 3
    have q4 := ZF.cell 4
    refine bodyPost_ret (v := .tuple #[.agg #[.string ⟨#[]⟩, .int .i64 0, .int .i64 0, .int .i64 0, .string ⟨#[]⟩], .int .i64 0]) (by simp [results, Try.results70, go_sem, q0, q1, q2, q3, q4]) rfl ?_
    exact ⟨by rw [HG.out] <;> rfl, hxf.below hBB5.out hg2w (PM.Below_size' hBB5.out)⟩
  have c3' : ((k3 : Int) == 0) = false := by simp; omega
  have HG : Hid (PM.getT l = (PM.teR nm (n : Nat) (vk, vn, vs), k1 + k2 + k3)) := PM.hid (by rw [HH.out, if_neg c3])
  have d0 := hv5.cell 0
  have d1 := hv5.cell 1
  have d2 := hv5.cell 2
  replace d0 : w5.cell? ⟨g5, 0, none⟩ = some (.int .i64 vk) := d0
  replace d1 : w5.cell? ⟨g5, 1, none⟩ = some (.int .i64 vn) := d1
  replace d2 : w5.cell? ⟨g5, 2, none⟩ = some (.string ⟨vs.toArray⟩) := d2
  have z2 := hT5.cell 2
  have z3 := hT5.cell 3
  have z4 := hT5.cell 4
  have e2 := hT5.free 2
  have e3 := hT5.free 3
  have e4 := hT5.free 4
  clear HH hv5
  go_upto_region 14 with fail
  have hT6 := hT5.tail3 (.int .i64 vk) (.int .i64 vn) (.string ⟨vs.toArray⟩)
  have hx6 := PM.Bx.tail3 g3 w5 (.int .i64 vk) (.int .i64 vn) (.string ⟨vs.toArray⟩)
  generalize (((w5.setCell ⟨g3, 2, none⟩ (.int .i64 vk)).setCell ⟨g3, 3, none⟩ (.int .i64 vn)).setCell ⟨g3, 4, none⟩ (.string ⟨vs.toArray⟩)) = w6 at *
  have hZ6 := hZ5.keepx hx6 hg23
  have hBB6 := PM.hid (hx6.below hBB5.out hg3w hBB5.out.size)
  clear d0 d1 d2 z2 z3 z4 e2 e3 e4 hT5 hZ5 hBB5 hx6
  have t0 := hT6.cell 0
  have t1 := hT6.cell 1
  have t2 := hT6.cell 2
  have t3 := hT6.cell 3
  have t4 := hT6.cell 4
  have z0 := hZ6.cell 0
  have z1 := hZ6.cell 1
  have z2 := hZ6.cell 2
  have z3 := hZ6.cell 3
  have z4 := hZ6.cell 4
  have f0 := hZ6.free 0
  have f1 := hZ6.free 1
  have f2 := hZ6.free 2
  have f3 := hZ6.free 3
  have f4 := hZ6.free 4
  go_wp2
  have ZF := hZ6.set5 (.string ⟨nm.toArray⟩) (.int .i64 (n : Int)) (.int .i64 vk) (.int .i64 vn) (.string ⟨vs.toArray⟩)
  have hxf := PM.Bx.set5 g2 w6 (.string ⟨nm.toArray⟩) (.int .i64 (n : Int)) (.int .i64 vk) (.int .i64 vn) (.string ⟨vs.toArray⟩)
  generalize (((((w6.setCell ⟨g2, 0, none⟩ (.string ⟨nm.toArray⟩)).setCell ⟨g2, 1, none⟩ (.int .i64 (n : Int))).setCell ⟨g2, 2, none⟩ (.int .i64 vk)).setCell ⟨g2, 3, none⟩ (.int .i64 vn)).setCell ⟨g2, 4, none⟩ (.string ⟨vs.toArray⟩)) = wf at *
  have q0 := ZF.cell 0
  have q1 := ZF.cell 1
  have q2 := ZF.cell 2
  have q3 := ZF.cell 3
  have q4 := ZF.cell 4
  refine bodyPost_ret (v := .tuple #[.agg #[.string ⟨nm.toArray⟩, .int .i64 (n : Int), .int .i64 vk, .int .i64 vn, .string ⟨vs.toArray⟩], .int .i64 ((k1 : Int) + (k2 : Int) + (k3 : Int))]) (by simp [results, Try.results70, go_sem, q0, q1, q2, q3, q4]) rfl ?_
  exact ⟨by rw [HG.out] <;> rfl, hxf.below hBB6.out hg2w (PM.Below_size' hBB6.out)⟩
end Go.Proofs.Ytocggnaekajdbaa
