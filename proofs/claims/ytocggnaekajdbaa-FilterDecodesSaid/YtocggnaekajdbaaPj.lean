/-
  CONTRACT OF postilionref02.GetValue.
-/
import Derived.Test.YtocggnaekajdbaaPi
namespace Go.Proofs.Ytocggnaekajdbaa
open Go.RowKit
set_option linter.unusedVariables false
set_option maxRecDepth 100000 in
set_option maxHeartbeats 4000000 in
theorem rgetV_any (v : Value) (l : List UInt8) (w : World) (hv : PM.BS w v l) (hl : l.length ≤ 70368744177664) :
    Calls Try.prog 77 #[v] w fun e w' => e = .returned (.tuple #[.agg #[.int .i64 (PM.getV l).1.1, .int .i64 (PM.getV l).1.2.1, .string ⟨(PM.getV l).1.2.2.toArray⟩], .int .i64 ((PM.getV l).2 : Nat)]) ∧ Below w.heap.size w w' := by
  have hv0 := hv
  obtain ⟨n1, k1, g1⟩ : ∃ n k, PM.getK l = (n, k) := ⟨_, _, rfl⟩
  obtain ⟨n2, k2, g2⟩ : ∃ n k, PM.getK (l.drop k1) = (n, k) := ⟨_, _, rfl⟩
  obtain ⟨s3, k3, g3⟩ : ∃ s k, PM.getB (l.drop (k1 + k2)) 40 = (s, k) := ⟨_, _, rfl⟩
  have lt1 := PM.getK_lt l
  have lt2 := PM.getK_lt (l.drop k1)
  have lt3 := PM.getB_lt (l.drop (k1 + k2)) 40
  rw [g1] at lt1
  rw [g2, List.length_drop] at lt2
  rw [g3, List.length_drop] at lt3
  simp only at lt1 lt2 lt3
  obtain ⟨hn1, hk1⟩ := lt1
  obtain ⟨hn2, hk2⟩ := lt2
  obtain ⟨hk3, hs3⟩ := lt3
  have HE := Lib.hid (PM.getV_eq l s3 n1 k1 n2 k2 k3 g1 g2 g3)
  have G1 := Lib.hid g1
  have G2 := Lib.hid g2
  have G3 := Lib.hid g3
  clear g1 g2 g3
  obtain ⟨a, cap, rfl⟩ := hv.len
  go_enter Try.func77, Try.ntmps77
  go_wp2_with fail
  obtain ⟨wa, hwa⟩ : ∃ x, x = w.alloc (.cells #[.int .i64 0, .int .i64 0, .string ⟨#[]⟩] 28) := ⟨_, rfl⟩
  have hBa : Below w.heap.size w wa := by rw [hwa]; go_grown
  have ZR : PM.BK wa w.heap.size #[.int .i64 0, .int .i64 0, .string ⟨#[]⟩] 28 := by rw [hwa]; exact PM.BK.new _ _ _
  have hza : wa.heap.size = w.heap.size + 1 := by rw [hwa]; simp
  rw [← hwa]
  clear hwa
  refine (rget_any _ l _ (hv0.keep hBa) hl).mono ?_
  rintro e w1 ⟨rfl, hB1⟩
  replace ZR := ZR.keep hB1
  have hz1 : w.heap.size + 1 ≤ w1.heap.size := by have := hB1.size; omega
  replace hB1 := PM.chain hBa hB1
  clear hBa hza
  rw [G1.out]
  have z0 := ZR.cell 0
  have z1 := ZR.cell 1
  have z2 := ZR.cell 2
  have y0 := ZR.free 0
  have y1 := ZR.free 1
  have y2 := ZR.free 2
  by_cases c1 : k1 = 0
  · subst c1
    have Hst : Hid (PM.getV l = ((0, 0, []), 0)) := Lib.hid (by rw [HE.out]; simp)
    go_wp2
    have ZF := ZR.set3 (.int .i64 0) (.int .i64 0) (.string ⟨#[]⟩)
    have hBF := ((hB1.setCell (p := ⟨w.heap.size, 0, none⟩) (Nat.le_refl _) (.int .i64 0)).setCell (p := ⟨w.heap.size, 1, none⟩) (Nat.le_refl _) (.int .i64 0)).setCell (p := ⟨w.heap.size, 2, none⟩) (Nat.le_refl _) (.string ⟨#[]⟩)
    generalize (((w1.setCell ⟨w.heap.size, 0, none⟩ (.int .i64 0)).setCell ⟨w.heap.size, 1, none⟩ (.int .i64 0)).setCell ⟨w.heap.size, 2, none⟩ (.string ⟨#[]⟩)) = wf at *
    have q0 := ZF.cell 0
    have q1 := ZF.cell 1
    have q2 := ZF.cell 2
    rw [Hst.out]
    exact bodyPost_ret (v := .tuple #[.agg #[.int .i64 0, .int .i64 0, .string ⟨[].toArray⟩], .int .i64 0]) (by simp [results, Try.results77, go_sem, q0, q1, q2]) rfl ⟨rfl, hBF⟩
  have c1' : ((k1 : Int) == 0) = false := by rw [beq_eq_false_iff_ne]; omega
  by_cases c2 : 3 < n1
  · have c2' : (3 : Int) < (n1 : Int) := by omega
    have Hst : Hid (PM.getV l = ((0, 0, []), 0)) := Lib.hid (by rw [HE.out]; simp [c2])
    go_wp2
    have ZF := ZR.set3 (.int .i64 0) (.int .i64 0) (.string ⟨#[]⟩)
    have hBF := ((hB1.setCell (p := ⟨w.heap.size, 0, none⟩) (Nat.le_refl _) (.int .i64 0)).setCell (p := ⟨w.heap.size, 1, none⟩) (Nat.le_refl _) (.int .i64 0)).setCell (p := ⟨w.heap.size, 2, none⟩) (Nat.le_refl _) (.string ⟨#[]⟩)
    generalize (((w1.setCell ⟨w.heap.size, 0, none⟩ (.int .i64 0)).setCell ⟨w.heap.size, 1, none⟩ (.int .i64 0)).setCell ⟨w.heap.size, 2, none⟩ (.string ⟨#[]⟩)) = wf at *
    have q0 := ZF.cell 0
    have q1 := ZF.cell 1
    have q2 := ZF.cell 2
    rw [Hst.out]
    exact bodyPost_ret (v := .tuple #[.agg #[.int .i64 0, .int .i64 0, .string ⟨[].toArray⟩], .int .i64 0]) (by simp [results, Try.results77, go_sem, q0, q1, q2]) rfl ⟨rfl, hBF⟩
  have c2' : ¬ ((3 : Int) < (n1 : Int)) := by omega
  rcases hv with ⟨he, rfl⟩ | ⟨vb, off, cap', he, hcap, hmax, hcell⟩ | ⟨x0, cap', he, rfl, hmax⟩
  · exact absurd (by simpa using hk1) c1
  case inr.inr => exact absurd (by simpa using hk1) c1
  simp at he
  obtain ⟨rfl, rfl⟩ := he
  have Hcut := Lib.hid (PM.BS.cut hcap hmax hcell hk1)
  have Hcut2 := Lib.hid (PM.BS.cut hcap hmax hcell (show k1 + k2 ≤ l.length by omega))
  unfold maxLen at hmax
  clear hcell
  clear z0 z1 z2 y0 y1 y2
  have HS : Hid (∀ (x : Value) (W : World) (_ : Below w.heap.size w W) (_ : PM.BS W x (l.drop k1)), Calls Try.prog 69 #[x] W fun e w' => e = .returned (.tuple #[.int .u64 (n2 : Nat), .int .i64 (k2 : Nat)]) ∧ Below W.heap.size W w') := Lib.hid fun x W _ hx => by
    have := rget_any x (l.drop k1) W hx (by rw [List.length_drop]; omega)
    rw [G2.out] at this
    exact this
  by_cases hc : cap = k1
  · have hlk : k1 = l.length := by omega
    have hk20 : k2 = 0 := by omega
    have Hc := Lib.hid hc
    have Hlk := Lib.hid hlk
    have hx := (Hcut.out.2 hlk).keep hB1
    clear hlk
    subst hc
    go_wp2_with fail
    refine (HS.out _ _ hB1 (by rw [show l.length - cap = 0 from by omega] at hx; simpa using hx)).mono ?_
    rintro e w2 ⟨rfl, hB2⟩
    replace ZR := ZR.keep hB2
    have hB2' := PM.chain hB1 hB2
    clear hx
    subst hk20
    have z0 := ZR.cell 0
    have z1 := ZR.cell 1
    have z2 := ZR.cell 2
    have y0 := ZR.free 0
    have y1 := ZR.free 1
    have y2 := ZR.free 2
    have Hst : Hid (PM.getV l = ((0, 0, []), 0)) := Lib.hid (by rw [HE.out]; simp)
    go_wp2
    have ZF := ZR.set3 (.int .i64 0) (.int .i64 0) (.string ⟨#[]⟩)
    have hBF := ((hB2'.setCell (p := ⟨w.heap.size, 0, none⟩) (Nat.le_refl _) (.int .i64 0)).setCell (p := ⟨w.heap.size, 1, none⟩) (Nat.le_refl _) (.int .i64 0)).setCell (p := ⟨w.heap.size, 2, none⟩) (Nat.le_refl _) (.string ⟨#[]⟩)
    generalize (((w2.setCell ⟨w.heap.size, 0, none⟩ (.int .i64 0)).setCell ⟨w.heap.size, 1, none⟩ (.int .i64 0)).setCell ⟨w.heap.size, 2, none⟩ (.string ⟨#[]⟩)) = wf at *
    have q0 := ZF.cell 0
    have q1 := ZF.cell 1
    have q2 := ZF.cell 2
    rw [Hst.out]
    exact bodyPost_ret (v := .tuple #[.agg #[.int .i64 0, .int .i64 0, .string ⟨[].toArray⟩], .int .i64 0]) (by simp [results, Try.results77, go_sem, q0, q1, q2]) rfl ⟨rfl, hBF⟩
  have hx := (Hcut.out.1).keep hB1
  go_wp2_with fail
  refine (HS.out _ _ hB1 (by simpa using hx)).mono ?_
  rintro e w2 ⟨rfl, hB2⟩
  replace ZR := ZR.keep hB2
  have hz2 : w.heap.size + 1 ≤ w2.heap.size := Nat.le_trans hz1 hB2.size
  replace hB2 := PM.chain hB1 hB2
  clear hx hB1 hz1
  have z0 := ZR.cell 0
  have z1 := ZR.cell 1
  have z2 := ZR.cell 2
  have y0 := ZR.free 0
  have y1 := ZR.free 1
  have y2 := ZR.free 2
  by_cases c3 : k2 = 0
  · subst c3
    have Hst : Hid (PM.getV l = ((0, 0, []), 0)) := Lib.hid (by rw [HE.out]; simp)
    go_wp2
    have ZF := ZR.set3 (.int .i64 0) (.int .i64 0) (.string ⟨#[]⟩)
    have hBF := ((hB2.setCell (p := ⟨w.heap.size, 0, none⟩) (Nat.le_refl _) (.int .i64 0)).setCell (p := ⟨w.heap.size, 1, none⟩) (Nat.le_refl _) (.int .i64 0)).setCell (p := ⟨w.heap.size, 2, none⟩) (Nat.le_refl _) (.string ⟨#[]⟩)
    generalize (((w2.setCell ⟨w.heap.size, 0, none⟩ (.int .i64 0)).setCell ⟨w.heap.size, 1, none⟩ (.int .i64 0)).setCell ⟨w.heap.size, 2, none⟩ (.string ⟨#[]⟩)) = wf at *
    have q0 := ZF.cell 0
    have q1 := ZF.cell 1
    have q2 := ZF.cell 2
    rw [Hst.out]
    exact bodyPost_ret (v := .tuple #[.agg #[.int .i64 0, .int .i64 0, .string ⟨[].toArray⟩], .int .i64 0]) (by simp [results, Try.results77, go_sem, q0, q1, q2]) rfl ⟨rfl, hBF⟩
  have c3' : ((k2 : Int) == 0) = false := by rw [beq_eq_false_iff_ne]; omega
  clear z0 z1 z2 y0 y1 y2
  have HB3 : Hid (∀ (x : Value) (W : World) (_ : PM.BS W x (l.drop (k1 + k2))), Calls Try.prog 76 #[x, .int .i64 40] W fun e w' => ∃ x, e = .returned (.tuple #[x, .int .i64 (k3 : Nat)]) ∧ PM.BS w' x s3 ∧ Below W.heap.size W w') := Lib.hid fun x W hx => by
    have := rgetB_any x (l.drop (k1 + k2)) 40 W hx (by rw [List.length_drop]; omega) (by omega) (by omega)
    rw [G3.out] at this
    exact this
  by_cases hc2 : cap = k1 + k2
  · have hl2 : k1 + k2 = l.length := by omega
    have h30 : k3 = 0 := by omega
    have hx := (Hcut2.out.2 hl2).keep hB2
    clear hl2
    subst hc2
    subst h30
    go_wp2_with fail
    refine (HB3.out _ _ (by rw [show l.length - (k1 + k2) = 0 from by omega] at hx; simpa using hx)).mono ?_
    rintro e w3 ⟨x3, rfl, h3, hB3⟩
    replace ZR := ZR.keep hB3
    replace hB3 := PM.chain hB2 hB3
    clear hx
    have z0 := ZR.cell 0
    have z1 := ZR.cell 1
    have z2 := ZR.cell 2
    have y0 := ZR.free 0
    have y1 := ZR.free 1
    have y2 := ZR.free 2
    have Hst : Hid (PM.getV l = ((0, 0, []), 0)) := Lib.hid (by rw [HE.out]; simp)
    go_wp2
    have ZF := ZR.set3 (.int .i64 0) (.int .i64 0) (.string ⟨#[]⟩)
    have hBF := ((hB3.setCell (p := ⟨w.heap.size, 0, none⟩) (Nat.le_refl _) (.int .i64 0)).setCell (p := ⟨w.heap.size, 1, none⟩) (Nat.le_refl _) (.int .i64 0)).setCell (p := ⟨w.heap.size, 2, none⟩) (Nat.le_refl _) (.string ⟨#[]⟩)
    generalize (((w3.setCell ⟨w.heap.size, 0, none⟩ (.int .i64 0)).setCell ⟨w.heap.size, 1, none⟩ (.int .i64 0)).setCell ⟨w.heap.size, 2, none⟩ (.string ⟨#[]⟩)) = wf at *
    have q0 := ZF.cell 0
    have q1 := ZF.cell 1
    have q2 := ZF.cell 2
    rw [Hst.out]
    exact bodyPost_ret (v := .tuple #[.agg #[.int .i64 0, .int .i64 0, .string ⟨[].toArray⟩], .int .i64 0]) (by simp [results, Try.results77, go_sem, q0, q1, q2]) rfl ⟨rfl, hBF⟩
  have hx := (Hcut2.out.1).keep hB2
  go_wp2_with fail
  refine (HB3.out _ _ (by simpa using hx)).mono ?_
  rintro e w3 ⟨x3, rfl, h3, hB3⟩
  replace ZR := ZR.keep hB3
  have hz3 : w.heap.size + 1 ≤ w3.heap.size := Nat.le_trans hz2 hB3.size
  replace hB3 := PM.chain hB2 hB3
  clear hx hB2 hz2
  have z0 := ZR.cell 0
  have z1 := ZR.cell 1
  have z2 := ZR.cell 2
  have y0 := ZR.free 0
  have y1 := ZR.free 1
  have y2 := ZR.free 2
  by_cases c4 : k3 = 0
  · subst c4
    have Hst : Hid (PM.getV l = ((0, 0, []), 0)) := Lib.hid (by rw [HE.out]; simp)
    go_wp2
    have ZF := ZR.set3 (.int .i64 0) (.int .i64 0) (.string ⟨#[]⟩)
    have hBF := ((hB3.setCell (p := ⟨w.heap.size, 0, none⟩) (Nat.le_refl _) (.int .i64 0)).setCell (p := ⟨w.heap.size, 1, none⟩) (Nat.le_refl _) (.int .i64 0)).setCell (p := ⟨w.heap.size, 2, none⟩) (Nat.le_refl _) (.string ⟨#[]⟩)
    generalize (((w3.setCell ⟨w.heap.size, 0, none⟩ (.int .i64 0)).setCell ⟨w.heap.size, 1, none⟩ (.int .i64 0)).setCell ⟨w.heap.size, 2, none⟩ (.string ⟨#[]⟩)) = wf at *
    have q0 := ZF.cell 0
    have q1 := ZF.cell 1
    have q2 := ZF.cell 2
    rw [Hst.out]
    exact bodyPost_ret (v := .tuple #[.agg #[.int .i64 0, .int .i64 0, .string ⟨[].toArray⟩], .int .i64 0]) (by simp [results, Try.results77, go_sem, q0, q1, q2]) rfl ⟨rfl, hBF⟩
  have c4' : ((k3 : Int) == 0) = false := by rw [beq_eq_false_iff_ne]; omega
  clear z0 z1 z2 y0 y1 y2
  have kc := PM.run_str bty Try.underlying9 h3
  have e64 : wrap64 (n2 : Int) = PM.toI n2 := wrap64_toI n2 hn2
  by_cases p1 : n1 = 1
  · subst p1
    by_cases p2 : n2 % 2 = 1
    · have b2 : (((n2 : Int) % 2) == 1) = true := by rw [beq_iff_eq]; omega
      go_wp2_with fail
      have hpz : PM.pickZ 1 n2 = -((n2 : Int) / 2) - 1 := by unfold PM.pickZ PM.unfoldZ; rw [if_pos rfl, if_pos p2]; omega
      have Hpz := Lib.hid hpz
      clear hpz
      obtain ⟨w4, hw4⟩ : ∃ x, x = w3.alloc (.cells #[.int .i64 1, .int .i64 (-((n2 : Int) / 2) - 1), .string ⟨s3.toArray⟩] 28) := ⟨_, rfl⟩
      have hB4 : Below w3.heap.size w3 w4 := by rw [hw4]; go_grown
      have ZV : PM.BK w4 w3.heap.size #[.int .i64 1, .int .i64 (-((n2 : Int) / 2) - 1), .string ⟨s3.toArray⟩] 28 := by rw [hw4]; exact PM.BK.new _ _ _
      rw [← hw4]
      clear hw4
      replace ZR := ZR.keep hB4
      replace hB4 := PM.chain hB3 hB4
      refine (rcheck_any 1 (-((n2 : Int) / 2) - 1) ⟨s3.toArray⟩ _).mono ?_
      rintro e w5 ⟨rfl, hB5⟩
      replace ZR := ZR.keep hB5
      replace ZV := ZV.keep hB5
      replace hB5 := PM.chain hB4 hB5
      have r0 := ZV.cell 0
      have r1 := ZV.cell 1
      have r2 := ZV.cell 2
      have z0 := ZR.cell 0
      have z1 := ZR.cell 1
      have z2 := ZR.cell 2
      have y0 := ZR.free 0
      have y1 := ZR.free 1
      have y2 := ZR.free 2
      clear hB4
      by_cases hmay : PM.may 1 (-((n2 : Int) / 2) - 1) s3 = true
      · have hE : PM.mayE 1 (-((n2 : Int) / 2) - 1) s3 = 0 := by unfold PM.mayE; rw [if_pos hmay]
        have Hst : Hid (PM.getV l = ((1, -((n2 : Int) / 2) - 1, s3), k1 + k2 + k3)) := Lib.hid (by rw [HE.out, if_neg (by omega), if_pos (by rw [Hpz.out]; simpa using hmay), Hpz.out] <;> rfl)
        clear hmay
        go_wp2
        have ZF := ZR.set3 (.int .i64 1) (.int .i64 (-((n2 : Int) / 2) - 1)) (.string ⟨s3.toArray⟩)
        have hBF := ((hB5.setCell (p := ⟨w.heap.size, 0, none⟩) (Nat.le_refl _) (.int .i64 1)).setCell (p := ⟨w.heap.size, 1, none⟩) (Nat.le_refl _) (.int .i64 (-((n2 : Int) / 2) - 1))).setCell (p := ⟨w.heap.size, 2, none⟩) (Nat.le_refl _) (.string ⟨s3.toArray⟩)
        generalize (((w5.setCell ⟨w.heap.size, 0, none⟩ (.int .i64 1)).setCell ⟨w.heap.size, 1, none⟩ (.int .i64 (-((n2 : Int) / 2) - 1))).setCell ⟨w.heap.size, 2, none⟩ (.string ⟨s3.toArray⟩)) = wf at *
        have q0 := ZF.cell 0
        have q1 := ZF.cell 1
        have q2 := ZF.cell 2
        rw [Hst.out]
        exact bodyPost_ret (v := .tuple #[.agg #[.int .i64 1, .int .i64 (-((n2 : Int) / 2) - 1), .string ⟨s3.toArray⟩], .int .i64 ((k1 : Int) + k2 + k3)]) (by simp [results, Try.results77, go_sem, q0, q1, q2]) rfl ⟨by rw [show ((k1 + k2 + k3 : Nat) : Int) = (k1 : Int) + k2 + k3 from by omega], hBF⟩
      · have hE : PM.mayE 1 (-((n2 : Int) / 2) - 1) s3 = 10 := by unfold PM.mayE; rw [if_neg hmay]
        have Hst : Hid (PM.getV l = ((0, 0, []), 0)) := Lib.hid (by rw [HE.out, if_neg (by omega), if_neg (by rw [Hpz.out]; simpa using hmay)])
        go_wp2
        have ZF := ZR.set3 (.int .i64 0) (.int .i64 0) (.string ⟨#[]⟩)
        have hBF := ((hB5.setCell (p := ⟨w.heap.size, 0, none⟩) (Nat.le_refl _) (.int .i64 0)).setCell (p := ⟨w.heap.size, 1, none⟩) (Nat.le_refl _) (.int .i64 0)).setCell (p := ⟨w.heap.size, 2, none⟩) (Nat.le_refl _) (.string ⟨#[]⟩)
        generalize (((w5.setCell ⟨w.heap.size, 0, none⟩ (.int .i64 0)).setCell ⟨w.heap.size, 1, none⟩ (.int .i64 0)).setCell ⟨w.heap.size, 2, none⟩ (.string ⟨#[]⟩)) = wf at *
        have q0 := ZF.cell 0
        have q1 := ZF.cell 1
        have q2 := ZF.cell 2
        rw [Hst.out]
        exact bodyPost_ret (v := .tuple #[.agg #[.int .i64 0, .int .i64 0, .string ⟨[].toArray⟩], .int .i64 0]) (by simp [results, Try.results77, go_sem, q0, q1, q2]) rfl ⟨rfl, hBF⟩
    · have b2 : (((n2 : Int) % 2) == 1) = false := by rw [beq_eq_false_iff_ne]; omega
      go_wp2_with fail
      have hpz : PM.pickZ 1 n2 = ((n2 : Int) / 2) := by unfold PM.pickZ PM.unfoldZ; rw [if_pos rfl, if_neg p2]; omega
      have Hpz := Lib.hid hpz
      clear hpz
      obtain ⟨w4, hw4⟩ : ∃ x, x = w3.alloc (.cells #[.int .i64 1, .int .i64 (((n2 : Int) / 2)), .string ⟨s3.toArray⟩] 28) := ⟨_, rfl⟩
      have hB4 : Below w3.heap.size w3 w4 := by rw [hw4]; go_grown
      have ZV : PM.BK w4 w3.heap.size #[.int .i64 1, .int .i64 (((n2 : Int) / 2)), .string ⟨s3.toArray⟩] 28 := by rw [hw4]; exact PM.BK.new _ _ _
      rw [← hw4]
      clear hw4
      replace ZR := ZR.keep hB4
      replace hB4 := PM.chain hB3 hB4
      refine (rcheck_any 1 (((n2 : Int) / 2)) ⟨s3.toArray⟩ _).mono ?_
      rintro e w5 ⟨rfl, hB5⟩
      replace ZR := ZR.keep hB5
      replace ZV := ZV.keep hB5
      replace hB5 := PM.chain hB4 hB5
      have r0 := ZV.cell 0
      have r1 := ZV.cell 1
      have r2 := ZV.cell 2
      have z0 := ZR.cell 0
      have z1 := ZR.cell 1
      have z2 := ZR.cell 2
      have y0 := ZR.free 0
      have y1 := ZR.free 1
      have y2 := ZR.free 2
      clear hB4
      by_cases hmay : PM.may 1 (((n2 : Int) / 2)) s3 = true
      · have hE : PM.mayE 1 (((n2 : Int) / 2)) s3 = 0 := by unfold PM.mayE; rw [if_pos hmay]
        have Hst : Hid (PM.getV l = ((1, ((n2 : Int) / 2), s3), k1 + k2 + k3)) := Lib.hid (by rw [HE.out, if_neg (by omega), if_pos (by rw [Hpz.out]; simpa using hmay), Hpz.out] <;> rfl)
        clear hmay
        go_wp2
        have ZF := ZR.set3 (.int .i64 1) (.int .i64 (((n2 : Int) / 2))) (.string ⟨s3.toArray⟩)
        have hBF := ((hB5.setCell (p := ⟨w.heap.size, 0, none⟩) (Nat.le_refl _) (.int .i64 1)).setCell (p := ⟨w.heap.size, 1, none⟩) (Nat.le_refl _) (.int .i64 (((n2 : Int) / 2)))).setCell (p := ⟨w.heap.size, 2, none⟩) (Nat.le_refl _) (.string ⟨s3.toArray⟩)
        generalize (((w5.setCell ⟨w.heap.size, 0, none⟩ (.int .i64 1)).setCell ⟨w.heap.size, 1, none⟩ (.int .i64 (((n2 : Int) / 2)))).setCell ⟨w.heap.size, 2, none⟩ (.string ⟨s3.toArray⟩)) = wf at *
        have q0 := ZF.cell 0
        have q1 := ZF.cell 1
        have q2 := ZF.cell 2
        rw [Hst.out]
        exact bodyPost_ret (v := .tuple #[.agg #[.int .i64 1, .int .i64 (((n2 : Int) / 2)), .string ⟨s3.toArray⟩], .int .i64 ((k1 : Int) + k2 + k3)]) (by simp [results, Try.results77, go_sem, q0, q1, q2]) rfl ⟨by rw [show ((k1 + k2 + k3 : Nat) : Int) = (k1 : Int) + k2 + k3 from by omega], hBF⟩
      · have hE : PM.mayE 1 (((n2 : Int) / 2)) s3 = 10 := by unfold PM.mayE; rw [if_neg hmay]
        have Hst : Hid (PM.getV l = ((0, 0, []), 0)) := Lib.hid (by rw [HE.out, if_neg (by omega), if_neg (by rw [Hpz.out]; simpa using hmay)])
        go_wp2
        have ZF := ZR.set3 (.int .i64 0) (.int .i64 0) (.string ⟨#[]⟩)
        have hBF := ((hB5.setCell (p := ⟨w.heap.size, 0, none⟩) (Nat.le_refl _) (.int .i64 0)).setCell (p := ⟨w.heap.size, 1, none⟩) (Nat.le_refl _) (.int .i64 0)).setCell (p := ⟨w.heap.size, 2, none⟩) (Nat.le_refl _) (.string ⟨#[]⟩)
        generalize (((w5.setCell ⟨w.heap.size, 0, none⟩ (.int .i64 0)).setCell ⟨w.heap.size, 1, none⟩ (.int .i64 0)).setCell ⟨w.heap.size, 2, none⟩ (.string ⟨#[]⟩)) = wf at *
        have q0 := ZF.cell 0
        have q1 := ZF.cell 1
        have q2 := ZF.cell 2
        rw [Hst.out]
        exact bodyPost_ret (v := .tuple #[.agg #[.int .i64 0, .int .i64 0, .string ⟨[].toArray⟩], .int .i64 0]) (by simp [results, Try.results77, go_sem, q0, q1, q2]) rfl ⟨rfl, hBF⟩
  · have b1 : ((n1 : Int) == 1) = false := by rw [beq_eq_false_iff_ne]; omega
    go_wp2_with fail
    have hpz : PM.pickZ n1 n2 = PM.toI n2 := by unfold PM.pickZ; rw [if_neg p1]
    have Hpz := Lib.hid hpz
    clear hpz
    obtain ⟨w4, hw4⟩ : ∃ x, x = w3.alloc (.cells #[.int .i64 (n1 : Int), .int .i64 (PM.toI n2), .string ⟨s3.toArray⟩] 28) := ⟨_, rfl⟩
    have hB4 : Below w3.heap.size w3 w4 := by rw [hw4]; go_grown
    have ZV : PM.BK w4 w3.heap.size #[.int .i64 (n1 : Int), .int .i64 (PM.toI n2), .string ⟨s3.toArray⟩] 28 := by rw [hw4]; exact PM.BK.new _ _ _
    rw [← hw4]
    clear hw4
    replace ZR := ZR.keep hB4
    replace hB4 := PM.chain hB3 hB4
    refine (rcheck_any (n1 : Int) (PM.toI n2) ⟨s3.toArray⟩ _).mono ?_
    rintro e w5 ⟨rfl, hB5⟩
    replace ZR := ZR.keep hB5
    replace ZV := ZV.keep hB5
    replace hB5 := PM.chain hB4 hB5
    have r0 := ZV.cell 0
    have r1 := ZV.cell 1
    have r2 := ZV.cell 2
    have z0 := ZR.cell 0
    have z1 := ZR.cell 1
    have z2 := ZR.cell 2
    have y0 := ZR.free 0
    have y1 := ZR.free 1
    have y2 := ZR.free 2
    clear hB4
    by_cases hmay : PM.may (n1 : Int) (PM.toI n2) s3 = true
    · have hE : PM.mayE (n1 : Int) (PM.toI n2) s3 = 0 := by unfold PM.mayE; rw [if_pos hmay]
      have Hst : Hid (PM.getV l = (((n1 : Int), PM.toI n2, s3), k1 + k2 + k3)) := Lib.hid (by rw [HE.out, if_neg (by omega), if_pos (by rw [Hpz.out]; simpa using hmay), Hpz.out] <;> rfl)
      clear hmay
      go_wp2
      have ZF := ZR.set3 (.int .i64 (n1 : Int)) (.int .i64 (PM.toI n2)) (.string ⟨s3.toArray⟩)
      have hBF := ((hB5.setCell (p := ⟨w.heap.size, 0, none⟩) (Nat.le_refl _) (.int .i64 (n1 : Int))).setCell (p := ⟨w.heap.size, 1, none⟩) (Nat.le_refl _) (.int .i64 (PM.toI n2))).setCell (p := ⟨w.heap.size, 2, none⟩) (Nat.le_refl _) (.string ⟨s3.toArray⟩)
      generalize (((w5.setCell ⟨w.heap.size, 0, none⟩ (.int .i64 (n1 : Int))).setCell ⟨w.heap.size, 1, none⟩ (.int .i64 (PM.toI n2))).setCell ⟨w.heap.size, 2, none⟩ (.string ⟨s3.toArray⟩)) = wf at *
      have q0 := ZF.cell 0
      have q1 := ZF.cell 1
      have q2 := ZF.cell 2
      rw [Hst.out]
      exact bodyPost_ret (v := .tuple #[.agg #[.int .i64 (n1 : Int), .int .i64 (PM.toI n2), .string ⟨s3.toArray⟩], .int .i64 ((k1 : Int) + k2 + k3)]) (by simp [results, Try.results77, go_sem, q0, q1, q2]) rfl ⟨by rw [show ((k1 + k2 + k3 : Nat) : Int) = (k1 : Int) + k2 + k3 from by omega], hBF⟩
    · have hE : PM.mayE (n1 : Int) (PM.toI n2) s3 = 10 := by unfold PM.mayE; rw [if_neg hmay]
      have Hst : Hid (PM.getV l = ((0, 0, []), 0)) := Lib.hid (by rw [HE.out, if_neg (by omega), if_neg (by rw [Hpz.out]; simpa using hmay)])
      go_wp2
      have ZF := ZR.set3 (.int .i64 0) (.int .i64 0) (.string ⟨#[]⟩)
      have hBF := ((hB5.setCell (p := ⟨w.heap.size, 0, none⟩) (Nat.le_refl _) (.int .i64 0)).setCell (p := ⟨w.heap.size, 1, none⟩) (Nat.le_refl _) (.int .i64 0)).setCell (p := ⟨w.heap.size, 2, none⟩) (Nat.le_refl _) (.string ⟨#[]⟩)
      generalize (((w5.setCell ⟨w.heap.size, 0, none⟩ (.int .i64 0)).setCell ⟨w.heap.size, 1, none⟩ (.int .i64 0)).setCell ⟨w.heap.size, 2, none⟩ (.string ⟨#[]⟩)) = wf at *
      have q0 := ZF.cell 0
      have q1 := ZF.cell 1
      have q2 := ZF.cell 2
      rw [Hst.out]
      exact bodyPost_ret (v := .tuple #[.agg #[.int .i64 0, .int .i64 0, .string ⟨[].toArray⟩], .int .i64 0]) (by simp [results, Try.results77, go_sem, q0, q1, q2]) rfl ⟨rfl, hBF⟩
end Go.Proofs.Ytocggnaekajdbaa
