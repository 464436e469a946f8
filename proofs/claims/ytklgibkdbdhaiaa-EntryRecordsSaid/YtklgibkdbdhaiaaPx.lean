/-
  CONTRACTS OF package pack: a reader's value.
-/
import Derived.Test.YtklgibkdbdhaiaaPu
namespace Go.Proofs.Ytklgibkdbdhaiaa
open Go.RowKit
set_option linter.unusedVariables false
theorem wrap64_toI (n : Nat) (hn : n < 2 ^ 64) : wrap64 (n : Int) = PM.toI n := by
  unfold wrap64 PM.toI; split <;> omega
theorem wrap_toI (n : Nat) (hn : n < 2 ^ 64) : IntKind.i64.wrap (n : Int) = PM.toI n := by
  rw [IntKind.wrap_i64]; unfold PM.toI; split <;> omega
def RetRV (T : TypeId) (W : World) (b : Nat) (k n : Int) (s l : List UInt8) (wr : Bool) (e : Ending) (w' : World) : Prop :=
  e = .returned (.agg #[.int .i64 k, .int .i64 n, .string ⟨s.toArray⟩]) ∧ PM.RD T w' b l wr ∧ PM.Bx b W w'
set_option maxRecDepth 100000 in
set_option maxHeartbeats 2000000 in
theorem rvalue_any (b : Nat) (l : List UInt8) (wr : Bool) (w : World) (h : PM.RD 88 w b l wr) (hl : l.length ≤ 70368744177664) :
    Calls Try.prog 53 #[.pointer (some ⟨b, 0, none⟩)] w (RetRV 88 w b (PM.stepV l wr).1.1 (PM.stepV l wr).1.2.1 (PM.stepV l wr).1.2.2 (PM.stepV l wr).2.1 (PM.stepV l wr).2.2) := by
  have hbw : b < w.heap.size := by obtain ⟨v, hk, _⟩ := h; exact hk.lt
  have hbr : w.heap.size ≠ b := by omega
  have hbr1 : w.heap.size + 1 ≠ b := by omega
  have HS : Hid (PM.stepV l wr = (if (PM.stepB (PM.stepN (PM.stepN l wr).2.1 (PM.stepN l wr).2.2).2.1 (PM.stepN (PM.stepN l wr).2.1 (PM.stepN l wr).2.2).2.2 40).2.2 = true ∨ 2147483647 < (PM.stepN l wr).1 then ((0, 0, []), [], true)
    else if PM.may (PM.stepN l wr).1 (if (PM.stepN l wr).1 = 1 then PM.unfoldZ (PM.stepN (PM.stepN l wr).2.1 (PM.stepN l wr).2.2).1 else PM.toI (PM.stepN (PM.stepN l wr).2.1 (PM.stepN l wr).2.2).1) (PM.stepB (PM.stepN (PM.stepN l wr).2.1 (PM.stepN l wr).2.2).2.1 (PM.stepN (PM.stepN l wr).2.1 (PM.stepN l wr).2.2).2.2 40).1 = true then ((((PM.stepN l wr).1 : Int), (if (PM.stepN l wr).1 = 1 then PM.unfoldZ (PM.stepN (PM.stepN l wr).2.1 (PM.stepN l wr).2.2).1 else PM.toI (PM.stepN (PM.stepN l wr).2.1 (PM.stepN l wr).2.2).1), (PM.stepB (PM.stepN (PM.stepN l wr).2.1 (PM.stepN l wr).2.2).2.1 (PM.stepN (PM.stepN l wr).2.1 (PM.stepN l wr).2.2).2.2 40).1), (PM.stepB (PM.stepN (PM.stepN l wr).2.1 (PM.stepN l wr).2.2).2.1 (PM.stepN (PM.stepN l wr).2.1 (PM.stepN l wr).2.2).2.2 40).2.1, false)
    else ((0, 0, []), [], true))) := Lib.hid rfl
  go_enter Try.func53, Try.ntmps53
  go_wp2_with fail
  obtain ⟨wa, hwa⟩ : ∃ x, x = w.alloc (.cells #[.int .i64 0, .int .i64 0, .string ⟨#[]⟩] 77) := ⟨_, rfl⟩
  have hBa : Below w.heap.size w wa := by rw [hwa]; go_grown
  have ZA : PM.BK wa w.heap.size #[.int .i64 0, .int .i64 0, .string ⟨#[]⟩] 77 := by rw [hwa]; exact PM.BK.new _ _ _
  have hza : wa.heap.size = w.heap.size + 1 := by rw [hwa]; simp
  rw [← hwa]
  clear hwa
  have Hza := Lib.hid hza
  clear hza
  refine wp_scope_jumps 0 (fun a w' => PM.Bx b wa w' ∧ (∃ l' wr', PM.RD 88 w' b l' wr') ∧ PM.stepV l wr = ((0, 0, []), [], true) ∧ a.defers = [] ∧ a.tmps.size = 44 ∧ PM.sl a 0 = .pointer (some ⟨b, 0, none⟩) ∧ PM.sl a 2 = .pointer (some ⟨w.heap.size, 0, none⟩)) (fun _ _ => 0) rfl ?_ ?_
  · go_wp2_with fail
    obtain ⟨wb, hwb⟩ : ∃ x, x = wa.alloc (.cells #[.int .i64 0, .int .i64 0, .string ⟨#[]⟩] 77) := ⟨_, rfl⟩
    have hBb : Below wa.heap.size wa wb := by rw [hwb]; go_grown
    have ZV : PM.BK wb (w.heap.size + 1) #[.int .i64 0, .int .i64 0, .string ⟨#[]⟩] 77 := by rw [hwb, ← Hza.out]; exact PM.BK.new _ _ _
    rw [← hwb, Hza.out]
    clear hwb
    have hB0 := PM.chain hBa hBb
    have ZR := ZA.keep hBb
    refine (rnumber_any b l wr _ (h.keep hB0)).mono ?_
    rintro e w1 ⟨rfl, hr1, hx1⟩
    go_wp2_with fail
    refine (rnumber_any b _ _ _ hr1).mono ?_
    rintro e w2 ⟨rfl, hr2, hx2⟩
    go_wp2_with fail
    have hl1 := PM.stepN_lt l wr
    have hl2 := PM.stepN_lt (PM.stepN l wr).2.1 (PM.stepN l wr).2.2
    refine (rbytes_any b _ _ 40 _ hr2 (by omega) (by omega) (by omega)).mono ?_
    rintro e w3 ⟨v3, rfl, ho3, hr3, hx3⟩
    have hx : PM.Bx b wb w3 := (hx1.trans hx2).trans hx3
    have ZR3 := ZR.keepx hx hbr
    have ZV3 := ZV.keepx hx hbr1
    clear hr1 hr2 hx1 hx2 hx3
    generalize PM.stepB (PM.stepN (PM.stepN l wr).2.1 (PM.stepN l wr).2.2).2.1 (PM.stepN (PM.stepN l wr).2.1 (PM.stepN l wr).2.2).2.2 40 = st3 at *
    generalize PM.stepN (PM.stepN l wr).2.1 (PM.stepN l wr).2.2 = st2 at *
    generalize PM.stepN l wr = st1 at *
    obtain ⟨n1, l1, wr1⟩ := st1
    obtain ⟨n2, l2, wr2⟩ := st2
    obtain ⟨t3, l3, wr3⟩ := st3
    simp only at hr3 ho3 hl1 hl2 ⊢
    have hr0 := hr3
    obtain ⟨u3, hk3, hs3⟩ := hr3
    have c1 := hk3.cell 1
    obtain ⟨hn1, _⟩ := hl1
    obtain ⟨hn2, _⟩ := hl2
    clear hr0
    by_cases hw3 : wr3 = true
    · subst hw3
      have Hst : Hid (PM.stepV l wr = ((0, 0, []), [], true)) := Lib.hid (by rw [HS.out]; simp)
      go_wp2
      go_step3
      exact ⟨rfl, (PM.Bx.of hBb).trans hx, ⟨_, _, _, hk3, hs3⟩, Hst.out, rfl, rfl, rfl, rfl⟩
    · obtain rfl : wr3 = false := by simpa using hw3
      clear hw3
      by_cases hbig : 2147483647 < n1
      · have Hst : Hid (PM.stepV l wr = ((0, 0, []), [], true)) := Lib.hid (by rw [HS.out]; simp [hbig])
        go_wp2
        go_step3
        exact ⟨rfl, (PM.Bx.of hBb).trans hx, ⟨_, _, _, hk3, hs3⟩, Hst.out, rfl, rfl, rfl, rfl⟩
      · have kc := PM.run_str bty Try.underlying9 ho3.bs
        have z0 := ZV3.cell 0
        have z1 := ZV3.cell 1
        have z2 := ZV3.cell 2
        have y0 := ZV3.free 0
        have y1 := ZV3.free 1
        have y2 := ZV3.free 2
        by_cases h1 : n1 = 1
        · subst h1
          have h64 : wrap64 (n2 : Int) = PM.toI n2 := wrap64_toI n2 hn2
          go_wp2_with fail
          have hx4 := PM.Bx.set3 (w.heap.size + 1) w3 (.int .i64 1) (.int .i64 (PM.toI n2)) (.string ⟨t3.toArray⟩)
          have ZV4 := ZV3.set3 (.int .i64 1) (.int .i64 (PM.toI n2)) (.string ⟨t3.toArray⟩)
          generalize (((w3.setCell ⟨w.heap.size + 1, 0, none⟩ (.int .i64 1)).setCell ⟨w.heap.size + 1, 1, none⟩ (.int .i64 (PM.toI n2))).setCell ⟨w.heap.size + 1, 2, none⟩ (.string ⟨t3.toArray⟩)) = w4 at *
          refine (unfold_any n2 hn2 _).mono ?_
          rintro e w4' ⟨rfl, rfl⟩
          clear z0 z1 z2 y0 y1 y2 kc
          have z0 := ZV4.cell 0
          have z1 := ZV4.cell 1
          have z2 := ZV4.cell 2
          have y1 := ZV4.free 1
          go_wp2_with fail
          replace hx4 := hx4.trans (PM.Bx.set (w.heap.size + 1) 1 w4 (.int .i64 (PM.unfoldZ n2)))
          replace ZV4 := ZV4.set 1 (.int .i64 (PM.unfoldZ n2))
          have ZR4 := ZR3.keepx hx4 (by omega)
          have RD4 : PM.RD 88 _ b l3 false := PM.RD.keepy (b := b) (l := l3) (wr := false) (T := 88) hx4 (by omega) ZV3 (PM.val_nobyte _ _ _) ⟨_, hk3, hs3⟩
          have hxx := (((PM.Bx.of hBb).trans hx)).low hx4 (by rw [Hza.out]; omega)
          refine (check_any _ _ _ _).mono ?_
          rintro e w5 ⟨rfl, hb5⟩
          replace ZV4 := ZV4.keep hb5
          replace ZR4 := ZR4.keep hb5
          replace RD4 := RD4.keep hb5
          replace hxx := hxx.trans (PM.Bx.of hb5)
          clear hb5 hx4 z0 z1 z2 y1
          have z0 := ZV4.cell 0
          have z1 := ZV4.cell 1
          have z2 := ZV4.cell 2
          have r0 := ZR4.cell 0
          have r1 := ZR4.cell 1
          have r2 := ZR4.cell 2
          have y0 := ZR4.free 0
          have y1 := ZR4.free 1
          have y2 := ZR4.free 2
          by_cases hmay : PM.may ((1 : Nat) : Int) (PM.unfoldZ n2) t3 = true
          · have hE : PM.mayE 1 (PM.unfoldZ n2) t3 = 0 := by unfold PM.mayE; rw [if_pos (by simpa using hmay)]
            have Hst : Hid (PM.stepV l wr = ((1, (PM.unfoldZ n2), t3), l3, false)) := Lib.hid (by rw [HS.out, if_neg (by simp; try omega), if_pos (by simpa using hmay)]; simp)
            clear hmay
            go_wp2
            simp only [Exit.jump]
            rw [Hst.out]
            have ZF := ZR4.set3 (.int .i64 1) (.int .i64 (PM.unfoldZ n2)) (.string ⟨t3.toArray⟩)
            have hxf := PM.Bx.set3 w.heap.size w5 (.int .i64 1) (.int .i64 (PM.unfoldZ n2)) (.string ⟨t3.toArray⟩)
            generalize (((w5.setCell ⟨w.heap.size, 0, none⟩ (.int .i64 1)).setCell ⟨w.heap.size, 1, none⟩ (.int .i64 (PM.unfoldZ n2))).setCell ⟨w.heap.size, 2, none⟩ (.string ⟨t3.toArray⟩)) = wf at *
            have q0 := ZF.cell 0
            have q1 := ZF.cell 1
            have q2 := ZF.cell 2
            exact bodyPost_ret (v := .agg #[.int .i64 1, .int .i64 (PM.unfoldZ n2), .string ⟨t3.toArray⟩]) (by simp [results, Try.results53, go_sem, q0, q1, q2]) rfl ⟨rfl, PM.RD.keepy hxf (by omega) ZR4 (PM.val_nobyte _ _ _) RD4, ((PM.Bx.of hBa).trans hxx).low hxf (Nat.le_refl _)⟩
          · have hE : PM.mayE 1 (PM.unfoldZ n2) t3 = 10 := by unfold PM.mayE; rw [if_neg (by simpa using hmay)]
            have Hst : Hid (PM.stepV l wr = ((0, 0, []), [], true)) := Lib.hid (by rw [HS.out, if_neg (by simp; try omega), if_neg (by simpa using hmay)])
            clear hmay
            go_wp2
            go_step3
            obtain ⟨vv, hkv, hsv⟩ := RD4
            exact ⟨rfl, hxx, ⟨_, _, _, hkv, hsv⟩, Hst.out, rfl, rfl, rfl, rfl⟩
        · have hk1 : ((n1 : Int) == 1) = false := by rw [beq_eq_false_iff_ne]; omega
          have h64 : wrap64 (n2 : Int) = PM.toI n2 := wrap64_toI n2 hn2
          go_wp2_with fail
          have hx4 := (PM.Bx.set3 (w.heap.size + 1) w3 (.int .i64 (n1 : Int)) (.int .i64 (PM.toI n2)) (.string ⟨t3.toArray⟩))
          have ZV4 := (ZV3.set3 (.int .i64 (n1 : Int)) (.int .i64 (PM.toI n2)) (.string ⟨t3.toArray⟩))
          have ZR4 := ZR3.keepx hx4 (by omega)
          have RD4 : PM.RD 88 _ b l3 false := PM.RD.keepy (b := b) (l := l3) (wr := false) (T := 88) hx4 (by omega) ZV3 (PM.val_nobyte _ _ _) ⟨_, hk3, hs3⟩
          have hxx := (((PM.Bx.of hBb).trans hx)).low hx4 (by rw [Hza.out]; omega)
          refine (check_any _ _ _ _).mono ?_
          rintro e w5 ⟨rfl, hb5⟩
          replace ZV4 := ZV4.keep hb5
          replace ZR4 := ZR4.keep hb5
          replace RD4 := RD4.keep hb5
          replace hxx := hxx.trans (PM.Bx.of hb5)
          clear hb5 hx4 z0 z1 z2 y1
          have z0 := ZV4.cell 0
          have z1 := ZV4.cell 1
          have z2 := ZV4.cell 2
          have r0 := ZR4.cell 0
          have r1 := ZR4.cell 1
          have r2 := ZR4.cell 2
          have y0 := ZR4.free 0
          have y1 := ZR4.free 1
          have y2 := ZR4.free 2
          by_cases hmay : PM.may (n1 : Int) (PM.toI n2) t3 = true
          · have hE : PM.mayE (n1 : Int) (PM.toI n2) t3 = 0 := by unfold PM.mayE; rw [if_pos (by simpa using hmay)]
            have Hst : Hid (PM.stepV l wr = (((n1 : Int), (PM.toI n2), t3), l3, false)) := Lib.hid (by rw [HS.out, if_neg (by simp; try omega), if_pos (by simpa [h1] using hmay)]; simp [h1])
            clear hmay
            go_wp2
            simp only [Exit.jump]
            rw [Hst.out]
            have ZF := ZR4.set3 (.int .i64 (n1 : Int)) (.int .i64 (PM.toI n2)) (.string ⟨t3.toArray⟩)
            have hxf := PM.Bx.set3 w.heap.size w5 (.int .i64 (n1 : Int)) (.int .i64 (PM.toI n2)) (.string ⟨t3.toArray⟩)
            generalize (((w5.setCell ⟨w.heap.size, 0, none⟩ (.int .i64 (n1 : Int))).setCell ⟨w.heap.size, 1, none⟩ (.int .i64 (PM.toI n2))).setCell ⟨w.heap.size, 2, none⟩ (.string ⟨t3.toArray⟩)) = wf at *
            have q0 := ZF.cell 0
            have q1 := ZF.cell 1
            have q2 := ZF.cell 2
            exact bodyPost_ret (v := .agg #[.int .i64 (n1 : Int), .int .i64 (PM.toI n2), .string ⟨t3.toArray⟩]) (by simp [results, Try.results53, go_sem, q0, q1, q2]) rfl ⟨rfl, PM.RD.keepy hxf (by omega) ZR4 (PM.val_nobyte _ _ _) RD4, ((PM.Bx.of hBa).trans hxx).low hxf (Nat.le_refl _)⟩
          · have hE : PM.mayE (n1 : Int) (PM.toI n2) t3 = 10 := by unfold PM.mayE; rw [if_neg (by simpa using hmay)]
            have Hst : Hid (PM.stepV l wr = ((0, 0, []), [], true)) := Lib.hid (by rw [HS.out, if_neg (by simp; try omega), if_neg (by simpa [h1] using hmay)])
            clear hmay
            go_wp2
            go_step3
            obtain ⟨vv, hkv, hsv⟩ := RD4
            exact ⟨rfl, hxx, ⟨_, _, _, hkv, hsv⟩, Hst.out, rfl, rfl, rfl, rfl⟩
  · rintro a w' ⟨hx, ⟨l', wr', v', hk', hs'⟩, hst, hd, hsz, h0, h2⟩
    rw [PM.act_lit 44 hd hsz]
    generalize PM.sl a = G at *
    rw [show ((List.range 44).map G).toArray = #[G 0, G 1, G 2, G 3, G 4, G 5, G 6, G 7, G 8, G 9, G 10, G 11, G 12, G 13, G 14, G 15, G 16, G 17, G 18, G 19, G 20, G 21, G 22, G 23, G 24, G 25, G 26, G 27, G 28, G 29, G 30, G 31, G 32, G 33, G 34, G 35, G 36, G 37, G 38, G 39, G 40, G 41, G 42, G 43] from rfl, h0, h2]
    clear h0 h2 hsz hd
    have ZR' := ZA.keepx hx hbr
    go_wp2_with (go_at_call 45; refine (fail_any b v' wr' _ hk').mono ?_; rintro e w1 ⟨rfl, hr, hx1⟩; have ZR1 := ZR'.keepx hx1 hbr; have z0 := ZR1.cell 0; have z1 := ZR1.cell 1; have z2 := ZR1.cell 2; have y0 := ZR1.free 0; have y1 := ZR1.free 1; have y2 := ZR1.free 2)
    simp only [Exit.jump]
    rw [hst]
    have ZF := ZR1.set3 (.int .i64 0) (.int .i64 0) (.string ⟨#[]⟩)
    have hxf := PM.Bx.set3 w.heap.size w1 (.int .i64 0) (.int .i64 0) (.string ⟨#[]⟩)
    generalize (((w1.setCell ⟨w.heap.size, 0, none⟩ (.int .i64 0)).setCell ⟨w.heap.size, 1, none⟩ (.int .i64 0)).setCell ⟨w.heap.size, 2, none⟩ (.string ⟨#[]⟩)) = wf at *
    have q0 := ZF.cell 0
    have q1 := ZF.cell 1
    have q2 := ZF.cell 2
    exact bodyPost_ret (v := .agg #[.int .i64 0, .int .i64 0, .string ⟨[].toArray⟩]) (by simp [results, Try.results53, go_sem, q0, q1, q2]) rfl ⟨rfl, PM.RD.keepy hxf (by omega) ZR1 (PM.val_nobyte _ _ _) hr, ((PM.Bx.of hBa).trans (hx.trans hx1)).low hxf (Nat.le_refl _)⟩
end Go.Proofs.Ytklgibkdbdhaiaa
