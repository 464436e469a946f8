/-
  CONTRACTS OF package pack: a reader's bytes.
-/
import Derived.Test.YtklgibkdbdhaiaaPr
namespace Go.Proofs.Ytklgibkdbdhaiaa
open Go.RowKit
set_option linter.unusedVariables false
def RetRB (T E : TypeId) (W : World) (b : Nat) (m l : List UInt8) (wr : Bool) (e : Ending) (w' : World) : Prop :=
  ∃ v, e = .returned v ∧ PM.OW E W.heap.size w' v m ∧ PM.RD T w' b l wr ∧ PM.Bx b W w'
theorem rbytes_any (b : Nat) (l : List UInt8) (wr : Bool) (most : Int) (w : World) (h : PM.RD 88 w b l wr) (hl : l.length ≤ 70368744177664) (hm1 : -9223372036854775808 ≤ most) (hm2 : most ≤ 9223372036854775807) :
    Calls Try.prog 32 #[.pointer (some ⟨b, 0, none⟩), .int .i64 most] w (RetRB 88 5 w b (PM.stepB l wr most).1 (PM.stepB l wr most).2.1 (PM.stepB l wr most).2.2) := by
  have hbw : b < w.heap.size := by obtain ⟨v, hk, _⟩ := h; exact hk.lt
  have hlt := PM.stepN_lt l wr
  go_enter Try.func32, Try.ntmps32
  go_wp2_with fail
  refine wp_scope_jumps 0 (fun a w' => PM.Bx b w w' ∧ (∃ l' wr', PM.RD 88 w' b l' wr') ∧ PM.stepB l wr most = ([], [], true) ∧ a.defers = [] ∧ a.tmps.size = 54 ∧ PM.sl a 0 = .pointer (some ⟨b, 0, none⟩)) (fun _ _ => 0) rfl ?_ ?_
  · go_wp2_with fail
    refine (rnumber_any b l wr _ h).mono ?_
    rintro e w1 ⟨rfl, hr, hx⟩
    have HS : Hid (PM.stepB l wr most = if (PM.stepN l wr).2.2 = true ∨ most < 0 ∨ most.toNat < (PM.stepN l wr).1 ∨ (PM.stepN l wr).2.1.length < (PM.stepN l wr).1 then ([], [], true) else ((PM.stepN l wr).2.1.take (PM.stepN l wr).1, (PM.stepN l wr).2.1.drop (PM.stepN l wr).1, false)) := Lib.hid rfl
    generalize PM.stepN l wr = st at *
    obtain ⟨n1, l1, wr1⟩ := st
    simp only at hr hlt ⊢
    have hr0 := hr
    obtain ⟨v1, hk, hs⟩ := hr
    have c0 := hk.cell 0
    have c1 := hk.cell 1
    have f0 := hk.free 0
    obtain ⟨hn, hl1⟩ := hlt
    by_cases hw1 : wr1 = true
    · subst hw1
      have Hst : Hid (PM.stepB l wr most = ([], [], true)) := Lib.hid (by rw [HS.out]; simp)
      go_wp2
      go_step3
      exact ⟨rfl, hx, ⟨_, _, hr0⟩, Hst.out, rfl, rfl, rfl⟩
    · obtain rfl : wr1 = false := by simpa using hw1
      clear hw1
      by_cases hm : most < 0
      · have Hst : Hid (PM.stepB l wr most = ([], [], true)) := Lib.hid (by rw [HS.out]; simp [hm])
        go_wp2
        go_step3
        exact ⟨rfl, hx, ⟨_, _, hr0⟩, Hst.out, rfl, rfl, rfl⟩
      · obtain ⟨m, rfl⟩ := Int.eq_ofNat_of_zero_le (show 0 ≤ most by omega)
        by_cases hnm : m < n1
        · have Hst : Hid (PM.stepB l wr m = ([], [], true)) := Lib.hid (by rw [HS.out]; simp [hnm])
          go_wp2
          go_step3
          exact ⟨rfl, hx, ⟨_, _, hr0⟩, Hst.out, rfl, rfl, rfl⟩
        · obtain ⟨va, vcap, rfl⟩ := hs.len
          by_cases hnl : l1.length < n1
          · have Hst : Hid (PM.stepB l wr m = ([], [], true)) := Lib.hid (by rw [HS.out]; simp [hnl])
            go_wp2
            go_step3
            exact ⟨rfl, hx, ⟨_, _, hr0⟩, Hst.out, rfl, rfl, rfl⟩
          · have Hst : Hid (PM.stepB l wr m = (l1.take n1, l1.drop n1, false)) := Lib.hid (by rw [HS.out]; simp [hnl, hnm])
            have hs0 := hs
            have hk0 := hk
            have hm0 : (0 : Int) ≤ (m : Int) := by omega
            have hg1 : ¬ ((m : Int) < (n1 : Int)) := by omega
            have hg2 : ¬ ((l1.length : Int) < (n1 : Int)) := by omega
            rcases hs with ⟨he, rfl⟩ | ⟨vb, off, cap, he, hcap, hmax, hcell⟩ | ⟨x0, cap, he, rfl, hmax⟩
            · obtain ⟨rfl, _, rfl⟩ : va = none ∧ True ∧ vcap = 0 := by simp at he; exact ⟨he.1, trivial, he.2⟩
              obtain rfl : n1 = 0 := by simp at hnl; omega
              go_wp2_with (go_at_call 41; refine (room_any (.slice none 0 0) [] 0 _ (PM.BS.nil _) (by simp)).mono ?_; rintro e w2 ⟨v2, rfl, ho, hB⟩; have hk2 := hk0.keep hB; have d0 := hk2.cell 0; have g0 := hk2.free 0)
              simp only [Exit.jump]
              go_ret
              rw [Hst.out]
              exact ⟨v2, rfl, (ho.mono hx.size).keepx (PM.Bx.set b 0 _ _) hbw, PM.RD.put hk2 (hs0.keep hB) (PM.BS.nil _), hx.trans ((PM.Bx.of hB).trans (PM.Bx.set _ _ _ _))⟩
            · obtain ⟨rfl, rfl⟩ : va = some ⟨vb, off, none⟩ ∧ vcap = cap := by simp at he; exact he
              have hmax' := hmax
              unfold maxLen at hmax'
              have HC := Lib.hid hcell
              clear hcell
              have Htake := Lib.hid (PM.BS.take hcap hmax HC.out (k := n1) (by omega))
              have Hcut := Lib.hid (PM.BS.cut hcap hmax HC.out (k := n1) (by omega))
              by_cases hc : vcap = n1
              · have hc' : n1 = l1.length := by omega
                have HC' := Lib.hid hc'
                clear hc'
                have Hc := Lib.hid hc
                subst hc
                go_wp2_with (go_at_call 41; refine (room_any _ _ 0 _ Htake.out (by rw [List.length_take]; omega)).mono ?_; rintro e w2 ⟨v2, rfl, ho, hB⟩; have hk2 := hk0.keep hB; have d0 := hk2.cell 0; have g0 := hk2.free 0)
                simp only [Exit.jump]
                go_ret
                rw [Hst.out]
                exact ⟨v2, rfl, (ho.mono hx.size).keepx (PM.Bx.set b 0 _ _) hbw, PM.RD.put hk2 (hs0.keep hB) (by have h := (Hcut.out.2 HC'.out).keep hB; have e : l1.length - vcap = 0 := (by have := HC'.out; omega); simpa [e] using h), hx.trans ((PM.Bx.of hB).trans (PM.Bx.set _ _ _ _))⟩
              · go_wp2_with (go_at_call 41; refine (room_any _ _ 0 _ Htake.out (by rw [List.length_take]; omega)).mono ?_; rintro e w2 ⟨v2, rfl, ho, hB⟩; have hk2 := hk0.keep hB; have d0 := hk2.cell 0; have g0 := hk2.free 0)
                simp only [Exit.jump]
                go_ret
                rw [Hst.out]
                exact ⟨v2, rfl, (ho.mono hx.size).keepx (PM.Bx.set b 0 _ _) hbw, PM.RD.put hk2 (hs0.keep hB) (Hcut.out.1.keep hB), hx.trans ((PM.Bx.of hB).trans (PM.Bx.set _ _ _ _))⟩
            · obtain ⟨rfl, rfl⟩ : va = some x0 ∧ vcap = cap := by simp at he; exact he
              obtain rfl : n1 = 0 := by simp at hnl; omega
              unfold maxLen at hmax
              by_cases hc : vcap = 0
              · subst hc
                go_wp2_with (go_at_call 41; refine (room_any _ [] 0 _ hs0 (by simp)).mono ?_; rintro e w2 ⟨v2, rfl, ho, hB⟩; have hk2 := hk0.keep hB; have d0 := hk2.cell 0; have g0 := hk2.free 0)
                simp only [Exit.jump]
                go_ret
                rw [Hst.out]
                exact ⟨v2, rfl, (ho.mono hx.size).keepx (PM.Bx.set b 0 _ _) hbw, PM.RD.put hk2 (hs0.keep hB) (.inr (.inr ⟨_, _, rfl, rfl, by unfold maxLen; omega⟩)), hx.trans ((PM.Bx.of hB).trans (PM.Bx.set _ _ _ _))⟩
              · go_wp2_with (go_at_call 41; refine (room_any _ [] 0 _ hs0 (by simp)).mono ?_; rintro e w2 ⟨v2, rfl, ho, hB⟩; have hk2 := hk0.keep hB; have d0 := hk2.cell 0; have g0 := hk2.free 0)
                simp only [Exit.jump]
                go_ret
                rw [Hst.out]
                exact ⟨v2, rfl, (ho.mono hx.size).keepx (PM.Bx.set b 0 _ _) hbw, PM.RD.put hk2 (hs0.keep hB) (.inr (.inr ⟨_, _, rfl, rfl, by unfold maxLen; omega⟩)), hx.trans ((PM.Bx.of hB).trans (PM.Bx.set _ _ _ _))⟩
  · rintro a w' ⟨hx, ⟨l', wr', v', hk', hs'⟩, hst, hd, hsz, h0⟩
    rw [PM.act_lit 54 hd hsz]
    generalize PM.sl a = G at *
    rw [show ((List.range 54).map G).toArray = #[G 0, G 1, G 2, G 3, G 4, G 5, G 6, G 7, G 8, G 9, G 10, G 11, G 12, G 13, G 14, G 15, G 16, G 17, G 18, G 19, G 20, G 21, G 22, G 23, G 24, G 25, G 26, G 27, G 28, G 29, G 30, G 31, G 32, G 33, G 34, G 35, G 36, G 37, G 38, G 39, G 40, G 41, G 42, G 43, G 44, G 45, G 46, G 47, G 48, G 49, G 50, G 51, G 52, G 53] from rfl, h0]
    clear h0 hsz hd
    go_wp2_with (go_at_call 45; refine (fail_any b v' wr' _ hk').mono ?_; rintro e w1 ⟨rfl, hr, hx1⟩)
    simp only [Exit.jump]
    go_ret
    rw [hst]
    exact ⟨_, rfl, PM.OW.nilrow _ _ _, hr, hx.trans hx1⟩
end Go.Proofs.Ytklgibkdbdhaiaa
