/-
  CONTRACTS OF package pack: readers.
-/
import Derived.Test.YtklgibkdbdhaiaaPc
import Derived.Test.YtklgibkdbdhaiaaRs
namespace Go.Proofs.Ytklgibkdbdhaiaa
open Go.RowKit
set_option linter.unusedVariables false

theorem fail_any (b : Nat) (v : Value) (wr : Bool) (w : World) (h : PM.BK w b #[v, .bool wr] 88) :
    Calls Try.prog 45 #[.pointer (some ⟨b, 0, none⟩)] w fun e w' => e = .returned (.tuple #[]) ∧ PM.RD 88 w' b [] true ∧ PM.Bx b w w' := by
  have c0 := h.cell 0
  have c1 := h.cell 1
  have f0 := h.free 0
  have f1 := h.free 1
  have H1 := Lib.hid (h.set 0 (.slice none 0 0))
  have hx : Hid (PM.Bx b w ((w.setCell ⟨b, 0, none⟩ (.slice none 0 0)).setCell ⟨b, 1, none⟩ (.bool true))) := (PM.Bx.set b 0 w _).trans (PM.Bx.set b 1 _ _)
  clear h
  go_enter Try.func45, Try.ntmps45
  go_wp2
  go_end0
  refine ⟨rfl, ⟨.slice none 0 0, ?_, PM.BS.nil _⟩, hx⟩
  have h2 := PM.BK.set H1.out 1 (.bool true)
  simpa using h2
def RetR (T : TypeId) (W : World) (l : List UInt8) (e : Ending) (w' : World) : Prop := ∃ b, e = .returned (.pointer (some ⟨b, 0, none⟩)) ∧ W.heap.size ≤ b ∧ PM.RD T w' b l false ∧ Below W.heap.size W w'
theorem new_any (v : Value) (l : List UInt8) (w : World) (hv : PM.BS w v l) (hl : l.length ≤ 70368744177664) :
    Calls Try.prog 26 #[v] w (RetR 88 w l) := by
  go_enter Try.func26, Try.ntmps26
  go_wp2_with fail
  refine (room_any v l 0 w hv (by omega)).mono ?_
  rintro e w1 ⟨v1, rfl, ho, hB⟩
  have hs := ho.bs
  obtain ⟨a, cap, rfl⟩ := hs.len
  clear ho
  go_wp2
  go_ret
  exact ⟨w1.heap.size, rfl, hB.size, ⟨_, PM.BK.new _ _ _, hs.keep ((Below.refl _ _).alloc (Nat.le_refl _) _)⟩, PM.chain hB ((Below.refl _ _).alloc (Nat.le_refl _) _)⟩
theorem rnumber_any (b : Nat) (l : List UInt8) (wr : Bool) (w : World) (h : PM.RD 88 w b l wr) :
    Calls Try.prog 29 #[.pointer (some ⟨b, 0, none⟩)] w fun e w' =>
      e = .returned (.int .u64 ((PM.stepN l wr).1 : Nat)) ∧ PM.RD 88 w' b (PM.stepN l wr).2.1 (PM.stepN l wr).2.2 ∧ PM.Bx b w w' := by
  obtain ⟨v, hk, hs⟩ := h
  have c0 := hk.cell 0
  have c1 := hk.cell 1
  go_enter Try.func29, Try.ntmps29
  go_wp2
  refine wp_scope_jumps 0 (fun a w' => w = w' ∧ PM.stepN l wr = (0, [], true) ∧ a.defers = [] ∧ a.tmps.size = 72 ∧ PM.sl a 0 = .pointer (some ⟨b, 0, none⟩)) (fun _ _ => 0) rfl ?_ ?_
  · cases wr
    · rcases l with _ | ⟨s, r⟩
      · obtain ⟨a, cap, rfl⟩ := hs.len
        go_wp2
        go_step3
        exact ⟨rfl, rfl, rfl, rfl, rfl, rfl⟩
      · skip
        have hs0 := hs
        have hk0 := hk
        rcases hs with ⟨_, hc⟩ | ⟨vb, off, cap, rfl, hcap, hmax, hcell⟩ | ⟨_, _, _, hc, _⟩
        · cases hc
        case inr.inr => cases hc
        have e0 := hcell 0 s rfl
        rw [Nat.add_zero] at e0
        have e0' : w.cell? ⟨vb, off, none⟩ = some (.int .u8 (s.toNat : Int)) := e0
        have hlen : (0 : Int) < ((s :: r).length : Int) := by simp
        have hne : (((s :: r).length : Int) == 0) = false := by simp; omega
        have hs256 := s.toNat_lt
        have hL : ((s :: r).length : Int) = (r.length : Int) + 1 := by simp
        unfold maxLen at hmax
        have hrl : r.length < 9223372036854775807 := by simp at hcap; omega
        clear e0
        by_cases h8 : s.toNat ≤ 8
        · by_cases hr : s.toNat ≤ r.length
          · have hpow : (256 : Nat) ^ s.toNat ≤ 256 ^ 8 := Nat.pow_le_pow_right (by omega) h8
            have hbl : ∀ k, k ≤ s.toNat → PM.bval (r.take k) < 256 ^ k := fun k hk => by
              have := PM.bval_lt (r.take k)
              rwa [List.length_take_of_le (by omega)] at this
            have HBL := Lib.hid hbl
            have HC := Lib.hid hcell
            clear hbl hcell
            go_wp2
            go_loop [3, 5, 39] (fun n i c => ∃ k : Nat, k ≤ s.toNat ∧ c = .int .i64 k ∧ n = .int .u64 (PM.bval (r.take k) : Nat)) (fun _ _ c => s.toNat - (intOf c).toNat)
            case atStart => exact ⟨0, by omega, rfl, rfl⟩
            case round =>
              obtain ⟨k, hk, rfl, rfl⟩ := hrel
              by_cases hlt : k < s.toNat
              · have hb1 := HBL.out k hk
                have hp : (256 : Nat) ^ k ≤ 256 ^ 7 := Nat.pow_le_pow_right (by omega) (by omega)
                have hb2 : PM.bval (r.take k) < 72057594037927936 := by omega
                clear hb1 hp
                have hkr : k < r.length := by omega
                have hck : w.cell? ⟨vb, off + (1 + k), none⟩ = some (.int .u8 ((r[k]).toNat : Int)) := by
                  have := HC.out (1 + k) r[k] (by rw [Nat.add_comm 1 k]; simp [hkr])
                  exact this
                have hx := (r[k]).toNat_lt
                go_wp2
                go_round
                case rel => exact ⟨k + 1, by omega, by go_num, by rw [PM.or_byte _ _ hb2 hx, PM.take_snoc r k hkr, PM.bval_snoc]⟩
                case measure => simp [intOf]; omega
              · obtain rfl : k = s.toNat := by omega
                have hb1 := HBL.out s.toNat (by omega)
                have hb64 : PM.bval (r.take s.toNat) < 2 ^ 64 := by omega
                clear hb1 hpow
                go_wp2_with fail
                refine (width_any _ hb64 _).mono ?_
                rintro e w1 ⟨rfl, rfl⟩
                have hwl := PM.wid_le _ hb64
                by_cases hw : PM.wid (PM.bval (r.take s.toNat)) = s.toNat
                · have hwB : (((s.toNat : Int)) != ((PM.wid (PM.bval (r.take s.toNat)) : Nat) : Int)) = false := by rw [hw]; simp
                  have Hst : Hid (PM.stepN (s :: r) false = (PM.bval (r.take s.toNat), r.drop s.toNat, false)) := Lib.hid (by simp [PM.stepN, PM.getN, hw, h8, hr])
                  have f0 := hk0.free 0
                  have hcut := PM.BS.cut (w := w) (k := 1 + s.toNat) hcap (by unfold maxLen; exact hmax) HC.out (by simp; omega)
                  have hdrop : (s :: r).drop (1 + s.toNat) = r.drop s.toNat := by rw [Nat.add_comm]; rfl
                  rw [hdrop] at hcut
                  have Hcut := Lib.hid hcut
                  clear hw hcut hdrop
                  by_cases hc1 : cap = 1 + s.toNat
                  · have Hc1 := Lib.hid hc1
                    subst hc1
                    go_wp2
                    simp only [Exit.jump]
                    go_ret
                    rw [Hst.out]
                    refine ⟨rfl, ⟨_, hk0.set 0 _, ?_⟩, PM.Bx.set _ _ _ _⟩
                    refine PM.BS.keepx (PM.Bx.set b 0 w _) hk0 (PM.RD.nobyte _ _ _ _ hs0) ?_
                    have := Hcut.out.2 (by simp at hcap ⊢; omega)
                    simpa using this
                  · have hc2 : ¬ (cap = 1 + s.toNat) := hc1
                    go_wp2
                    simp only [Exit.jump]
                    go_ret
                    rw [Hst.out]
                    refine ⟨rfl, ⟨_, hk0.set 0 _, ?_⟩, PM.Bx.set _ _ _ _⟩
                    refine PM.BS.keepx (PM.Bx.set b 0 w _) hk0 (PM.RD.nobyte _ _ _ _ hs0) ?_
                    have := Hcut.out.1
                    simpa using this
                · have hwB : (((s.toNat : Int)) != ((PM.wid (PM.bval (r.take s.toNat)) : Nat) : Int)) = true := by rw [bne_iff_ne]; omega
                  have Hst : Hid (PM.stepN (s :: r) false = (0, [], true)) := Lib.hid (by simp [PM.stepN, PM.getN, hw])
                  clear hw
                  go_wp2
                  go_step3
                  exact ⟨rfl, rfl, Hst.out, rfl, rfl, rfl⟩
          · have hg : ((r.length : Int) + 1 ≤ (s.toNat : Int)) := by omega
            have hst : PM.stepN (s :: r) false = (0, [], true) := by simp [PM.stepN, PM.getN, hr]
            have Hst := Lib.hid hst
            clear hst
            go_wp2
            go_step3
            exact ⟨rfl, rfl, Hst.out, rfl, rfl, rfl⟩
        · have hst : PM.stepN (s :: r) false = (0, [], true) := by simp [PM.stepN, PM.getN, h8]
          have Hst := Lib.hid hst
          clear hst
          go_wp2
          go_step3
          exact ⟨rfl, rfl, Hst.out, rfl, rfl, rfl⟩
    · go_wp2
      go_step3
      exact ⟨rfl, rfl, rfl, rfl, rfl, rfl⟩
  · rintro a w' ⟨rfl, hst, hd, hsz, h0⟩
    rw [PM.act_lit 72 hd hsz]
    generalize PM.sl a = G at *
    rw [show ((List.range 72).map G).toArray = #[G 0, G 1, G 2, G 3, G 4, G 5, G 6, G 7, G 8, G 9, G 10, G 11, G 12, G 13, G 14, G 15, G 16, G 17, G 18, G 19, G 20, G 21, G 22, G 23, G 24, G 25, G 26, G 27, G 28, G 29, G 30, G 31, G 32, G 33, G 34, G 35, G 36, G 37, G 38, G 39, G 40, G 41, G 42, G 43, G 44, G 45, G 46, G 47, G 48, G 49, G 50, G 51, G 52, G 53, G 54, G 55, G 56, G 57, G 58, G 59, G 60, G 61, G 62, G 63, G 64, G 65, G 66, G 67, G 68, G 69, G 70, G 71] from rfl, h0]
    clear h0 hsz hd
    go_wp2_with (go_at_call 45; refine (fail_any b v wr _ hk).mono ?_; rintro e w1 ⟨rfl, hr, hx⟩)
    simp only [Exit.jump]
    go_ret
    rw [hst]
    exact ⟨rfl, hr, hx⟩
end Go.Proofs.Ytklgibkdbdhaiaa
