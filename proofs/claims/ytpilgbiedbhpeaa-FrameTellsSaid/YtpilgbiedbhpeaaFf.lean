/-
  CONTRACTS OF package frame: first.
-/
import Derived.Test.YtpilgbiedbhpeaaFw
namespace Go.Proofs.Ytpilgbiedbhpeaa
open Go.RowKit
set_option linter.unusedVariables false
namespace PM
theorem i64_or_byte (x y : UInt8) : bits .or .i64 ((x.toNat : Int) * 256) (y.toNat : Int) = ((x.toNat * 256 + y.toNat : Nat) : Int) := by
  have hx := x.toNat_lt
  have hy := y.toNat_lt
  have e0 : ((x.toNat : Int) * 256) = ((x.toNat * 256 : Nat) : Int) := by omega
  rw [e0]
  have key : (x.toNat * 256) ||| y.toNat = x.toNat * 256 + y.toNat := by
    have := Nat.two_pow_add_eq_or_of_lt (i := 8) (b := y.toNat) (by omega) x.toNat
    rw [show x.toNat * 256 = 2 ^ 8 * x.toNat by omega, ← this]
  show IntKind.i64.wrap ((BitVec.ofInt 64 ((x.toNat * 256 : Nat) : Int) ||| BitVec.ofInt 64 ((y.toNat : Nat) : Int)).toNat : Int) = _
  rw [BitVec.toNat_or, ofInt_u64 _ (by omega), ofInt_u64 _ (by omega), key, IntKind.wrap_i64]
  omega
end PM
/-- too few bytes -/
theorem first_short (v : Value) (l : List UInt8) (w : World) (hv : PM.BS w v l) (h : l.length < 6) :
    Calls Try.prog 18 #[v] w fun e w' => e = .returned (.slice none 0 0) ∧ w' = w := by
  obtain ⟨a, c, rfl⟩ := hv.len
  clear hv
  obtain ⟨L, hL⟩ : ∃ L, L = l.length := ⟨_, rfl⟩
  rw [← hL] at h ⊢
  clear hL
  have h' : (L : Int) < 6 := by omega
  go_enter Try.func18, Try.ntmps18
  go_wp2
  go_ret
  exact ⟨rfl, rfl⟩
set_option maxHeartbeats 1000000 in
theorem first_long (b off cap : Nat) (l : List UInt8) (w : World) (h6 : 6 ≤ l.length) (hc : l.length ≤ cap) (hm : cap ≤ maxLen) (hcell : ∀ i x, l[i]? = some x → w.cell? ⟨b, off + i, none⟩ = some (PM.bv x)) :
    Calls Try.prog 18 #[.slice (some ⟨b, off, none⟩) l.length cap] w fun e w' => ∃ o, e = .returned o ∧ PM.BS w' o (PM.firstL l) ∧ Below w.heap.size w w' := by
  obtain ⟨z0, hz0⟩ : ∃ z, l[0]? = some z := ⟨l[0], List.getElem?_eq_getElem _⟩
  obtain ⟨z1, hz1⟩ : ∃ z, l[1]? = some z := ⟨l[1], List.getElem?_eq_getElem _⟩
  have c0 : w.cell? ⟨b, off, none⟩ = some (.int .u8 (z0.toNat : Int)) := hcell 0 z0 hz0
  have c1 : w.cell? ⟨b, off + 1, none⟩ = some (.int .u8 (z1.toNat : Int)) := hcell 1 z1 hz1
  simp only [maxLen] at hm
  obtain ⟨L, hL⟩ : ∃ L, L = l.length := ⟨_, rfl⟩
  have hF := PM.hid (And.intro hL (And.intro hz0 (And.intro hz1 hcell)))
  rw [← hL] at h6 hc ⊢
  clear hL hz0 hz1 hcell
  have h6' : ¬ (L : Int) < 6 := by omega
  obtain ⟨N, hN⟩ : ∃ N : Nat, N = z0.toNat * 256 + z1.toNat := ⟨_, rfl⟩
  have hbv : PM.bval (l.take 2) = N := by
    obtain ⟨_, hz0, hz1, _⟩ := hF.out
    have : l.take 2 = [z0, z1] := by
      rw [show (2 : Nat) = 0 + 1 + 1 from rfl, List.take_add_one, List.take_add_one, hz1, hz0]; rfl
    rw [this, hN]
    simp [PM.bval]
  have e0 := PM.i64_or_byte z0 z1
  rw [← hN] at e0
  have g0 := z0.toNat_lt
  have g1 := z1.toNat_lt
  have hN2 : N < 65536 := by omega
  have hc1 : 1 < cap := by omega
  have hfl : PM.firstL l = if N = 0 ∨ 4000 < N ∨ L < 6 + N then [] else if (l.drop 2).take 4 = PM.be (PM.crc ((l.drop 6).take N)) 4 then (l.drop 6).take N else [] := by
    unfold PM.firstL
    rw [hbv, ← hF.out.1, if_neg (by omega)]
  have hflh := PM.hid hfl
  clear hN hbv hfl
  by_cases hbad : N = 0 ∨ 4000 < N ∨ L < 6 + N
  · have hnil : PM.firstL l = [] := by rw [hflh.out, if_pos hbad]
    have hnilh := PM.hid hnil
    clear hnil
    rcases hbad with rfl | hbad | hbad
    · go_enter Try.func18, Try.ntmps18
      go_wp2_with fail
      go_region
      all_goals go_wp2
      all_goals go_ret
      all_goals exact ⟨_, rfl, by rw [hnilh.out]; exact PM.BS.nil _, (Below.refl _ _).drew⟩
    · have q1 : (4000 : Int) < (N : Int) := by omega
      have q0 : ((N : Int) == 0) = false := beq_eq_false_iff_ne.2 (by omega)
      go_enter Try.func18, Try.ntmps18
      go_wp2_with fail
      go_region
      all_goals go_wp2
      all_goals go_ret
      all_goals exact ⟨_, rfl, by rw [hnilh.out]; exact PM.BS.nil _, (Below.refl _ _).drew⟩
    · have q2 : (L : Int) - 6 < (N : Int) := by omega
      go_enter Try.func18, Try.ntmps18
      go_wp2_with fail
      go_region
      all_goals go_wp2
      all_goals go_ret
      all_goals exact ⟨_, rfl, by rw [hnilh.out]; exact PM.BS.nil _, (Below.refl _ _).drew⟩
  · have q0 : ((N : Int) == 0) = false := beq_eq_false_iff_ne.2 (by omega)
    have q1 : ¬ (4000 : Int) < (N : Int) := by omega
    have q2 : ¬ (L : Int) - 6 < (N : Int) := by omega
    have hN0 : 0 < N := by omega
    have hNL : 6 + N ≤ L := by omega
    obtain ⟨C, hC⟩ : ∃ C, C = PM.crc ((l.drop 6).take N) := ⟨_, rfl⟩
    have hfl2 : PM.firstL l = if (l.drop 2).take 4 = PM.be C 4 then (l.drop 6).take N else [] := by rw [hflh.out, if_neg hbad, hC]
    have hfl2h := PM.hid hfl2
    have hCl : C < 4294967296 := by rw [hC]; exact PM.crc_lt _
    have hheld : ∀ W : World, Below w.heap.size w W → PM.BS W (.slice (some ⟨b, off + 6, none⟩) N (cap - 6)) ((l.drop 6).take N) := by
      intro W hW
      obtain ⟨hL, _, _, hcell⟩ := hF.out
      have hl : ((l.drop 6).take N).length = N := by simp; omega
      refine .inr (.inl ⟨b, off + 6, cap - 6, by rw [hl], by omega, by simp only [maxLen]; omega, fun i x hi => ?_⟩)
      have hi' : i < N := by have := (List.getElem?_eq_some_iff.1 hi).1; omega
      rw [List.getElem?_take_of_lt hi', List.getElem?_drop] at hi
      rw [Nat.add_assoc]
      exact PM.cellA hW (hcell _ _ hi)
    have hSum := Sum_any _ _ w.drew (hheld _ (Below.refl _ _).drew)
    rw [← hC] at hSum
    have hheldh := PM.hid hheld
    clear hC hfl2 hbad hheld hflh
    go_enter Try.func18, Try.ntmps18
    go_wp2_with fail
    go_region
    go_wp2_with fail
    refine hSum.mono ?_
    rintro e w3 ⟨rfl, rfl⟩
    clear hSum
    go_wp2_with fail
    refine (digits_bk _ _ _).mono ?_
    rintro e w4 ⟨s1, n1, rfl, bs1, bn1, hs1, hB4⟩
    have hC4 : Below w.heap.size w w4 := (Below.refl w.heap.size w).drew.trans hB4
    have hin := PM.hid (And.intro bs1 (And.intro bn1 hC4))
    have hsl := PM.hid (show w.heap.size ≤ s1 from hs1)
    clear bs1 bn1 hB4 hC4 hs1
    go_wp2
    go_loopw [44] (fun i wr => ∃ k : Nat, i = .int .i64 k ∧ k ≤ 4 ∧ PM.BK wr s1 #[.int .i64 ((4 - k : Nat) : Int)] 3 ∧ PM.BK wr n1 #[.int .u32 (C : Int)] 31 ∧ Below w.heap.size w wr ∧ ((l.drop 2).take 4).take k = (PM.be C 4).take k) (fun i _ => 4 - (intOf i).toNat)
    case atStart =>
      obtain ⟨q1, q2, q3⟩ := hin.out
      exact ⟨0, rfl, by omega, q1, q2, q3, rfl⟩
    case round =>
      obtain ⟨k, rfl, hk, r1, r2, r3, r4⟩ := hrel
      by_cases hlt : k < 4
      · have hd := digit_bk C (4 - k) hCl (by omega) (by omega) _ _ wr r1 r2
        obtain ⟨z, hz⟩ : ∃ z, l[2 + k]? = some z := ⟨l[2 + k]'(by have := hF.out.1; omega), List.getElem?_eq_getElem _⟩
        have d0 : wr.cell? ⟨b, off + 2 + k, none⟩ = some (.int .u8 (z.toNat : Int)) := by
          rw [Nat.add_assoc]
          exact PM.cellA r3 (hF.out.2.2.2 _ z hz)
        have hQ := PM.hid (And.intro r1 (And.intro r2 (And.intro r3 (And.intro r4 hz))))
        clear r1 r2 r3 r4 hz hin
        obtain ⟨y, hy⟩ : ∃ y : UInt8, y = UInt8.ofNat (C / 2 ^ (8 * (4 - k - 1))) := ⟨_, rfl⟩
        rw [← hy] at hd
        have hyh := PM.hid hy
        clear hy
        by_cases hzy : z = y
        · subst hzy
          go_wp2_with (go_at_call 19; refine hd.mono ?_; rintro e w5 ⟨rfl, hw5⟩; have hw5h := PM.hid hw5; clear hw5)
          obtain ⟨r1, r2, r3, r4, hz⟩ := hQ.out
          have hw5 := hw5h.out
          refine ⟨⟨k + 1, by go_num, by omega, ?_, ?_, ?_, ?_⟩, by simp only [intOf]; omega⟩
          · rw [hw5, show 4 - (k + 1) = 4 - k - 1 by omega]; exact r1.set 0 _
          · rw [hw5]; exact BK_set_other r2 (PM.BK.ne (by decide) r1 r2) _
          · rw [hw5]; exact r3.setCell (p := ⟨s1, 0, none⟩) hsl.out _
          · rw [PM.be_take _ _ _ hlt, ← r4, List.take_add_one, List.getElem?_take_of_lt hlt, List.getElem?_drop, hz, hyh.out, show 4 - 1 - k = 4 - k - 1 by omega]
            rfl
        · have hzz : ((z.toNat : Int) != (y.toNat : Int)) = true := by
            rw [bne_iff_ne]
            intro e
            exact hzy (UInt8.toNat_inj.1 (by omega))
          go_wp2_with (go_at_call 19; refine hd.mono ?_; rintro e w5 ⟨rfl, hw5⟩; have hw5h := PM.hid hw5; clear hw5)
          obtain ⟨r1, r2, r3, r4, hz⟩ := hQ.out
          have hw5 := hw5h.out
          have hB5 : Below w.heap.size w w5 := by rw [hw5]; exact r3.setCell (p := ⟨s1, 0, none⟩) hsl.out _
          have hno : ¬ (l.drop 2).take 4 = PM.be C 4 := by
            intro e
            have h1 : ((l.drop 2).take 4)[k]? = some z := by rw [List.getElem?_take_of_lt hlt, List.getElem?_drop]; exact hz
            have h2 : (PM.be C 4)[k]? = some y := by
              rw [hyh.out, show 4 - k - 1 = 4 - 1 - k by omega]
              simp [PM.be, hlt]
            rw [e, h2] at h1
            exact hzy (by simpa using h1.symm)
          go_ret
          exact ⟨_, rfl, by rw [hfl2h.out, if_neg hno]; exact PM.BS.nil _, hB5⟩
      · have hk4 : k = 4 := by omega
        subst hk4
        have hQ := PM.hid (And.intro r3 r4)
        clear r1 r2 r3 r4 hin
        go_wp2
        go_ret
        obtain ⟨r3, r4⟩ := hQ.out
        have hyes : (l.drop 2).take 4 = PM.be C 4 := by
          rw [List.take_take, Nat.min_self, List.take_of_length_le (l := PM.be C 4) (by rw [PM.be_length]; omega)] at r4
          exact r4
        exact ⟨_, rfl, by rw [hfl2h.out, if_pos hyes]; exact hheldh.out _ r3, r3⟩
theorem first_any (v : Value) (l : List UInt8) (w : World) (hv : PM.BS w v l) :
    Calls Try.prog 18 #[v] w fun e w' => ∃ o, e = .returned o ∧ PM.BS w' o (PM.firstL l) ∧ Below w.heap.size w w' := by
  by_cases h : l.length < 6
  · refine (first_short v l w hv h).mono ?_
    rintro e w' ⟨rfl, rfl⟩
    have : PM.firstL l = [] := if_pos h
    rw [this]
    exact ⟨_, rfl, PM.BS.nil _, Below.refl _ _⟩
  · rcases hv with ⟨rfl, rfl⟩ | ⟨b, off, cap, rfl, h1, h2, h3⟩ | ⟨x, cap, rfl, rfl, _⟩
    · simp at h
    · exact first_long b off cap l w (by omega) h1 h2 h3
    · simp at h
end Go.Proofs.Ytpilgbiedbhpeaa
