/-
  CONTRACTS OF package frame: Wrap.
-/
import Derived.Test.YtpilgbiedbhpeaaFd
namespace Go.Proofs.Ytpilgbiedbhpeaa
open Go.RowKit
set_option linter.unusedVariables false
theorem tU : 3 ≠ 5 := by decide
theorem tV : 31 ≠ 5 := by decide
theorem Wrap_bad (v : Value) (l : List UInt8) (w : World) (hv : PM.BS w v l) (h : l.length = 0 ∨ 4000 < l.length) :
    Calls Try.prog 10 #[v] w fun e w' => e = .returned (.tuple #[.slice none 0 0, .int .i64 30]) ∧ w' = w := by
  obtain ⟨a, c, rfl⟩ := hv.len
  clear hv
  obtain ⟨L, hL⟩ : ∃ L, L = l.length := ⟨_, rfl⟩
  rw [← hL] at h ⊢
  clear hL
  rcases h with rfl | h
  · go_enter Try.func10, Try.ntmps10
    go_wp2
    go_ret2
    exact ⟨rfl, rfl⟩
  · have h' : (4000 : Int) < (L : Int) := by omega
    have h0 : ((L : Int) == 0) = false := beq_eq_false_iff_ne.2 (by omega)
    go_enter Try.func10, Try.ntmps10
    go_wp2
    go_ret2
    exact ⟨rfl, rfl⟩
set_option maxHeartbeats 2000000 in
theorem Wrap_any (v : Value) (l : List UInt8) (w : World) (hv : PM.BS w v l) (h1 : 0 < l.length) (h2 : l.length ≤ 4000) :
    Calls Try.prog 10 #[v] w fun e w' => ∃ o, e = .returned (.tuple #[o, .int .i64 0]) ∧ PM.OW 5 w.heap.size w' o (PM.wrapL l) ∧ Below w.heap.size w w' := by
  obtain ⟨a, c, rfl⟩ := hv.len
  obtain ⟨L, hL⟩ : ∃ L, L = l.length := ⟨_, rfl⟩
  have hvh := PM.hid hv
  have hSum := fun w1 (hb : Below w.heap.size w w1) => Sum_any _ l w1 (hvh.out.keep hb)
  rw [← hL] at h1 h2 hSum ⊢
  have hLh := PM.hid hL
  clear hL hv
  have h0 : ((L : Int) == 0) = false := beq_eq_false_iff_ne.2 (by omega)
  have h3 : ¬ (4000 : Int) < (L : Int) := by omega
  have Hm : Hid ((6 + (L : Int)) = ((6 + L : Nat) : Int)) := PM.hid (by omega)
  have hcv : (L : Int) % 4294967296 = (L : Int) := Int.emod_eq_of_lt (by omega) (by omega)
  go_enter Try.func10, Try.ntmps10
  go_wp2_with (at_make; refine PM.wpList_mk0 bty w.heap.size rfl _ _ rfl .i64 .i64 _ (6 + L) rfl rfl Hm.out (by omega) (Nat.le_refl _) ?_; intro v1 w1 hown hB1 _)
  refine (digits_bk _ _ _).mono ?_
  rintro e w2 ⟨s1, n1, rfl, bs1, bn1, hs1, hB2⟩
  have hC2 := hB1.trans (hB2.mono hB1.size)
  have hS := hSum w2 hC2
  go_wp2_with fail
  refine hS.mono ?_
  rintro e w3 ⟨rfl, rfl⟩
  go_wp2_with fail
  refine (digits_bk _ _ _).mono ?_
  rintro e w4 ⟨s2, n2, rfl, bs2, bn2, hs2, hB4⟩
  have hC4 := hC2.trans (hB4.mono hC2.size)
  have hcl := PM.crc_lt l
  obtain ⟨C, hC⟩ : ∃ C, C = PM.crc l := ⟨_, rfl⟩
  have hCh := PM.hid hC
  rw [← hC] at bn2 hcl ⊢
  have hne : s1 ≠ s2 := by have := bs1.lt; omega
  have hin := PM.hid (And.intro (hown.keep (hB2.trans (hB4.mono hB2.size))) (And.intro (bs1.keep hB4) (And.intro (bn1.keep hB4) (And.intro bs2 (And.intro bn2 hC4)))))
  have hsl := PM.hid (And.intro (Nat.le_trans hC2.size hs2) (Nat.le_trans hB1.size hs1))
  clear hC hS hSum hB2 hB4 hC2 hC4 bs1 bn1 bs2 bn2 hown hB1 hs1 hs2
  go_wp2
  go_loopw [4, 26] (fun o i wr => ∃ k : Nat, i = .int .i64 k ∧ k ≤ 2 ∧ PM.OW 5 w.heap.size wr o ((PM.be L 2).take k) ∧ PM.BK wr s1 #[.int .i64 ((2 - k : Nat) : Int)] 3 ∧ PM.BK wr n1 #[.int .u32 (L : Int)] 31 ∧ PM.BK wr s2 #[.int .i64 4] 3 ∧ PM.BK wr n2 #[.int .u32 (C : Int)] 31 ∧ Below w.heap.size w wr) (fun _ i _ => 2 - (intOf i).toNat)
  case atStart =>
    obtain ⟨o1, q0, q1, q2, q3, b1⟩ := hin.out
    exact ⟨0, rfl, by omega, by simpa using o1, q0, q1, q2, q3, b1⟩
  case round =>
    obtain ⟨k, rfl, hk, o1, q0, q1, q2, q3, b1⟩ := hrel
    by_cases hlt : k < 2
    · have hd := digit_bk L (2 - k) (by omega) (by omega) (by omega) _ _ wr q0 q1
      have hQ := PM.hid (And.intro o1 (And.intro q0 (And.intro q1 (And.intro q2 (And.intro q3 b1)))))
      clear o1 q0 q1 q2 q3 b1 hin
      go_wp2_with fail
      refine hd.mono ?_
      rintro e w5 ⟨rfl, hw5⟩
      obtain ⟨o1, q0, q1, q2, q3, b1⟩ := hQ.out
      have o2 : PM.OW 5 w.heap.size w5 u4 ((PM.be L 2).take k) := by rw [hw5]; exact PM.OW.set tU q0 o1
      have r0 : PM.BK w5 s1 #[.int .i64 ((2 - (k + 1) : Nat) : Int)] 3 := by rw [hw5, show 2 - (k + 1) = 2 - k - 1 by omega]; exact q0.set 0 _
      have r1 : PM.BK w5 n1 #[.int .u32 (L : Int)] 31 := by rw [hw5]; exact BK_set_other q1 (PM.BK.ne (by decide) q0 q1) _
      have r2 : PM.BK w5 s2 #[.int .i64 4] 3 := by rw [hw5]; exact BK_set_other q2 hne.symm _
      have r3 : PM.BK w5 n2 #[.int .u32 (C : Int)] 31 := by rw [hw5]; exact BK_set_other q3 (PM.BK.ne (by decide) q0 q3) _
      have b2 : Below w.heap.size w w5 := by rw [hw5]; exact b1.setCell (p := ⟨s1, 0, none⟩) (by have := hsl.out; show w.heap.size ≤ s1; omega) _
      have hP := PM.hid (And.intro r0 (And.intro r1 (And.intro r2 (And.intro r3 b2))))
      have hBs := b2.size
      clear hd hQ hw5 o1 q0 q1 q2 q3 b1 r0 r1 r2 r3 b2
      go_wp2_with (at_builtin; refine PM.wpList_es1 (e := PM.bv) bte w.heap.size w5 rfl _ _ rfl _ _ (UInt8.ofNat (L / 2 ^ (8 * (2 - k - 1)))) _ rfl rfl rfl rfl rfl o2 ?_ ?_ hBs ?_)
      · simp only [List.length_take, PM.be_length]; omega
      · simp only [List.length_take, PM.be_length, maxLen]; omega
      intro v6 w6 t1 t2 t3 _
      have t1' : PM.OW 5 w.heap.size w6 v6 ((PM.be L 2).take (k + 1)) := by
        rw [PM.be_take _ _ _ hlt, show 2 - 1 - k = 2 - k - 1 by omega]
        exact t1
      obtain ⟨r0, r1, r2, r3, b2⟩ := hP.out
      have hE := PM.hid (And.intro t1 (And.intro (PM.BK.grown tU r0 o2 t3) (And.intro (PM.BK.grown tV r1 o2 t3) (And.intro (PM.BK.grown tU r2 o2 t3) (And.intro (PM.BK.grown tV r3 o2 t3) (b2.trans t2))))))
      have hE1 := PM.hid t1'
      obtain ⟨ya, yc, hy⟩ : ∃ ya yc, v6 = .slice ya (((PM.be L 2).take (k + 1)).length) yc := t1'.bs.len
      subst hy
      clear hP t1 t1' t2 t3 r0 r1 r2 r3 b2 o2 hBs
      go_wp2
      obtain ⟨o1, q0, q1, q2, q3, b1⟩ := hE.out
      exact ⟨⟨k + 1, by go_num, by omega, hE1.out, q0, q1, q2, q3, b1⟩, by simp only [intOf]; omega⟩
    · have hk2 : k = 2 := by omega
      subst hk2
      rw [show ((2 : Nat) : Int) = 2 from rfl]
      obtain ⟨ya, yc, hy⟩ : ∃ ya yc, u4 = .slice ya (((PM.be L 2).take 2).length) yc := o1.bs.len
      subst hy
      have hin := PM.hid (And.intro o1 (And.intro q2 (And.intro q3 b1)))
      clear o1 q0 q1 q2 q3 b1
      go_wp2
      go_loopw [4, 34] (fun o i wr => ∃ k : Nat, i = .int .i64 k ∧ k ≤ 4 ∧ PM.OW 5 w.heap.size wr o ((PM.be L 2).take 2 ++ (PM.be C 4).take k) ∧ PM.BK wr s2 #[.int .i64 ((4 - k : Nat) : Int)] 3 ∧ PM.BK wr n2 #[.int .u32 (C : Int)] 31 ∧ Below w.heap.size w wr) (fun _ i _ => 4 - (intOf i).toNat)
      case atStart =>
        obtain ⟨o1, q0, q1, b1⟩ := hin.out
        exact ⟨0, rfl, by omega, by simpa using o1, q0, q1, b1⟩
      case round =>
        obtain ⟨k, rfl, hk, o1, q0, q1, b1⟩ := hrel
        by_cases hlt : k < 4
        · have hd := digit_bk C (4 - k) (by omega) (by omega) (by omega) _ _ wr q0 q1
          have hQ := PM.hid (And.intro o1 (And.intro q0 (And.intro q1 b1)))
          clear o1 q0 q1 b1 hin
          go_wp2_with fail
          refine hd.mono ?_
          rintro e w5 ⟨rfl, hw5⟩
          obtain ⟨o1, q0, q1, b1⟩ := hQ.out
          have o2 : PM.OW 5 w.heap.size w5 u4 ((PM.be L 2).take 2 ++ (PM.be C 4).take k) := by rw [hw5]; exact PM.OW.set tU q0 o1
          have r0 : PM.BK w5 s2 #[.int .i64 ((4 - (k + 1) : Nat) : Int)] 3 := by rw [hw5, show 4 - (k + 1) = 4 - k - 1 by omega]; exact q0.set 0 _
          have r1 : PM.BK w5 n2 #[.int .u32 (C : Int)] 31 := by rw [hw5]; exact BK_set_other q1 (PM.BK.ne (by decide) q0 q1) _
          have b2 : Below w.heap.size w w5 := by rw [hw5]; exact b1.setCell (p := ⟨s2, 0, none⟩) (by have := hsl.out; show w.heap.size ≤ s2; omega) _
          have hP := PM.hid (And.intro r0 (And.intro r1 b2))
          have hBs := b2.size
          clear hd hQ hw5 o1 q0 q1 b1 r0 r1 b2
          go_wp2_with (at_builtin; refine PM.wpList_es1 (e := PM.bv) bte w.heap.size w5 rfl _ _ rfl _ _ (UInt8.ofNat (C / 2 ^ (8 * (4 - k - 1)))) _ rfl rfl rfl rfl rfl o2 ?_ ?_ hBs ?_)
          · simp only [List.length_append, List.length_take, PM.be_length]; omega
          · simp only [List.length_append, List.length_take, PM.be_length, maxLen]; omega
          intro v6 w6 t1 t2 t3 _
          have t1' : PM.OW 5 w.heap.size w6 v6 ((PM.be L 2).take 2 ++ (PM.be C 4).take (k + 1)) := by
            rw [PM.be_take _ _ _ hlt, show 4 - 1 - k = 4 - k - 1 by omega, ← List.append_assoc]
            exact t1
          obtain ⟨r0, r1, b2⟩ := hP.out
          have hE := PM.hid (And.intro t1 (And.intro (PM.BK.grown tU r0 o2 t3) (And.intro (PM.BK.grown tV r1 o2 t3) (b2.trans t2))))
          have hE1 := PM.hid t1'
          obtain ⟨ya, yc, hy⟩ : ∃ ya yc, v6 = .slice ya (((PM.be L 2).take 2 ++ (PM.be C 4).take (k + 1)).length) yc := t1'.bs.len
          subst hy
          clear hP t1 t1' t2 t3 r0 r1 b2 o2 hBs
          go_wp2
          obtain ⟨o1, q0, q1, b1⟩ := hE.out
          exact ⟨⟨k + 1, by go_num, by omega, hE1.out, q0, q1, b1⟩, by simp only [intOf]; omega⟩
        · have hk2 : k = 4 := by omega
          subst hk2
          rw [show ((4 : Nat) : Int) = 4 from rfl]
          have hBs := b1.size
          have o2 : PM.OW 5 w.heap.size wr u4 (PM.be L 2 ++ PM.be C 4) := by
            rw [List.take_of_length_le (by rw [PM.be_length]; omega), List.take_of_length_le (by rw [PM.be_length]; omega)] at o1; exact o1
          have hB := PM.hid b1
          have hsv : PM.BS wr (.slice a L c) l := by rw [hLh.out]; exact hvh.out.keep b1
          clear o1 q0 q1 b1
          go_wp2_with (at_builtin; refine PM.wpList_app bty w.heap.size rfl _ _ rfl _ _ _ l rfl rfl o2 hsv ?_ hBs ?_)
          · simp only [List.length_append, PM.be_length]; have := hLh.out; omega
          intro v6 w6 t1 t2 _
          have hE := PM.hid (And.intro t1 (hB.out.trans t2))
          obtain ⟨ya, yc, rfl⟩ := t1.bs.len
          clear t1 t2 hsv o2
          go_wp2
          go_ret2
          refine ⟨_, rfl, ?_, hE.out.2⟩
          have := hE.out.1
          rw [PM.wrapL, ← hLh.out, ← hCh.out]
          exact this
end Go.Proofs.Ytpilgbiedbhpeaa
