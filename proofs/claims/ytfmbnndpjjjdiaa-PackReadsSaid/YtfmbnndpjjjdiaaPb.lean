/-
  THE WALK OF LAYER 2's STATEMENT ON WHAT IS READ.
-/
import Derived.Test.YtfmbnndpjjjdiaaPs
import Derived.Test.YtfmbnndpjjjdiaaPz
namespace Go.Proofs.Ytfmbnndpjjjdiaa
open Go.RowKit
set_option linter.unusedVariables false
set_option maxRecDepth 100000 in
set_option maxHeartbeats 8000000 in
theorem packReads_walk (v0 : Value) (lb : List UInt8) (vs : Value) (n : Nat) (w : World) (hv : PM.BS w v0 lb) (hs : PM.AS w vs n) :
    Calls Try.prog 10 #[v0, vs] w fun e w' => e = .returned (.bool true) ∧ Below w.heap.size w w' := by
  obtain ⟨ad, cap, rfl, hcap, hmax, hel⟩ := hs
  unfold maxLen at hmax
  have HEL := Lib.hid hel
  clear hel
  obtain ⟨a0, cap0, hv0⟩ := hv.len
  go_enter Try.func10, Try.ntmps10
  go_wp2_with fail
  refine (awake2 _).mono ?_
  rintro e w1 ⟨rfl, hB1⟩
  by_cases hbig : 500 < lb.length
  · have hb' : (500 : Int) < (lb.length : Int) := by omega
    subst hv0
    go_wp2
    go_ret
    exact ⟨rfl, hB1⟩
  have hle : ¬ ((500 : Int) < (lb.length : Int)) := by omega
  have hv1 := hv.keep hB1
  subst hv0
  go_wp2_with fail
  refine (new_any _ lb _ hv1 (by omega)).mono ?_
  rintro e w2 ⟨b, rfl, hb, R1, hB2⟩
  have hbw : w.heap.size ≤ b := Nat.le_trans hB1.size hb
  have hvb := hv1.keep hB2
  replace hB2 := PM.chain hB1 hB2
  clear hv1 hB1
  go_wp2_with fail
  go_loopw [7, 8, 9, 10, 11] (fun s7 s8 s9 _ _ wr' => ∃ (i : Nat) (l m : List UInt8) (wr : Bool), i ≤ n ∧ s9 = .int .i64 i ∧ s8 = .bool wr ∧ PM.BS wr' s7 m ∧ (wr = false → m = l) ∧ l.length ≤ 500 ∧ m.length ≤ 500 ∧ PM.RD 71 wr' b l wr ∧ Below w.heap.size w wr') (fun _ _ s9 _ _ _ => n - (intOf s9).toNat)
  case atStart => exact ⟨0, lb, lb, false, by omega, rfl, rfl, hvb, fun _ => rfl, by omega, by omega, R1, hB2⟩
  case round =>
    obtain ⟨i, l, m, wr, hi, rfl, rfl, hv1, hwm, hl5, hm5, R, hB⟩ := hrel
    clear R1 hB2 hvb
    by_cases h1 : i < n
    case neg =>
      obtain rfl : i = n := by omega
      go_wp2_with fail
      go_ret
      exact ⟨rfl, hB⟩
    by_cases h2 : i < 30
    case neg =>
      have h2' : ¬ ((i : Int) < 30) := by omega
      go_wp2_with fail
      go_ret
      exact ⟨rfl, hB⟩
    obtain ⟨bb, off, rfl, hce⟩ := HEL.out (by omega)
    obtain ⟨k, most, e0, e1, hk, hmw⟩ := hce i h1
    obtain ⟨k1, k2⟩ := Go.bounds_i64 hk
    obtain ⟨m1, m2⟩ := Go.bounds_i64 hmw
    clear hce hk hmw
    have d0 := PM.cellB hB e0
    have d1 := PM.cellB hB e1
    go_wp2_with fail
    by_cases hk3 : k = 1 ∨ k = 2 ∨ k = 3
    · have hkl : 1 ≤ k := by omega
      have hku : k ≤ 3 := by omega
      refine (readU_any b l m wr _ k most _ R hv1 (by omega) (by omega) hwm m1 m2 hk3).mono ?_
      rintro e w3 ⟨K, rfl, R3, hx3, hKw, hKm⟩
      have hB3 := hx3.below hB hbw hB.size
      have hv2 := hv1.keepr hx3 R
      replace d0 := PM.cellB hB3 e0
      replace d1 := PM.cellB hB3 e1
      clear R hB hv1 hx3 hwm
      by_cases hK : K = 0
      · subst hK
        replace R3 : PM.RD 71 w3 b [] true := by simpa using R3
        have hdd : Hid (false = (!true && decide (([] : List UInt8) = []))) := Lib.hid (by decide)
        obtain ⟨a8, c8, hsl, hv3⟩ := PM.run_rest bty hv2 (Nat.zero_le m.length)
        rw [show ((0 : Nat) : Int) = 0 from rfl] at hsl
        rw [Nat.sub_zero] at hsl hv3
        rw [List.drop_zero] at hv3
        cases wr
        all_goals
          go_wp2_with fail
          refine (wrong_any b _ _ _ R3).mono ?_
          rintro e w4 ⟨rfl, rfl⟩
          go_wp2_with fail
          refine (done_c b _ _ false _ R3 hdd.out).mono ?_
          rintro e w5 ⟨rfl, rfl⟩
          go_wp2_with fail
          go_roundw
          case rel => exact ⟨i + 1, [], m, true, by omega, by go_num, rfl, hv3, by simp, by simp, hm5, R3, hB3⟩
          case measure => simp [intOf]; omega
      · have hwf := hKw hK
        subst hwf
        replace R3 : PM.RD 71 w3 b (m.drop K) false := by simpa [hK] using R3
        have hKn : ((K : Int) == 0) = false := by rw [beq_eq_false_iff_ne]; omega
        obtain ⟨a8, c8, hsl, hv3⟩ := PM.run_rest bty hv2 hKm
        obtain ⟨d, hd⟩ : ∃ d, d = decide (m.drop K = []) := ⟨_, rfl⟩
        have hdd : Hid (d = (!false && decide (m.drop K = []))) := Lib.hid (by rw [hd]; rfl)
        obtain ⟨M, hM⟩ : ∃ M, M = m.length - K := ⟨_, rfl⟩
        rw [← hM] at hsl hv3
        have hz : ((M : Int) == 0) = d := by
          rw [hd, Bool.eq_iff_iff, beq_iff_eq, decide_eq_true_eq, List.drop_eq_nil_iff]; omega
        clear hd hM
        go_wp2_with fail
        refine (wrong_any b _ _ _ R3).mono ?_
        rintro e w4 ⟨rfl, rfl⟩
        go_wp2_with fail
        refine (done_c b _ _ d _ R3 hdd.out).mono ?_
        rintro e w5 ⟨rfl, rfl⟩
        go_wp2_with fail
        go_roundw
        case rel => exact ⟨i + 1, (m.drop K), (m.drop K), false, by omega, by go_num, rfl, hv3, fun _ => rfl, by rw [List.length_drop]; omega, by rw [List.length_drop]; omega, R3, hB3⟩
        case measure => simp [intOf]; omega
    · have hno : ¬ (1 ≤ k) ∨ (1 ≤ k ∧ ¬ (k ≤ 3)) := by omega
      refine (read4_any b _ wr k most _ (by omega) (by omega) (by omega)).mono ?_
      rintro e w3 ⟨rfl, hB3⟩
      have R3 := R.keep hB3
      have hv2 := hv1.keep hB3
      replace hB3 := PM.chain hB hB3
      replace d0 := PM.cellB hB3 e0
      replace d1 := PM.cellB hB3 e1
      obtain ⟨d, hd⟩ : ∃ d, d = (!wr && decide (l = [])) := ⟨_, rfl⟩
      have hdd : Hid (d = (!wr && decide (l = []))) := Lib.hid hd
      obtain ⟨a7, c7, rfl⟩ := hv2.len
      have hz : wr = false → ((m.length : Int) == 0) = d := by
        intro e
        rw [hd, e, ← hwm e, Bool.eq_iff_iff, beq_iff_eq]
        simp
      have hz2 : wr = true → d = false := by intro e; rw [hd, e]; rfl
      clear hd
      have hwmh := Lib.hid hwm
      clear hwm hB R hv1 e0 e1
      rcases hno with hno | ⟨hno1, hno2⟩
      all_goals
        cases wr
        · have hz' := hz rfl
          go_wp2_with fail
          refine (wrong_any b _ _ _ R3).mono ?_
          rintro e w4 ⟨rfl, rfl⟩
          go_wp2_with fail
          refine (done_c b _ _ d _ R3 hdd.out).mono ?_
          rintro e w5 ⟨rfl, rfl⟩
          go_wp2_with fail
          go_roundw
          case rel => exact ⟨i + 1, l, m, false, by omega, by go_num, rfl, hv2, (by intro h; first | exact hwmh.out h | exact hwmh.out trivial | cases h), hl5, hm5, R3, hB3⟩
          case measure => simp [intOf]; omega
        · have hz' := hz2 rfl
          subst hz'
          go_wp2_with fail
          refine (wrong_any b _ _ _ R3).mono ?_
          rintro e w4 ⟨rfl, rfl⟩
          go_wp2_with fail
          refine (done_c b _ _ false _ R3 hdd.out).mono ?_
          rintro e w5 ⟨rfl, rfl⟩
          go_wp2_with fail
          go_roundw
          case rel => exact ⟨i + 1, l, m, true, by omega, by go_num, rfl, hv2, (by intro h; first | exact hwmh.out h | exact hwmh.out trivial | cases h), hl5, hm5, R3, hB3⟩
          case measure => simp [intOf]; omega
end Go.Proofs.Ytfmbnndpjjjdiaa
