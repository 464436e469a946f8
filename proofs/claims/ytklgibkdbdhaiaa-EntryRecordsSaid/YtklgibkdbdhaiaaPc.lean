/-
  CONTRACTS OF package pack: numbers.
-/
import Derived.Test.YtklgibkdbdhaiaaVc
import Derived.Test.YtklgibkdbdhaiaaBk
import Derived.Test.YtklgibkdbdhaiaaPp
import Derived.Lib.Hide
import Derived.Deep.DeepMust
import Derived.Deep.RegionHeld3
namespace Go.Proofs.Ytklgibkdbdhaiaa
open Go.RowKit
set_option linter.unusedVariables false

theorem bty : PM.ByteTy Try.prog 34 5 := by
  have h : (Try.prog.info? 5).map (fun i => (i.zero, i.size, i.bytes)) = some (some (.int .u8 0), 1, 1) := by kernel_rfl
  obtain ⟨i, hi, hz, hs, hb⟩ := info_parts h
  exact ⟨Try.underlying34, Try.underlying5, i, _, hi, hz, hs, hb, rfl⟩

theorem width_any (n : Nat) (hn : n < 2 ^ 64) (w : World) :
    Calls Try.prog 40 #[.int .u64 n] w fun e w' => e = .returned (.int .i64 (PM.wid n)) ∧ w = w' := by
  have hw := PM.wid_le n hn
  go_enter Try.func40, Try.ntmps40
  go_wp2
  go_loop [0, 3] (fun m s => ∃ k j : Nat, k < 18446744073709551616 ∧ j ≤ 8 ∧ m = .int .u64 k ∧ s = .int .i64 j ∧ j + PM.wid k = PM.wid n) (fun m _ => (intOf m).toNat)
  case atStart => exact ⟨n, 0, by omega, by omega, rfl, rfl, by omega⟩
  case round =>
    obtain ⟨k, j, hk, hj, rfl, rfl, he⟩ := hrel
    have He := Lib.hid he
    clear he
    by_cases h0 : 0 < k
    · have Hs := Lib.hid (PM.wid_step k h0 (by omega))
      go_wp2
      go_round
      case rel => exact ⟨k / 256, j + 1, by omega, by have := He.out; have := Hs.out; omega, by go_num, by go_num, by have := He.out; have := Hs.out; omega⟩
      case measure => simp [intOf]; omega
    · obtain rfl : k = 0 := by omega
      go_wp2
      go_ret
      have := He.out
      rw [PM.wid_zero] at this
      exact ⟨PM.ret_int (by omega), rfl⟩
theorem room_any (v : Value) (l : List UInt8) (m : Nat) (w : World) (hv : PM.BS w v l) (hl : l.length + m ≤ 140737488355328) :
    Calls Try.prog 41 #[v, .int .i64 m] w (PM.RetB 5 w.heap.size w l) := by
  obtain ⟨a, cap, rfl⟩ := hv.len
  have hm : ((l.length : Int) + (m : Int)) = ((l.length + m : Nat) : Int) := by omega
  have Hm := Lib.hid hm
  clear hm
  go_enter Try.func41, Try.ntmps41
  go_wp2_with (first | (at_make; refine PM.wpList_mk0 bty w.heap.size rfl _ _ rfl .i64 .i64 _ (l.length + m) rfl rfl Hm.out hl (Nat.le_refl _) ?_; intro v1 w1 hown hB1 _; have hs1 := hv.keep hB1) | (at_builtin; refine PM.wpList_app bty w.heap.size rfl _ _ rfl _ _ [] l rfl rfl hown hs1 ?_ hB1.size ?_; (simp; omega); intro v2 w2 hown2 hB2 _; replace hB2 := hB1.trans hB2))
  go_ret
  exact ⟨v2, rfl, by simpa using hown2, hB2⟩
theorem number_any (v : Value) (l : List UInt8) (n : Nat) (hn : n < 2 ^ 64) (w : World) (hv : PM.BS w v l) (hl : l.length ≤ 70368744177664) :
    Calls Try.prog 22 #[v, .int .u64 n] w (PM.RetB 5 w.heap.size w (l ++ PM.numB n)) := by
  have hw := PM.wid_le n hn
  obtain ⟨a, cap, rfl⟩ := hv.len
  have hm : ((1 : Int) + (PM.wid n : Int)) = ((1 + PM.wid n : Nat) : Int) := by omega
  have Hm := Lib.hid hm
  clear hm
  go_enter Try.func22, Try.ntmps22
  go_wp2_with fail
  refine (width_any n hn _).mono ?_
  rintro e w' ⟨rfl, rfl⟩
  go_wp2_with fail
  rw [Hm.out]
  refine (room_any _ l (1 + PM.wid n) w hv (by omega)).mono ?_
  rintro e w1 ⟨v1, rfl, hown1, hB1⟩
  go_wp2_with (at_builtin; go_must (refine PM.wpList_app1 bty w.heap.size w1 rfl _ _ rfl _ l _ (UInt8.ofNat (PM.wid n)) rfl rfl rfl ?_ hown1 ?_ hB1.size ?_; (rw [PM.u8_nat]; omega); omega; intro v2 w2 hown2 hB2; replace hB2 := hB1.trans hB2))
  go_loopw [6, 7, 20] (fun s6 s7 s20 wr => ∃ k : Nat, k ≤ PM.wid n ∧ s20 = .int .i64 k ∧ PM.OW 5 w.heap.size wr s6 (l ++ [UInt8.ofNat (PM.wid n)] ++ (PM.be n (PM.wid n)).take k) ∧ Below w.heap.size w wr) (fun _ _ i _ => PM.wid n - (intOf i).toNat)
  case atStart => exact ⟨0, by omega, rfl, by simpa using hown2, hB2⟩
  case round =>
    obtain ⟨k, hk, rfl, hown3, hB3⟩ := hrel
    by_cases hlt : k < PM.wid n
    · go_wp2_with (at_builtin; refine PM.wpList_app1 bty w.heap.size wr rfl _ _ rfl _ (l ++ [UInt8.ofNat (PM.wid n)] ++ (PM.be n (PM.wid n)).take k) _ (UInt8.ofNat (n / 2 ^ (8 * (PM.wid n - 1 - k)))) rfl rfl rfl (PM.u8_shift _ _) hown3 (by simp [PM.be_length]; omega) hB3.size ?_; intro v4 w4 hown4 hB4; replace hB4 := hB3.trans hB4)
      go_roundw
      case rel => exact ⟨k + 1, by omega, by go_num, by rw [PM.be_take _ _ _ hlt, ← List.append_assoc]; exact hown4, hB4⟩
      case measure => simp [intOf]; omega
    · obtain rfl : k = PM.wid n := by omega
      go_wp2
      go_ret
      refine ⟨_, rfl, ?_, hB3⟩
      rw [List.take_of_length_le (by rw [PM.be_length]; omega)] at hown3
      simpa [PM.numB] using hown3
theorem number_c (v : Value) (l : List UInt8) (c : Int) (n : Nat) (hc : c = (n : Int)) (hn : n < 2 ^ 64) (w : World) (hv : PM.BS w v l) (hl : l.length ≤ 70368744177664) :
    Calls Try.prog 22 #[v, .int .u64 c] w (PM.RetB 5 w.heap.size w (l ++ PM.numB n)) := by
  subst hc
  exact number_any v l n hn w hv hl
theorem wrap_u64_eq (n : Int) : IntKind.u64.wrap n = ((PM.u64 n : Nat) : Int) := by
  rw [IntKind.wrap_u64]; unfold PM.u64; omega
theorem bytes_any (v bv : Value) (l m : List UInt8) (w : World) (hv : PM.BS w v l) (hb : PM.BS w bv m) (hl : l.length ≤ 35184372088832) (hm : m.length ≤ 35184372088832) :
    Calls Try.prog 25 #[v, bv] w (PM.RetB 5 w.heap.size w (l ++ PM.bytesB m)) := by
  have hw := PM.wid_le m.length (by omega)
  obtain ⟨a, cap, rfl⟩ := hv.len
  obtain ⟨a', cap', rfl⟩ := hb.len
  have Hm : Hid (((m.length : Int) + 1 + 8) = ((m.length + 9 : Nat) : Int)) := Lib.hid (by omega)
  go_enter Try.func25, Try.ntmps25
  go_wp2_with fail
  rw [Hm.out]
  refine (room_any _ l (m.length + 9) w hv (by omega)).mono ?_
  rintro e w1 ⟨v1, rfl, hown1, hB1⟩
  go_wp2_with fail
  refine (number_any v1 l m.length (by omega) w1 hown1.bs (by omega)).mono ?_
  rintro e w2 ⟨v2, rfl, hown2, hB2⟩
  replace hB2 := PM.chain hB1 hB2
  replace hown2 := hown2.mono hB1.size
  have hs2 := hb.keep hB2
  go_wp2_with (at_builtin; refine PM.wpList_app bty w.heap.size rfl _ _ rfl v2 _ _ m rfl rfl hown2 hs2 (by simp [PM.numB_length]; omega) hB2.size ?_; intro v3 w3 hown3 hB3 _; replace hB3 := hB2.trans hB3)
  go_ret
  exact ⟨v3, rfl, by simpa [PM.bytesB] using hown3, hB3⟩
theorem fold_any (n : Int) (h1 : -9223372036854775808 ≤ n) (h2 : n ≤ 9223372036854775807) (w : World) :
    Calls Try.prog 52 #[.int .i64 n] w fun e w' => e = .returned (.int .u64 (PM.foldZ n : Nat)) ∧ w = w' := by
  go_enter Try.func52, Try.ntmps52
  go_wp2
  all_goals (go_ret; refine ⟨PM.ret_int ?_, rfl⟩)
  · rename_i hneg
    simp only [IntKind.wrap_u64]
    unfold PM.foldZ
    rw [if_pos hneg]
    omega
  · rename_i hneg
    unfold PM.foldZ
    rw [if_neg (by omega)]
    omega
end Go.Proofs.Ytklgibkdbdhaiaa
