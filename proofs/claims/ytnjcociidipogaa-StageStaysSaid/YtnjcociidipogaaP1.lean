import Derived.Test.YtnjcociidipogaaVc
import Derived.Test.YtnjcociidipogaaG0
import Derived.Test.YtnjcociidipogaaP0
import Derived.Lib.Hide
import Derived.Deep.DeepMust
import Derived.Deep.RegionHeld3
import Derived.Test.YtnjcociidipogaaR0
/-
  CONTRACTS OF package pack: numbers.
-/
namespace Go.Proofs.Ytnjcociidipogaa
open Go.RowKit
set_option linter.unusedVariables false

theorem bty : PM.ByteTy Try.prog 46 5 := by
  have h : (Try.prog.info? 5).map (fun i => (i.zero, i.size, i.bytes)) = some (some (.int .u8 0), 1, 1) := by kernel_rfl
  obtain ⟨i, hi, hz, hs, hb⟩ := info_parts h
  exact ⟨Try.underlying46, Try.underlying5, i, _, hi, hz, hs, hb, rfl⟩

theorem width_any (n : Nat) (hn : n < 2 ^ 64) (w : World) :
    Calls Try.prog 56 #[.int .u64 n] w fun e w' => e = .returned (.int .i64 (PM.wid n)) ∧ w = w' := by
  have hw := PM.wid_le n hn
  go_enter Try.func56, Try.ntmps56
  go_wp2
  go_loop [0, 3] (fun m s => ∃ k j : Nat, k < 18446744073709551616 ∧ j ≤ 8 ∧ m = .int .u64 k ∧ s = .int .i64 j ∧ j + PM.wid k = PM.wid n) (fun m _ => (intOf m).toNat)
  case atStart => exact ⟨n, 0, by omega, by omega, rfl, rfl, by omega⟩
  case round =>
    obtain ⟨k, j, hk, hj, rfl, rfl, he⟩ := hrel
    have He := Lib.hid he
    clear he
    by_cases h0 : 0 < k
    · have Hs := Lib.hid (PM.wid_step k h0 (by omega))
      go_wp2
      go_round
      case rel => exact ⟨k / 256, j + 1, by omega, by have := He.out; have := Hs.out; omega, by go_num, by go_num, by have := He.out; have := Hs.out; omega⟩
      case measure => simp [intOf]; omega
    · obtain rfl : k = 0 := by omega
      go_wp2
      go_ret
      have := He.out
      rw [PM.wid_zero] at this
      exact ⟨PM.ret_int (by omega), rfl⟩
theorem room_any (v : Value) (l : List UInt8) (m : Nat) (w : World) (hv : PM.BS w v l) (hl : l.length + m ≤ 140737488355328) :
    Calls Try.prog 57 #[v, .int .i64 m] w (PM.RetB 5 w.heap.size w l) := by
  obtain ⟨a, cap, rfl⟩ := hv.len
  have hm : ((l.length : Int) + (m : Int)) = ((l.length + m : Nat) : Int) := by omega
  have Hm := Lib.hid hm
  clear hm
  go_enter Try.func57, Try.ntmps57
  go_wp2_with (first | (at_make; refine PM.wpList_mk0 bty w.heap.size rfl _ _ rfl .i64 .i64 _ (l.length + m) rfl rfl Hm.out hl (Nat.le_refl _) ?_; intro v1 w1 hown hB1 _; have hs1 := hv.keep hB1) | (at_builtin; refine PM.wpList_app bty w.heap.size rfl _ _ rfl _ _ [] l rfl rfl hown hs1 ?_ hB1.size ?_; (simp; omega); intro v2 w2 hown2 hB2 _; replace hB2 := hB1.trans hB2))
  go_ret
  exact ⟨v2, rfl, by simpa using hown2, hB2⟩
theorem number_any (v : Value) (l : List UInt8) (n : Nat) (hn : n < 2 ^ 64) (w : World) (hv : PM.BS w v l) (hl : l.length ≤ 70368744177664) :
    Calls Try.prog 32 #[v, .int .u64 n] w (PM.RetB 5 w.heap.size w (l ++ PM.numB n)) := by
  have hw := PM.wid_le n hn
  obtain ⟨a, cap, rfl⟩ := hv.len
  have hm : ((1 : Int) + (PM.wid n : Int)) = ((1 + PM.wid n : Nat) : Int) := by omega
  have Hm := Lib.hid hm
  clear hm
  go_enter Try.func32, Try.ntmps32
  go_wp2_with fail
  refine (width_any n hn _).mono ?_
  rintro e w' ⟨rfl, rfl⟩
  go_wp2_with fail
  rw [Hm.out]
  refine (room_any _ l (1 + PM.wid n) w hv (by omega)).mono ?_
  rintro e w1 ⟨v1, rfl, hown1, hB1⟩
  go_wp2_with (at_builtin; go_must (refine PM.wpList_app1 bty w.heap.size w1 rfl _ _ rfl _ l _ (UInt8.ofNat (PM.wid n)) rfl rfl rfl ?_ hown1 ?_ hB1.size ?_; (rw [PM.u8_nat]; omega); omega; intro v2 w2 hown2 hB2; replace hB2 := hB1.trans hB2))
  go_loopw [6, 7, 20] (fun s6 s7 s20 wr => ∃ k : Nat, k ≤ PM.wid n ∧ s20 = .int .i64 k ∧ PM.OW 5 w.heap.size wr s6 (l ++ [UInt8.ofNat (PM.wid n)] ++ (PM.be n (PM.wid n)).take k) ∧ Below w.heap.size w wr) (fun _ _ i _ => PM.wid n - (intOf i).toNat)
  case atStart => exact ⟨0, by omega, rfl, by simpa using hown2, hB2⟩
  case round =>
    obtain ⟨k, hk, rfl, hown3, hB3⟩ := hrel
    by_cases hlt : k < PM.wid n
    · go_wp2_with (at_builtin; refine PM.wpList_app1 bty w.heap.size wr rfl _ _ rfl _ (l ++ [UInt8.ofNat (PM.wid n)] ++ (PM.be n (PM.wid n)).take k) _ (UInt8.ofNat (n / 2 ^ (8 * (PM.wid n - 1 - k)))) rfl rfl rfl (PM.u8_shift _ _) hown3 (by simp [PM.be_length]; omega) hB3.size ?_; intro v4 w4 hown4 hB4; replace hB4 := hB3.trans hB4)
      go_roundw
      case rel => exact ⟨k + 1, by omega, by go_num, by rw [PM.be_take _ _ _ hlt, ← List.append_assoc]; exact hown4, hB4⟩
      case measure => simp [intOf]; omega
    · obtain rfl : k = PM.wid n := by omega
      go_wp2
      go_ret
      refine ⟨_, rfl, ?_, hB3⟩
      rw [List.take_of_length_le (by rw [PM.be_length]; omega)] at hown3
      simpa [PM.numB] using hown3
theorem number_c (v : Value) (l : List UInt8) (c : Int) (n : Nat) (hc : c = (n : Int)) (hn : n < 2 ^ 64) (w : World) (hv : PM.BS w v l) (hl : l.length ≤ 70368744177664) :
    Calls Try.prog 32 #[v, .int .u64 c] w (PM.RetB 5 w.heap.size w (l ++ PM.numB n)) := by
  subst hc
  exact number_any v l n hn w hv hl
theorem wrap_u64_eq (n : Int) : IntKind.u64.wrap n = ((PM.u64 n : Nat) : Int) := by
  rw [IntKind.wrap_u64]; unfold PM.u64; omega
theorem bytes_any (v bv : Value) (l m : List UInt8) (w : World) (hv : PM.BS w v l) (hb : PM.BS w bv m) (hl : l.length ≤ 35184372088832) (hm : m.length ≤ 35184372088832) :
    Calls Try.prog 35 #[v, bv] w (PM.RetB 5 w.heap.size w (l ++ PM.bytesB m)) := by
  have hw := PM.wid_le m.length (by omega)
  obtain ⟨a, cap, rfl⟩ := hv.len
  obtain ⟨a', cap', rfl⟩ := hb.len
  have Hm : Hid (((m.length : Int) + 1 + 8) = ((m.length + 9 : Nat) : Int)) := Lib.hid (by omega)
  go_enter Try.func35, Try.ntmps35
  go_wp2_with fail
  rw [Hm.out]
  refine (room_any _ l (m.length + 9) w hv (by omega)).mono ?_
  rintro e w1 ⟨v1, rfl, hown1, hB1⟩
  go_wp2_with fail
  refine (number_any v1 l m.length (by omega) w1 hown1.bs (by omega)).mono ?_
  rintro e w2 ⟨v2, rfl, hown2, hB2⟩
  replace hB2 := PM.chain hB1 hB2
  replace hown2 := hown2.mono hB1.size
  have hs2 := hb.keep hB2
  go_wp2_with (at_builtin; refine PM.wpList_app bty w.heap.size rfl _ _ rfl v2 _ _ m rfl rfl hown2 hs2 (by simp [PM.numB_length]; omega) hB2.size ?_; intro v3 w3 hown3 hB3 _; replace hB3 := hB2.trans hB3)
  go_ret
  exact ⟨v3, rfl, by simpa [PM.bytesB] using hown3, hB3⟩
theorem fold_any (n : Int) (h1 : -9223372036854775808 ≤ n) (h2 : n ≤ 9223372036854775807) (w : World) :
    Calls Try.prog 70 #[.int .i64 n] w fun e w' => e = .returned (.int .u64 (PM.foldZ n : Nat)) ∧ w = w' := by
  go_enter Try.func70, Try.ntmps70
  go_wp2
  all_goals (go_ret; refine ⟨PM.ret_int ?_, rfl⟩)
  · rename_i hneg
    simp only [IntKind.wrap_u64]
    unfold PM.foldZ
    rw [if_pos hneg]
    omega
  · rename_i hneg
    unfold PM.foldZ
    rw [if_neg (by omega)]
    omega
end Go.Proofs.Ytnjcociidipogaa

/-
  CONTRACT OF pack.Value.
-/
namespace Go.Proofs.Ytnjcociidipogaa
open Go.RowKit
set_option linter.unusedVariables false
theorem value_any (v : Value) (l : List UInt8) (k n : Int) (s : ByteArray) (w : World) (hv : PM.BS w v l) (hl : l.length ≤ 17592186044416) (hs : s.size ≤ 17592186044416)
    (hk1 : -9223372036854775808 ≤ k) (hk2 : k ≤ 9223372036854775807) (h1 : -9223372036854775808 ≤ n) (h2 : n ≤ 9223372036854775807) :
    Calls Try.prog 60 #[v, .agg #[.int .i64 k, .int .i64 n, .string s]] w (PM.RetB 5 w.heap.size w (l ++ PM.valB k n s.data.toList)) := by
  have hs' : s.size ≤ 140737488355328 := by omega
  have hwk := PM.wid_le _ (PM.u64_lt k)
  have hwn := PM.wid_le _ (PM.u64_lt n)
  have hwf := PM.wid_le _ (PM.foldZ_lt n h1 h2)
  by_cases hk : k = 1
  · subst hk
    go_enter Try.func60, Try.ntmps60
    go_wp2_with fail
    refine (fold_any n h1 h2 _).mono ?_
    rintro e w1 ⟨rfl, rfl⟩
    go_wp2_with fail
    obtain ⟨wa, hwa⟩ : ∃ x, x = w.alloc (.cells #[.int .i64 1, .int .i64 n, .string s] 61) := ⟨_, rfl⟩
    have hBa : Below w.heap.size w wa := by rw [hwa]; go_grown
    have B0 : PM.Blk wa w.heap.size #[.int .i64 1, .int .i64 n, .string s] := by rw [hwa]; exact PM.Blk.new _ _ _ _
    rw [← hwa]
    clear hwa
    refine PM.wp_region_st [some 15, some 16, some 17, some 18, some 19, some 20, some 21, some 22, some 23, some 24, some 25, some 4] [fun x _ => x = v, fun x _ => x = .pointer (some ⟨w.heap.size, 0, none⟩), fun x _ => x = .int .i64 1, fun x _ => x = .int .u64 (PM.u64 1 : Nat), fun x w' => PM.BS w' x (l ++ PM.numB (PM.u64 1)), fun x _ => x = .int .u64 ((PM.foldZ n) : Nat), fun x w' => PM.BS w' x (l ++ (PM.numB (PM.u64 1) ++ PM.numB (PM.foldZ n))), fun x _ => x = .pointer (some ⟨w.heap.size, 2, none⟩), fun x _ => x = .string s, fun x w' => PM.BS w' x s.data.toList, fun x w' => PM.OW 5 w.heap.size w' x (l ++ PM.valB 1 n s.data.toList), fun x w' => PM.OW 5 w.heap.size w' x (l ++ PM.valB 1 n s.data.toList)] (by kernel_rfl) (by kernel_rfl) (by kernel_rfl) ?_ ?_ ?_
    · simp only [List.forall_mem_cons]
      refine ⟨?_, ?_, ?_, ?_, ?_, ?_, ?_, ?_, ?_, ?_, ?_, ?_, by simp⟩
      all_goals (intro x W W' h hb; first | exact h | exact PM.BS.keep hb h | exact PM.OW.keep hb h)
    · have c0 : wa.cell? ⟨w.heap.size, 0, none⟩ = some (.int .i64 1) := B0.cell 0
      have c2 : wa.cell? ⟨w.heap.size, 2, none⟩ = some (.string s) := B0.cell 2
      have kc := fun (W : World) => PM.run_conv bty Try.underlying9 W s
      refine ⟨?_, ?_, ?_, ?_, ?_, ?_, ?_, ?_, ?_, ?_, ?_, ?_, trivial⟩
      all_goals
        intro a W hB hF hd
        have k0 := hF 0 rfl
        have k3 := hF 3 rfl
        have k5 := hF 5 rfl
        have c0' := PM.cellB hB c0
        have c2' := PM.cellB hB c2
        clear hF
        simp [PM.depsL, PM.spec, PM.sl, Region.binds] at hd k0 k3 k5
        simp only [PM.wantL, PM.spec]
        go_simp
      all_goals try exact Below.refl _ _
      · exact ⟨Below.refl _ _, by rw [wrap_u64_eq]⟩
      · refine (number_c v l _ (PM.u64 1) rfl (PM.u64_lt _) W (hv.keep (PM.chain hBa hB)) (by omega)).mono ?_
        rintro e w' ⟨v', rfl, ho, hb⟩
        exact ⟨hb, v', rfl, ho.bs⟩
      · refine (number_c _ _ _ (PM.foldZ n) rfl (PM.foldZ_lt n h1 h2) W hd.1 (by simp [PM.numB_length]; omega)).mono ?_
        rintro e w' ⟨v', rfl, ho, hb⟩
        exact ⟨hb, v', rfl, by have := ho.bs; simpa using this⟩
      · exact ⟨PM.convW_below _ _ _, _, rfl, PM.convW_bs _ _ _ hs'⟩
      · refine (bytes_any _ _ _ _ W hd.1 hd.2.1 (by simp [PM.numB_length]; omega) (by rw [← PM.size_len]; omega)).mono ?_
        rintro e w' ⟨v', rfl, ho, hb⟩
        exact ⟨hb, v', rfl, by have := ho.mono (PM.chain hBa hB).size; simpa [PM.valB] using this⟩
      · exact ⟨Below.refl _ _, _, rfl, hd.1⟩
    · intro G W hB hF hS
      simp [PM.allSp, PM.spec] at hS
      obtain ⟨_, _, _, _, _, _, _, _, _, _, _, ho⟩ := hS
      rw [show ((List.range (Array.size _)).map G).toArray = #[G 0, G 1, G 2, G 3, G 4, G 5, G 6, G 7, G 8, G 9, G 10, G 11, G 12, G 13, G 14, G 15, G 16, G 17, G 18, G 19, G 20, G 21, G 22, G 23, G 24, G 25] from rfl]
      clear hF
      go_wp2
      go_ret
      exact ⟨_, rfl, ho, PM.chain hBa hB⟩
  · have hk' : (k == 1) = false := by simpa using hk
    go_enter Try.func60, Try.ntmps60
    go_wp2_with fail
    obtain ⟨wa, hwa⟩ : ∃ x, x = w.alloc (.cells #[.int .i64 k, .int .i64 n, .string s] 61) := ⟨_, rfl⟩
    have hBa : Below w.heap.size w wa := by rw [hwa]; go_grown
    have B0 : PM.Blk wa w.heap.size #[.int .i64 k, .int .i64 n, .string s] := by rw [hwa]; exact PM.Blk.new _ _ _ _
    rw [← hwa]
    clear hwa
    refine PM.wp_region_st [some 15, some 16, some 17, some 18, some 19, some 20, some 21, some 22, some 23, some 24, some 25, some 4] [fun x _ => x = v, fun x _ => x = .pointer (some ⟨w.heap.size, 0, none⟩), fun x _ => x = .int .i64 k, fun x _ => x = .int .u64 (PM.u64 k : Nat), fun x w' => PM.BS w' x (l ++ PM.numB (PM.u64 k)), fun x _ => x = .int .u64 ((PM.u64 n) : Nat), fun x w' => PM.BS w' x (l ++ (PM.numB (PM.u64 k) ++ PM.numB (PM.u64 n))), fun x _ => x = .pointer (some ⟨w.heap.size, 2, none⟩), fun x _ => x = .string s, fun x w' => PM.BS w' x s.data.toList, fun x w' => PM.OW 5 w.heap.size w' x (l ++ PM.valB k n s.data.toList), fun x w' => PM.OW 5 w.heap.size w' x (l ++ PM.valB k n s.data.toList)] (by kernel_rfl) (by kernel_rfl) (by kernel_rfl) ?_ ?_ ?_
    · simp only [List.forall_mem_cons]
      refine ⟨?_, ?_, ?_, ?_, ?_, ?_, ?_, ?_, ?_, ?_, ?_, ?_, by simp⟩
      all_goals (intro x W W' h hb; first | exact h | exact PM.BS.keep hb h | exact PM.OW.keep hb h)
    · have c0 : wa.cell? ⟨w.heap.size, 0, none⟩ = some (.int .i64 k) := B0.cell 0
      have c2 : wa.cell? ⟨w.heap.size, 2, none⟩ = some (.string s) := B0.cell 2
      have kc := fun (W : World) => PM.run_conv bty Try.underlying9 W s
      refine ⟨?_, ?_, ?_, ?_, ?_, ?_, ?_, ?_, ?_, ?_, ?_, ?_, trivial⟩
      all_goals
        intro a W hB hF hd
        have k0 := hF 0 rfl
        have k3 := hF 3 rfl
        have k5 := hF 5 rfl
        have c0' := PM.cellB hB c0
        have c2' := PM.cellB hB c2
        clear hF
        simp [PM.depsL, PM.spec, PM.sl, Region.binds] at hd k0 k3 k5
        simp only [PM.wantL, PM.spec]
        go_simp
      all_goals try exact Below.refl _ _
      · exact ⟨Below.refl _ _, by rw [wrap_u64_eq]⟩
      · refine (number_c v l _ (PM.u64 k) rfl (PM.u64_lt _) W (hv.keep (PM.chain hBa hB)) (by omega)).mono ?_
        rintro e w' ⟨v', rfl, ho, hb⟩
        exact ⟨hb, v', rfl, ho.bs⟩
      · exact ⟨Below.refl _ _, by rw [wrap_u64_eq]⟩
      · refine (number_c _ _ _ (PM.u64 n) rfl (PM.u64_lt n) W hd.1 (by simp [PM.numB_length]; omega)).mono ?_
        rintro e w' ⟨v', rfl, ho, hb⟩
        exact ⟨hb, v', rfl, by have := ho.bs; simpa using this⟩
      · exact ⟨PM.convW_below _ _ _, _, rfl, PM.convW_bs _ _ _ hs'⟩
      · refine (bytes_any _ _ _ _ W hd.1 hd.2.1 (by simp [PM.numB_length]; omega) (by rw [← PM.size_len]; omega)).mono ?_
        rintro e w' ⟨v', rfl, ho, hb⟩
        exact ⟨hb, v', rfl, by have := ho.mono (PM.chain hBa hB).size; simpa [PM.valB, hk] using this⟩
      · exact ⟨Below.refl _ _, _, rfl, hd.1⟩
    · intro G W hB hF hS
      simp [PM.allSp, PM.spec] at hS
      obtain ⟨_, _, _, _, _, _, _, _, _, _, _, ho⟩ := hS
      rw [show ((List.range (Array.size _)).map G).toArray = #[G 0, G 1, G 2, G 3, G 4, G 5, G 6, G 7, G 8, G 9, G 10, G 11, G 12, G 13, G 14, G 15, G 16, G 17, G 18, G 19, G 20, G 21, G 22, G 23, G 24, G 25] from rfl]
      clear hF
      go_wp2
      go_ret
      exact ⟨_, rfl, ho, PM.chain hBa hB⟩
end Go.Proofs.Ytnjcociidipogaa

/-
  CONTRACTS OF package pack: readers.
-/
namespace Go.Proofs.Ytnjcociidipogaa
open Go.RowKit
set_option linter.unusedVariables false

def RetR (T : TypeId) (W : World) (l : List UInt8) (e : Ending) (w' : World) : Prop := ∃ b, e = .returned (.pointer (some ⟨b, 0, none⟩)) ∧ W.heap.size ≤ b ∧ PM.RD T w' b l false ∧ Below W.heap.size W w'
end Go.Proofs.Ytnjcociidipogaa

/-
  CONTRACTS OF package pack: a reader's bytes.
-/
namespace Go.Proofs.Ytnjcociidipogaa
open Go.RowKit
set_option linter.unusedVariables false
def RetRB (T E : TypeId) (W : World) (b : Nat) (m l : List UInt8) (wr : Bool) (e : Ending) (w' : World) : Prop :=
  ∃ v, e = .returned v ∧ PM.OW E W.heap.size w' v m ∧ PM.RD T w' b l wr ∧ PM.Bx b W w'
end Go.Proofs.Ytnjcociidipogaa

/-
  CONTRACTS OF package pack: a reader's value, and what it tells of itself.
-/
namespace Go.Proofs.Ytnjcociidipogaa
open Go.RowKit
set_option linter.unusedVariables false
end Go.Proofs.Ytnjcociidipogaa

/-
  CONTRACTS OF package pack: a reader's value.
-/
namespace Go.Proofs.Ytnjcociidipogaa
open Go.RowKit
set_option linter.unusedVariables false
theorem wrap64_toI (n : Nat) (hn : n < 2 ^ 64) : wrap64 (n : Int) = PM.toI n := by
  unfold wrap64 PM.toI; split <;> omega
theorem wrap_toI (n : Nat) (hn : n < 2 ^ 64) : IntKind.i64.wrap (n : Int) = PM.toI n := by
  rw [IntKind.wrap_i64]; unfold PM.toI; split <;> omega
def RetRV (T : TypeId) (W : World) (b : Nat) (k n : Int) (s l : List UInt8) (wr : Bool) (e : Ending) (w' : World) : Prop :=
  e = .returned (.agg #[.int .i64 k, .int .i64 n, .string ⟨s.toArray⟩]) ∧ PM.RD T w' b l wr ∧ PM.Bx b W w'
end Go.Proofs.Ytnjcociidipogaa
