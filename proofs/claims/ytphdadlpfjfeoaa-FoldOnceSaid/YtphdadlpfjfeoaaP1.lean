import Derived.Test.YtphdadlpfjfeoaaVc
import Derived.Test.YtphdadlpfjfeoaaG0
import Derived.Test.YtphdadlpfjfeoaaP0
import Derived.Lib.Hide
import Derived.Deep.DeepMust
import Derived.Deep.RegionHeld3
import Derived.Test.YtphdadlpfjfeoaaR0
/-
  CONTRACTS OF package pack: numbers.
-/
namespace Go.Proofs.Ytphdadlpfjfeoaa
open Go.RowKit
set_option linter.unusedVariables false

theorem bty : PM.ByteTy Try.prog 54 5 := by
  have h : (Try.prog.info? 5).map (fun i => (i.zero, i.size, i.bytes)) = some (some (.int .u8 0), 1, 1) := by kernel_rfl
  obtain ⟨i, hi, hz, hs, hb⟩ := info_parts h
  exact ⟨Try.underlying54, Try.underlying5, i, _, hi, hz, hs, hb, rfl⟩

theorem width_any (n : Nat) (hn : n < 2 ^ 64) (w : World) :
    Calls Try.prog 61 #[.int .u64 n] w fun e w' => e = .returned (.int .i64 (PM.wid n)) ∧ w = w' := by
  have hw := PM.wid_le n hn
  go_enter Try.func61, Try.ntmps61
  go_wp2
  go_loop [0, 3] (fun m s => ∃ k j : Nat, k < 18446744073709551616 ∧ j ≤ 8 ∧ m = .int .u64 k ∧ s = .int .i64 j ∧ j + PM.wid k = PM.wid n) (fun m _ => (intOf m).toNat)
  case atStart => exact ⟨n, 0, by omega, by omega, rfl, rfl, by omega⟩
  case round =>
    obtain ⟨k, j, hk, hj, rfl, rfl, he⟩ := hrel
    have He := Lib.hid he
    clear he
    by_cases h0 : 0 < k
    · have Hs := Lib.hid (PM.wid_step k h0 (by omega))
      go_wp2
      go_round
      case rel => exact ⟨k / 256, j + 1, by omega, by have := He.out; have := Hs.out; omega, by go_num, by go_num, by have := He.out; have := Hs.out; omega⟩
      case measure => simp [intOf]; omega
    · obtain rfl : k = 0 := by omega
      go_wp2
      go_ret
      have := He.out
      rw [PM.wid_zero] at this
      exact ⟨PM.ret_int (by omega), rfl⟩
theorem room_any (v : Value) (l : List UInt8) (m : Nat) (w : World) (hv : PM.BS w v l) (hl : l.length + m ≤ 140737488355328) :
    Calls Try.prog 62 #[v, .int .i64 m] w (PM.RetB 5 w.heap.size w l) := by
  obtain ⟨a, cap, rfl⟩ := hv.len
  have hm : ((l.length : Int) + (m : Int)) = ((l.length + m : Nat) : Int) := by omega
  have Hm := Lib.hid hm
  clear hm
  go_enter Try.func62, Try.ntmps62
  go_wp2_with (first | (at_make; refine PM.wpList_mk0 bty w.heap.size rfl _ _ rfl .i64 .i64 _ (l.length + m) rfl rfl Hm.out hl (Nat.le_refl _) ?_; intro v1 w1 hown hB1 _; have hs1 := hv.keep hB1) | (at_builtin; refine PM.wpList_app bty w.heap.size rfl _ _ rfl _ _ [] l rfl rfl hown hs1 ?_ hB1.size ?_; (simp; omega); intro v2 w2 hown2 hB2 _; replace hB2 := hB1.trans hB2))
  go_ret
  exact ⟨v2, rfl, by simpa using hown2, hB2⟩
theorem number_any (v : Value) (l : List UInt8) (n : Nat) (hn : n < 2 ^ 64) (w : World) (hv : PM.BS w v l) (hl : l.length ≤ 70368744177664) :
    Calls Try.prog 29 #[v, .int .u64 n] w (PM.RetB 5 w.heap.size w (l ++ PM.numB n)) := by
  have hw := PM.wid_le n hn
  obtain ⟨a, cap, rfl⟩ := hv.len
  have hm : ((1 : Int) + (PM.wid n : Int)) = ((1 + PM.wid n : Nat) : Int) := by omega
  have Hm := Lib.hid hm
  clear hm
  go_enter Try.func29, Try.ntmps29
  go_wp2_with fail
  refine (width_any n hn _).mono ?_
  rintro e w' ⟨rfl, rfl⟩
  go_wp2_with fail
  rw [Hm.out]
  refine (room_any _ l (1 + PM.wid n) w hv (by omega)).mono ?_
  rintro e w1 ⟨v1, rfl, hown1, hB1⟩
  go_wp2_with (at_builtin; go_must (refine PM.wpList_app1 bty w.heap.size w1 rfl _ _ rfl _ l _ (UInt8.ofNat (PM.wid n)) rfl rfl rfl ?_ hown1 ?_ hB1.size ?_; (rw [PM.u8_nat]; omega); omega; intro v2 w2 hown2 hB2; replace hB2 := hB1.trans hB2))
  go_loopw [6, 7, 20] (fun s6 s7 s20 wr => ∃ k : Nat, k ≤ PM.wid n ∧ s20 = .int .i64 k ∧ PM.OW 5 w.heap.size wr s6 (l ++ [UInt8.ofNat (PM.wid n)] ++ (PM.be n (PM.wid n)).take k) ∧ Below w.heap.size w wr) (fun _ _ i _ => PM.wid n - (intOf i).toNat)
  case atStart => exact ⟨0, by omega, rfl, by simpa using hown2, hB2⟩
  case round =>
    obtain ⟨k, hk, rfl, hown3, hB3⟩ := hrel
    by_cases hlt : k < PM.wid n
    · go_wp2_with (at_builtin; refine PM.wpList_app1 bty w.heap.size wr rfl _ _ rfl _ (l ++ [UInt8.ofNat (PM.wid n)] ++ (PM.be n (PM.wid n)).take k) _ (UInt8.ofNat (n / 2 ^ (8 * (PM.wid n - 1 - k)))) rfl rfl rfl (PM.u8_shift _ _) hown3 (by simp [PM.be_length]; omega) hB3.size ?_; intro v4 w4 hown4 hB4; replace hB4 := hB3.trans hB4)
      go_roundw
      case rel => exact ⟨k + 1, by omega, by go_num, by rw [PM.be_take _ _ _ hlt, ← List.append_assoc]; exact hown4, hB4⟩
      case measure => simp [intOf]; omega
    · obtain rfl : k = PM.wid n := by omega
      go_wp2
      go_ret
      refine ⟨_, rfl, ?_, hB3⟩
      rw [List.take_of_length_le (by rw [PM.be_length]; omega)] at hown3
      simpa [PM.numB] using hown3
theorem number_c (v : Value) (l : List UInt8) (c : Int) (n : Nat) (hc : c = (n : Int)) (hn : n < 2 ^ 64) (w : World) (hv : PM.BS w v l) (hl : l.length ≤ 70368744177664) :
    Calls Try.prog 29 #[v, .int .u64 c] w (PM.RetB 5 w.heap.size w (l ++ PM.numB n)) := by
  subst hc
  exact number_any v l n hn w hv hl
theorem wrap_u64_eq (n : Int) : IntKind.u64.wrap n = ((PM.u64 n : Nat) : Int) := by
  rw [IntKind.wrap_u64]; unfold PM.u64; omega
theorem bytes_any (v bv : Value) (l m : List UInt8) (w : World) (hv : PM.BS w v l) (hb : PM.BS w bv m) (hl : l.length ≤ 35184372088832) (hm : m.length ≤ 35184372088832) :
    Calls Try.prog 31 #[v, bv] w (PM.RetB 5 w.heap.size w (l ++ PM.bytesB m)) := by
  have hw := PM.wid_le m.length (by omega)
  obtain ⟨a, cap, rfl⟩ := hv.len
  obtain ⟨a', cap', rfl⟩ := hb.len
  have Hm : Hid (((m.length : Int) + 1 + 8) = ((m.length + 9 : Nat) : Int)) := Lib.hid (by omega)
  go_enter Try.func31, Try.ntmps31
  go_wp2_with fail
  rw [Hm.out]
  refine (room_any _ l (m.length + 9) w hv (by omega)).mono ?_
  rintro e w1 ⟨v1, rfl, hown1, hB1⟩
  go_wp2_with fail
  refine (number_any v1 l m.length (by omega) w1 hown1.bs (by omega)).mono ?_
  rintro e w2 ⟨v2, rfl, hown2, hB2⟩
  replace hB2 := PM.chain hB1 hB2
  replace hown2 := hown2.mono hB1.size
  have hs2 := hb.keep hB2
  go_wp2_with (at_builtin; refine PM.wpList_app bty w.heap.size rfl _ _ rfl v2 _ _ m rfl rfl hown2 hs2 (by simp [PM.numB_length]; omega) hB2.size ?_; intro v3 w3 hown3 hB3 _; replace hB3 := hB2.trans hB3)
  go_ret
  exact ⟨v3, rfl, by simpa [PM.bytesB] using hown3, hB3⟩
theorem fold_any (n : Int) (h1 : -9223372036854775808 ≤ n) (h2 : n ≤ 9223372036854775807) (w : World) :
    Calls Try.prog 83 #[.int .i64 n] w fun e w' => e = .returned (.int .u64 (PM.foldZ n : Nat)) ∧ w = w' := by
  go_enter Try.func83, Try.ntmps83
  go_wp2
  all_goals (go_ret; refine ⟨PM.ret_int ?_, rfl⟩)
  · rename_i hneg
    simp only [IntKind.wrap_u64]
    unfold PM.foldZ
    rw [if_pos hneg]
    omega
  · rename_i hneg
    unfold PM.foldZ
    rw [if_neg (by omega)]
    omega
end Go.Proofs.Ytphdadlpfjfeoaa

/-
  CONTRACT OF pack.Value.
-/
namespace Go.Proofs.Ytphdadlpfjfeoaa
open Go.RowKit
set_option linter.unusedVariables false
theorem value_any (v : Value) (l : List UInt8) (k n : Int) (s : ByteArray) (w : World) (hv : PM.BS w v l) (hl : l.length ≤ 17592186044416) (hs : s.size ≤ 17592186044416)
    (hk1 : -9223372036854775808 ≤ k) (hk2 : k ≤ 9223372036854775807) (h1 : -9223372036854775808 ≤ n) (h2 : n ≤ 9223372036854775807) :
    Calls Try.prog 77 #[v, .agg #[.int .i64 k, .int .i64 n, .string s]] w (PM.RetB 5 w.heap.size w (l ++ PM.valB k n s.data.toList)) := by
  have hs' : s.size ≤ 140737488355328 := by omega
  have hwk := PM.wid_le _ (PM.u64_lt k)
  have hwn := PM.wid_le _ (PM.u64_lt n)
  have hwf := PM.wid_le _ (PM.foldZ_lt n h1 h2)
  by_cases hk : k = 1
  · subst hk
    go_enter Try.func77, Try.ntmps77
    go_wp2_with fail
    refine (fold_any n h1 h2 _).mono ?_
    rintro e w1 ⟨rfl, rfl⟩
    go_wp2_with fail
    obtain ⟨wa, hwa⟩ : ∃ x, x = w.alloc (.cells #[.int .i64 1, .int .i64 n, .string s] 110) := ⟨_, rfl⟩
    have hBa : Below w.heap.size w wa := by rw [hwa]; go_grown
    have B0 : PM.Blk wa w.heap.size #[.int .i64 1, .int .i64 n, .string s] := by rw [hwa]; exact PM.Blk.new _ _ _ _
    rw [← hwa]
    clear hwa
    refine PM.wp_region_st [some 15, some 16, some 17, some 18, some 19, some 20, some 21, some 22, some 23, some 24, some 25, some 4] [fun x _ => x = v, fun x _ => x = .pointer (some ⟨w.heap.size, 0, none⟩), fun x _ => x = .int .i64 1, fun x _ => x = .int .u64 (PM.u64 1 : Nat), fun x w' => PM.BS w' x (l ++ PM.numB (PM.u64 1)), fun x _ => x = .int .u64 ((PM.foldZ n) : Nat), fun x w' => PM.BS w' x (l ++ (PM.numB (PM.u64 1) ++ PM.numB (PM.foldZ n))), fun x _ => x = .pointer (some ⟨w.heap.size, 2, none⟩), fun x _ => x = .string s, fun x w' => PM.BS w' x s.data.toList, fun x w' => PM.OW 5 w.heap.size w' x (l ++ PM.valB 1 n s.data.toList), fun x w' => PM.OW 5 w.heap.size w' x (l ++ PM.valB 1 n s.data.toList)] (by kernel_rfl) (by kernel_rfl) (by kernel_rfl) ?_ ?_ ?_
    · simp only [List.forall_mem_cons]
      refine ⟨?_, ?_, ?_, ?_, ?_, ?_, ?_, ?_, ?_, ?_, ?_, ?_, by simp⟩
      all_goals (intro x W W' h hb; first | exact h | exact PM.BS.keep hb h | exact PM.OW.keep hb h)
    · have c0 : wa.cell? ⟨w.heap.size, 0, none⟩ = some (.int .i64 1) := B0.cell 0
      have c2 : wa.cell? ⟨w.heap.size, 2, none⟩ = some (.string s) := B0.cell 2
      have kc := fun (W : World) => PM.run_conv bty Try.underlying9 W s
      refine ⟨?_, ?_, ?_, ?_, ?_, ?_, ?_, ?_, ?_, ?_, ?_, ?_, trivial⟩
      all_goals
        intro a W hB hF hd
        have k0 := hF 0 rfl
        have k3 := hF 3 rfl
        have k5 := hF 5 rfl
        have c0' := PM.cellB hB c0
        have c2' := PM.cellB hB c2
        clear hF
        simp [PM.depsL, PM.spec, PM.sl, Region.binds] at hd k0 k3 k5
        simp only [PM.wantL, PM.spec]
        go_simp
      all_goals try exact Below.refl _ _
      · exact ⟨Below.refl _ _, by rw [wrap_u64_eq]⟩
      · refine (number_c v l _ (PM.u64 1) rfl (PM.u64_lt _) W (hv.keep (PM.chain hBa hB)) (by omega)).mono ?_
        rintro e w' ⟨v', rfl, ho, hb⟩
        exact ⟨hb, v', rfl, ho.bs⟩
      · refine (number_c _ _ _ (PM.foldZ n) rfl (PM.foldZ_lt n h1 h2) W hd.1 (by simp [PM.numB_length]; omega)).mono ?_
        rintro e w' ⟨v', rfl, ho, hb⟩
        exact ⟨hb, v', rfl, by have := ho.bs; simpa using this⟩
      · exact ⟨PM.convW_below _ _ _, _, rfl, PM.convW_bs _ _ _ hs'⟩
      · refine (bytes_any _ _ _ _ W hd.1 hd.2.1 (by simp [PM.numB_length]; omega) (by rw [← PM.size_len]; omega)).mono ?_
        rintro e w' ⟨v', rfl, ho, hb⟩
        exact ⟨hb, v', rfl, by have := ho.mono (PM.chain hBa hB).size; simpa [PM.valB] using this⟩
      · exact ⟨Below.refl _ _, _, rfl, hd.1⟩
    · intro G W hB hF hS
      simp [PM.allSp, PM.spec] at hS
      obtain ⟨_, _, _, _, _, _, _, _, _, _, _, ho⟩ := hS
      rw [show ((List.range (Array.size _)).map G).toArray = #[G 0, G 1, G 2, G 3, G 4, G 5, G 6, G 7, G 8, G 9, G 10, G 11, G 12, G 13, G 14, G 15, G 16, G 17, G 18, G 19, G 20, G 21, G 22, G 23, G 24, G 25] from rfl]
      clear hF
      go_wp2
      go_ret
      exact ⟨_, rfl, ho, PM.chain hBa hB⟩
  · have hk' : (k == 1) = false := by simpa using hk
    go_enter Try.func77, Try.ntmps77
    go_wp2_with fail
    obtain ⟨wa, hwa⟩ : ∃ x, x = w.alloc (.cells #[.int .i64 k, .int .i64 n, .string s] 110) := ⟨_, rfl⟩
    have hBa : Below w.heap.size w wa := by rw [hwa]; go_grown
    have B0 : PM.Blk wa w.heap.size #[.int .i64 k, .int .i64 n, .string s] := by rw [hwa]; exact PM.Blk.new _ _ _ _
    rw [← hwa]
    clear hwa
    refine PM.wp_region_st [some 15, some 16, some 17, some 18, some 19, some 20, some 21, some 22, some 23, some 24, some 25, some 4] [fun x _ => x = v, fun x _ => x = .pointer (some ⟨w.heap.size, 0, none⟩), fun x _ => x = .int .i64 k, fun x _ => x = .int .u64 (PM.u64 k : Nat), fun x w' => PM.BS w' x (l ++ PM.numB (PM.u64 k)), fun x _ => x = .int .u64 ((PM.u64 n) : Nat), fun x w' => PM.BS w' x (l ++ (PM.numB (PM.u64 k) ++ PM.numB (PM.u64 n))), fun x _ => x = .pointer (some ⟨w.heap.size, 2, none⟩), fun x _ => x = .string s, fun x w' => PM.BS w' x s.data.toList, fun x w' => PM.OW 5 w.heap.size w' x (l ++ PM.valB k n s.data.toList), fun x w' => PM.OW 5 w.heap.size w' x (l ++ PM.valB k n s.data.toList)] (by kernel_rfl) (by kernel_rfl) (by kernel_rfl) ?_ ?_ ?_
    · simp only [List.forall_mem_cons]
      refine ⟨?_, ?_, ?_, ?_, ?_, ?_, ?_, ?_, ?_, ?_, ?_, ?_, by simp⟩
      all_goals (intro x W W' h hb; first | exact h | exact PM.BS.keep hb h | exact PM.OW.keep hb h)
    · have c0 : wa.cell? ⟨w.heap.size, 0, none⟩ = some (.int .i64 k) := B0.cell 0
      have c2 : wa.cell? ⟨w.heap.size, 2, none⟩ = some (.string s) := B0.cell 2
      have kc := fun (W : World) => PM.run_conv bty Try.underlying9 W s
      refine ⟨?_, ?_, ?_, ?_, ?_, ?_, ?_, ?_, ?_, ?_, ?_, ?_, trivial⟩
      all_goals
        intro a W hB hF hd
        have k0 := hF 0 rfl
        have k3 := hF 3 rfl
        have k5 := hF 5 rfl
        have c0' := PM.cellB hB c0
        have c2' := PM.cellB hB c2
        clear hF
        simp [PM.depsL, PM.spec, PM.sl, Region.binds] at hd k0 k3 k5
        simp only [PM.wantL, PM.spec]
        go_simp
      all_goals try exact Below.refl _ _
      · exact ⟨Below.refl _ _, by rw [wrap_u64_eq]⟩
      · refine (number_c v l _ (PM.u64 k) rfl (PM.u64_lt _) W (hv.keep (PM.chain hBa hB)) (by omega)).mono ?_
        rintro e w' ⟨v', rfl, ho, hb⟩
        exact ⟨hb, v', rfl, ho.bs⟩
      · exact ⟨Below.refl _ _, by rw [wrap_u64_eq]⟩
      · refine (number_c _ _ _ (PM.u64 n) rfl (PM.u64_lt n) W hd.1 (by simp [PM.numB_length]; omega)).mono ?_
        rintro e w' ⟨v', rfl, ho, hb⟩
        exact ⟨hb, v', rfl, by have := ho.bs; simpa using this⟩
      · exact ⟨PM.convW_below _ _ _, _, rfl, PM.convW_bs _ _ _ hs'⟩
      · refine (bytes_any _ _ _ _ W hd.1 hd.2.1 (by simp [PM.numB_length]; omega) (by rw [← PM.size_len]; omega)).mono ?_
        rintro e w' ⟨v', rfl, ho, hb⟩
        exact ⟨hb, v', rfl, by have := ho.mono (PM.chain hBa hB).size; simpa [PM.valB, hk] using this⟩
      · exact ⟨Below.refl _ _, _, rfl, hd.1⟩
    · intro G W hB hF hS
      simp [PM.allSp, PM.spec] at hS
      obtain ⟨_, _, _, _, _, _, _, _, _, _, _, ho⟩ := hS
      rw [show ((List.range (Array.size _)).map G).toArray = #[G 0, G 1, G 2, G 3, G 4, G 5, G 6, G 7, G 8, G 9, G 10, G 11, G 12, G 13, G 14, G 15, G 16, G 17, G 18, G 19, G 20, G 21, G 22, G 23, G 24, G 25] from rfl]
      clear hF
      go_wp2
      go_ret
      exact ⟨_, rfl, ho, PM.chain hBa hB⟩
end Go.Proofs.Ytphdadlpfjfeoaa

/-
  CONTRACTS OF package pack: readers.
-/
namespace Go.Proofs.Ytphdadlpfjfeoaa
open Go.RowKit
set_option linter.unusedVariables false

theorem fail_any (b : Nat) (v : Value) (wr : Bool) (w : World) (h : PM.BK w b #[v, .bool wr] 102) :
    Calls Try.prog 65 #[.pointer (some ⟨b, 0, none⟩)] w fun e w' => e = .returned (.tuple #[]) ∧ PM.RD 102 w' b [] true ∧ PM.Bx b w w' := by
  have c0 := h.cell 0
  have c1 := h.cell 1
  have f0 := h.free 0
  have f1 := h.free 1
  have H1 := Lib.hid (h.set 0 (.slice none 0 0))
  have hx : Hid (PM.Bx b w ((w.setCell ⟨b, 0, none⟩ (.slice none 0 0)).setCell ⟨b, 1, none⟩ (.bool true))) := (PM.Bx.set b 0 w _).trans (PM.Bx.set b 1 _ _)
  clear h
  go_enter Try.func65, Try.ntmps65
  go_wp2
  go_end0
  refine ⟨rfl, ⟨.slice none 0 0, ?_, PM.BS.nil _⟩, hx⟩
  have h2 := PM.BK.set H1.out 1 (.bool true)
  simpa using h2
def RetR (T : TypeId) (W : World) (l : List UInt8) (e : Ending) (w' : World) : Prop := ∃ b, e = .returned (.pointer (some ⟨b, 0, none⟩)) ∧ W.heap.size ≤ b ∧ PM.RD T w' b l false ∧ Below W.heap.size W w'
theorem new_any (v : Value) (l : List UInt8) (w : World) (hv : PM.BS w v l) (hl : l.length ≤ 70368744177664) :
    Calls Try.prog 33 #[v] w (RetR 102 w l) := by
  go_enter Try.func33, Try.ntmps33
  go_wp2_with fail
  refine (room_any v l 0 w hv (by omega)).mono ?_
  rintro e w1 ⟨v1, rfl, ho, hB⟩
  have hs := ho.bs
  obtain ⟨a, cap, rfl⟩ := hs.len
  clear ho
  go_wp2
  go_ret
  exact ⟨w1.heap.size, rfl, hB.size, ⟨_, PM.BK.new _ _ _, hs.keep ((Below.refl _ _).alloc (Nat.le_refl _) _)⟩, PM.chain hB ((Below.refl _ _).alloc (Nat.le_refl _) _)⟩
theorem rnumber_any (b : Nat) (l : List UInt8) (wr : Bool) (w : World) (h : PM.RD 102 w b l wr) :
    Calls Try.prog 35 #[.pointer (some ⟨b, 0, none⟩)] w fun e w' =>
      e = .returned (.int .u64 ((PM.stepN l wr).1 : Nat)) ∧ PM.RD 102 w' b (PM.stepN l wr).2.1 (PM.stepN l wr).2.2 ∧ PM.Bx b w w' := by
  obtain ⟨v, hk, hs⟩ := h
  have c0 := hk.cell 0
  have c1 := hk.cell 1
  go_enter Try.func35, Try.ntmps35
  go_wp2
  refine wp_scope_jumps 0 (fun a w' => w = w' ∧ PM.stepN l wr = (0, [], true) ∧ a.defers = [] ∧ a.tmps.size = 72 ∧ PM.sl a 0 = .pointer (some ⟨b, 0, none⟩)) (fun _ _ => 0) rfl ?_ ?_
  · cases wr
    · rcases l with _ | ⟨s, r⟩
      · obtain ⟨a, cap, rfl⟩ := hs.len
        go_wp2
        go_step3
        exact ⟨rfl, rfl, rfl, rfl, rfl, rfl⟩
      · skip
        have hs0 := hs
        have hk0 := hk
        rcases hs with ⟨_, hc⟩ | ⟨vb, off, cap, rfl, hcap, hmax, hcell⟩ | ⟨_, _, _, hc, _⟩
        · cases hc
        case inr.inr => cases hc
        have e0 := hcell 0 s rfl
        rw [Nat.add_zero] at e0
        have e0' : w.cell? ⟨vb, off, none⟩ = some (.int .u8 (s.toNat : Int)) := e0
        have hlen : (0 : Int) < ((s :: r).length : Int) := by simp
        have hne : (((s :: r).length : Int) == 0) = false := by simp; omega
        have hs256 := s.toNat_lt
        have hL : ((s :: r).length : Int) = (r.length : Int) + 1 := by simp
        unfold maxLen at hmax
        have hrl : r.length < 9223372036854775807 := by simp at hcap; omega
        clear e0
        by_cases h8 : s.toNat ≤ 8
        · by_cases hr : s.toNat ≤ r.length
          · have hpow : (256 : Nat) ^ s.toNat ≤ 256 ^ 8 := Nat.pow_le_pow_right (by omega) h8
            have hbl : ∀ k, k ≤ s.toNat → PM.bval (r.take k) < 256 ^ k := fun k hk => by
              have := PM.bval_lt (r.take k)
              rwa [List.length_take_of_le (by omega)] at this
            have HBL := Lib.hid hbl
            have HC := Lib.hid hcell
            clear hbl hcell
            go_wp2
            go_loop [3, 5, 39] (fun n i c => ∃ k : Nat, k ≤ s.toNat ∧ c = .int .i64 k ∧ n = .int .u64 (PM.bval (r.take k) : Nat)) (fun _ _ c => s.toNat - (intOf c).toNat)
            case atStart => exact ⟨0, by omega, rfl, rfl⟩
            case round =>
              obtain ⟨k, hk, rfl, rfl⟩ := hrel
              by_cases hlt : k < s.toNat
              · have hb1 := HBL.out k hk
                have hp : (256 : Nat) ^ k ≤ 256 ^ 7 := Nat.pow_le_pow_right (by omega) (by omega)
                have hb2 : PM.bval (r.take k) < 72057594037927936 := by omega
                clear hb1 hp
                have hkr : k < r.length := by omega
                have hck : w.cell? ⟨vb, off + (1 + k), none⟩ = some (.int .u8 ((r[k]).toNat : Int)) := by
                  have := HC.out (1 + k) r[k] (by rw [Nat.add_comm 1 k]; simp [hkr])
                  exact this
                have hx := (r[k]).toNat_lt
                go_wp2
                go_round
                case rel => exact ⟨k + 1, by omega, by go_num, by rw [PM.or_byte _ _ hb2 hx, PM.take_snoc r k hkr, PM.bval_snoc]⟩
                case measure => simp [intOf]; omega
              · obtain rfl : k = s.toNat := by omega
                have hb1 := HBL.out s.toNat (by omega)
                have hb64 : PM.bval (r.take s.toNat) < 2 ^ 64 := by omega
                clear hb1 hpow
                go_wp2_with fail
                refine (width_any _ hb64 _).mono ?_
                rintro e w1 ⟨rfl, rfl⟩
                have hwl := PM.wid_le _ hb64
                by_cases hw : PM.wid (PM.bval (r.take s.toNat)) = s.toNat
                · have hwB : (((s.toNat : Int)) != ((PM.wid (PM.bval (r.take s.toNat)) : Nat) : Int)) = false := by rw [hw]; simp
                  have Hst : Hid (PM.stepN (s :: r) false = (PM.bval (r.take s.toNat), r.drop s.toNat, false)) := Lib.hid (by simp [PM.stepN, PM.getN, hw, h8, hr])
                  have f0 := hk0.free 0
                  have hcut := PM.BS.cut (w := w) (k := 1 + s.toNat) hcap (by unfold maxLen; exact hmax) HC.out (by simp; omega)
                  have hdrop : (s :: r).drop (1 + s.toNat) = r.drop s.toNat := by rw [Nat.add_comm]; rfl
                  rw [hdrop] at hcut
                  have Hcut := Lib.hid hcut
                  clear hw hcut hdrop
                  by_cases hc1 : cap = 1 + s.toNat
                  · have Hc1 := Lib.hid hc1
                    subst hc1
                    go_wp2
                    simp only [Exit.jump]
                    go_ret
                    rw [Hst.out]
                    refine ⟨rfl, ⟨_, hk0.set 0 _, ?_⟩, PM.Bx.set _ _ _ _⟩
                    refine PM.BS.keepx (PM.Bx.set b 0 w _) hk0 (PM.RD.nobyte _ _ _ _ hs0) ?_
                    have := Hcut.out.2 (by simp at hcap ⊢; omega)
                    simpa using this
                  · have hc2 : ¬ (cap = 1 + s.toNat) := hc1
                    go_wp2
                    simp only [Exit.jump]
                    go_ret
                    rw [Hst.out]
                    refine ⟨rfl, ⟨_, hk0.set 0 _, ?_⟩, PM.Bx.set _ _ _ _⟩
                    refine PM.BS.keepx (PM.Bx.set b 0 w _) hk0 (PM.RD.nobyte _ _ _ _ hs0) ?_
                    have := Hcut.out.1
                    simpa using this
                · have hwB : (((s.toNat : Int)) != ((PM.wid (PM.bval (r.take s.toNat)) : Nat) : Int)) = true := by rw [bne_iff_ne]; omega
                  have Hst : Hid (PM.stepN (s :: r) false = (0, [], true)) := Lib.hid (by simp [PM.stepN, PM.getN, hw])
                  clear hw
                  go_wp2
                  go_step3
                  exact ⟨rfl, rfl, Hst.out, rfl, rfl, rfl⟩
          · have hg : ((r.length : Int) + 1 ≤ (s.toNat : Int)) := by omega
            have hst : PM.stepN (s :: r) false = (0, [], true) := by simp [PM.stepN, PM.getN, hr]
            have Hst := Lib.hid hst
            clear hst
            go_wp2
            go_step3
            exact ⟨rfl, rfl, Hst.out, rfl, rfl, rfl⟩
        · have hst : PM.stepN (s :: r) false = (0, [], true) := by simp [PM.stepN, PM.getN, h8]
          have Hst := Lib.hid hst
          clear hst
          go_wp2
          go_step3
          exact ⟨rfl, rfl, Hst.out, rfl, rfl, rfl⟩
    · go_wp2
      go_step3
      exact ⟨rfl, rfl, rfl, rfl, rfl, rfl⟩
  · rintro a w' ⟨rfl, hst, hd, hsz, h0⟩
    rw [PM.act_lit 72 hd hsz]
    generalize PM.sl a = G at *
    rw [show ((List.range 72).map G).toArray = #[G 0, G 1, G 2, G 3, G 4, G 5, G 6, G 7, G 8, G 9, G 10, G 11, G 12, G 13, G 14, G 15, G 16, G 17, G 18, G 19, G 20, G 21, G 22, G 23, G 24, G 25, G 26, G 27, G 28, G 29, G 30, G 31, G 32, G 33, G 34, G 35, G 36, G 37, G 38, G 39, G 40, G 41, G 42, G 43, G 44, G 45, G 46, G 47, G 48, G 49, G 50, G 51, G 52, G 53, G 54, G 55, G 56, G 57, G 58, G 59, G 60, G 61, G 62, G 63, G 64, G 65, G 66, G 67, G 68, G 69, G 70, G 71] from rfl, h0]
    clear h0 hsz hd
    go_wp2_with (go_at_call 65; refine (fail_any b v wr _ hk).mono ?_; rintro e w1 ⟨rfl, hr, hx⟩)
    simp only [Exit.jump]
    go_ret
    rw [hst]
    exact ⟨rfl, hr, hx⟩
end Go.Proofs.Ytphdadlpfjfeoaa

/-
  CONTRACTS OF package pack: a reader's bytes.
-/
namespace Go.Proofs.Ytphdadlpfjfeoaa
open Go.RowKit
set_option linter.unusedVariables false
def RetRB (T E : TypeId) (W : World) (b : Nat) (m l : List UInt8) (wr : Bool) (e : Ending) (w' : World) : Prop :=
  ∃ v, e = .returned v ∧ PM.OW E W.heap.size w' v m ∧ PM.RD T w' b l wr ∧ PM.Bx b W w'
theorem rbytes_any (b : Nat) (l : List UInt8) (wr : Bool) (most : Int) (w : World) (h : PM.RD 102 w b l wr) (hl : l.length ≤ 70368744177664) (hm1 : -9223372036854775808 ≤ most) (hm2 : most ≤ 9223372036854775807) :
    Calls Try.prog 37 #[.pointer (some ⟨b, 0, none⟩), .int .i64 most] w (RetRB 102 5 w b (PM.stepB l wr most).1 (PM.stepB l wr most).2.1 (PM.stepB l wr most).2.2) := by
  have hbw : b < w.heap.size := by obtain ⟨v, hk, _⟩ := h; exact hk.lt
  have hlt := PM.stepN_lt l wr
  go_enter Try.func37, Try.ntmps37
  go_wp2_with fail
  refine wp_scope_jumps 0 (fun a w' => PM.Bx b w w' ∧ (∃ l' wr', PM.RD 102 w' b l' wr') ∧ PM.stepB l wr most = ([], [], true) ∧ a.defers = [] ∧ a.tmps.size = 54 ∧ PM.sl a 0 = .pointer (some ⟨b, 0, none⟩)) (fun _ _ => 0) rfl ?_ ?_
  · go_wp2_with fail
    refine (rnumber_any b l wr _ h).mono ?_
    rintro e w1 ⟨rfl, hr, hx⟩
    have HS : Hid (PM.stepB l wr most = if (PM.stepN l wr).2.2 = true ∨ most < 0 ∨ most.toNat < (PM.stepN l wr).1 ∨ (PM.stepN l wr).2.1.length < (PM.stepN l wr).1 then ([], [], true) else ((PM.stepN l wr).2.1.take (PM.stepN l wr).1, (PM.stepN l wr).2.1.drop (PM.stepN l wr).1, false)) := Lib.hid rfl
    generalize PM.stepN l wr = st at *
    obtain ⟨n1, l1, wr1⟩ := st
    simp only at hr hlt ⊢
    have hr0 := hr
    obtain ⟨v1, hk, hs⟩ := hr
    have c0 := hk.cell 0
    have c1 := hk.cell 1
    have f0 := hk.free 0
    obtain ⟨hn, hl1⟩ := hlt
    by_cases hw1 : wr1 = true
    · subst hw1
      have Hst : Hid (PM.stepB l wr most = ([], [], true)) := Lib.hid (by rw [HS.out]; simp)
      go_wp2
      go_step3
      exact ⟨rfl, hx, ⟨_, _, hr0⟩, Hst.out, rfl, rfl, rfl⟩
    · obtain rfl : wr1 = false := by simpa using hw1
      clear hw1
      by_cases hm : most < 0
      · have Hst : Hid (PM.stepB l wr most = ([], [], true)) := Lib.hid (by rw [HS.out]; simp [hm])
        go_wp2
        go_step3
        exact ⟨rfl, hx, ⟨_, _, hr0⟩, Hst.out, rfl, rfl, rfl⟩
      · obtain ⟨m, rfl⟩ := Int.eq_ofNat_of_zero_le (show 0 ≤ most by omega)
        by_cases hnm : m < n1
        · have Hst : Hid (PM.stepB l wr m = ([], [], true)) := Lib.hid (by rw [HS.out]; simp [hnm])
          go_wp2
          go_step3
          exact ⟨rfl, hx, ⟨_, _, hr0⟩, Hst.out, rfl, rfl, rfl⟩
        · obtain ⟨va, vcap, rfl⟩ := hs.len
          by_cases hnl : l1.length < n1
          · have Hst : Hid (PM.stepB l wr m = ([], [], true)) := Lib.hid (by rw [HS.out]; simp [hnl])
            go_wp2
            go_step3
            exact ⟨rfl, hx, ⟨_, _, hr0⟩, Hst.out, rfl, rfl, rfl⟩
          · have Hst : Hid (PM.stepB l wr m = (l1.take n1, l1.drop n1, false)) := Lib.hid (by rw [HS.out]; simp [hnl, hnm])
            have hs0 := hs
            have hk0 := hk
            have hm0 : (0 : Int) ≤ (m : Int) := by omega
            have hg1 : ¬ ((m : Int) < (n1 : Int)) := by omega
            have hg2 : ¬ ((l1.length : Int) < (n1 : Int)) := by omega
            rcases hs with ⟨he, rfl⟩ | ⟨vb, off, cap, he, hcap, hmax, hcell⟩ | ⟨x0, cap, he, rfl, hmax⟩
            · obtain ⟨rfl, _, rfl⟩ : va = none ∧ True ∧ vcap = 0 := by simp at he; exact ⟨he.1, trivial, he.2⟩
              obtain rfl : n1 = 0 := by simp at hnl; omega
              go_wp2_with (go_at_call 62; refine (room_any (.slice none 0 0) [] 0 _ (PM.BS.nil _) (by simp)).mono ?_; rintro e w2 ⟨v2, rfl, ho, hB⟩; have hk2 := hk0.keep hB; have d0 := hk2.cell 0; have g0 := hk2.free 0)
              simp only [Exit.jump]
              go_ret
              rw [Hst.out]
              exact ⟨v2, rfl, (ho.mono hx.size).keepx (PM.Bx.set b 0 _ _) hbw, PM.RD.put hk2 (hs0.keep hB) (PM.BS.nil _), hx.trans ((PM.Bx.of hB).trans (PM.Bx.set _ _ _ _))⟩
            · obtain ⟨rfl, rfl⟩ : va = some ⟨vb, off, none⟩ ∧ vcap = cap := by simp at he; exact he
              have hmax' := hmax
              unfold maxLen at hmax'
              have HC := Lib.hid hcell
              clear hcell
              have Htake := Lib.hid (PM.BS.take hcap hmax HC.out (k := n1) (by omega))
              have Hcut := Lib.hid (PM.BS.cut hcap hmax HC.out (k := n1) (by omega))
              by_cases hc : vcap = n1
              · have hc' : n1 = l1.length := by omega
                have HC' := Lib.hid hc'
                clear hc'
                have Hc := Lib.hid hc
                subst hc
                go_wp2_with (go_at_call 62; refine (room_any _ _ 0 _ Htake.out (by rw [List.length_take]; omega)).mono ?_; rintro e w2 ⟨v2, rfl, ho, hB⟩; have hk2 := hk0.keep hB; have d0 := hk2.cell 0; have g0 := hk2.free 0)
                simp only [Exit.jump]
                go_ret
                rw [Hst.out]
                exact ⟨v2, rfl, (ho.mono hx.size).keepx (PM.Bx.set b 0 _ _) hbw, PM.RD.put hk2 (hs0.keep hB) (by have h := (Hcut.out.2 HC'.out).keep hB; have e : l1.length - vcap = 0 := (by have := HC'.out; omega); simpa [e] using h), hx.trans ((PM.Bx.of hB).trans (PM.Bx.set _ _ _ _))⟩
              · go_wp2_with (go_at_call 62; refine (room_any _ _ 0 _ Htake.out (by rw [List.length_take]; omega)).mono ?_; rintro e w2 ⟨v2, rfl, ho, hB⟩; have hk2 := hk0.keep hB; have d0 := hk2.cell 0; have g0 := hk2.free 0)
                simp only [Exit.jump]
                go_ret
                rw [Hst.out]
                exact ⟨v2, rfl, (ho.mono hx.size).keepx (PM.Bx.set b 0 _ _) hbw, PM.RD.put hk2 (hs0.keep hB) (Hcut.out.1.keep hB), hx.trans ((PM.Bx.of hB).trans (PM.Bx.set _ _ _ _))⟩
            · obtain ⟨rfl, rfl⟩ : va = some x0 ∧ vcap = cap := by simp at he; exact he
              obtain rfl : n1 = 0 := by simp at hnl; omega
              unfold maxLen at hmax
              by_cases hc : vcap = 0
              · subst hc
                go_wp2_with (go_at_call 62; refine (room_any _ [] 0 _ hs0 (by simp)).mono ?_; rintro e w2 ⟨v2, rfl, ho, hB⟩; have hk2 := hk0.keep hB; have d0 := hk2.cell 0; have g0 := hk2.free 0)
                simp only [Exit.jump]
                go_ret
                rw [Hst.out]
                exact ⟨v2, rfl, (ho.mono hx.size).keepx (PM.Bx.set b 0 _ _) hbw, PM.RD.put hk2 (hs0.keep hB) (.inr (.inr ⟨_, _, rfl, rfl, by unfold maxLen; omega⟩)), hx.trans ((PM.Bx.of hB).trans (PM.Bx.set _ _ _ _))⟩
              · go_wp2_with (go_at_call 62; refine (room_any _ [] 0 _ hs0 (by simp)).mono ?_; rintro e w2 ⟨v2, rfl, ho, hB⟩; have hk2 := hk0.keep hB; have d0 := hk2.cell 0; have g0 := hk2.free 0)
                simp only [Exit.jump]
                go_ret
                rw [Hst.out]
                exact ⟨v2, rfl, (ho.mono hx.size).keepx (PM.Bx.set b 0 _ _) hbw, PM.RD.put hk2 (hs0.keep hB) (.inr (.inr ⟨_, _, rfl, rfl, by unfold maxLen; omega⟩)), hx.trans ((PM.Bx.of hB).trans (PM.Bx.set _ _ _ _))⟩
  · rintro a w' ⟨hx, ⟨l', wr', v', hk', hs'⟩, hst, hd, hsz, h0⟩
    rw [PM.act_lit 54 hd hsz]
    generalize PM.sl a = G at *
    rw [show ((List.range 54).map G).toArray = #[G 0, G 1, G 2, G 3, G 4, G 5, G 6, G 7, G 8, G 9, G 10, G 11, G 12, G 13, G 14, G 15, G 16, G 17, G 18, G 19, G 20, G 21, G 22, G 23, G 24, G 25, G 26, G 27, G 28, G 29, G 30, G 31, G 32, G 33, G 34, G 35, G 36, G 37, G 38, G 39, G 40, G 41, G 42, G 43, G 44, G 45, G 46, G 47, G 48, G 49, G 50, G 51, G 52, G 53] from rfl, h0]
    clear h0 hsz hd
    go_wp2_with (go_at_call 65; refine (fail_any b v' wr' _ hk').mono ?_; rintro e w1 ⟨rfl, hr, hx1⟩)
    simp only [Exit.jump]
    go_ret
    rw [hst]
    exact ⟨_, rfl, PM.OW.nilrow _ _ _, hr, hx.trans hx1⟩
end Go.Proofs.Ytphdadlpfjfeoaa

/-
  CONTRACTS OF package pack: a reader's value, and what it tells of itself.
-/
namespace Go.Proofs.Ytphdadlpfjfeoaa
open Go.RowKit
set_option linter.unusedVariables false
theorem unfold_any (n : Nat) (hn : n < 2 ^ 64) (w : World) :
    Calls Try.prog 87 #[.int .u64 n] w fun e w' => e = .returned (.int .i64 (PM.unfoldZ n)) ∧ w = w' := by
  by_cases h : n % 2 = 1
  · have hb : ((((n : Int) % 2)) == 1) = true := by rw [beq_iff_eq]; omega
    go_enter Try.func87, Try.ntmps87
    go_wp2
    go_ret
    exact ⟨PM.ret_int (by unfold PM.unfoldZ; rw [if_pos h]; omega), rfl⟩
  · have hb : ((((n : Int) % 2)) == 1) = false := by rw [beq_eq_false_iff_ne]; omega
    go_enter Try.func87, Try.ntmps87
    go_wp2
    go_ret
    exact ⟨PM.ret_int (by unfold PM.unfoldZ; rw [if_neg h]; omega), rfl⟩
theorem done_any (b : Nat) (l : List UInt8) (wr : Bool) (w : World) (h : PM.RD 102 w b l wr) :
    Calls Try.prog 39 #[.pointer (some ⟨b, 0, none⟩)] w fun e w' => e = .returned (.bool (!wr && decide (l = []))) ∧ w = w' := by
  obtain ⟨v, hk, hs⟩ := h
  have c0 := hk.cell 0
  have c1 := hk.cell 1
  obtain ⟨a, cap, rfl⟩ := hs.len
  cases wr
  · go_enter Try.func39, Try.ntmps39
    go_wp2
    go_ret
    refine ⟨PM.ret_bool ?_, rfl⟩
    cases l <;> simp
    omega
  · go_enter Try.func39, Try.ntmps39
    go_wp2
    go_ret
    exact ⟨rfl, rfl⟩
theorem done_nil (w : World) : Calls Try.prog 39 #[.pointer none] w fun e w' => e = .returned (.bool false) ∧ w = w' := by
  go_enter Try.func39, Try.ntmps39
  go_wp2
  go_ret
  exact ⟨rfl, rfl⟩
end Go.Proofs.Ytphdadlpfjfeoaa

/-
  CONTRACTS OF package pack: a reader's value.
-/
namespace Go.Proofs.Ytphdadlpfjfeoaa
open Go.RowKit
set_option linter.unusedVariables false
theorem wrap64_toI (n : Nat) (hn : n < 2 ^ 64) : wrap64 (n : Int) = PM.toI n := by
  unfold wrap64 PM.toI; split <;> omega
theorem wrap_toI (n : Nat) (hn : n < 2 ^ 64) : IntKind.i64.wrap (n : Int) = PM.toI n := by
  rw [IntKind.wrap_i64]; unfold PM.toI; split <;> omega
def RetRV (T : TypeId) (W : World) (b : Nat) (k n : Int) (s l : List UInt8) (wr : Bool) (e : Ending) (w' : World) : Prop :=
  e = .returned (.agg #[.int .i64 k, .int .i64 n, .string ⟨s.toArray⟩]) ∧ PM.RD T w' b l wr ∧ PM.Bx b W w'
set_option maxRecDepth 100000 in
set_option maxHeartbeats 2000000 in
theorem rvalue_any (b : Nat) (l : List UInt8) (wr : Bool) (w : World) (h : PM.RD 102 w b l wr) (hl : l.length ≤ 70368744177664) :
    Calls Try.prog 84 #[.pointer (some ⟨b, 0, none⟩)] w (RetRV 102 w b (PM.stepV l wr).1.1 (PM.stepV l wr).1.2.1 (PM.stepV l wr).1.2.2 (PM.stepV l wr).2.1 (PM.stepV l wr).2.2) := by
  have hbw : b < w.heap.size := by obtain ⟨v, hk, _⟩ := h; exact hk.lt
  have hbr : w.heap.size ≠ b := by omega
  have hbr1 : w.heap.size + 1 ≠ b := by omega
  have HS : Hid (PM.stepV l wr = (if (PM.stepB (PM.stepN (PM.stepN l wr).2.1 (PM.stepN l wr).2.2).2.1 (PM.stepN (PM.stepN l wr).2.1 (PM.stepN l wr).2.2).2.2 40).2.2 = true ∨ 2147483647 < (PM.stepN l wr).1 then ((0, 0, []), [], true)
    else if PM.may (PM.stepN l wr).1 (if (PM.stepN l wr).1 = 1 then PM.unfoldZ (PM.stepN (PM.stepN l wr).2.1 (PM.stepN l wr).2.2).1 else PM.toI (PM.stepN (PM.stepN l wr).2.1 (PM.stepN l wr).2.2).1) (PM.stepB (PM.stepN (PM.stepN l wr).2.1 (PM.stepN l wr).2.2).2.1 (PM.stepN (PM.stepN l wr).2.1 (PM.stepN l wr).2.2).2.2 40).1 = true then ((((PM.stepN l wr).1 : Int), (if (PM.stepN l wr).1 = 1 then PM.unfoldZ (PM.stepN (PM.stepN l wr).2.1 (PM.stepN l wr).2.2).1 else PM.toI (PM.stepN (PM.stepN l wr).2.1 (PM.stepN l wr).2.2).1), (PM.stepB (PM.stepN (PM.stepN l wr).2.1 (PM.stepN l wr).2.2).2.1 (PM.stepN (PM.stepN l wr).2.1 (PM.stepN l wr).2.2).2.2 40).1), (PM.stepB (PM.stepN (PM.stepN l wr).2.1 (PM.stepN l wr).2.2).2.1 (PM.stepN (PM.stepN l wr).2.1 (PM.stepN l wr).2.2).2.2 40).2.1, false)
    else ((0, 0, []), [], true))) := Lib.hid rfl
  go_enter Try.func84, Try.ntmps84
  go_wp2_with fail
  obtain ⟨wa, hwa⟩ : ∃ x, x = w.alloc (.cells #[.int .i64 0, .int .i64 0, .string ⟨#[]⟩] 110) := ⟨_, rfl⟩
  have hBa : Below w.heap.size w wa := by rw [hwa]; go_grown
  have ZA : PM.BK wa w.heap.size #[.int .i64 0, .int .i64 0, .string ⟨#[]⟩] 110 := by rw [hwa]; exact PM.BK.new _ _ _
  have hza : wa.heap.size = w.heap.size + 1 := by rw [hwa]; simp
  rw [← hwa]
  clear hwa
  have Hza := Lib.hid hza
  clear hza
  refine wp_scope_jumps 0 (fun a w' => PM.Bx b wa w' ∧ (∃ l' wr', PM.RD 102 w' b l' wr') ∧ PM.stepV l wr = ((0, 0, []), [], true) ∧ a.defers = [] ∧ a.tmps.size = 44 ∧ PM.sl a 0 = .pointer (some ⟨b, 0, none⟩) ∧ PM.sl a 2 = .pointer (some ⟨w.heap.size, 0, none⟩)) (fun _ _ => 0) rfl ?_ ?_
  · go_wp2_with fail
    obtain ⟨wb, hwb⟩ : ∃ x, x = wa.alloc (.cells #[.int .i64 0, .int .i64 0, .string ⟨#[]⟩] 110) := ⟨_, rfl⟩
    have hBb : Below wa.heap.size wa wb := by rw [hwb]; go_grown
    have ZV : PM.BK wb (w.heap.size + 1) #[.int .i64 0, .int .i64 0, .string ⟨#[]⟩] 110 := by rw [hwb, ← Hza.out]; exact PM.BK.new _ _ _
    rw [← hwb, Hza.out]
    clear hwb
    have hB0 := PM.chain hBa hBb
    have ZR := ZA.keep hBb
    refine (rnumber_any b l wr _ (h.keep hB0)).mono ?_
    rintro e w1 ⟨rfl, hr1, hx1⟩
    go_wp2_with fail
    refine (rnumber_any b _ _ _ hr1).mono ?_
    rintro e w2 ⟨rfl, hr2, hx2⟩
    go_wp2_with fail
    have hl1 := PM.stepN_lt l wr
    have hl2 := PM.stepN_lt (PM.stepN l wr).2.1 (PM.stepN l wr).2.2
    refine (rbytes_any b _ _ 40 _ hr2 (by omega) (by omega) (by omega)).mono ?_
    rintro e w3 ⟨v3, rfl, ho3, hr3, hx3⟩
    have hx : PM.Bx b wb w3 := (hx1.trans hx2).trans hx3
    have ZR3 := ZR.keepx hx hbr
    have ZV3 := ZV.keepx hx hbr1
    clear hr1 hr2 hx1 hx2 hx3
    generalize PM.stepB (PM.stepN (PM.stepN l wr).2.1 (PM.stepN l wr).2.2).2.1 (PM.stepN (PM.stepN l wr).2.1 (PM.stepN l wr).2.2).2.2 40 = st3 at *
    generalize PM.stepN (PM.stepN l wr).2.1 (PM.stepN l wr).2.2 = st2 at *
    generalize PM.stepN l wr = st1 at *
    obtain ⟨n1, l1, wr1⟩ := st1
    obtain ⟨n2, l2, wr2⟩ := st2
    obtain ⟨t3, l3, wr3⟩ := st3
    simp only at hr3 ho3 hl1 hl2 ⊢
    have hr0 := hr3
    obtain ⟨u3, hk3, hs3⟩ := hr3
    have c1 := hk3.cell 1
    obtain ⟨hn1, _⟩ := hl1
    obtain ⟨hn2, _⟩ := hl2
    clear hr0
    by_cases hw3 : wr3 = true
    · subst hw3
      have Hst : Hid (PM.stepV l wr = ((0, 0, []), [], true)) := Lib.hid (by rw [HS.out]; simp)
      go_wp2
      go_step3
      exact ⟨rfl, (PM.Bx.of hBb).trans hx, ⟨_, _, _, hk3, hs3⟩, Hst.out, rfl, rfl, rfl, rfl⟩
    · obtain rfl : wr3 = false := by simpa using hw3
      clear hw3
      by_cases hbig : 2147483647 < n1
      · have Hst : Hid (PM.stepV l wr = ((0, 0, []), [], true)) := Lib.hid (by rw [HS.out]; simp [hbig])
        go_wp2
        go_step3
        exact ⟨rfl, (PM.Bx.of hBb).trans hx, ⟨_, _, _, hk3, hs3⟩, Hst.out, rfl, rfl, rfl, rfl⟩
      · have kc := PM.run_str bty Try.underlying9 ho3.bs
        have z0 := ZV3.cell 0
        have z1 := ZV3.cell 1
        have z2 := ZV3.cell 2
        have y0 := ZV3.free 0
        have y1 := ZV3.free 1
        have y2 := ZV3.free 2
        by_cases h1 : n1 = 1
        · subst h1
          have h64 : wrap64 (n2 : Int) = PM.toI n2 := wrap64_toI n2 hn2
          go_wp2_with fail
          have hx4 := PM.Bx.set3 (w.heap.size + 1) w3 (.int .i64 1) (.int .i64 (PM.toI n2)) (.string ⟨t3.toArray⟩)
          have ZV4 := ZV3.set3 (.int .i64 1) (.int .i64 (PM.toI n2)) (.string ⟨t3.toArray⟩)
          generalize (((w3.setCell ⟨w.heap.size + 1, 0, none⟩ (.int .i64 1)).setCell ⟨w.heap.size + 1, 1, none⟩ (.int .i64 (PM.toI n2))).setCell ⟨w.heap.size + 1, 2, none⟩ (.string ⟨t3.toArray⟩)) = w4 at *
          refine (unfold_any n2 hn2 _).mono ?_
          rintro e w4' ⟨rfl, rfl⟩
          clear z0 z1 z2 y0 y1 y2 kc
          have z0 := ZV4.cell 0
          have z1 := ZV4.cell 1
          have z2 := ZV4.cell 2
          have y1 := ZV4.free 1
          go_wp2_with fail
          replace hx4 := hx4.trans (PM.Bx.set (w.heap.size + 1) 1 w4 (.int .i64 (PM.unfoldZ n2)))
          replace ZV4 := ZV4.set 1 (.int .i64 (PM.unfoldZ n2))
          have ZR4 := ZR3.keepx hx4 (by omega)
          have RD4 : PM.RD 102 _ b l3 false := PM.RD.keepy (b := b) (l := l3) (wr := false) (T := 102) hx4 (by omega) ZV3 (PM.val_nobyte _ _ _) ⟨_, hk3, hs3⟩
          have hxx := (((PM.Bx.of hBb).trans hx)).low hx4 (by rw [Hza.out]; omega)
          refine (check_any _ _ _ _).mono ?_
          rintro e w5 ⟨rfl, hb5⟩
          replace ZV4 := ZV4.keep hb5
          replace ZR4 := ZR4.keep hb5
          replace RD4 := RD4.keep hb5
          replace hxx := hxx.trans (PM.Bx.of hb5)
          clear hb5 hx4 z0 z1 z2 y1
          have z0 := ZV4.cell 0
          have z1 := ZV4.cell 1
          have z2 := ZV4.cell 2
          have r0 := ZR4.cell 0
          have r1 := ZR4.cell 1
          have r2 := ZR4.cell 2
          have y0 := ZR4.free 0
          have y1 := ZR4.free 1
          have y2 := ZR4.free 2
          by_cases hmay : PM.may ((1 : Nat) : Int) (PM.unfoldZ n2) t3 = true
          · have hE : PM.mayE 1 (PM.unfoldZ n2) t3 = 0 := by unfold PM.mayE; rw [if_pos (by simpa using hmay)]
            have Hst : Hid (PM.stepV l wr = ((1, (PM.unfoldZ n2), t3), l3, false)) := Lib.hid (by rw [HS.out, if_neg (by simp; try omega), if_pos (by simpa using hmay)]; simp)
            clear hmay
            go_wp2
            simp only [Exit.jump]
            rw [Hst.out]
            have ZF := ZR4.set3 (.int .i64 1) (.int .i64 (PM.unfoldZ n2)) (.string ⟨t3.toArray⟩)
            have hxf := PM.Bx.set3 w.heap.size w5 (.int .i64 1) (.int .i64 (PM.unfoldZ n2)) (.string ⟨t3.toArray⟩)
            generalize (((w5.setCell ⟨w.heap.size, 0, none⟩ (.int .i64 1)).setCell ⟨w.heap.size, 1, none⟩ (.int .i64 (PM.unfoldZ n2))).setCell ⟨w.heap.size, 2, none⟩ (.string ⟨t3.toArray⟩)) = wf at *
            have q0 := ZF.cell 0
            have q1 := ZF.cell 1
            have q2 := ZF.cell 2
            exact bodyPost_ret (v := .agg #[.int .i64 1, .int .i64 (PM.unfoldZ n2), .string ⟨t3.toArray⟩]) (by simp [results, Try.results84, go_sem, q0, q1, q2]) rfl ⟨rfl, PM.RD.keepy hxf (by omega) ZR4 (PM.val_nobyte _ _ _) RD4, ((PM.Bx.of hBa).trans hxx).low hxf (Nat.le_refl _)⟩
          · have hE : PM.mayE 1 (PM.unfoldZ n2) t3 = 10 := by unfold PM.mayE; rw [if_neg (by simpa using hmay)]
            have Hst : Hid (PM.stepV l wr = ((0, 0, []), [], true)) := Lib.hid (by rw [HS.out, if_neg (by simp; try omega), if_neg (by simpa using hmay)])
            clear hmay
            go_wp2
            go_step3
            obtain ⟨vv, hkv, hsv⟩ := RD4
            exact ⟨rfl, hxx, ⟨_, _, _, hkv, hsv⟩, Hst.out, rfl, rfl, rfl, rfl⟩
        · have hk1 : ((n1 : Int) == 1) = false := by rw [beq_eq_false_iff_ne]; omega
          have h64 : wrap64 (n2 : Int) = PM.toI n2 := wrap64_toI n2 hn2
          go_wp2_with fail
          have hx4 := (PM.Bx.set3 (w.heap.size + 1) w3 (.int .i64 (n1 : Int)) (.int .i64 (PM.toI n2)) (.string ⟨t3.toArray⟩))
          have ZV4 := (ZV3.set3 (.int .i64 (n1 : Int)) (.int .i64 (PM.toI n2)) (.string ⟨t3.toArray⟩))
          have ZR4 := ZR3.keepx hx4 (by omega)
          have RD4 : PM.RD 102 _ b l3 false := PM.RD.keepy (b := b) (l := l3) (wr := false) (T := 102) hx4 (by omega) ZV3 (PM.val_nobyte _ _ _) ⟨_, hk3, hs3⟩
          have hxx := (((PM.Bx.of hBb).trans hx)).low hx4 (by rw [Hza.out]; omega)
          refine (check_any _ _ _ _).mono ?_
          rintro e w5 ⟨rfl, hb5⟩
          replace ZV4 := ZV4.keep hb5
          replace ZR4 := ZR4.keep hb5
          replace RD4 := RD4.keep hb5
          replace hxx := hxx.trans (PM.Bx.of hb5)
          clear hb5 hx4 z0 z1 z2 y1
          have z0 := ZV4.cell 0
          have z1 := ZV4.cell 1
          have z2 := ZV4.cell 2
          have r0 := ZR4.cell 0
          have r1 := ZR4.cell 1
          have r2 := ZR4.cell 2
          have y0 := ZR4.free 0
          have y1 := ZR4.free 1
          have y2 := ZR4.free 2
          by_cases hmay : PM.may (n1 : Int) (PM.toI n2) t3 = true
          · have hE : PM.mayE (n1 : Int) (PM.toI n2) t3 = 0 := by unfold PM.mayE; rw [if_pos (by simpa using hmay)]
            have Hst : Hid (PM.stepV l wr = (((n1 : Int), (PM.toI n2), t3), l3, false)) := Lib.hid (by rw [HS.out, if_neg (by simp; try omega), if_pos (by simpa [h1] using hmay)]; simp [h1])
            clear hmay
            go_wp2
            simp only [Exit.jump]
            rw [Hst.out]
            have ZF := ZR4.set3 (.int .i64 (n1 : Int)) (.int .i64 (PM.toI n2)) (.string ⟨t3.toArray⟩)
            have hxf := PM.Bx.set3 w.heap.size w5 (.int .i64 (n1 : Int)) (.int .i64 (PM.toI n2)) (.string ⟨t3.toArray⟩)
            generalize (((w5.setCell ⟨w.heap.size, 0, none⟩ (.int .i64 (n1 : Int))).setCell ⟨w.heap.size, 1, none⟩ (.int .i64 (PM.toI n2))).setCell ⟨w.heap.size, 2, none⟩ (.string ⟨t3.toArray⟩)) = wf at *
            have q0 := ZF.cell 0
            have q1 := ZF.cell 1
            have q2 := ZF.cell 2
            exact bodyPost_ret (v := .agg #[.int .i64 (n1 : Int), .int .i64 (PM.toI n2), .string ⟨t3.toArray⟩]) (by simp [results, Try.results84, go_sem, q0, q1, q2]) rfl ⟨rfl, PM.RD.keepy hxf (by omega) ZR4 (PM.val_nobyte _ _ _) RD4, ((PM.Bx.of hBa).trans hxx).low hxf (Nat.le_refl _)⟩
          · have hE : PM.mayE (n1 : Int) (PM.toI n2) t3 = 10 := by unfold PM.mayE; rw [if_neg (by simpa using hmay)]
            have Hst : Hid (PM.stepV l wr = ((0, 0, []), [], true)) := Lib.hid (by rw [HS.out, if_neg (by simp; try omega), if_neg (by simpa [h1] using hmay)])
            clear hmay
            go_wp2
            go_step3
            obtain ⟨vv, hkv, hsv⟩ := RD4
            exact ⟨rfl, hxx, ⟨_, _, _, hkv, hsv⟩, Hst.out, rfl, rfl, rfl, rfl⟩
  · rintro a w' ⟨hx, ⟨l', wr', v', hk', hs'⟩, hst, hd, hsz, h0, h2⟩
    rw [PM.act_lit 44 hd hsz]
    generalize PM.sl a = G at *
    rw [show ((List.range 44).map G).toArray = #[G 0, G 1, G 2, G 3, G 4, G 5, G 6, G 7, G 8, G 9, G 10, G 11, G 12, G 13, G 14, G 15, G 16, G 17, G 18, G 19, G 20, G 21, G 22, G 23, G 24, G 25, G 26, G 27, G 28, G 29, G 30, G 31, G 32, G 33, G 34, G 35, G 36, G 37, G 38, G 39, G 40, G 41, G 42, G 43] from rfl, h0, h2]
    clear h0 h2 hsz hd
    have ZR' := ZA.keepx hx hbr
    go_wp2_with (go_at_call 65; refine (fail_any b v' wr' _ hk').mono ?_; rintro e w1 ⟨rfl, hr, hx1⟩; have ZR1 := ZR'.keepx hx1 hbr; have z0 := ZR1.cell 0; have z1 := ZR1.cell 1; have z2 := ZR1.cell 2; have y0 := ZR1.free 0; have y1 := ZR1.free 1; have y2 := ZR1.free 2)
    simp only [Exit.jump]
    rw [hst]
    have ZF := ZR1.set3 (.int .i64 0) (.int .i64 0) (.string ⟨#[]⟩)
    have hxf := PM.Bx.set3 w.heap.size w1 (.int .i64 0) (.int .i64 0) (.string ⟨#[]⟩)
    generalize (((w1.setCell ⟨w.heap.size, 0, none⟩ (.int .i64 0)).setCell ⟨w.heap.size, 1, none⟩ (.int .i64 0)).setCell ⟨w.heap.size, 2, none⟩ (.string ⟨#[]⟩)) = wf at *
    have q0 := ZF.cell 0
    have q1 := ZF.cell 1
    have q2 := ZF.cell 2
    exact bodyPost_ret (v := .agg #[.int .i64 0, .int .i64 0, .string ⟨[].toArray⟩]) (by simp [results, Try.results84, go_sem, q0, q1, q2]) rfl ⟨rfl, PM.RD.keepy hxf (by omega) ZR1 (PM.val_nobyte _ _ _) hr, ((PM.Bx.of hBa).trans (hx.trans hx1)).low hxf (Nat.le_refl _)⟩
end Go.Proofs.Ytphdadlpfjfeoaa
