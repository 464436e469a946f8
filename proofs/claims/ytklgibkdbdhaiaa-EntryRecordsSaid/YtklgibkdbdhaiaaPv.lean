/-
  CONTRACT OF pack.Value.
-/
import Derived.Test.YtklgibkdbdhaiaaPc
import Derived.Test.YtklgibkdbdhaiaaRs
namespace Go.Proofs.Ytklgibkdbdhaiaa
open Go.RowKit
set_option linter.unusedVariables false
theorem value_any (v : Value) (l : List UInt8) (k n : Int) (s : ByteArray) (w : World) (hv : PM.BS w v l) (hl : l.length ≤ 17592186044416) (hs : s.size ≤ 17592186044416)
    (hk1 : -9223372036854775808 ≤ k) (hk2 : k ≤ 9223372036854775807) (h1 : -9223372036854775808 ≤ n) (h2 : n ≤ 9223372036854775807) :
    Calls Try.prog 44 #[v, .agg #[.int .i64 k, .int .i64 n, .string s]] w (PM.RetB 5 w.heap.size w (l ++ PM.valB k n s.data.toList)) := by
  have hs' : s.size ≤ 140737488355328 := by omega
  have hwk := PM.wid_le _ (PM.u64_lt k)
  have hwn := PM.wid_le _ (PM.u64_lt n)
  have hwf := PM.wid_le _ (PM.foldZ_lt n h1 h2)
  by_cases hk : k = 1
  · subst hk
    go_enter Try.func44, Try.ntmps44
    go_wp2_with fail
    refine (fold_any n h1 h2 _).mono ?_
    rintro e w1 ⟨rfl, rfl⟩
    go_wp2_with fail
    obtain ⟨wa, hwa⟩ : ∃ x, x = w.alloc (.cells #[.int .i64 1, .int .i64 n, .string s] 77) := ⟨_, rfl⟩
    have hBa : Below w.heap.size w wa := by rw [hwa]; go_grown
    have B0 : PM.Blk wa w.heap.size #[.int .i64 1, .int .i64 n, .string s] := by rw [hwa]; exact PM.Blk.new _ _ _ _
    rw [← hwa]
    clear hwa
    refine PM.wp_region_st [some 15, some 16, some 17, some 18, some 19, some 20, some 21, some 22, some 23, some 24, some 25, some 4] [fun x _ => x = v, fun x _ => x = .pointer (some ⟨w.heap.size, 0, none⟩), fun x _ => x = .int .i64 1, fun x _ => x = .int .u64 (PM.u64 1 : Nat), fun x w' => PM.BS w' x (l ++ PM.numB (PM.u64 1)), fun x _ => x = .int .u64 ((PM.foldZ n) : Nat), fun x w' => PM.BS w' x (l ++ (PM.numB (PM.u64 1) ++ PM.numB (PM.foldZ n))), fun x _ => x = .pointer (some ⟨w.heap.size, 2, none⟩), fun x _ => x = .string s, fun x w' => PM.BS w' x s.data.toList, fun x w' => PM.OW 5 w.heap.size w' x (l ++ PM.valB 1 n s.data.toList), fun x w' => PM.OW 5 w.heap.size w' x (l ++ PM.valB 1 n s.data.toList)] (by kernel_rfl) (by kernel_rfl) (by kernel_rfl) ?_ ?_ ?_
    · simp only [List.forall_mem_cons]
      refine ⟨?_, ?_, ?_, ?_, ?_, ?_, ?_, ?_, ?_, ?_, ?_, ?_, by simp⟩
      all_goals (intro x W W' h hb; first | exact h | exact PM.BS.keep hb h | exact PM.OW.keep hb h)
    · have c0 : wa.cell? ⟨w.heap.size, 0, none⟩ = some (.int .i64 1) := B0.cell 0
      have c2 : wa.cell? ⟨w.heap.size, 2, none⟩ = some (.string s) := B0.cell 2
      have kc := fun (W : World) => PM.run_conv bty Try.underlying9 W s
      refine ⟨?_, ?_, ?_, ?_, ?_, ?_, ?_, ?_, ?_, ?_, ?_, ?_, trivial⟩
      all_goals
        intro a W hB hF hd
        have k0 := hF 0 rfl
        have k3 := hF 3 rfl
        have k5 := hF 5 rfl
        have c0' := PM.cellB hB c0
        have c2' := PM.cellB hB c2
        clear hF
        simp [PM.depsL, PM.spec, PM.sl, Region.binds] at hd k0 k3 k5
        simp only [PM.wantL, PM.spec]
        go_simp
      all_goals try exact Below.refl _ _
      · exact ⟨Below.refl _ _, by rw [wrap_u64_eq]⟩
      · refine (number_c v l _ (PM.u64 1) rfl (PM.u64_lt _) W (hv.keep (PM.chain hBa hB)) (by omega)).mono ?_
        rintro e w' ⟨v', rfl, ho, hb⟩
        exact ⟨hb, v', rfl, ho.bs⟩
      · refine (number_c _ _ _ (PM.foldZ n) rfl (PM.foldZ_lt n h1 h2) W hd.1 (by simp [PM.numB_length]; omega)).mono ?_
        rintro e w' ⟨v', rfl, ho, hb⟩
        exact ⟨hb, v', rfl, by have := ho.bs; simpa using this⟩
      · exact ⟨PM.convW_below _ _ _, _, rfl, PM.convW_bs _ _ _ hs'⟩
      · refine (bytes_any _ _ _ _ W hd.1 hd.2.1 (by simp [PM.numB_length]; omega) (by rw [← PM.size_len]; omega)).mono ?_
        rintro e w' ⟨v', rfl, ho, hb⟩
        exact ⟨hb, v', rfl, by have := ho.mono (PM.chain hBa hB).size; simpa [PM.valB] using this⟩
      · exact ⟨Below.refl _ _, _, rfl, hd.1⟩
    · intro G W hB hF hS
      simp [PM.allSp, PM.spec] at hS
      obtain ⟨_, _, _, _, _, _, _, _, _, _, _, ho⟩ := hS
      rw [show ((List.range (Array.size _)).map G).toArray = #[G 0, G 1, G 2, G 3, G 4, G 5, G 6, G 7, G 8, G 9, G 10, G 11, G 12, G 13, G 14, G 15, G 16, G 17, G 18, G 19, G 20, G 21, G 22, G 23, G 24, G 25] from rfl]
      clear hF
      go_wp2
      go_ret
      exact ⟨_, rfl, ho, PM.chain hBa hB⟩
  · have hk' : (k == 1) = false := by simpa using hk
    go_enter Try.func44, Try.ntmps44
    go_wp2_with fail
    obtain ⟨wa, hwa⟩ : ∃ x, x = w.alloc (.cells #[.int .i64 k, .int .i64 n, .string s] 77) := ⟨_, rfl⟩
    have hBa : Below w.heap.size w wa := by rw [hwa]; go_grown
    have B0 : PM.Blk wa w.heap.size #[.int .i64 k, .int .i64 n, .string s] := by rw [hwa]; exact PM.Blk.new _ _ _ _
    rw [← hwa]
    clear hwa
    refine PM.wp_region_st [some 15, some 16, some 17, some 18, some 19, some 20, some 21, some 22, some 23, some 24, some 25, some 4] [fun x _ => x = v, fun x _ => x = .pointer (some ⟨w.heap.size, 0, none⟩), fun x _ => x = .int .i64 k, fun x _ => x = .int .u64 (PM.u64 k : Nat), fun x w' => PM.BS w' x (l ++ PM.numB (PM.u64 k)), fun x _ => x = .int .u64 ((PM.u64 n) : Nat), fun x w' => PM.BS w' x (l ++ (PM.numB (PM.u64 k) ++ PM.numB (PM.u64 n))), fun x _ => x = .pointer (some ⟨w.heap.size, 2, none⟩), fun x _ => x = .string s, fun x w' => PM.BS w' x s.data.toList, fun x w' => PM.OW 5 w.heap.size w' x (l ++ PM.valB k n s.data.toList), fun x w' => PM.OW 5 w.heap.size w' x (l ++ PM.valB k n s.data.toList)] (by kernel_rfl) (by kernel_rfl) (by kernel_rfl) ?_ ?_ ?_
    · simp only [List.forall_mem_cons]
      refine ⟨?_, ?_, ?_, ?_, ?_, ?_, ?_, ?_, ?_, ?_, ?_, ?_, by simp⟩
      all_goals (intro x W W' h hb; first | exact h | exact PM.BS.keep hb h | exact PM.OW.keep hb h)
    · have c0 : wa.cell? ⟨w.heap.size, 0, none⟩ = some (.int .i64 k) := B0.cell 0
      have c2 : wa.cell? ⟨w.heap.size, 2, none⟩ = some (.string s) := B0.cell 2
      have kc := fun (W : World) => PM.run_conv bty Try.underlying9 W s
      refine ⟨?_, ?_, ?_, ?_, ?_, ?_, ?_, ?_, ?_, ?_, ?_, ?_, trivial⟩
      all_goals
        intro a W hB hF hd
        have k0 := hF 0 rfl
        have k3 := hF 3 rfl
        have k5 := hF 5 rfl
        have c0' := PM.cellB hB c0
        have c2' := PM.cellB hB c2
        clear hF
        simp [PM.depsL, PM.spec, PM.sl, Region.binds] at hd k0 k3 k5
        simp only [PM.wantL, PM.spec]
        go_simp
      all_goals try exact Below.refl _ _
      · exact ⟨Below.refl _ _, by rw [wrap_u64_eq]⟩
      · refine (number_c v l _ (PM.u64 k) rfl (PM.u64_lt _) W (hv.keep (PM.chain hBa hB)) (by omega)).mono ?_
        rintro e w' ⟨v', rfl, ho, hb⟩
        exact ⟨hb, v', rfl, ho.bs⟩
      · exact ⟨Below.refl _ _, by rw [wrap_u64_eq]⟩
      · refine (number_c _ _ _ (PM.u64 n) rfl (PM.u64_lt n) W hd.1 (by simp [PM.numB_length]; omega)).mono ?_
        rintro e w' ⟨v', rfl, ho, hb⟩
        exact ⟨hb, v', rfl, by have := ho.bs; simpa using this⟩
      · exact ⟨PM.convW_below _ _ _, _, rfl, PM.convW_bs _ _ _ hs'⟩
      · refine (bytes_any _ _ _ _ W hd.1 hd.2.1 (by simp [PM.numB_length]; omega) (by rw [← PM.size_len]; omega)).mono ?_
        rintro e w' ⟨v', rfl, ho, hb⟩
        exact ⟨hb, v', rfl, by have := ho.mono (PM.chain hBa hB).size; simpa [PM.valB, hk] using this⟩
      · exact ⟨Below.refl _ _, _, rfl, hd.1⟩
    · intro G W hB hF hS
      simp [PM.allSp, PM.spec] at hS
      obtain ⟨_, _, _, _, _, _, _, _, _, _, _, ho⟩ := hS
      rw [show ((List.range (Array.size _)).map G).toArray = #[G 0, G 1, G 2, G 3, G 4, G 5, G 6, G 7, G 8, G 9, G 10, G 11, G 12, G 13, G 14, G 15, G 16, G 17, G 18, G 19, G 20, G 21, G 22, G 23, G 24, G 25] from rfl]
      clear hF
      go_wp2
      go_ret
      exact ⟨_, rfl, ho, PM.chain hBa hB⟩
end Go.Proofs.Ytklgibkdbdhaiaa
