/-
  THE WALK OF LAYER 2's STATEMENT ON WHAT IS PACKED.
-/
import Derived.Test.YtfmbnndpjjjdiaaPa
import Derived.Test.YtfmbnndpjjjdiaaPt
namespace Go.Proofs.Ytfmbnndpjjjdiaa
open Go.RowKit
set_option linter.unusedVariables false
theorem PM.may_len {k n : Int} {s : List UInt8} (h : PM.may k n s = true) : s.length ≤ 40 := by
  unfold PM.may at h
  split at h
  · simp at h; simp [h]
  · split at h
    · simp at h; exact h.2
    · split at h
      · simp at h; simp [h]
      · simp at h
theorem PM.valB_len (k z : Int) (s : List UInt8) (h1 : -9223372036854775808 ≤ z) (h2 : z ≤ 9223372036854775807) (hs : s.length ≤ 40) : (PM.valB k z s).length ≤ s.length + 27 := by
  have w1 := PM.wid_le _ (PM.u64_lt k)
  have w2 := PM.wid_le (if k = 1 then PM.foldZ z else PM.u64 z) (by split; exact PM.foldZ_lt z h1 h2; exact PM.u64_lt z)
  have w3 := PM.wid_le s.length (by omega)
  unfold PM.valB PM.bytesB
  rw [List.length_append, List.length_append, List.length_append, PM.numB_length, PM.numB_length, PM.numB_length]
  omega
theorem PM.add_str (l m : List UInt8) : (⟨l.toArray⟩ : ByteArray) ++ ⟨m.toArray⟩ = ⟨(l ++ m).toArray⟩ := by
  apply ByteArray.ext; simp [ByteArray.data_append]
set_option maxHeartbeats 2000000 in
theorem packTells_walk (v0 : Value) (l0 : List UInt8) (n : Int) (v2 : Value) (l2 : List UInt8) (k z : Int) (s : ByteArray) (hn : (Lit.int .u64 n).wf = true) (hk : (Lit.int .i64 k).wf = true) (hz : (Lit.int .i64 z).wf = true) (hs : s.size ≤ maxLen) (w : World) (h0 : PM.BS w v0 l0) (h2 : PM.BS w v2 l2) :
    Calls Try.prog 9 #[v0, .int .u64 n, v2, .agg #[.int .i64 k, .int .i64 z, .string s]] w fun e w' => e = .returned (.bool true) ∧ Below w.heap.size w w' := by
  have bn := Go.bounds_u64 hn
  obtain ⟨b1, b2⟩ := Go.bounds_i64 hk
  obtain ⟨b3, b4⟩ := Go.bounds_i64 hz
  obtain ⟨n, rfl⟩ := Int.eq_ofNat_of_zero_le bn.1
  have hn' : n < 2 ^ 64 := by omega
  clear hn hk hz hs bn
  have hn := hn'
  clear hn'
  have hadd := PM.add_str
  have HM : Hid (PM.may k z s.data.toList = true → s.size ≤ 40) := Lib.hid fun h => by rw [PM.size_len]; exact PM.may_len h
  obtain ⟨a0, cap0, e0⟩ := h0.len
  obtain ⟨a2, cap2, e2⟩ := h2.len
  go_enter Try.func9, Try.ntmps9
  go_wp2_with fail
  obtain ⟨wa, hwa⟩ : ∃ x, x = w.alloc (.cells #[.int .i64 k, .int .i64 z, .string s] 24) := ⟨_, rfl⟩
  have hBa : Below w.heap.size w wa := by rw [hwa]; go_grown
  have B0 : PM.Blk wa w.heap.size #[.int .i64 k, .int .i64 z, .string s] := by rw [hwa]; exact PM.Blk.new _ _ _ _
  have c0 : wa.cell? ⟨w.heap.size, 0, none⟩ = some (.int .i64 k) := B0.cell 0
  have c1 : wa.cell? ⟨w.heap.size, 1, none⟩ = some (.int .i64 z) := B0.cell 1
  have c2 : wa.cell? ⟨w.heap.size, 2, none⟩ = some (.string s) := B0.cell 2
  rw [← hwa]
  clear hwa
  refine (awake2 _).mono ?_
  rintro e w1 ⟨rfl, hB1⟩
  replace c0 := PM.cellB hB1 c0
  replace c1 := PM.cellB hB1 c1
  replace c2 := PM.cellB hB1 c2
  have hC := PM.chain hBa hB1
  clear hB1 hBa B0
  by_cases g0 : 500 < l0.length
  · have g0' : (500 : Int) < (l0.length : Int) := by omega
    subst e0
    go_wp2
    go_ret
    exact ⟨rfl, hC⟩
  have g0' : ¬ ((500 : Int) < (l0.length : Int)) := by omega
  by_cases g2 : 500 < l2.length
  · have g2' : (500 : Int) < (l2.length : Int) := by omega
    subst e0 e2
    go_wp2
    go_ret
    exact ⟨rfl, hC⟩
  have g2' : ¬ ((500 : Int) < (l2.length : Int)) := by omega
  subst e0 e2
  go_wp2_with fail
  refine (check_any k z s _).mono ?_
  rintro e w2 ⟨rfl, hB2⟩
  replace c0 := PM.cellB hB2 c0
  replace c1 := PM.cellB hB2 c1
  replace c2 := PM.cellB hB2 c2
  replace hC := PM.chain hC hB2
  clear hB2
  by_cases hm : PM.may k z s.data.toList = true
  case neg =>
    have hE : PM.mayE k z s.data.toList = 10 := by unfold PM.mayE; rw [if_neg hm]
    clear hm
    go_wp2
    go_ret
    exact ⟨rfl, hC⟩
  have hE : PM.mayE k z s.data.toList = 0 := by unfold PM.mayE; rw [if_pos hm]
  have hs40 := HM.out hm
  clear hm
  rw [hE]
  clear hE
  have z4 : ¬ (9223372036854775807 < l0.length + (PM.numB n).length) := by have := PM.wid_le n hn; rw [PM.numB_length]; omega
  have z5 : ¬ (9223372036854775807 < l0.length + (PM.bytesB l2).length) := by have := PM.wid_le l2.length (by omega); unfold PM.bytesB; rw [List.length_append, PM.numB_length]; omega
  have z6 : ¬ (9223372036854775807 < l0.length + (PM.valB k z s.data.toList).length) := by have := PM.valB_len k z s.data.toList b3 b4 (by rw [← PM.size_len]; omega); rw [← PM.size_len] at this; omega
  generalize Value.slice a0 l0.length cap0 = v0 at *
  generalize Value.slice a2 l2.length cap2 = v2 at *
  go_wp2_with fail
  refine PM.wp_region_st [some 28, some 29, some 30, some 31, some 32, some 33, some 34, some 35, some 36, some 37, some 38, some 10] [fun x _ => x = v0, fun x _ => x = .int .u64 (n : Nat), fun x w' => PM.BS w' x (l0 ++ PM.numB n), fun x _ => x = .string ⟨(l0 ++ PM.numB n).toArray⟩, fun x _ => x = v0, fun x _ => x = .string ⟨(l0).toArray⟩, fun x _ => x = .int .u64 (n : Nat), fun x w' => PM.BS w' x (PM.numB n), fun x _ => x = .string ⟨(PM.numB n).toArray⟩, fun x _ => x = .string ⟨(l0 ++ PM.numB n).toArray⟩, fun x _ => x = .bool true, fun x _ => x = .bool true] (by kernel_rfl) (by kernel_rfl) (by kernel_rfl) ?_ ?_ ?_
  · simp only [List.forall_mem_cons]
    refine ⟨?_, ?_, ?_, ?_, ?_, ?_, ?_, ?_, ?_, ?_, ?_, ?_, by simp⟩
    all_goals (intro x W W' h hb; first | exact h | exact PM.BS.keep hb h | exact PM.OW.keep hb h)
  · refine ⟨?_, ?_, ?_, ?_, ?_, ?_, ?_, ?_, ?_, ?_, ?_, ?_, trivial⟩
    all_goals
      intro a W hB hF hd
      have k0 := hF 0 rfl
      have k1 := hF 1 rfl
      have hBB := hC.trans (hB.mono hC.size)
      have hv0 := h0.keep hBB
      have hv2 := h2.keep hBB
      have c0' := PM.cellB hB c0
      have c1' := PM.cellB hB c1
      have c2' := PM.cellB hB c2
      have kb := PM.run_str bty Try.underlying9 hv0
      clear hF
      simp [PM.depsL, PM.spec, PM.sl, Region.binds] at hd k0 k1
      simp only [PM.wantL, PM.spec]
      try simp only [PM.sl]
      first | (have kc := PM.run_str bty Try.underlying9 hd) | (have kc := PM.run_str bty Try.underlying9 hd.1) | skip
      go_simp
    all_goals try exact Below.refl _ _
    · refine (number_any _ _ n hn W hv0 (by omega)).mono ?_
      rintro e w' ⟨v', rfl, ho, hb⟩
      exact ⟨hb, v', rfl, ho.bs⟩
    · refine (rfnumber_any n hn W).mono ?_
      rintro e w' ⟨v', rfl, ho, hb⟩
      exact ⟨hb, v', rfl, ho.bs⟩
  · intro G W hB hF hS
    simp [PM.allSp, PM.spec] at hS
    rw [show ((List.range (Array.size _)).map G).toArray = #[G 0, G 1, G 2, G 3, G 4, G 5, G 6, G 7, G 8, G 9, G 10, G 11, G 12, G 13, G 14, G 15, G 16, G 17, G 18, G 19, G 20, G 21, G 22, G 23, G 24, G 25, G 26, G 27, G 28, G 29, G 30, G 31, G 32, G 33, G 34, G 35, G 36, G 37, G 38, G 39, G 40, G 41, G 42, G 43, G 44, G 45, G 46, G 47, G 48, G 49, G 50, G 51, G 52, G 53, G 54, G 55, G 56, G 57, G 58, G 59, G 60, G 61, G 62, G 63, G 64, G 65, G 66, G 67, G 68, G 69, G 70] from rfl]
    have q0 := hF 0 rfl
    have q2 := hF 2 rfl
    have q7 := hF 7 rfl
    have q9 := hF 9 rfl
    have q10 : G 10 = .bool true := by simp [hS]
    simp [PM.sl] at q0 q2 q7 q9
    clear hF hS
    rw [q0, q2, q7, q9, q10]
    clear q0 q2 q7 q9 q10
    replace c0 := PM.cellB hB c0
    replace c1 := PM.cellB hB c1
    replace c2 := PM.cellB hB c2
    replace hC := PM.chain hC hB
    clear hB
    go_wp2_with fail
    refine PM.wp_region_st [some 39, some 40, some 41, some 42, some 43, some 44, some 45, some 46, some 47, some 48, some 49, some 11] [fun x _ => x = v0, fun x _ => x = v2, fun x w' => PM.BS w' x (l0 ++ PM.bytesB l2), fun x _ => x = .string ⟨(l0 ++ PM.bytesB l2).toArray⟩, fun x _ => x = v0, fun x _ => x = .string ⟨(l0).toArray⟩, fun x _ => x = v2, fun x w' => PM.BS w' x (PM.bytesB l2), fun x _ => x = .string ⟨(PM.bytesB l2).toArray⟩, fun x _ => x = .string ⟨(l0 ++ PM.bytesB l2).toArray⟩, fun x _ => x = .bool true, fun x _ => x = .bool true] (by kernel_rfl) (by kernel_rfl) (by kernel_rfl) ?_ ?_ ?_
    · simp only [List.forall_mem_cons]
      refine ⟨?_, ?_, ?_, ?_, ?_, ?_, ?_, ?_, ?_, ?_, ?_, ?_, by simp⟩
      all_goals (intro x W W' h hb; first | exact h | exact PM.BS.keep hb h | exact PM.OW.keep hb h)
    · refine ⟨?_, ?_, ?_, ?_, ?_, ?_, ?_, ?_, ?_, ?_, ?_, ?_, trivial⟩
      all_goals
        intro a W hB hF hd
        have k0 := hF 0 rfl
        have k2 := hF 2 rfl
        have hBB := hC.trans (hB.mono hC.size)
        have hv0 := h0.keep hBB
        have hv2 := h2.keep hBB
        have c0' := PM.cellB hB c0
        have c1' := PM.cellB hB c1
        have c2' := PM.cellB hB c2
        have kb := PM.run_str bty Try.underlying9 hv0
        clear hF
        simp [PM.depsL, PM.spec, PM.sl, Region.binds] at hd k0 k2
        simp only [PM.wantL, PM.spec]
        try simp only [PM.sl]
        first | (have kc := PM.run_str bty Try.underlying9 hd) | (have kc := PM.run_str bty Try.underlying9 hd.1) | skip
        go_simp
      all_goals try exact Below.refl _ _
      · refine (bytes_any _ _ _ _ W hv0 hv2 (by omega) (by omega)).mono ?_
        rintro e w' ⟨v', rfl, ho, hb⟩
        exact ⟨hb, v', rfl, ho.bs⟩
      · refine (rfbytes_any _ _ W hv2 (by omega)).mono ?_
        rintro e w' ⟨v', rfl, ho, hb⟩
        exact ⟨hb, v', rfl, ho.bs⟩
    · intro G W hB hF hS
      simp [PM.allSp, PM.spec] at hS
      rw [show ((List.range (Array.size _)).map G).toArray = #[G 0, G 1, G 2, G 3, G 4, G 5, G 6, G 7, G 8, G 9, G 10, G 11, G 12, G 13, G 14, G 15, G 16, G 17, G 18, G 19, G 20, G 21, G 22, G 23, G 24, G 25, G 26, G 27, G 28, G 29, G 30, G 31, G 32, G 33, G 34, G 35, G 36, G 37, G 38, G 39, G 40, G 41, G 42, G 43, G 44, G 45, G 46, G 47, G 48, G 49, G 50, G 51, G 52, G 53, G 54, G 55, G 56, G 57, G 58, G 59, G 60, G 61, G 62, G 63, G 64, G 65, G 66, G 67, G 68, G 69, G 70] from rfl]
      have q0 := hF 0 rfl
      have q7 := hF 7 rfl
      have q9 := hF 9 rfl
      have q10 := hF 10 rfl
      have q11 : G 11 = .bool true := by simp [hS]
      simp [PM.sl] at q0 q7 q9 q10
      clear hF hS
      rw [q0, q7, q9, q10, q11]
      clear q0 q7 q9 q10 q11
      replace c0 := PM.cellB hB c0
      replace c1 := PM.cellB hB c1
      replace c2 := PM.cellB hB c2
      replace hC := PM.chain hC hB
      clear hB
      go_wp2_with fail
      refine PM.wp_region_st [some 50, some 51, some 52, some 53, some 54, some 55, some 56, some 57, some 58, some 59, some 60, some 12] [fun x _ => x = v0, fun x _ => x = .agg #[.int .i64 k, .int .i64 z, .string s], fun x w' => PM.BS w' x (l0 ++ PM.valB k z s.data.toList), fun x _ => x = .string ⟨(l0 ++ PM.valB k z s.data.toList).toArray⟩, fun x _ => x = v0, fun x _ => x = .string ⟨(l0).toArray⟩, fun x _ => x = .agg #[.int .i64 k, .int .i64 z, .string s], fun x w' => PM.BS w' x (PM.valB k z s.data.toList), fun x _ => x = .string ⟨(PM.valB k z s.data.toList).toArray⟩, fun x _ => x = .string ⟨(l0 ++ PM.valB k z s.data.toList).toArray⟩, fun x _ => x = .bool true, fun x _ => x = .bool true] (by kernel_rfl) (by kernel_rfl) (by kernel_rfl) ?_ ?_ ?_
      · simp only [List.forall_mem_cons]
        refine ⟨?_, ?_, ?_, ?_, ?_, ?_, ?_, ?_, ?_, ?_, ?_, ?_, by simp⟩
        all_goals (intro x W W' h hb; first | exact h | exact PM.BS.keep hb h | exact PM.OW.keep hb h)
      · refine ⟨?_, ?_, ?_, ?_, ?_, ?_, ?_, ?_, ?_, ?_, ?_, ?_, trivial⟩
        all_goals
          intro a W hB hF hd
          have k0 := hF 0 rfl
          have k7 := hF 7 rfl
          have hBB := hC.trans (hB.mono hC.size)
          have hv0 := h0.keep hBB
          have hv2 := h2.keep hBB
          have c0' := PM.cellB hB c0
          have c1' := PM.cellB hB c1
          have c2' := PM.cellB hB c2
          have kb := PM.run_str bty Try.underlying9 hv0
          clear hF
          simp [PM.depsL, PM.spec, PM.sl, Region.binds] at hd k0 k7
          simp only [PM.wantL, PM.spec]
          try simp only [PM.sl]
          first | (have kc := PM.run_str bty Try.underlying9 hd) | (have kc := PM.run_str bty Try.underlying9 hd.1) | skip
          go_simp
        all_goals try exact Below.refl _ _
        · refine (value_any _ _ k z s W hv0 (by omega) (by omega) b1 b2 b3 b4).mono ?_
          rintro e w' ⟨v', rfl, ho, hb⟩
          exact ⟨hb, v', rfl, ho.bs⟩
        · refine (rfvalue_any k z s W (by omega) b1 b2 b3 b4).mono ?_
          rintro e w' ⟨v', rfl, ho, hb⟩
          exact ⟨hb, v', rfl, ho.bs⟩
      · intro G W hB hF hS
        simp [PM.allSp, PM.spec] at hS
        rw [show ((List.range (Array.size _)).map G).toArray = #[G 0, G 1, G 2, G 3, G 4, G 5, G 6, G 7, G 8, G 9, G 10, G 11, G 12, G 13, G 14, G 15, G 16, G 17, G 18, G 19, G 20, G 21, G 22, G 23, G 24, G 25, G 26, G 27, G 28, G 29, G 30, G 31, G 32, G 33, G 34, G 35, G 36, G 37, G 38, G 39, G 40, G 41, G 42, G 43, G 44, G 45, G 46, G 47, G 48, G 49, G 50, G 51, G 52, G 53, G 54, G 55, G 56, G 57, G 58, G 59, G 60, G 61, G 62, G 63, G 64, G 65, G 66, G 67, G 68, G 69, G 70] from rfl]
        have q9 := hF 9 rfl
        have q10 := hF 10 rfl
        have q11 := hF 11 rfl
        have q12 : G 12 = .bool true := by simp [hS]
        simp [PM.sl] at q9 q10 q11
        clear hF hS
        rw [q9, q10, q11, q12]
        clear q9 q10 q11 q12
        have hCC := PM.chain hC hB
        go_wp2
        go_ret
        exact ⟨rfl, hCC⟩

end Go.Proofs.Ytfmbnndpjjjdiaa
