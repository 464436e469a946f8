/-
  THE WALK OF LAYER 2's STATEMENT ON ONE WAY ALONE.
-/
import Derived.Test.YtfmbnndpjjjdiaaPa
import Derived.Test.YtfmbnndpjjjdiaaPo
namespace Go.Proofs.Ytfmbnndpjjjdiaa
open Go.RowKit
set_option linter.unusedVariables false
theorem done_c (b : Nat) (l : List UInt8) (wr d : Bool) (w : World) (h : PM.RD 71 w b l wr) (hd : d = (!wr && decide (l = []))) :
    Calls Try.prog 35 #[.pointer (some ⟨b, 0, none⟩)] w fun e w' => e = .returned (.bool d) ∧ w = w' := by
  subst hd; exact done_any b l wr w h
set_option maxHeartbeats 2000000 in
theorem packOnce_walk (v0 : Value) (lb : List UInt8) (w : World) (hv : PM.BS w v0 lb) :
    Calls Try.prog 12 #[v0] w fun e w' => e = .returned (.bool true) ∧ Below w.heap.size w w' := by
  obtain ⟨a0, cap0, hv0⟩ := hv.len
  go_enter Try.func12, Try.ntmps12
  go_wp2_with fail
  refine (awake2 _).mono ?_
  rintro e w1 ⟨rfl, hB1⟩
  by_cases hbig : 500 < lb.length
  · have hb' : (500 : Int) < (lb.length : Int) := by omega
    subst hv0
    go_wp2
    go_ret
    exact ⟨rfl, hB1⟩
  have hle : ¬ ((500 : Int) < (lb.length : Int)) := by omega
  have hv1 := hv.keep hB1
  subst hv0
  go_wp2_with fail
  generalize Value.slice a0 lb.length cap0 = v0 at *
  have hnew : ∀ (W : World), PM.BS W v0 lb → Calls Try.prog 32 #[v0] W (RetR 71 W lb) := fun W h => new_any v0 lb W h (by omega)
  refine (hnew _ hv1).mono ?_
  rintro e w2 ⟨x1, rfl, hx1, R1, hB2⟩
  replace hB2 := PM.chain hB1 hB2
  go_wp2_with fail
  refine (rnumber_any x1 _ _ _ R1).mono ?_
  rintro e w3 ⟨rfl, R1', hX⟩
  have lt1 : w.heap.size ≤ x1 := by have := hB1.size; omega
  have hB3 := hX.below hB2 lt1 hB2.size
  obtain ⟨d1, hD1⟩ : ∃ d, d = (!(PM.stepN lb false).2.2 && decide ((PM.stepN lb false).2.1 = [])) := ⟨_, rfl⟩
  have hN1 : d1 = true → PM.numB (PM.stepN lb false).1 = lb := by
    intro h
    rw [h] at hD1
    simp at hD1
    have := PM.stepN_back hD1.1
    rw [hD1.2, List.append_nil] at this
    exact this.symm
  replace hN1 := Lib.hid hN1
  replace hD1 := Lib.hid hD1
  have hn1 := (PM.stepN_lt lb false).1
  clear R1
  generalize PM.stepN lb false = st1 at *
  obtain ⟨n1, l1, wr1⟩ := st1
  simp only at R1' hN1 hD1 hn1 ⊢
  go_wp2_with fail
  refine (hnew _ (hv.keep hB3)).mono ?_
  rintro e w4 ⟨x2, rfl, hx2, R2, hB4⟩
  have R1 := R1'.keep hB4
  have ne12 : x1 ≠ x2 := by have := R1'.lt; omega
  clear R1'
  have lt2 : w.heap.size ≤ x2 := by have := hB3.size; omega
  replace hB4 := PM.chain hB3 hB4
  go_wp2_with fail
  refine (rbytes_any x2 _ _ 500 _ R2 (by omega) (by omega) (by omega)).mono ?_
  rintro e w5 ⟨v5, rfl, ho5, R2', hX5⟩
  replace R1 := PM.RD.keepr hX5 ne12 R2 R1
  have hB5 := hX5.below hB4 lt2 hB4.size
  have hs5 := ho5.bs
  obtain ⟨d2, hD2⟩ : ∃ d, d = (!(PM.stepB lb false 500).2.2 && decide ((PM.stepB lb false 500).2.1 = [])) := ⟨_, rfl⟩
  have hN2 : d2 = true → PM.bytesB (PM.stepB lb false 500).1 = lb := by
    intro h
    rw [h] at hD2
    simp at hD2
    have := PM.stepB_back hD2.1
    rw [hD2.2, List.append_nil] at this
    exact this.symm
  replace hN2 := Lib.hid hN2
  replace hD2 := Lib.hid hD2
  have hn2 := (PM.stepB_lt lb false 500).1
  clear R2 ho5
  generalize PM.stepB lb false 500 = st2 at *
  obtain ⟨s2, l2, wr2⟩ := st2
  simp only at hs5 R2' hN2 hD2 hn2 ⊢
  go_wp2_with fail
  refine (hnew _ (hv.keep hB5)).mono ?_
  rintro e w6 ⟨x3, rfl, hx3, R3, hB6⟩
  have ne13 : x1 ≠ x3 := by have := R1.lt; omega
  have ne23 : x2 ≠ x3 := by have := R2'.lt; omega
  replace R1 := R1.keep hB6
  have R2 := R2'.keep hB6
  replace hs5 := hs5.keep hB6
  clear R2'
  have lt3 : w.heap.size ≤ x3 := by have := hB5.size; omega
  replace hB6 := PM.chain hB5 hB6
  go_wp2_with fail
  refine (rvalue_any x3 _ _ _ R3 (by omega)).mono ?_
  rintro e w7 ⟨rfl, R3', hX7⟩
  replace R1 := PM.RD.keepr hX7 ne13 R3 R1
  replace R2 := PM.RD.keepr hX7 ne23 R3 R2
  replace hs5 := hs5.keepr hX7 R3
  have hB7 := hX7.below hB6 lt3 hB6.size
  obtain ⟨d3, hD3⟩ : ∃ d, d = (!(PM.stepV lb false).2.2 && decide ((PM.stepV lb false).2.1 = [])) := ⟨_, rfl⟩
  have hN3 : d3 = true → PM.valB (PM.stepV lb false).1.1 (PM.stepV lb false).1.2.1 (PM.stepV lb false).1.2.2 = lb ∧ PM.mayE (PM.stepV lb false).1.1 (PM.stepV lb false).1.2.1 (PM.stepV lb false).1.2.2 = 0 := by
    intro h
    rw [h] at hD3
    simp at hD3
    have := PM.stepV_back hD3.1
    rw [hD3.2, List.append_nil] at this
    exact ⟨this.1.symm, PM.mayE_of this.2⟩
  replace hN3 := Lib.hid hN3
  replace hD3 := Lib.hid hD3
  have hn3 := PM.stepV_lt lb false
  clear R3
  generalize PM.stepV lb false = st3 at *
  obtain ⟨⟨k3, z3, s3⟩, l3, wr3⟩ := st3
  simp only at R3' hN3 hD3 hn3 ⊢
  go_wp2_with fail
  have hBa : Below w7.heap.size w7 (w7.alloc (.cells #[.int .i64 k3, .int .i64 z3, .string ⟨s3.toArray⟩] 24)) := (Below.refl _ _).alloc (Nat.le_refl _) _
  have B9 : PM.BK (w7.alloc (.cells #[.int .i64 k3, .int .i64 z3, .string ⟨s3.toArray⟩] 24)) w7.heap.size #[.int .i64 k3, .int .i64 z3, .string ⟨s3.toArray⟩] 24 := PM.BK.new _ _ _
  replace R1 := R1.keep hBa
  replace R2 := R2.keep hBa
  have R3 := R3'.keep hBa
  replace hs5 := hs5.keep hBa
  have hBz := PM.chain hB7 hBa
  have hvz := hv.keep hBz
  clear R3' hBa hB7 hB6 hB5 hB4 hB3 hB2 hB1 hX hX5 hX7 hnew
  generalize w7.alloc (.cells #[.int .i64 k3, .int .i64 z3, .string ⟨s3.toArray⟩] 24) = wa at *
  refine PM.wp_region_st [some 31, some 32, some 33, some 34, some 35, some 36, some 37, some 38, some 39, some 40, some 41, some 10] [fun x _ => x = .pointer (some ⟨x1, 0, none⟩), fun x _ => x = .bool d1, fun x _ => x = .bool (!d1), fun x _ => x = .bool (!d1), fun x w' => d1 = true → x = .int .u64 (n1 : Nat), fun x w' => d1 = true → PM.BS w' x lb, fun x w' => d1 = true → x = .string ⟨lb.toArray⟩, fun x w' => d1 = true → x = v0, fun x w' => d1 = true → x = .string ⟨lb.toArray⟩, fun x w' => d1 = true → x = .bool true, fun x _ => x = .bool true, fun x _ => x = .bool true] (by kernel_rfl) (by kernel_rfl) (by kernel_rfl) ?_ ?_ ?_
  · simp only [List.forall_mem_cons]
    refine ⟨?_, ?_, ?_, ?_, ?_, ?_, ?_, ?_, ?_, ?_, ?_, ?_, by simp⟩
    all_goals (intro x W W' h hb; first | exact h | exact PM.BS.keep hb h | exact PM.OW.keep hb h | exact fun hd => PM.BS.keep hb (h hd))
  · refine ⟨?_, ?_, ?_, ?_, ?_, ?_, ?_, ?_, ?_, ?_, ?_, ?_, trivial⟩
    all_goals
      intro a W hB hF hd
      have k0 := hF 0 rfl
      have k4 := hF 4 rfl
      have k5 := hF 5 rfl
      have R1' := R1.keep hB
      have hBB := hB
      have hv' := hvz.keep hBB
      have kb := PM.run_str bty Try.underlying9 hv'
      cases d1
    all_goals
      clear hF
      simp [PM.depsL, PM.spec, PM.sl, Region.binds] at hd k0 k4 k5
      simp only [PM.wantL, PM.spec]
      try simp only [PM.sl]
      first | (have kc := PM.run_str bty Try.underlying9 hd) | (have kc := PM.run_str bty Try.underlying9 hd.1) | skip
      go_simp
    all_goals try exact Below.refl _ _
    all_goals try (intro h; simp [undef] at h; done)
    · refine (done_c x1 _ _ _ W R1' hD1.out).mono ?_
      rintro e w' ⟨rfl, rfl⟩
      exact ⟨Below.refl _ _, rfl⟩
    · refine (done_c x1 _ _ _ W R1' hD1.out).mono ?_
      rintro e w' ⟨rfl, rfl⟩
      exact ⟨Below.refl _ _, rfl⟩
    · refine (number_any _ [] n1 hn1 W (PM.BS.nil W) (by simp)).mono ?_
      rintro e w' ⟨v', rfl, ho, hb⟩
      exact ⟨hb, _, rfl, by have := ho.bs; rwa [List.nil_append, hN1.out rfl] at this⟩
  · intro G W hB hF hS
    simp [PM.allSp, PM.spec] at hS
    rw [show ((List.range (Array.size _)).map G).toArray = #[G 0, G 1, G 2, G 3, G 4, G 5, G 6, G 7, G 8, G 9, G 10, G 11, G 12, G 13, G 14, G 15, G 16, G 17, G 18, G 19, G 20, G 21, G 22, G 23, G 24, G 25, G 26, G 27, G 28, G 29, G 30, G 31, G 32, G 33, G 34, G 35, G 36, G 37, G 38, G 39, G 40, G 41, G 42, G 43, G 44, G 45, G 46, G 47, G 48, G 49, G 50, G 51, G 52, G 53, G 54, G 55, G 56, G 57, G 58, G 59, G 60, G 61, G 62, G 63, G 64, G 65, G 66, G 67, G 68, G 69, G 70, G 71, G 72, G 73, G 74, G 75] from rfl]
    have q0 := hF 0 rfl
    have q6 := hF 6 rfl
    have q7 := hF 7 rfl
    have q8 := hF 8 rfl
    have q9 := hF 9 rfl
    have q10 : G 10 = .bool true := by simp [hS]
    simp [PM.sl] at q0 q6 q7 q8 q9
    clear hF hS
    rw [q0, q6, q7, q8, q9, q10]
    clear q0 q6 q7 q8 q9 q10
    have hC1 := hB
    clear hB
    go_wp2_with fail
    refine PM.wp_region_st [some 42, some 43, some 44, some 45, some 46, some 47, some 48, some 49, some 50, some 51, some 52, some 11] [fun x _ => x = .pointer (some ⟨x2, 0, none⟩), fun x _ => x = .bool d2, fun x _ => x = .bool (!d2), fun x _ => x = .bool (!d2), fun x w' => d2 = true → x = v5, fun x w' => d2 = true → PM.BS w' x lb, fun x w' => d2 = true → x = .string ⟨lb.toArray⟩, fun x w' => d2 = true → x = v0, fun x w' => d2 = true → x = .string ⟨lb.toArray⟩, fun x w' => d2 = true → x = .bool true, fun x _ => x = .bool true, fun x _ => x = .bool true] (by kernel_rfl) (by kernel_rfl) (by kernel_rfl) ?_ ?_ ?_
    · simp only [List.forall_mem_cons]
      refine ⟨?_, ?_, ?_, ?_, ?_, ?_, ?_, ?_, ?_, ?_, ?_, ?_, by simp⟩
      all_goals (intro x W W' h hb; first | exact h | exact PM.BS.keep hb h | exact PM.OW.keep hb h | exact fun hd => PM.BS.keep hb (h hd))
    · refine ⟨?_, ?_, ?_, ?_, ?_, ?_, ?_, ?_, ?_, ?_, ?_, ?_, trivial⟩
      all_goals
        intro a W hB hF hd
        have k0 := hF 0 rfl
        have k6 := hF 6 rfl
        have k7 := hF 7 rfl
        have hBB := hC1.trans (hB.mono hC1.size)
        have R2' := R2.keep hBB
        have hs5' := hs5.keep hBB
        have hv' := hvz.keep hBB
        have kb := PM.run_str bty Try.underlying9 hv'
        cases d2
      all_goals
        clear hF
        simp [PM.depsL, PM.spec, PM.sl, Region.binds] at hd k0 k6 k7
        simp only [PM.wantL, PM.spec]
        try simp only [PM.sl]
        first | (have kc := PM.run_str bty Try.underlying9 hd) | (have kc := PM.run_str bty Try.underlying9 hd.1) | skip
        go_simp
      all_goals try exact Below.refl _ _
      all_goals try (intro h; simp [undef] at h; done)
      · refine (done_c x2 _ _ _ W R2' hD2.out).mono ?_
        rintro e w' ⟨rfl, rfl⟩
        exact ⟨Below.refl _ _, rfl⟩
      · refine (done_c x2 _ _ _ W R2' hD2.out).mono ?_
        rintro e w' ⟨rfl, rfl⟩
        exact ⟨Below.refl _ _, rfl⟩
      · refine (bytes_any _ _ [] s2 W (PM.BS.nil W) hs5' (by simp) (by omega)).mono ?_
        rintro e w' ⟨v', rfl, ho, hb⟩
        exact ⟨hb, _, rfl, by have := ho.bs; rwa [List.nil_append, hN2.out rfl] at this⟩
    · intro G W hB hF hS
      simp [PM.allSp, PM.spec] at hS
      rw [show ((List.range (Array.size _)).map G).toArray = #[G 0, G 1, G 2, G 3, G 4, G 5, G 6, G 7, G 8, G 9, G 10, G 11, G 12, G 13, G 14, G 15, G 16, G 17, G 18, G 19, G 20, G 21, G 22, G 23, G 24, G 25, G 26, G 27, G 28, G 29, G 30, G 31, G 32, G 33, G 34, G 35, G 36, G 37, G 38, G 39, G 40, G 41, G 42, G 43, G 44, G 45, G 46, G 47, G 48, G 49, G 50, G 51, G 52, G 53, G 54, G 55, G 56, G 57, G 58, G 59, G 60, G 61, G 62, G 63, G 64, G 65, G 66, G 67, G 68, G 69, G 70, G 71, G 72, G 73, G 74, G 75] from rfl]
      have q0 := hF 0 rfl
      have q8 := hF 8 rfl
      have q9 := hF 9 rfl
      have q10 := hF 10 rfl
      have q11 : G 11 = .bool true := by simp [hS]
      simp [PM.sl] at q0 q8 q9 q10
      clear hF hS
      rw [q0, q8, q9, q10, q11]
      clear q0 q8 q9 q10 q11
      have hC2 := PM.chain hC1 hB
      clear hB hC1
      go_wp2_with fail
      refine PM.wp_region_st [some 53, some 54, some 55, some 56, some 57, some 58, some 59, some 60, some 61, some 62, some 63, some 64, some 65, some 66, some 67, some 68, some 12] [fun x _ => x = .pointer (some ⟨x3, 0, none⟩), fun x _ => x = .bool d3, fun x _ => x = .bool (!d3), fun x _ => x = .bool (!d3), fun x w' => d3 = true → x = .agg #[.int .i64 k3, .int .i64 z3, .string ⟨s3.toArray⟩], fun x w' => d3 = true → PM.BS w' x lb, fun x w' => d3 = true → x = .string ⟨lb.toArray⟩, fun x w' => d3 = true → x = v0, fun x w' => d3 = true → x = .string ⟨lb.toArray⟩, fun x w' => d3 = true → x = .bool true, fun x _ => x = if d3 = true then .bool true else undef, fun x w' => d3 = true → x = .agg #[.int .i64 k3, .int .i64 z3, .string ⟨s3.toArray⟩], fun x w' => d3 = true → x = .int .i64 0, fun x w' => d3 = true → x = .bool true, fun x w' => d3 = true → x = .bool true, fun x _ => x = .bool true, fun x _ => x = .bool true] (by kernel_rfl) (by kernel_rfl) (by kernel_rfl) ?_ ?_ ?_
      · simp only [List.forall_mem_cons]
        refine ⟨?_, ?_, ?_, ?_, ?_, ?_, ?_, ?_, ?_, ?_, ?_, ?_, ?_, ?_, ?_, ?_, ?_, by simp⟩
        all_goals (intro x W W' h hb; first | exact h | exact PM.BS.keep hb h | exact PM.OW.keep hb h | exact fun hd => PM.BS.keep hb (h hd))
      · refine ⟨?_, ?_, ?_, ?_, ?_, ?_, ?_, ?_, ?_, ?_, ?_, ?_, ?_, ?_, ?_, ?_, ?_, trivial⟩
        all_goals
          intro a W hB hF hd
          have k0 := hF 0 rfl
          have k8 := hF 8 rfl
          have k9 := hF 9 rfl
          have hBB := hC2.trans (hB.mono hC2.size)
          have R3' := R3.keep hBB
          have B9' := B9.keep hBB
          have c0 := B9'.cell 0
          have c1 := B9'.cell 1
          have c2 := B9'.cell 2
          have hv' := hvz.keep hBB
          have kb := PM.run_str bty Try.underlying9 hv'
          cases d3
        all_goals
          clear hF
          simp [PM.depsL, PM.spec, PM.sl, Region.binds] at hd k0 k8 k9
          simp only [PM.wantL, PM.spec]
          try simp only [PM.sl]
          first | (have kc := PM.run_str bty Try.underlying9 hd) | (have kc := PM.run_str bty Try.underlying9 hd.1) | skip
          go_simp
        all_goals try exact Below.refl _ _
        all_goals try (intro h; simp [undef] at h; done)
        · refine (done_c x3 _ _ _ W R3' hD3.out).mono ?_
          rintro e w' ⟨rfl, rfl⟩
          exact ⟨Below.refl _ _, rfl⟩
        · refine (done_c x3 _ _ _ W R3' hD3.out).mono ?_
          rintro e w' ⟨rfl, rfl⟩
          exact ⟨Below.refl _ _, rfl⟩
        · refine (value_any _ [] k3 z3 ⟨s3.toArray⟩ W (PM.BS.nil W) (by simp) (by have := hn3.2.2.2.2; rw [PM.size_len]; simp; omega) hn3.1 hn3.2.1 hn3.2.2.1 hn3.2.2.2.1).mono ?_
          rintro e w' ⟨v', rfl, ho, hb⟩
          exact ⟨hb, _, rfl, by have := ho.bs; rwa [List.nil_append, (hN3.out rfl).1] at this⟩
        · refine (check_any k3 z3 ⟨s3.toArray⟩ W).mono ?_
          rintro e w' ⟨rfl, hb⟩
          first | exact ⟨hb, (hN3.out rfl).2⟩ | exact ⟨hb, _, rfl, by rw [(hN3.out rfl).2]⟩ | (refine ⟨hb, ?_⟩; simp [(hN3.out rfl).2])
      · intro G W hB hF hS
        simp [PM.allSp, PM.spec] at hS
        rw [show ((List.range (Array.size _)).map G).toArray = #[G 0, G 1, G 2, G 3, G 4, G 5, G 6, G 7, G 8, G 9, G 10, G 11, G 12, G 13, G 14, G 15, G 16, G 17, G 18, G 19, G 20, G 21, G 22, G 23, G 24, G 25, G 26, G 27, G 28, G 29, G 30, G 31, G 32, G 33, G 34, G 35, G 36, G 37, G 38, G 39, G 40, G 41, G 42, G 43, G 44, G 45, G 46, G 47, G 48, G 49, G 50, G 51, G 52, G 53, G 54, G 55, G 56, G 57, G 58, G 59, G 60, G 61, G 62, G 63, G 64, G 65, G 66, G 67, G 68, G 69, G 70, G 71, G 72, G 73, G 74, G 75] from rfl]
        have q10 := hF 10 rfl
        have q11 := hF 11 rfl
        have q12 : G 12 = .bool true := by simp [hS]
        simp [PM.sl] at q10 q11
        clear hF hS
        rw [q10, q11, q12]
        clear q10 q11 q12
        have hC3 := PM.chain hC2 hB
        clear hB hC2
        go_wp2
        go_ret
        exact ⟨rfl, PM.chain hBz hC3⟩

end Go.Proofs.Ytfmbnndpjjjdiaa
