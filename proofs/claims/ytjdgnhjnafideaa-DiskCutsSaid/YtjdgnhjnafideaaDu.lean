/-
  THE WALK OF LAYER 9's STATEMENT ON CUTS.
-/
import Derived.Test.YtjdgnhjnafideaaDa
namespace Go.Proofs.Ytjdgnhjnafideaa
open Go.RowKit
set_option linter.unusedVariables false
set_option maxHeartbeats 2000000 in
theorem diskCuts_walk (va : Value) (la : List UInt8) (vb : Value) (lb : List UInt8) (n keep : Int) (hn : (Lit.int .i64 n).wf = true) (hk : (Lit.int .i64 keep).wf = true) (w : World) (ha : PM.BS w va la) (hb0 : PM.BS w vb lb) :
    Calls Try.prog 8 #[va, vb, .int .i64 n, .int .i64 keep] w fun e w' => e = .returned (.bool true) ∧ Below w.heap.size w w' := by
  obtain ⟨n1, n2⟩ := Go.bounds_i64 hn
  obtain ⟨k1, k2⟩ := Go.bounds_i64 hk
  clear hn hk
  obtain ⟨a0, cap0, rfl⟩ := ha.len
  obtain ⟨a1, cap1, rfl⟩ := hb0.len
  go_enter Try.func8, Try.ntmps8
  go_wp2_with fail
  refine (awake9 _).mono ?_
  rintro e w0 ⟨rfl, hB0⟩
  by_cases ga : 300 < la.length
  · have ga' : (300 : Int) < (la.length : Int) := by omega
    go_wp2
    go_ret
    exact ⟨rfl, hB0⟩
  have ga' : ¬ ((300 : Int) < (la.length : Int)) := by omega
  by_cases gb : 300 < lb.length
  · have gb' : (300 : Int) < (lb.length : Int) := by omega
    go_wp2
    go_ret
    exact ⟨rfl, hB0⟩
  have gb' : ¬ ((300 : Int) < (lb.length : Int)) := by omega
  go_wp2_with fail
  refine (dnew_any 1000 (by decide) _).mono ?_
  rintro e w1 ⟨b, rfl, hb, hD, hB1⟩
  have D1 := hD w.heap.size
  clear hD
  have hbw : w.heap.size ≤ b := Nat.le_trans hB0.size hb
  replace hB1 := PM.chain hB0 hB1
  go_wp2_with fail
  refine (append_any w.heap.size b [] la 0 1000 _ _ D1 (ha.keep hB1) (by omega) (by simp) hB1.size (by decide)).mono ?_
  rintro e w2 ⟨rfl, D2, hb2⟩
  have hB2 := hB1.below' hb2 hbw (Nat.le_refl _)
  rw [show PM.appE [] la 1000 = 0 from if_pos (by simp; omega)]
  rw [show PM.appL [] la 1000 = la from if_pos (by simp; omega)] at D2
  clear hb2 D1 hB1
  go_wp2_with fail
  refine (cut_any w.heap.size b la 0 _ n _ D2).mono ?_
  rintro e w3 ⟨rfl, D3, hb3⟩
  have hB3 := hB2.below' hb3 hbw (Nat.le_refl _)
  clear hb3 D2 hB2
  by_cases hv : 0 ≤ n ∧ n ≤ (la.length : Int)
  case neg =>
    rw [show PM.cutE n la = 1 from if_neg hv]
    rw [show PM.cutL n la = la from if_neg hv, show PM.cutT n la 0 = 0 from if_neg hv] at D3
    by_cases h0 : n < 0
    · go_wp2_with fail
      refine PM.wp_region_st [some 46, some 47, some 48, some 49, some 50, some 51, some 52, some 53, some 54, some 55, some 8] [fun x _ => x = .int .i64 1, fun x _ => x = .bool true, fun x _ => x = .bool true, fun x _ => x = .pointer (some ⟨b, 0, none⟩), fun x w' => PM.BS w' x (la), fun x _ => x = .string ⟨(la).toArray⟩, fun x _ => x = .slice a0 la.length cap0, fun x _ => x = .string ⟨(la).toArray⟩, fun x _ => x = .bool true, fun x _ => x = .bool true, fun x _ => x = .bool true] (by kernel_rfl) (by kernel_rfl) (by kernel_rfl) ?_ ?_ ?_
      · simp only [List.forall_mem_cons]
        refine ⟨?_, ?_, ?_, ?_, ?_, ?_, ?_, ?_, ?_, ?_, ?_, by simp⟩
        all_goals (intro x W W' h hb; first | exact h | exact PM.BS.keep hb h | exact PM.OW.keep hb h)
      · refine ⟨?_, ?_, ?_, ?_, ?_, ?_, ?_, ?_, ?_, ?_, ?_, trivial⟩
        all_goals
          intro a W hB hF hd
          have k0 := hF 0 rfl
          have k10 := hF 10 rfl
          have k12 := hF 12 rfl
          have D' := D3.keep hB
          have ha' := ha.keep (PM.chain hB3 hB)
          have kb := PM.run_str bty Try.underlying9 ha'
          clear hF
          simp [PM.depsL, PM.spec, PM.sl, Region.binds] at hd k0 k10 k12
          simp only [PM.wantL, PM.spec]
          try simp only [PM.sl]
          first | (have kc := PM.run_str bty Try.underlying9 hd) | (have kc := PM.run_str bty Try.underlying9 hd.1) | skip
          go_simp
        all_goals try exact Below.refl _ _
        · refine (read_any w.heap.size b la 0 1000 W D' (by omega)).mono ?_
          rintro e w' ⟨v', rfl, ho, hb⟩
          exact ⟨hb, v', rfl, ho.bs⟩
      · intro G W hB hF hS
        simp [PM.allSp, PM.spec] at hS
        rw [show ((List.range (Array.size _)).map G).toArray = #[G 0, G 1, G 2, G 3, G 4, G 5, G 6, G 7, G 8, G 9, G 10, G 11, G 12, G 13, G 14, G 15, G 16, G 17, G 18, G 19, G 20, G 21, G 22, G 23, G 24, G 25, G 26, G 27, G 28, G 29, G 30, G 31, G 32, G 33, G 34, G 35, G 36, G 37, G 38, G 39, G 40, G 41, G 42, G 43, G 44, G 45, G 46, G 47, G 48, G 49, G 50, G 51, G 52, G 53, G 54, G 55, G 56, G 57, G 58, G 59, G 60, G 61, G 62, G 63, G 64, G 65, G 66, G 67, G 68, G 69, G 70, G 71, G 72, G 73, G 74, G 75, G 76, G 77, G 78, G 79, G 80, G 81, G 82, G 83, G 84, G 85, G 86, G 87, G 88, G 89, G 90, G 91, G 92, G 93, G 94, G 95, G 96, G 97, G 98, G 99, G 100, G 101, G 102] from rfl]
        have q8 : G 8 = .bool true := by simp [hS]
        clear hF hS
        rw [q8]
        clear q8
        go_wp2
        go_ret
        exact ⟨rfl, PM.chain hB3 hB⟩
    · have h1 : (la.length : Int) < n := by omega
      go_wp2_with fail
      refine PM.wp_region_st [some 46, some 47, some 48, some 49, some 50, some 51, some 52, some 53, some 54, some 55, some 8] [fun x _ => x = .int .i64 1, fun x _ => x = .bool true, fun x _ => x = .bool true, fun x _ => x = .pointer (some ⟨b, 0, none⟩), fun x w' => PM.BS w' x (la), fun x _ => x = .string ⟨(la).toArray⟩, fun x _ => x = .slice a0 la.length cap0, fun x _ => x = .string ⟨(la).toArray⟩, fun x _ => x = .bool true, fun x _ => x = .bool true, fun x _ => x = .bool true] (by kernel_rfl) (by kernel_rfl) (by kernel_rfl) ?_ ?_ ?_
      · simp only [List.forall_mem_cons]
        refine ⟨?_, ?_, ?_, ?_, ?_, ?_, ?_, ?_, ?_, ?_, ?_, by simp⟩
        all_goals (intro x W W' h hb; first | exact h | exact PM.BS.keep hb h | exact PM.OW.keep hb h)
      · refine ⟨?_, ?_, ?_, ?_, ?_, ?_, ?_, ?_, ?_, ?_, ?_, trivial⟩
        all_goals
          intro a W hB hF hd
          have k0 := hF 0 rfl
          have k10 := hF 10 rfl
          have k12 := hF 12 rfl
          have D' := D3.keep hB
          have ha' := ha.keep (PM.chain hB3 hB)
          have kb := PM.run_str bty Try.underlying9 ha'
          clear hF
          simp [PM.depsL, PM.spec, PM.sl, Region.binds] at hd k0 k10 k12
          simp only [PM.wantL, PM.spec]
          try simp only [PM.sl]
          first | (have kc := PM.run_str bty Try.underlying9 hd) | (have kc := PM.run_str bty Try.underlying9 hd.1) | skip
          go_simp
        all_goals try exact Below.refl _ _
        · refine (read_any w.heap.size b la 0 1000 W D' (by omega)).mono ?_
          rintro e w' ⟨v', rfl, ho, hb⟩
          exact ⟨hb, v', rfl, ho.bs⟩
      · intro G W hB hF hS
        simp [PM.allSp, PM.spec] at hS
        rw [show ((List.range (Array.size _)).map G).toArray = #[G 0, G 1, G 2, G 3, G 4, G 5, G 6, G 7, G 8, G 9, G 10, G 11, G 12, G 13, G 14, G 15, G 16, G 17, G 18, G 19, G 20, G 21, G 22, G 23, G 24, G 25, G 26, G 27, G 28, G 29, G 30, G 31, G 32, G 33, G 34, G 35, G 36, G 37, G 38, G 39, G 40, G 41, G 42, G 43, G 44, G 45, G 46, G 47, G 48, G 49, G 50, G 51, G 52, G 53, G 54, G 55, G 56, G 57, G 58, G 59, G 60, G 61, G 62, G 63, G 64, G 65, G 66, G 67, G 68, G 69, G 70, G 71, G 72, G 73, G 74, G 75, G 76, G 77, G 78, G 79, G 80, G 81, G 82, G 83, G 84, G 85, G 86, G 87, G 88, G 89, G 90, G 91, G 92, G 93, G 94, G 95, G 96, G 97, G 98, G 99, G 100, G 101, G 102] from rfl]
        have q8 : G 8 = .bool true := by simp [hS]
        clear hF hS
        rw [q8]
        clear q8
        go_wp2
        go_ret
        exact ⟨rfl, PM.chain hB3 hB⟩
  rw [show PM.cutE n la = 0 from if_pos hv]
  rw [show PM.cutL n la = la.take n.toNat from if_pos hv, show PM.cutT n la 0 = n from if_pos hv] at D3
  obtain ⟨hv1, hv2⟩ := hv
  obtain ⟨n, rfl⟩ := Int.eq_ofNat_of_zero_le hv1
  rw [Int.toNat_natCast] at D3
  have hv3 : ¬ ((la.length : Int) < (n : Int)) := by omega
  go_wp2_with fail
  refine (crash_any w.heap.size b (la.take n) n keep 1000 _ D3 (by omega) (by rw [List.length_take]; omega) (by rw [List.length_take]; omega) hB3.size k1 k2).mono ?_
  rintro e w4 ⟨rfl, D4, hb4⟩
  have hB4 := hB3.below' hb4 hbw (Nat.le_refl _)
  rw [show PM.left (la.take n) n keep = n from by unfold PM.left; rw [List.length_take]; omega, Int.toNat_natCast, List.take_take, Nat.min_self] at D4
  clear hb4 D3 hB3
  go_wp2_with fail
  refine PM.wp_region_st [some 59, some 60, some 61, some 62, some 63, some 64, some 65, some 66, some 67, some 68, some 69, some 70, some 71, some 72, some 13] [fun x _ => x = .pointer (some ⟨b, 0, none⟩), fun x w' => PM.BS w' x (la.take n), fun x _ => x = .string ⟨(la.take n).toArray⟩, fun x _ => x = .slice a0 la.length cap0, fun x _ => x = .int .i64 n, fun x w' => PM.BS w' x (la.take n), fun x _ => x = .string ⟨(la.take n).toArray⟩, fun x _ => x = .bool true, fun x _ => x = .bool true, fun x _ => x = .pointer (some ⟨b, 0, none⟩), fun x _ => x = .int .i64 n, fun x _ => x = .int .i64 n, fun x _ => x = .bool true, fun x _ => x = .bool true, fun x _ => x = .bool true] (by kernel_rfl) (by kernel_rfl) (by kernel_rfl) ?_ ?_ ?_
  · simp only [List.forall_mem_cons]
    refine ⟨?_, ?_, ?_, ?_, ?_, ?_, ?_, ?_, ?_, ?_, ?_, ?_, ?_, ?_, ?_, by simp⟩
    all_goals (intro x W W' h hb; first | exact h | exact PM.BS.keep hb h | exact PM.OW.keep hb h)
  · refine ⟨?_, ?_, ?_, ?_, ?_, ?_, ?_, ?_, ?_, ?_, ?_, ?_, ?_, ?_, ?_, trivial⟩
    all_goals
      intro a W hB hF hd
      have k0 := hF 0 rfl
      have k2 := hF 2 rfl
      have k10 := hF 10 rfl
      have D' := D4.keep hB
      have ha' := ha.keep (PM.chain hB4 hB)
      have kb := PM.run_str bty Try.underlying9 ha'
      clear hF
      simp [PM.depsL, PM.spec, PM.sl, Region.binds] at hd k0 k2 k10
      simp only [PM.wantL, PM.spec]
      try simp only [PM.sl]
      first | (have kc := PM.run_str bty Try.underlying9 hd) | (have kc := PM.run_str bty Try.underlying9 hd.1) | skip
      go_simp
    all_goals try exact Below.refl _ _
    · refine (read_any w.heap.size b (la.take n) n 1000 W D' (by rw [List.length_take]; omega)).mono ?_
      rintro e w' ⟨v', rfl, ho, hb⟩
      exact ⟨hb, v', rfl, ho.bs⟩
    · have hn' : n ≤ la.length := by omega
      rcases ha' with ⟨h1, h2⟩ | ⟨xb, off, xc, h1, g1, g2, g3⟩ | ⟨xx, xc, h1, h2, g2⟩
      · simp at h1
        obtain ⟨rfl, h1, rfl⟩ := h1
        obtain rfl : la = [] := h2
        obtain rfl : n = 0 := by simpa using hn'
        go_simp
        exact ⟨Below.refl _ _, _, rfl, by simpa using PM.BS.nil W⟩
      · simp at h1
        obtain ⟨rfl, rfl⟩ := h1
        have hbs := PM.BS.take g1 g2 g3 hn'
        unfold maxLen at g2
        go_simp
        rw [if_pos (by omega)]
        exact ⟨Below.refl _ _, _, rfl, hbs⟩
      · simp at h1
        obtain ⟨rfl, h1, rfl⟩ := h1
        obtain rfl : la = [] := h2
        obtain rfl : n = 0 := by simpa using hn'
        unfold maxLen at g2
        go_simp
        exact ⟨Below.refl _ _, _, rfl, .inr (.inr ⟨_, _, rfl, rfl, by unfold maxLen; omega⟩)⟩
    · refine (lasting_any w.heap.size b _ _ _ W D').mono ?_
      rintro e w' ⟨rfl, rfl⟩
      exact ⟨Below.refl _ _, rfl⟩
  · intro G W hB hF hS
    simp [PM.allSp, PM.spec] at hS
    rw [show ((List.range (Array.size _)).map G).toArray = #[G 0, G 1, G 2, G 3, G 4, G 5, G 6, G 7, G 8, G 9, G 10, G 11, G 12, G 13, G 14, G 15, G 16, G 17, G 18, G 19, G 20, G 21, G 22, G 23, G 24, G 25, G 26, G 27, G 28, G 29, G 30, G 31, G 32, G 33, G 34, G 35, G 36, G 37, G 38, G 39, G 40, G 41, G 42, G 43, G 44, G 45, G 46, G 47, G 48, G 49, G 50, G 51, G 52, G 53, G 54, G 55, G 56, G 57, G 58, G 59, G 60, G 61, G 62, G 63, G 64, G 65, G 66, G 67, G 68, G 69, G 70, G 71, G 72, G 73, G 74, G 75, G 76, G 77, G 78, G 79, G 80, G 81, G 82, G 83, G 84, G 85, G 86, G 87, G 88, G 89, G 90, G 91, G 92, G 93, G 94, G 95, G 96, G 97, G 98, G 99, G 100, G 101, G 102] from rfl]
    have q1 := hF 1 rfl
    have q3 := hF 3 rfl
    have q10 := hF 10 rfl
    have q12 := hF 12 rfl
    have q13 : G 13 = .bool true := by simp [hS]
    simp [PM.sl] at q1 q3 q10 q12
    clear hF hS
    rw [q1, q3, q10, q12, q13]
    clear q1 q3 q10 q12 q13
    have hB5 := PM.chain hB4 hB
    have D5 := D4.keep hB
    have hb5 := hb0.keep hB5
    clear hB D4 hB4
    go_wp2_with fail
    refine (swap_any w.heap.size b _ lb _ 1000 _ _ D5 hb5 (by omega) hB5.size (by decide)).mono ?_
    rintro e w6 ⟨rfl, D6, hb6⟩
    have hB6 := hB5.below' hb6 hbw (Nat.le_refl _)
    rw [show PM.swpE lb 1000 = 0 from if_pos (by omega)]
    rw [show PM.swpL (la.take n) lb 1000 = lb from if_pos (by omega), show PM.swpT lb 1000 n = lb.length from if_pos (by omega)] at D6
    clear hb6 D5 hB5 hb5
    go_wp2_with fail
    refine (crash_any w.heap.size b lb lb.length keep 1000 _ D6 (by omega) (by omega) (by omega) hB6.size k1 k2).mono ?_
    rintro e w7 ⟨rfl, D7, hb7⟩
    have hB7 := hB6.below' hb7 hbw (Nat.le_refl _)
    rw [show PM.left lb lb.length keep = lb.length from by unfold PM.left; omega, Int.toNat_natCast, List.take_length] at D7
    clear hb7 D6 hB6
    go_wp2_with fail
    refine PM.wp_region_st [some 79, some 80, some 81, some 82, some 83, some 84, some 85, some 86, some 87, some 88, some 89, some 90, some 91, some 92, some 93, some 94, some 95, some 96, some 97, some 98, some 99, some 100, some 101, some 102, some 8] [fun x _ => x = .int .i64 0, fun x _ => x = .bool true, fun x _ => x = .bool true, fun x _ => x = .bool true, fun x _ => x = .bool true, fun x _ => x = .bool true, fun x _ => x = .int .i64 0, fun x _ => x = .bool true, fun x _ => x = .bool true, fun x _ => x = .bool true, fun x _ => x = .pointer (some ⟨b, 0, none⟩), fun x w' => PM.BS w' x (lb), fun x _ => x = .string ⟨(lb).toArray⟩, fun x _ => x = .slice a1 lb.length cap1, fun x _ => x = .string ⟨(lb).toArray⟩, fun x _ => x = .bool true, fun x _ => x = .bool true, fun x _ => x = .bool true, fun x _ => x = .pointer (some ⟨b, 0, none⟩), fun x _ => x = .int .i64 lb.length, fun x _ => x = .slice a1 lb.length cap1, fun x _ => x = .int .i64 lb.length, fun x _ => x = .bool true, fun x _ => x = .bool true, fun x _ => x = .bool true] (by kernel_rfl) (by kernel_rfl) (by kernel_rfl) ?_ ?_ ?_
    · simp only [List.forall_mem_cons]
      refine ⟨?_, ?_, ?_, ?_, ?_, ?_, ?_, ?_, ?_, ?_, ?_, ?_, ?_, ?_, ?_, ?_, ?_, ?_, ?_, ?_, ?_, ?_, ?_, ?_, ?_, by simp⟩
      all_goals (intro x W W' h hb; first | exact h | exact PM.BS.keep hb h | exact PM.OW.keep hb h)
    · refine ⟨?_, ?_, ?_, ?_, ?_, ?_, ?_, ?_, ?_, ?_, ?_, ?_, ?_, ?_, ?_, ?_, ?_, ?_, ?_, ?_, ?_, ?_, ?_, ?_, ?_, trivial⟩
      all_goals
        intro a W hB hF hd
        have k1 := hF 1 rfl
        have k10 := hF 10 rfl
        have k12 := hF 12 rfl
        have k13 := hF 13 rfl
        have k14 := hF 14 rfl
        have D' := D7.keep hB
        have ha' := hb0.keep (PM.chain hB7 hB)
        have kb := PM.run_str bty Try.underlying9 ha'
        clear hF
        simp [PM.depsL, PM.spec, PM.sl, Region.binds] at hd k1 k10 k12 k13 k14
        simp only [PM.wantL, PM.spec]
        try simp only [PM.sl]
        first | (have kc := PM.run_str bty Try.underlying9 hd) | (have kc := PM.run_str bty Try.underlying9 hd.1) | skip
        go_simp
      all_goals try exact Below.refl _ _
      · refine (read_any w.heap.size b lb lb.length 1000 W D' (by omega)).mono ?_
        rintro e w' ⟨v', rfl, ho, hb⟩
        exact ⟨hb, v', rfl, ho.bs⟩
      · refine (lasting_any w.heap.size b _ _ _ W D').mono ?_
        rintro e w' ⟨rfl, rfl⟩
        exact ⟨Below.refl _ _, rfl⟩
    · intro G W hB hF hS
      simp [PM.allSp, PM.spec] at hS
      rw [show ((List.range (Array.size _)).map G).toArray = #[G 0, G 1, G 2, G 3, G 4, G 5, G 6, G 7, G 8, G 9, G 10, G 11, G 12, G 13, G 14, G 15, G 16, G 17, G 18, G 19, G 20, G 21, G 22, G 23, G 24, G 25, G 26, G 27, G 28, G 29, G 30, G 31, G 32, G 33, G 34, G 35, G 36, G 37, G 38, G 39, G 40, G 41, G 42, G 43, G 44, G 45, G 46, G 47, G 48, G 49, G 50, G 51, G 52, G 53, G 54, G 55, G 56, G 57, G 58, G 59, G 60, G 61, G 62, G 63, G 64, G 65, G 66, G 67, G 68, G 69, G 70, G 71, G 72, G 73, G 74, G 75, G 76, G 77, G 78, G 79, G 80, G 81, G 82, G 83, G 84, G 85, G 86, G 87, G 88, G 89, G 90, G 91, G 92, G 93, G 94, G 95, G 96, G 97, G 98, G 99, G 100, G 101, G 102] from rfl]
      have q8 : G 8 = .bool true := by simp [hS]
      clear hF hS
      rw [q8]
      clear q8
      go_wp2
      go_ret
      exact ⟨rfl, PM.chain hB7 hB⟩
end Go.Proofs.Ytjdgnhjnafideaa
