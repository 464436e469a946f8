/-
  THE WALK OF LAYER 9's STATEMENT ON WHAT LASTS.
-/
import Derived.Test.YtjdgnhjnafideaaDa
import Derived.Test.YtjdgnhjnafideaaCs
namespace Go.Proofs.Ytjdgnhjnafideaa
open Go.RowKit
set_option linter.unusedVariables false
theorem PM.OW.keepd2 {E : TypeId} {B C b : Nat} {w w' : World} {v : Value} {l : List UInt8} (h : PM.OW E C w v l) (hd : PM.Bd B b w w') (hB : w.heap.size ≤ B) (hb : b < C) : PM.OW E C w' v l := by
  refine ⟨h.1, ?_⟩
  rcases h.2 with hn | ⟨g, cap, cur, hv, hC, hg, r⟩
  · exact .inl hn
  · have hlt : g < w.heap.size := (Array.getElem?_eq_some_iff.1 hg).1
    exact .inr ⟨g, cap, cur, hv, hC, (hd.block g (by omega) (by omega)).trans hg, r⟩
set_option maxRecDepth 100000 in
set_option maxHeartbeats 8000000 in
theorem diskLasts_walk (vs : Value) (n : Nat) (keep : Int) (hk : (Lit.int .i64 keep).wf = true) (w : World) (hs : PM.CS w vs n) :
    Calls Try.prog 5 #[vs, .int .i64 keep] w fun e w' => e = .returned (.bool true) ∧ Below w.heap.size w w' := by
  obtain ⟨kp1, kp2⟩ := Go.bounds_i64 hk
  clear hk
  obtain ⟨ad, cap, rfl, hcap, hmax, hel⟩ := hs
  unfold maxLen at hmax
  have HEL := Lib.hid hel
  clear hel
  go_enter Try.func5, Try.ntmps5
  go_wp2_with fail
  refine (awake9 _).mono ?_
  rintro e w0 ⟨rfl, hB0⟩
  go_wp2_with fail
  refine (dnew_any 20000 (by decide) _).mono ?_
  rintro e w1 ⟨b, rfl, hb, hD, hB1⟩
  have D1 := hD w.heap.size
  clear hD
  have hbw : w.heap.size ≤ b := Nat.le_trans hB0.size hb
  replace hB1 := PM.chain hB0 hB1
  go_wp2_with fail
  go_loopw [8] (fun s8 wr => ∃ (i : Nat) (l : List UInt8) (last : Int), i ≤ n ∧ s8 = .int .i64 i ∧ 0 ≤ last ∧ last ≤ l.length ∧ l.length ≤ 20000 ∧ PM.DK 51 5 w.heap.size wr b l last (20000 : Nat) ∧ Below w.heap.size w wr) (fun s8 _ => n - (intOf s8).toNat)
  case atStart => exact ⟨0, [], 0, by omega, rfl, by omega, by simp, by simp, D1, hB1⟩
  case round =>
    obtain ⟨i, l, last, hi, rfl, hl0, hl1, hl, D, hB⟩ := hrel
    clear D1 hB1
    by_cases hend : i < n ∧ i < 60
    case neg =>
      have hgo : i = n ∨ (i < n ∧ ¬ ((i : Int) < 60)) := by omega
      have h9l : ¬ ((l.length : Int) < last) := by omega
      have hll := hl1
      obtain ⟨L, hL⟩ := Int.eq_ofNat_of_zero_le (show 0 ≤ PM.left l last keep by unfold PM.left; omega)
      have hL1 : last ≤ (L : Int) := by rw [← hL]; unfold PM.left; omega
      have hLl : L ≤ l.length := by have : (L : Int) ≤ l.length := by rw [← hL]; unfold PM.left; omega
                                    omega
      have hlen : (l.take L).length = L := by rw [List.length_take]; omega
      rcases hgo with rfl | ⟨hg1, hg2⟩
      all_goals
        go_wp2_with fail
        refine (read_any w.heap.size b l last _ _ D (by omega)).mono ?_
        rintro e w5 ⟨v5, rfl, ho9, hb5⟩
        have D5 := D.keep hb5
        have hB5 := PM.chain hB hb5
        have hbl := D.lt
        clear D hB hb5
        obtain ⟨a9, c9, rfl⟩ := ho9.bs.len
        go_wp2_with fail
        refine (lasting_any w.heap.size b l last _ _ D5).mono ?_
        rintro e w5' ⟨rfl, rfl⟩
        go_wp2_with fail
        refine (crash_anyC w5.heap.size w.heap.size b l last keep 20000 _ D5 hl0 hl1 (by omega) (Nat.le_refl _) kp1 kp2).mono ?_
        rintro e w6 ⟨rfl, D6, hb6⟩
        have hB6 := hB5.below' hb6 hbw hB5.size
        replace ho9 := ho9.keepd2 hb6 (Nat.le_refl _) hbl
        rw [hL, Int.toNat_natCast] at D6
        clear hb6 D5 hB5
        go_wp2_with fail
        refine (read_any w.heap.size b (l.take L) L _ _ D6 (by rw [hlen]; omega)).mono ?_
        rintro e w7 ⟨v7, rfl, ho11, hb7⟩
        have D7 := D6.keep hb7
        have hB7 := PM.chain hB6 hb7
        have hb11 := D6.lt
        have h9 := (ho9.keep hb7).bs
        clear D6 hB6 hb7 ho9
        obtain ⟨a11, c11, e11⟩ := ho11.bs.len
        rw [hlen] at e11
        subst e11
        by_cases z1 : keep < 0
        · obtain rfl : last = (L : Int) := by rw [← hL]; unfold PM.left; omega
          have z3 : ¬ ((l.length : Int) - (L : Int) < 0) := by omega
          go_wp2_with fail
          skip
          refine PM.wp_region_st [some 105, some 106, some 107, some 108, some 109, some 110, some 111, some 112, some 113, some 114, some 115, some 116, some 117, some 118, some 119, some 120, some 121, some 122, some 123] [fun x _ => x = .slice a11 L c11, fun x _ => x = .int .i64 (L : Nat), fun x _ => x = .int .i64 (L : Nat), fun x _ => x = .bool false, fun x _ => x = .bool false, fun x _ => x = .slice a11 L c11, fun x _ => x = .string ⟨((l.take L)).toArray⟩, fun x _ => x = .slice a9 l.length c9, fun x _ => x = .int .i64 (L : Nat), fun x w' => PM.BS w' x ((l.take L)), fun x _ => x = .string ⟨((l.take L)).toArray⟩, fun x _ => x = .bool false, fun x _ => x = .bool false, fun x _ => x = .bool false, fun x _ => x = .pointer (some ⟨b, 0, none⟩), fun x _ => x = .int .i64 (L : Nat), fun x _ => x = .int .i64 (L : Nat), fun x _ => x = .bool false, fun x _ => x = .bool false] (by kernel_rfl) (by kernel_rfl) (by kernel_rfl) ?_ ?_ ?_
          · simp only [List.forall_mem_cons]
            refine ⟨?_, ?_, ?_, ?_, ?_, ?_, ?_, ?_, ?_, ?_, ?_, ?_, ?_, ?_, ?_, ?_, ?_, ?_, ?_, by simp⟩
            all_goals (intro x W W' h hb; first | exact h | exact PM.BS.keep hb h | exact PM.OW.keep hb h)
          · refine ⟨?_, ?_, ?_, ?_, ?_, ?_, ?_, ?_, ?_, ?_, ?_, ?_, ?_, ?_, ?_, ?_, ?_, ?_, ?_, trivial⟩
            all_goals
              intro a W hB hF hd
              have k6 := hF 6 rfl
              have k9 := hF 9 rfl
              have k11 := hF 11 rfl
              have k12 := hF 12 rfl
              have h9' := h9.keep hB
              have h11' := ho11.bs.keep hB
              have kb := PM.run_str bty Try.underlying9 h11'
              clear hF
              simp [PM.depsL, PM.spec, PM.sl, Region.binds] at hd k6 k9 k11 k12
              simp only [PM.wantL, PM.spec]
              try simp only [PM.sl]
              first | (have kc := PM.run_str bty Try.underlying9 hd) | (have kc := PM.run_str bty Try.underlying9 hd.1) | skip
              go_simp
            all_goals try exact Below.refl _ _
            · rcases h9' with ⟨h1, h2⟩ | ⟨xb, off, xc, h1, g1, g2, g3⟩ | ⟨xx, xc, h1, h2, g2⟩
              · simp at h1
                obtain ⟨rfl, h1, rfl⟩ := h1
                obtain rfl : l = [] := h2
                obtain rfl : L = 0 := by simpa using hLl
                go_simp
                exact ⟨Below.refl _ _, _, rfl, by simpa using PM.BS.nil W⟩
              · simp at h1
                obtain ⟨rfl, rfl⟩ := h1
                have hbs := PM.BS.take g1 g2 g3 hLl
                unfold maxLen at g2
                go_simp
                rw [if_pos (by omega)]
                exact ⟨Below.refl _ _, _, rfl, hbs⟩
              · simp at h1
                obtain ⟨rfl, h1, rfl⟩ := h1
                obtain rfl : l = [] := h2
                obtain rfl : L = 0 := by simpa using hLl
                unfold maxLen at g2
                go_simp
                exact ⟨Below.refl _ _, _, rfl, .inr (.inr ⟨_, _, rfl, rfl, by unfold maxLen; omega⟩)⟩
            · refine (lasting_any w.heap.size b _ _ _ W (D7.keep hB)).mono ?_
              rintro e w' ⟨rfl, rfl⟩
              exact ⟨Below.refl _ _, rfl⟩
          · intro G W hB hF hS
            simp [PM.allSp, PM.spec] at hS
            rw [show ((List.range (Array.size _)).map G).toArray = #[G 0, G 1, G 2, G 3, G 4, G 5, G 6, G 7, G 8, G 9, G 10, G 11, G 12, G 13, G 14, G 15, G 16, G 17, G 18, G 19, G 20, G 21, G 22, G 23, G 24, G 25, G 26, G 27, G 28, G 29, G 30, G 31, G 32, G 33, G 34, G 35, G 36, G 37, G 38, G 39, G 40, G 41, G 42, G 43, G 44, G 45, G 46, G 47, G 48, G 49, G 50, G 51, G 52, G 53, G 54, G 55, G 56, G 57, G 58, G 59, G 60, G 61, G 62, G 63, G 64, G 65, G 66, G 67, G 68, G 69, G 70, G 71, G 72, G 73, G 74, G 75, G 76, G 77, G 78, G 79, G 80, G 81, G 82, G 83, G 84, G 85, G 86, G 87, G 88, G 89, G 90, G 91, G 92, G 93, G 94, G 95, G 96, G 97, G 98, G 99, G 100, G 101, G 102, G 103, G 104, G 105, G 106, G 107, G 108, G 109, G 110, G 111, G 112, G 113, G 114, G 115, G 116, G 117, G 118, G 119, G 120, G 121, G 122, G 123, G 124, G 125, G 126, G 127, G 128, G 129, G 130, G 131] from rfl]
            have q6 := hF 6 rfl
            have q11 := hF 11 rfl
            have q123 : G 123 = .bool false := by simp [hS]
            simp [PM.sl] at q6 q11
            clear hF hS
            rw [q6, q11, q123]
            clear q6 q11 q123
            replace D7 := D7.keep hB
            replace ho11 := ho11.keep hB
            replace hB7 := PM.chain hB7 hB
            clear hB h9
            go_wp2_with fail
            refine (crash_anyC W.heap.size w.heap.size b (l.take L) L (-1) 20000 _ D7 (by omega) (by rw [hlen]; exact Int.le_refl _) (by rw [hlen]; omega) (Nat.le_refl _) (by omega) (by omega)).mono ?_
            rintro e w8 ⟨rfl, D8, hb8⟩
            rw [show PM.left (l.take L) L (-1) = L from by unfold PM.left; rw [hlen]; omega, Int.toNat_natCast, List.take_take, Nat.min_self] at D8
            replace ho11 := ho11.keepd2 hb8 (Nat.le_refl _) hb11
            have hB8 := hB7.below' hb8 hbw hB7.size
            clear hb8 D7 hB7
            go_wp2_with fail
            refine PM.wp_region_st [some 126, some 127, some 128, some 129, some 130, some 131, some 4] [fun x _ => x = .pointer (some ⟨b, 0, none⟩), fun x w' => PM.BS w' x ((l.take L)), fun x _ => x = .string ⟨((l.take L)).toArray⟩, fun x _ => x = .slice a11 L c11, fun x _ => x = .string ⟨((l.take L)).toArray⟩, fun x _ => x = .bool true, fun x _ => x = .bool true] (by kernel_rfl) (by kernel_rfl) (by kernel_rfl) ?_ ?_ ?_
            · simp only [List.forall_mem_cons]
              refine ⟨?_, ?_, ?_, ?_, ?_, ?_, ?_, by simp⟩
              all_goals (intro x W W' h hb; first | exact h | exact PM.BS.keep hb h | exact PM.OW.keep hb h)
            · refine ⟨?_, ?_, ?_, ?_, ?_, ?_, ?_, trivial⟩
              all_goals
                intro a W hB hF hd
                have k6 := hF 6 rfl
                have k11 := hF 11 rfl
                have h11' := ho11.bs.keep hB
                have kb := PM.run_str bty Try.underlying9 h11'
                clear hF
                simp [PM.depsL, PM.spec, PM.sl, Region.binds] at hd k6 k11
                simp only [PM.wantL, PM.spec]
                try simp only [PM.sl]
                first | (have kc := PM.run_str bty Try.underlying9 hd) | (have kc := PM.run_str bty Try.underlying9 hd.1) | skip
                go_simp
              all_goals try exact Below.refl _ _
              · refine (read_any w.heap.size b (l.take L) L 20000 W (D8.keep hB) (by rw [hlen]; omega)).mono ?_
                rintro e w' ⟨v', rfl, ho, hb⟩
                exact ⟨hb, v', rfl, ho.bs⟩
            · intro G W hB hF hS
              simp [PM.allSp, PM.spec] at hS
              rw [show ((List.range (Array.size _)).map G).toArray = #[G 0, G 1, G 2, G 3, G 4, G 5, G 6, G 7, G 8, G 9, G 10, G 11, G 12, G 13, G 14, G 15, G 16, G 17, G 18, G 19, G 20, G 21, G 22, G 23, G 24, G 25, G 26, G 27, G 28, G 29, G 30, G 31, G 32, G 33, G 34, G 35, G 36, G 37, G 38, G 39, G 40, G 41, G 42, G 43, G 44, G 45, G 46, G 47, G 48, G 49, G 50, G 51, G 52, G 53, G 54, G 55, G 56, G 57, G 58, G 59, G 60, G 61, G 62, G 63, G 64, G 65, G 66, G 67, G 68, G 69, G 70, G 71, G 72, G 73, G 74, G 75, G 76, G 77, G 78, G 79, G 80, G 81, G 82, G 83, G 84, G 85, G 86, G 87, G 88, G 89, G 90, G 91, G 92, G 93, G 94, G 95, G 96, G 97, G 98, G 99, G 100, G 101, G 102, G 103, G 104, G 105, G 106, G 107, G 108, G 109, G 110, G 111, G 112, G 113, G 114, G 115, G 116, G 117, G 118, G 119, G 120, G 121, G 122, G 123, G 124, G 125, G 126, G 127, G 128, G 129, G 130, G 131] from rfl]
              have q4 : G 4 = .bool true := by simp [hS]
              clear hF hS
              rw [q4]
              clear q4
              go_wp2
              go_ret
              exact ⟨rfl, PM.chain hB8 hB⟩

        have z2 : ¬ keep < 0 := z1
        by_cases z3 : (l.length : Int) - last < keep
        · have e12 : last + ((l.length : Int) - last) = (L : Int) := by rw [← hL]; unfold PM.left; omega
          go_wp2_with fail
          try rw [e12]
          refine PM.wp_region_st [some 105, some 106, some 107, some 108, some 109, some 110, some 111, some 112, some 113, some 114, some 115, some 116, some 117, some 118, some 119, some 120, some 121, some 122, some 123] [fun x _ => x = .slice a11 L c11, fun x _ => x = .int .i64 (L : Nat), fun x _ => x = .int .i64 (L : Nat), fun x _ => x = .bool false, fun x _ => x = .bool false, fun x _ => x = .slice a11 L c11, fun x _ => x = .string ⟨((l.take L)).toArray⟩, fun x _ => x = .slice a9 l.length c9, fun x _ => x = .int .i64 (L : Nat), fun x w' => PM.BS w' x ((l.take L)), fun x _ => x = .string ⟨((l.take L)).toArray⟩, fun x _ => x = .bool false, fun x _ => x = .bool false, fun x _ => x = .bool false, fun x _ => x = .pointer (some ⟨b, 0, none⟩), fun x _ => x = .int .i64 (L : Nat), fun x _ => x = .int .i64 (L : Nat), fun x _ => x = .bool false, fun x _ => x = .bool false] (by kernel_rfl) (by kernel_rfl) (by kernel_rfl) ?_ ?_ ?_
          · simp only [List.forall_mem_cons]
            refine ⟨?_, ?_, ?_, ?_, ?_, ?_, ?_, ?_, ?_, ?_, ?_, ?_, ?_, ?_, ?_, ?_, ?_, ?_, ?_, by simp⟩
            all_goals (intro x W W' h hb; first | exact h | exact PM.BS.keep hb h | exact PM.OW.keep hb h)
          · refine ⟨?_, ?_, ?_, ?_, ?_, ?_, ?_, ?_, ?_, ?_, ?_, ?_, ?_, ?_, ?_, ?_, ?_, ?_, ?_, trivial⟩
            all_goals
              intro a W hB hF hd
              have k6 := hF 6 rfl
              have k9 := hF 9 rfl
              have k11 := hF 11 rfl
              have k12 := hF 12 rfl
              have h9' := h9.keep hB
              have h11' := ho11.bs.keep hB
              have kb := PM.run_str bty Try.underlying9 h11'
              clear hF
              simp [PM.depsL, PM.spec, PM.sl, Region.binds] at hd k6 k9 k11 k12
              simp only [PM.wantL, PM.spec]
              try simp only [PM.sl]
              first | (have kc := PM.run_str bty Try.underlying9 hd) | (have kc := PM.run_str bty Try.underlying9 hd.1) | skip
              go_simp
            all_goals try exact Below.refl _ _
            · rcases h9' with ⟨h1, h2⟩ | ⟨xb, off, xc, h1, g1, g2, g3⟩ | ⟨xx, xc, h1, h2, g2⟩
              · simp at h1
                obtain ⟨rfl, h1, rfl⟩ := h1
                obtain rfl : l = [] := h2
                obtain rfl : L = 0 := by simpa using hLl
                go_simp
                exact ⟨Below.refl _ _, _, rfl, by simpa using PM.BS.nil W⟩
              · simp at h1
                obtain ⟨rfl, rfl⟩ := h1
                have hbs := PM.BS.take g1 g2 g3 hLl
                unfold maxLen at g2
                go_simp
                rw [if_pos (by omega)]
                exact ⟨Below.refl _ _, _, rfl, hbs⟩
              · simp at h1
                obtain ⟨rfl, h1, rfl⟩ := h1
                obtain rfl : l = [] := h2
                obtain rfl : L = 0 := by simpa using hLl
                unfold maxLen at g2
                go_simp
                exact ⟨Below.refl _ _, _, rfl, .inr (.inr ⟨_, _, rfl, rfl, by unfold maxLen; omega⟩)⟩
            · refine (lasting_any w.heap.size b _ _ _ W (D7.keep hB)).mono ?_
              rintro e w' ⟨rfl, rfl⟩
              exact ⟨Below.refl _ _, rfl⟩
          · intro G W hB hF hS
            simp [PM.allSp, PM.spec] at hS
            rw [show ((List.range (Array.size _)).map G).toArray = #[G 0, G 1, G 2, G 3, G 4, G 5, G 6, G 7, G 8, G 9, G 10, G 11, G 12, G 13, G 14, G 15, G 16, G 17, G 18, G 19, G 20, G 21, G 22, G 23, G 24, G 25, G 26, G 27, G 28, G 29, G 30, G 31, G 32, G 33, G 34, G 35, G 36, G 37, G 38, G 39, G 40, G 41, G 42, G 43, G 44, G 45, G 46, G 47, G 48, G 49, G 50, G 51, G 52, G 53, G 54, G 55, G 56, G 57, G 58, G 59, G 60, G 61, G 62, G 63, G 64, G 65, G 66, G 67, G 68, G 69, G 70, G 71, G 72, G 73, G 74, G 75, G 76, G 77, G 78, G 79, G 80, G 81, G 82, G 83, G 84, G 85, G 86, G 87, G 88, G 89, G 90, G 91, G 92, G 93, G 94, G 95, G 96, G 97, G 98, G 99, G 100, G 101, G 102, G 103, G 104, G 105, G 106, G 107, G 108, G 109, G 110, G 111, G 112, G 113, G 114, G 115, G 116, G 117, G 118, G 119, G 120, G 121, G 122, G 123, G 124, G 125, G 126, G 127, G 128, G 129, G 130, G 131] from rfl]
            have q6 := hF 6 rfl
            have q11 := hF 11 rfl
            have q123 : G 123 = .bool false := by simp [hS]
            simp [PM.sl] at q6 q11
            clear hF hS
            rw [q6, q11, q123]
            clear q6 q11 q123
            replace D7 := D7.keep hB
            replace ho11 := ho11.keep hB
            replace hB7 := PM.chain hB7 hB
            clear hB h9
            go_wp2_with fail
            refine (crash_anyC W.heap.size w.heap.size b (l.take L) L (-1) 20000 _ D7 (by omega) (by rw [hlen]; exact Int.le_refl _) (by rw [hlen]; omega) (Nat.le_refl _) (by omega) (by omega)).mono ?_
            rintro e w8 ⟨rfl, D8, hb8⟩
            rw [show PM.left (l.take L) L (-1) = L from by unfold PM.left; rw [hlen]; omega, Int.toNat_natCast, List.take_take, Nat.min_self] at D8
            replace ho11 := ho11.keepd2 hb8 (Nat.le_refl _) hb11
            have hB8 := hB7.below' hb8 hbw hB7.size
            clear hb8 D7 hB7
            go_wp2_with fail
            refine PM.wp_region_st [some 126, some 127, some 128, some 129, some 130, some 131, some 4] [fun x _ => x = .pointer (some ⟨b, 0, none⟩), fun x w' => PM.BS w' x ((l.take L)), fun x _ => x = .string ⟨((l.take L)).toArray⟩, fun x _ => x = .slice a11 L c11, fun x _ => x = .string ⟨((l.take L)).toArray⟩, fun x _ => x = .bool true, fun x _ => x = .bool true] (by kernel_rfl) (by kernel_rfl) (by kernel_rfl) ?_ ?_ ?_
            · simp only [List.forall_mem_cons]
              refine ⟨?_, ?_, ?_, ?_, ?_, ?_, ?_, by simp⟩
              all_goals (intro x W W' h hb; first | exact h | exact PM.BS.keep hb h | exact PM.OW.keep hb h)
            · refine ⟨?_, ?_, ?_, ?_, ?_, ?_, ?_, trivial⟩
              all_goals
                intro a W hB hF hd
                have k6 := hF 6 rfl
                have k11 := hF 11 rfl
                have h11' := ho11.bs.keep hB
                have kb := PM.run_str bty Try.underlying9 h11'
                clear hF
                simp [PM.depsL, PM.spec, PM.sl, Region.binds] at hd k6 k11
                simp only [PM.wantL, PM.spec]
                try simp only [PM.sl]
                first | (have kc := PM.run_str bty Try.underlying9 hd) | (have kc := PM.run_str bty Try.underlying9 hd.1) | skip
                go_simp
              all_goals try exact Below.refl _ _
              · refine (read_any w.heap.size b (l.take L) L 20000 W (D8.keep hB) (by rw [hlen]; omega)).mono ?_
                rintro e w' ⟨v', rfl, ho, hb⟩
                exact ⟨hb, v', rfl, ho.bs⟩
            · intro G W hB hF hS
              simp [PM.allSp, PM.spec] at hS
              rw [show ((List.range (Array.size _)).map G).toArray = #[G 0, G 1, G 2, G 3, G 4, G 5, G 6, G 7, G 8, G 9, G 10, G 11, G 12, G 13, G 14, G 15, G 16, G 17, G 18, G 19, G 20, G 21, G 22, G 23, G 24, G 25, G 26, G 27, G 28, G 29, G 30, G 31, G 32, G 33, G 34, G 35, G 36, G 37, G 38, G 39, G 40, G 41, G 42, G 43, G 44, G 45, G 46, G 47, G 48, G 49, G 50, G 51, G 52, G 53, G 54, G 55, G 56, G 57, G 58, G 59, G 60, G 61, G 62, G 63, G 64, G 65, G 66, G 67, G 68, G 69, G 70, G 71, G 72, G 73, G 74, G 75, G 76, G 77, G 78, G 79, G 80, G 81, G 82, G 83, G 84, G 85, G 86, G 87, G 88, G 89, G 90, G 91, G 92, G 93, G 94, G 95, G 96, G 97, G 98, G 99, G 100, G 101, G 102, G 103, G 104, G 105, G 106, G 107, G 108, G 109, G 110, G 111, G 112, G 113, G 114, G 115, G 116, G 117, G 118, G 119, G 120, G 121, G 122, G 123, G 124, G 125, G 126, G 127, G 128, G 129, G 130, G 131] from rfl]
              have q4 : G 4 = .bool true := by simp [hS]
              clear hF hS
              rw [q4]
              clear q4
              go_wp2
              go_ret
              exact ⟨rfl, PM.chain hB8 hB⟩

        · have e12 : last + keep = (L : Int) := by rw [← hL]; unfold PM.left; omega
          go_wp2_with fail
          try rw [e12]
          refine PM.wp_region_st [some 105, some 106, some 107, some 108, some 109, some 110, some 111, some 112, some 113, some 114, some 115, some 116, some 117, some 118, some 119, some 120, some 121, some 122, some 123] [fun x _ => x = .slice a11 L c11, fun x _ => x = .int .i64 (L : Nat), fun x _ => x = .int .i64 (L : Nat), fun x _ => x = .bool false, fun x _ => x = .bool false, fun x _ => x = .slice a11 L c11, fun x _ => x = .string ⟨((l.take L)).toArray⟩, fun x _ => x = .slice a9 l.length c9, fun x _ => x = .int .i64 (L : Nat), fun x w' => PM.BS w' x ((l.take L)), fun x _ => x = .string ⟨((l.take L)).toArray⟩, fun x _ => x = .bool false, fun x _ => x = .bool false, fun x _ => x = .bool false, fun x _ => x = .pointer (some ⟨b, 0, none⟩), fun x _ => x = .int .i64 (L : Nat), fun x _ => x = .int .i64 (L : Nat), fun x _ => x = .bool false, fun x _ => x = .bool false] (by kernel_rfl) (by kernel_rfl) (by kernel_rfl) ?_ ?_ ?_
          · simp only [List.forall_mem_cons]
            refine ⟨?_, ?_, ?_, ?_, ?_, ?_, ?_, ?_, ?_, ?_, ?_, ?_, ?_, ?_, ?_, ?_, ?_, ?_, ?_, by simp⟩
            all_goals (intro x W W' h hb; first | exact h | exact PM.BS.keep hb h | exact PM.OW.keep hb h)
          · refine ⟨?_, ?_, ?_, ?_, ?_, ?_, ?_, ?_, ?_, ?_, ?_, ?_, ?_, ?_, ?_, ?_, ?_, ?_, ?_, trivial⟩
            all_goals
              intro a W hB hF hd
              have k6 := hF 6 rfl
              have k9 := hF 9 rfl
              have k11 := hF 11 rfl
              have k12 := hF 12 rfl
              have h9' := h9.keep hB
              have h11' := ho11.bs.keep hB
              have kb := PM.run_str bty Try.underlying9 h11'
              clear hF
              simp [PM.depsL, PM.spec, PM.sl, Region.binds] at hd k6 k9 k11 k12
              simp only [PM.wantL, PM.spec]
              try simp only [PM.sl]
              first | (have kc := PM.run_str bty Try.underlying9 hd) | (have kc := PM.run_str bty Try.underlying9 hd.1) | skip
              go_simp
            all_goals try exact Below.refl _ _
            · rcases h9' with ⟨h1, h2⟩ | ⟨xb, off, xc, h1, g1, g2, g3⟩ | ⟨xx, xc, h1, h2, g2⟩
              · simp at h1
                obtain ⟨rfl, h1, rfl⟩ := h1
                obtain rfl : l = [] := h2
                obtain rfl : L = 0 := by simpa using hLl
                go_simp
                exact ⟨Below.refl _ _, _, rfl, by simpa using PM.BS.nil W⟩
              · simp at h1
                obtain ⟨rfl, rfl⟩ := h1
                have hbs := PM.BS.take g1 g2 g3 hLl
                unfold maxLen at g2
                go_simp
                rw [if_pos (by omega)]
                exact ⟨Below.refl _ _, _, rfl, hbs⟩
              · simp at h1
                obtain ⟨rfl, h1, rfl⟩ := h1
                obtain rfl : l = [] := h2
                obtain rfl : L = 0 := by simpa using hLl
                unfold maxLen at g2
                go_simp
                exact ⟨Below.refl _ _, _, rfl, .inr (.inr ⟨_, _, rfl, rfl, by unfold maxLen; omega⟩)⟩
            · refine (lasting_any w.heap.size b _ _ _ W (D7.keep hB)).mono ?_
              rintro e w' ⟨rfl, rfl⟩
              exact ⟨Below.refl _ _, rfl⟩
          · intro G W hB hF hS
            simp [PM.allSp, PM.spec] at hS
            rw [show ((List.range (Array.size _)).map G).toArray = #[G 0, G 1, G 2, G 3, G 4, G 5, G 6, G 7, G 8, G 9, G 10, G 11, G 12, G 13, G 14, G 15, G 16, G 17, G 18, G 19, G 20, G 21, G 22, G 23, G 24, G 25, G 26, G 27, G 28, G 29, G 30, G 31, G 32, G 33, G 34, G 35, G 36, G 37, G 38, G 39, G 40, G 41, G 42, G 43, G 44, G 45, G 46, G 47, G 48, G 49, G 50, G 51, G 52, G 53, G 54, G 55, G 56, G 57, G 58, G 59, G 60, G 61, G 62, G 63, G 64, G 65, G 66, G 67, G 68, G 69, G 70, G 71, G 72, G 73, G 74, G 75, G 76, G 77, G 78, G 79, G 80, G 81, G 82, G 83, G 84, G 85, G 86, G 87, G 88, G 89, G 90, G 91, G 92, G 93, G 94, G 95, G 96, G 97, G 98, G 99, G 100, G 101, G 102, G 103, G 104, G 105, G 106, G 107, G 108, G 109, G 110, G 111, G 112, G 113, G 114, G 115, G 116, G 117, G 118, G 119, G 120, G 121, G 122, G 123, G 124, G 125, G 126, G 127, G 128, G 129, G 130, G 131] from rfl]
            have q6 := hF 6 rfl
            have q11 := hF 11 rfl
            have q123 : G 123 = .bool false := by simp [hS]
            simp [PM.sl] at q6 q11
            clear hF hS
            rw [q6, q11, q123]
            clear q6 q11 q123
            replace D7 := D7.keep hB
            replace ho11 := ho11.keep hB
            replace hB7 := PM.chain hB7 hB
            clear hB h9
            go_wp2_with fail
            refine (crash_anyC W.heap.size w.heap.size b (l.take L) L (-1) 20000 _ D7 (by omega) (by rw [hlen]; exact Int.le_refl _) (by rw [hlen]; omega) (Nat.le_refl _) (by omega) (by omega)).mono ?_
            rintro e w8 ⟨rfl, D8, hb8⟩
            rw [show PM.left (l.take L) L (-1) = L from by unfold PM.left; rw [hlen]; omega, Int.toNat_natCast, List.take_take, Nat.min_self] at D8
            replace ho11 := ho11.keepd2 hb8 (Nat.le_refl _) hb11
            have hB8 := hB7.below' hb8 hbw hB7.size
            clear hb8 D7 hB7
            go_wp2_with fail
            refine PM.wp_region_st [some 126, some 127, some 128, some 129, some 130, some 131, some 4] [fun x _ => x = .pointer (some ⟨b, 0, none⟩), fun x w' => PM.BS w' x ((l.take L)), fun x _ => x = .string ⟨((l.take L)).toArray⟩, fun x _ => x = .slice a11 L c11, fun x _ => x = .string ⟨((l.take L)).toArray⟩, fun x _ => x = .bool true, fun x _ => x = .bool true] (by kernel_rfl) (by kernel_rfl) (by kernel_rfl) ?_ ?_ ?_
            · simp only [List.forall_mem_cons]
              refine ⟨?_, ?_, ?_, ?_, ?_, ?_, ?_, by simp⟩
              all_goals (intro x W W' h hb; first | exact h | exact PM.BS.keep hb h | exact PM.OW.keep hb h)
            · refine ⟨?_, ?_, ?_, ?_, ?_, ?_, ?_, trivial⟩
              all_goals
                intro a W hB hF hd
                have k6 := hF 6 rfl
                have k11 := hF 11 rfl
                have h11' := ho11.bs.keep hB
                have kb := PM.run_str bty Try.underlying9 h11'
                clear hF
                simp [PM.depsL, PM.spec, PM.sl, Region.binds] at hd k6 k11
                simp only [PM.wantL, PM.spec]
                try simp only [PM.sl]
                first | (have kc := PM.run_str bty Try.underlying9 hd) | (have kc := PM.run_str bty Try.underlying9 hd.1) | skip
                go_simp
              all_goals try exact Below.refl _ _
              · refine (read_any w.heap.size b (l.take L) L 20000 W (D8.keep hB) (by rw [hlen]; omega)).mono ?_
                rintro e w' ⟨v', rfl, ho, hb⟩
                exact ⟨hb, v', rfl, ho.bs⟩
            · intro G W hB hF hS
              simp [PM.allSp, PM.spec] at hS
              rw [show ((List.range (Array.size _)).map G).toArray = #[G 0, G 1, G 2, G 3, G 4, G 5, G 6, G 7, G 8, G 9, G 10, G 11, G 12, G 13, G 14, G 15, G 16, G 17, G 18, G 19, G 20, G 21, G 22, G 23, G 24, G 25, G 26, G 27, G 28, G 29, G 30, G 31, G 32, G 33, G 34, G 35, G 36, G 37, G 38, G 39, G 40, G 41, G 42, G 43, G 44, G 45, G 46, G 47, G 48, G 49, G 50, G 51, G 52, G 53, G 54, G 55, G 56, G 57, G 58, G 59, G 60, G 61, G 62, G 63, G 64, G 65, G 66, G 67, G 68, G 69, G 70, G 71, G 72, G 73, G 74, G 75, G 76, G 77, G 78, G 79, G 80, G 81, G 82, G 83, G 84, G 85, G 86, G 87, G 88, G 89, G 90, G 91, G 92, G 93, G 94, G 95, G 96, G 97, G 98, G 99, G 100, G 101, G 102, G 103, G 104, G 105, G 106, G 107, G 108, G 109, G 110, G 111, G 112, G 113, G 114, G 115, G 116, G 117, G 118, G 119, G 120, G 121, G 122, G 123, G 124, G 125, G 126, G 127, G 128, G 129, G 130, G 131] from rfl]
              have q4 : G 4 = .bool true := by simp [hS]
              clear hF hS
              rw [q4]
              clear q4
              go_wp2
              go_ret
              exact ⟨rfl, PM.chain hB8 hB⟩

    obtain ⟨h1, h2⟩ := hend
    obtain ⟨bb, off, rfl, hce⟩ := HEL.out (by omega)
    obtain ⟨k, z, xv, m, d0, d1, d2, hx, hz⟩ := hce i h1
    obtain ⟨xa, xc, rfl⟩ := hx.len
    clear hce
    replace d0 := PM.cellB hB d0
    replace d1 := PM.cellB hB d1
    replace d2 := PM.cellB hB d2
    have hxr := hx.keep hB
    by_cases hm : 300 < m.length
    · have hm' : (300 : Int) < (m.length : Int) := by omega
      go_wp2_with fail
      go_roundw
      case rel => exact ⟨i + 1, l, last, by omega, by go_num, hl0, hl1, hl, D, hB⟩
      case measure => simp [intOf]; omega
    have hm' : ¬ ((300 : Int) < (m.length : Int)) := by omega
    by_cases hk1 : k = 1
    · subst hk1
      go_wp2_with fail
      refine (append_any w.heap.size b l m last 20000 _ _ D hxr hxr.bound (by omega) hB.size (by decide)).mono ?_
      rintro e w4 ⟨rfl, D4, hb4⟩
      have hB4 := hB.below' hb4 hbw (Nat.le_refl _)
      clear hb4 D hB
      by_cases hf : l.length + m.length ≤ 20000
      · rw [show PM.appL l m 20000 = l ++ m from if_pos hf] at D4
        go_wp2_with fail
        go_roundw
        case rel => exact ⟨i + 1, (l ++ m), last, by omega, by go_num, by omega, by rw [List.length_append]; omega, by rw [List.length_append]; exact hf, D4, hB4⟩
        case measure => simp [intOf]; omega
      · rw [show PM.appL l m 20000 = l from if_neg hf] at D4
        go_wp2_with fail
        go_roundw
        case rel => exact ⟨i + 1, l, last, by omega, by go_num, hl0, hl1, hl, D4, hB4⟩
        case measure => simp [intOf]; omega
    by_cases hk2 : k = 2
    · subst hk2
      go_wp2_with fail
      refine (sync_any w.heap.size b l last _ _ D).mono ?_
      rintro e w4 ⟨rfl, D4, hb4⟩
      have hB4 := hB.below' hb4 hbw (Nat.le_refl _)
      clear hb4 D hB
      go_wp2_with fail
      go_roundw
      case rel => exact ⟨i + 1, l, l.length, by omega, by go_num, by omega, by omega, hl, D4, hB4⟩
      case measure => simp [intOf]; omega
    by_cases hk3 : k = 3
    · subst hk3
      go_wp2_with fail
      refine (cut_any w.heap.size b l last _ z _ D).mono ?_
      rintro e w4 ⟨rfl, D4, hb4⟩
      have hB4 := hB.below' hb4 hbw (Nat.le_refl _)
      clear hb4 D hB
      by_cases hf : 0 ≤ z ∧ z ≤ (l.length : Int)
      · rw [show PM.cutL z l = l.take z.toNat from if_pos hf, show PM.cutT z l last = z from if_pos hf] at D4
        go_wp2_with fail
        go_roundw
        case rel => exact ⟨i + 1, (l.take z.toNat), z, by omega, by go_num, by omega, by rw [List.length_take]; omega, by rw [List.length_take]; omega, D4, hB4⟩
        case measure => simp [intOf]; omega
      · rw [show PM.cutL z l = l from if_neg hf, show PM.cutT z l last = last from if_neg hf] at D4
        go_wp2_with fail
        go_roundw
        case rel => exact ⟨i + 1, l, last, by omega, by go_num, hl0, hl1, hl, D4, hB4⟩
        case measure => simp [intOf]; omega
    by_cases hk4 : k = 4
    · subst hk4
      go_wp2_with fail
      refine (swap_any w.heap.size b l m last 20000 _ _ D hxr hxr.bound hB.size (by decide)).mono ?_
      rintro e w4 ⟨rfl, D4, hb4⟩
      have hB4 := hB.below' hb4 hbw (Nat.le_refl _)
      clear hb4 D hB
      by_cases hf : m.length ≤ 20000
      · rw [show PM.swpL l m 20000 = m from if_pos hf, show PM.swpT m 20000 last = m.length from if_pos hf] at D4
        go_wp2_with fail
        go_roundw
        case rel => exact ⟨i + 1, m, m.length, by omega, by go_num, by omega, by omega, hf, D4, hB4⟩
        case measure => simp [intOf]; omega
      · rw [show PM.swpL l m 20000 = l from if_neg hf, show PM.swpT m 20000 last = last from if_neg hf] at D4
        go_wp2_with fail
        go_roundw
        case rel => exact ⟨i + 1, l, last, by omega, by go_num, hl0, hl1, hl, D4, hB4⟩
        case measure => simp [intOf]; omega
    · skip
      go_wp2_with fail
      go_roundw
      case rel => exact ⟨i + 1, l, last, by omega, by go_num, hl0, hl1, hl, D, hB⟩
      case measure => simp [intOf]; omega
end Go.Proofs.Ytjdgnhjnafideaa
