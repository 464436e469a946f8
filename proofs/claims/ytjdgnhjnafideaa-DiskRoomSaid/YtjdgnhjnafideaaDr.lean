/-
  THE WALK OF LAYER 9's STATEMENT ON ROOM.
-/
import Derived.Test.YtjdgnhjnafideaaDa
import Derived.Test.YtjdgnhjnafideaaCs
namespace Go.Proofs.Ytjdgnhjnafideaa
open Go.RowKit
set_option linter.unusedVariables false
set_option maxHeartbeats 4000000 in
theorem diskRoom_walk (room : Int) (vs : Value) (n : Nat) (hr : (Lit.int .u16 room).wf = true) (w : World) (hs : PM.CS w vs n) :
    Calls Try.prog 6 #[.int .u16 room, vs] w fun e w' => e = .returned (.bool true) ∧ Below w.heap.size w w' := by
  obtain ⟨r1, r2⟩ := Go.bounds_u16 hr
  obtain ⟨room, rfl⟩ := Int.eq_ofNat_of_zero_le r1
  clear hr
  obtain ⟨ad, cap, rfl, hcap, hmax, hel⟩ := hs
  unfold maxLen at hmax
  have HEL := Lib.hid hel
  clear hel
  go_enter Try.func6, Try.ntmps6
  go_wp2_with fail
  refine (awake9 _).mono ?_
  rintro e w0 ⟨rfl, hB0⟩
  go_wp2_with fail
  refine (dnew_any room (by omega) _).mono ?_
  rintro e w1 ⟨b, rfl, hb, hD, hB1⟩
  have D1 := hD w.heap.size
  clear hD
  have hbw : w.heap.size ≤ b := Nat.le_trans hB0.size hb
  replace hB1 := PM.chain hB0 hB1
  go_wp2_with fail
  go_loopw [8, 9, 10, 11, 12] (fun s8 _ _ _ _ wr => ∃ (i : Nat) (l : List UInt8) (last : Int), i ≤ n ∧ s8 = .int .i64 i ∧ l.length ≤ room ∧ PM.DK 51 5 w.heap.size wr b l last room ∧ Below w.heap.size w wr) (fun s8 _ _ _ _ _ => n - (intOf s8).toNat)
  case atStart => exact ⟨0, [], 0, by omega, rfl, by simp, D1, hB1⟩
  case round =>
    obtain ⟨i, l, last, hi, rfl, hl, D, hB⟩ := hrel
    clear D1 hB1
    by_cases h1 : i < n
    case neg =>
      obtain rfl : i = n := by omega
      go_wp2_with fail
      go_ret
      exact ⟨rfl, hB⟩
    by_cases h2 : i < 60
    case neg =>
      have h2' : ¬ ((i : Int) < 60) := by omega
      go_wp2_with fail
      go_ret
      exact ⟨rfl, hB⟩
    obtain ⟨bb, off, rfl, hce⟩ := HEL.out (by omega)
    obtain ⟨k, z, xv, m, d0, d1, d2, hx, hz⟩ := hce i h1
    obtain ⟨xa, xc, rfl⟩ := hx.len
    clear hce
    replace d0 := PM.cellB hB d0
    replace d1 := PM.cellB hB d1
    replace d2 := PM.cellB hB d2
    go_wp2_with fail
    obtain ⟨wa, hwa⟩ : ∃ x, x = wr.alloc (.cells #[.int .i64 k, .int .i64 z, .slice xa m.length xc] 33) := ⟨_, rfl⟩
    have hBa : Below wr.heap.size wr wa := by rw [hwa]; exact (Below.refl _ _).alloc (Nat.le_refl _) _
    have ZA : PM.BK wa wr.heap.size #[.int .i64 k, .int .i64 z, .slice xa m.length xc] 33 := by rw [hwa]; exact PM.BK.new _ _ _
    rw [← hwa]
    clear hwa d0 d1 d2
    have D2 := D.keep hBa
    replace hBa := PM.chain hB hBa
    clear D hB
    refine (read_any w.heap.size b l last room _ D2 (by omega)).mono ?_
    rintro e w3 ⟨v3, rfl, ho3, hb3⟩
    have k3 := PM.run_str bty Try.underlying9 ho3.bs
    have D3 := D2.keep hb3
    have hB3 := PM.chain hBa hb3
    have ZA3 := ZA.keep hb3
    have hx3 := hx.keep hB3
    have e0 := ZA3.cell 0
    have e1 := ZA3.cell 1
    have e2 := ZA3.cell 2
    clear ZA ZA3 ho3 hb3 D2 hBa
    by_cases hk1 : k = 1
    · subst hk1
      go_wp2_with fail
      refine (append_any w.heap.size b l m last room _ _ D3 hx3 hx3.bound (by omega) hB3.size (by omega)).mono ?_
      rintro e w4 ⟨rfl, D4, hb4⟩
      have hB4 := hB3.below' hb4 hbw (Nat.le_refl _)
      clear hb4 D3 hB3 hx3
      by_cases hf : l.length + m.length ≤ room
      · rw [show PM.appE l m room = 0 from if_pos hf]
        rw [show PM.appL l m room = l ++ m from if_pos hf] at D4
        have hl4 : (l ++ m).length ≤ room := by rw [List.length_append]; exact hf
        go_wp2_with fail
        refine (read_any w.heap.size b (l ++ m) last room _ D4 (by omega)).mono ?_
        rintro e w9 ⟨v9, rfl, ho9, hb9⟩
        have k9 := PM.run_str bty Try.underlying9 ho9.bs
        have D9 := D4.keep hb9
        have hB9 := PM.chain hB4 hb9
        have g9 : ¬ ((room : Int) < (((l ++ m)).length : Int)) := by omega
        clear ho9 hb9
        go_wp2_with fail
        go_roundw
        case rel => exact ⟨i + 1, (l ++ m), last, by omega, by go_num, hl4, D9, hB9⟩
        case measure => simp [intOf]; omega
      · rw [show PM.appE l m room = 90 from if_neg hf]
        rw [show PM.appL l m room = l from if_neg hf] at D4
        go_wp2_with fail
        refine (read_any w.heap.size b l last room _ D4 (by omega)).mono ?_
        rintro e w9 ⟨v9, rfl, ho9, hb9⟩
        have k9 := PM.run_str bty Try.underlying9 ho9.bs
        have D9 := D4.keep hb9
        have hB9 := PM.chain hB4 hb9
        have g9 : ¬ ((room : Int) < ((l).length : Int)) := by omega
        clear ho9 hb9
        go_wp2_with fail
        go_roundw
        case rel => exact ⟨i + 1, l, last, by omega, by go_num, hl, D9, hB9⟩
        case measure => simp [intOf]; omega
    by_cases hk2 : k = 2
    · subst hk2
      go_wp2_with fail
      refine (sync_any w.heap.size b l last room _ D3).mono ?_
      rintro e w4 ⟨rfl, D4, hb4⟩
      have hB4 := hB3.below' hb4 hbw (Nat.le_refl _)
      clear hb4 D3 hB3 hx3
      go_wp2_with fail
      refine (read_any w.heap.size b l l.length room _ D4 (by omega)).mono ?_
      rintro e w9 ⟨v9, rfl, ho9, hb9⟩
      have k9 := PM.run_str bty Try.underlying9 ho9.bs
      have D9 := D4.keep hb9
      have hB9 := PM.chain hB4 hb9
      have g9 : ¬ ((room : Int) < ((l).length : Int)) := by omega
      clear ho9 hb9
      go_wp2_with fail
      go_roundw
      case rel => exact ⟨i + 1, l, l.length, by omega, by go_num, hl, D9, hB9⟩
      case measure => simp [intOf]; omega
    by_cases hk3 : k = 3
    · subst hk3
      go_wp2_with fail
      refine (cut_any w.heap.size b l last room z _ D3).mono ?_
      rintro e w4 ⟨rfl, D4, hb4⟩
      have hB4 := hB3.below' hb4 hbw (Nat.le_refl _)
      clear hb4 D3 hB3 hx3
      by_cases hf : 0 ≤ z ∧ z ≤ (l.length : Int)
      · rw [show PM.cutE z l = 0 from if_pos hf]
        rw [show PM.cutL z l = l.take z.toNat from if_pos hf, show PM.cutT z l last = z from if_pos hf] at D4
        have hl4 : (l.take z.toNat).length ≤ room := by rw [List.length_take]; omega
        go_wp2_with fail
        refine (read_any w.heap.size b (l.take z.toNat) z room _ D4 (by omega)).mono ?_
        rintro e w9 ⟨v9, rfl, ho9, hb9⟩
        have k9 := PM.run_str bty Try.underlying9 ho9.bs
        have D9 := D4.keep hb9
        have hB9 := PM.chain hB4 hb9
        have g9 : ¬ ((room : Int) < (((l.take z.toNat)).length : Int)) := by omega
        clear ho9 hb9
        go_wp2_with fail
        go_roundw
        case rel => exact ⟨i + 1, (l.take z.toNat), z, by omega, by go_num, hl4, D9, hB9⟩
        case measure => simp [intOf]; omega
      · rw [show PM.cutE z l = 1 from if_neg hf]
        rw [show PM.cutL z l = l from if_neg hf, show PM.cutT z l last = last from if_neg hf] at D4
        go_wp2_with fail
        refine (read_any w.heap.size b l last room _ D4 (by omega)).mono ?_
        rintro e w9 ⟨v9, rfl, ho9, hb9⟩
        have k9 := PM.run_str bty Try.underlying9 ho9.bs
        have D9 := D4.keep hb9
        have hB9 := PM.chain hB4 hb9
        have g9 : ¬ ((room : Int) < ((l).length : Int)) := by omega
        clear ho9 hb9
        go_wp2_with fail
        go_roundw
        case rel => exact ⟨i + 1, l, last, by omega, by go_num, hl, D9, hB9⟩
        case measure => simp [intOf]; omega
    by_cases hk4 : k = 4
    · subst hk4
      go_wp2_with fail
      refine (swap_any w.heap.size b l m last room _ _ D3 hx3 hx3.bound hB3.size (by omega)).mono ?_
      rintro e w4 ⟨rfl, D4, hb4⟩
      have hB4 := hB3.below' hb4 hbw (Nat.le_refl _)
      clear hb4 D3 hB3 hx3
      by_cases hf : m.length ≤ room
      · rw [show PM.swpE m room = 0 from if_pos hf]
        rw [show PM.swpL l m room = m from if_pos hf, show PM.swpT m room last = m.length from if_pos hf] at D4
        go_wp2_with fail
        refine (read_any w.heap.size b m m.length room _ D4 (by omega)).mono ?_
        rintro e w9 ⟨v9, rfl, ho9, hb9⟩
        have k9 := PM.run_str bty Try.underlying9 ho9.bs
        have D9 := D4.keep hb9
        have hB9 := PM.chain hB4 hb9
        have g9 : ¬ ((room : Int) < ((m).length : Int)) := by omega
        clear ho9 hb9
        go_wp2_with fail
        go_roundw
        case rel => exact ⟨i + 1, m, m.length, by omega, by go_num, hf, D9, hB9⟩
        case measure => simp [intOf]; omega
      · rw [show PM.swpE m room = 90 from if_neg hf]
        rw [show PM.swpL l m room = l from if_neg hf, show PM.swpT m room last = last from if_neg hf] at D4
        go_wp2_with fail
        refine (read_any w.heap.size b l last room _ D4 (by omega)).mono ?_
        rintro e w9 ⟨v9, rfl, ho9, hb9⟩
        have k9 := PM.run_str bty Try.underlying9 ho9.bs
        have D9 := D4.keep hb9
        have hB9 := PM.chain hB4 hb9
        have g9 : ¬ ((room : Int) < ((l).length : Int)) := by omega
        clear ho9 hb9
        go_wp2_with fail
        go_roundw
        case rel => exact ⟨i + 1, l, last, by omega, by go_num, hl, D9, hB9⟩
        case measure => simp [intOf]; omega
    · clear e1 e2
      go_wp2_with fail
      refine (read_any w.heap.size b l last room _ D3 (by omega)).mono ?_
      rintro e w9 ⟨v9, rfl, ho9, hb9⟩
      have k9 := PM.run_str bty Try.underlying9 ho9.bs
      have D9 := D3.keep hb9
      have hB9 := PM.chain hB3 hb9
      have g9 : ¬ ((room : Int) < ((l).length : Int)) := by omega
      clear ho9 hb9
      go_wp2_with fail
      go_roundw
      case rel => exact ⟨i + 1, l, last, by omega, by go_num, hl, D9, hB9⟩
      case measure => simp [intOf]; omega
end Go.Proofs.Ytjdgnhjnafideaa
