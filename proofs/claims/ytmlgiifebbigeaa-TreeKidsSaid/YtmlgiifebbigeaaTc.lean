/-
  CONTRACTS OF package tree, of parents that make a tree: broker, parent, Up, Depth, Check.
-/
import Derived.Test.YtmlgiifebbigeaaChecked
import Derived.WalkKit
import Derived.WalkLawsBesides
import Derived.Handy
import Derived.Test.YtmlgiifebbigeaaTp
import Derived.Test.YtmlgiifebbigeaaGs
namespace Go.Proofs.Ytmlgiifebbigeaa
open Go.RowKit
set_option linter.unusedVariables false
/-- parents in memory, which make a tree -/
def PT (w : World) (b off cap : Nat) (l : List Int) : Prop := PM.Tr l ∧ l.length ≤ cap ∧ cap ≤ maxLen ∧ ∀ i : Nat, i < l.length → w.cell? ⟨b, off + i, none⟩ = some (.int .i64 (l.getD i 0))
theorem PT.keep {W w : World} {b off cap : Nat} {l : List Int} (hb : Below W.heap.size W w) (h : PT W b off cap l) : PT w b off cap l := by
  refine ⟨h.1, h.2.1, h.2.2.1, fun i hi => ?_⟩
  have hc := h.2.2.2 i hi
  rw [hb.cell (World.block_lt_of_cell? W _ hc)]
  exact hc
theorem broker_any (b off cap : Nat) (l : List Int) (n : Int) (w : World) (h : PT w b off cap l) :
    Calls Try.prog 17 #[.slice (some ⟨b, off, none⟩) l.length cap, .int .i64 n] w fun e w' => e = .returned (.bool (decide (0 ≤ n ∧ n < l.length))) ∧ w' = w := by
  clear h
  by_cases h0 : 0 ≤ n
  · by_cases h1 : n < l.length
    · rw [decide_eq_true ⟨h0, h1⟩]
      go_enter Try.func17, Try.ntmps17
      go_wp2
      go_ret
      exact ⟨rfl, rfl⟩
    · rw [decide_eq_false (by omega)]
      go_enter Try.func17, Try.ntmps17
      go_wp2
      go_ret
      exact ⟨rfl, rfl⟩
  · rw [decide_eq_false (by omega)]
    go_enter Try.func17, Try.ntmps17
    go_wp2
    go_ret
    exact ⟨rfl, rfl⟩
theorem parent_any (b off cap : Nat) (l : List Int) (n : Int) (w : World) (h : PT w b off cap l) :
    Calls Try.prog 18 #[.slice (some ⟨b, off, none⟩) l.length cap, .int .i64 n] w fun e w' => e = .returned (.int .i64 (PM.pa l n)) ∧ w' = w := by
  have hb := broker_any b off cap l n w h
  by_cases h0 : 0 ≤ n ∧ n < l.length
  · rw [decide_eq_true h0] at hb
    have hc := h.2.2.2 n.toNat (by omega)
    have hle := h.1.le
    have hpos := h.1.pos
    by_cases h1 : 0 < n
    · have hp := h.1.par n.toNat (by omega) (by omega)
      rw [show PM.pa l n = l.getD n.toNat 0 from if_pos (by omega)]
      generalize l.getD n.toNat 0 = x at *
      have h2 : x < n := by omega
      have h3 : 0 ≤ x := by omega
      clear h
      go_enter Try.func18, Try.ntmps18
      go_wp2_with (go_at_call 17; refine hb.mono ?_; rintro e w1 ⟨rfl, rfl⟩)
      go_ret
      exact ⟨rfl, rfl⟩
    · have h4 : n = 0 := by omega
      subst h4
      rw [PM.pa_zero]
      have hr := h.1.root
      simp only [Int.toNat_zero] at hc
      rw [hr] at hc
      have hc' : w.cell? ⟨b, off, none⟩ = some (.int .i64 (-1)) := hc
      clear h hc
      go_enter Try.func18, Try.ntmps18
      go_wp2_with (go_at_call 17; refine hb.mono ?_; rintro e w1 ⟨rfl, rfl⟩)
      go_ret
      exact ⟨rfl, rfl⟩
  · rw [decide_eq_false h0] at hb
    rw [show PM.pa l n = -1 from if_neg (by omega)]
    clear h
    go_enter Try.func18, Try.ntmps18
    go_wp2_with (go_at_call 17; refine hb.mono ?_; rintro e w1 ⟨rfl, rfl⟩)
    go_ret
    exact ⟨rfl, rfl⟩
theorem Up_any (b off cap : Nat) (l : List Int) (n m : Int) (w : World) (h : PT w b off cap l) :
    Calls Try.prog 15 #[.slice (some ⟨b, off, none⟩) l.length cap, .int .i64 n, .int .i64 m] w fun e w' => e = .returned (.bool (PM.up l n m)) ∧ w' = w := by
  have hb := broker_any b off cap l n w h
  have hP : ∀ m : Int, Calls Try.prog 18 #[.slice (some ⟨b, off, none⟩) l.length cap, .int .i64 m] w fun e w' => e = .returned (.int .i64 (PM.pa l m)) ∧ w' = w := fun m => parent_any b off cap l m w h
  have ht := h.1
  clear h
  by_cases h0 : 0 ≤ n ∧ n < l.length
  · rw [decide_eq_true h0] at hb
    go_enter Try.func15, Try.ntmps15
    go_wp2_with (go_at_call 17; refine hb.mono ?_; rintro e w1 ⟨rfl, rfl⟩)
    go_loop [2] (fun i => ∃ k : Int, i = .int .i64 k ∧ PM.up l n k = PM.up l n m) (fun i => (intOf i + 1).toNat)
    case atStart => exact ⟨m, rfl, rfl⟩
    case round =>
      obtain ⟨k, rfl, hk⟩ := hrel
      have hP' := hP k
      clear hP
      go_wp2_with (go_at_call 18; refine hP'.mono ?_; rintro e w1 ⟨rfl, rfl⟩)
      · have hlt : n < k := by assumption
        have hp := ht.pa_lt k
        have hp2 := (ht.pa_bd k).1
        exact ⟨⟨_, rfl, (ht.up_step h0.1 hlt).symm.trans hk⟩, by simp only [intOf]; omega⟩
      · have hle : k ≤ n := by assumption
        go_ret
        exact ⟨PM.ret_b ((PM.up_end l h0 hle).symm.trans hk), rfl⟩
  · rw [decide_eq_false h0] at hb
    rw [PM.up_out l h0]
    go_enter Try.func15, Try.ntmps15
    go_wp2_with (go_at_call 17; refine hb.mono ?_; rintro e w1 ⟨rfl, rfl⟩)
    go_ret
    exact ⟨rfl, rfl⟩
theorem Depth_any (b off cap : Nat) (l : List Int) (n : Int) (w : World) (h : PT w b off cap l) :
    Calls Try.prog 14 #[.slice (some ⟨b, off, none⟩) l.length cap, .int .i64 n] w fun e w' => e = .returned (.int .i64 (PM.depI l n)) ∧ w' = w := by
  have hb := broker_any b off cap l n w h
  have hP : ∀ m : Int, Calls Try.prog 18 #[.slice (some ⟨b, off, none⟩) l.length cap, .int .i64 m] w fun e w' => e = .returned (.int .i64 (PM.pa l m)) ∧ w' = w := fun m => parent_any b off cap l m w h
  have ht := h.1
  clear h
  by_cases h0 : 0 ≤ n ∧ n < l.length
  · rw [decide_eq_true h0] at hb
    have hd0 := ht.depI_bd n
    go_enter Try.func14, Try.ntmps14
    go_wp2_with (go_at_call 17; refine hb.mono ?_; rintro e w1 ⟨rfl, rfl⟩)
    go_loop [1, 5] (fun i f => ∃ k c : Int, i = .int .i64 k ∧ f = .int .i64 c ∧ -1 ≤ k ∧ k < l.length ∧ -1 ≤ c ∧ c + 1 + PM.depI l k = PM.depI l n) (fun i _ => (intOf i + 1).toNat)
    case atStart => exact ⟨n, -1, rfl, rfl, by omega, h0.2, by omega, by omega⟩
    case round =>
      obtain ⟨k, c, rfl, rfl, hk1, hk2, hc0, hk⟩ := hrel
      have hP' := hP k
      clear hP
      have hd := ht.depI_bd k
      have hc : -1 ≤ c + 1 ∧ c + 1 ≤ 17 := by omega
      generalize hD : PM.depI l n = D at *
      generalize hE : PM.depI l k = F at *
      go_wp2_with (go_at_call 18; refine hP'.mono ?_; rintro e w1 ⟨rfl, rfl⟩)
      · have hlt : 0 ≤ k := by assumption
        have hp := ht.pa_lt k
        have hp2 := ht.pa_bd k
        have hs := ht.dep_step ⟨hlt, hk2⟩
        refine ⟨⟨_, _, rfl, rfl, hp2.1, hp2.2, by omega, ?_⟩, by simp only [intOf]; omega⟩
        omega
      · have hlt : k < 0 := by assumption
        have hs := PM.depI_neg l hlt
        go_ret
        exact ⟨PM.ret_i (by omega), rfl⟩
  · rw [decide_eq_false h0] at hb
    rw [PM.depI_out l h0]
    go_enter Try.func14, Try.ntmps14
    go_wp2_with (go_at_call 17; refine hb.mono ?_; rintro e w1 ⟨rfl, rfl⟩)
    go_ret
    exact ⟨rfl, rfl⟩
theorem Check_ok (b off cap : Nat) (l : List Int) (w : World) (h : PT w b off cap l) :
    Calls Try.prog 10 #[.slice (some ⟨b, off, none⟩) l.length cap] w fun e w' => e = .returned (.int .i64 0) ∧ w' = w := by
  have ht := h.1
  have h0 := h.2.2.2 0 ht.pos
  rw [ht.root] at h0
  have h0' : w.cell? ⟨b, off, none⟩ = some (.int .i64 (-1)) := h0
  have hle := ht.le
  have hpos := ht.pos
  have hcap := h.2.1
  have hmx := h.2.2.1
  simp only [maxLen] at hmx
  have hcx : ∀ k : Nat, k + 1 < l.length → w.cell? ⟨b, off + 1 + k, none⟩ = some (.int .i64 (l.getD (k + 1) 0)) := fun k hk => by rw [Nat.add_assoc, Nat.add_comm 1 k]; exact h.2.2.2 _ hk
  clear h h0
  have g1 : ((l.length : Int) == 0) = false := beq_eq_false_iff_ne.2 (by omega)
  have g2 : ¬ (16 : Int) < l.length := by omega
  have hpar : ∀ k : Nat, k + 1 < l.length → 0 ≤ l.getD (k + 1) 0 ∧ l.getD (k + 1) 0 < ((k + 1 : Nat) : Int) := fun k hk => ht.par (k + 1) (by omega) hk
  generalize hL : l.length = L at *
  generalize l.getD = F at *
  clear ht
  go_enter Try.func10, Try.ntmps10
  go_wp2
  all_goals
    go_loop [22] (fun i => ∃ k : Nat, i = .int .i64 k ∧ k ≤ L - 1) (fun i => L - (intOf i).toNat)
    case atStart => exact ⟨0, rfl, by omega⟩
    case round =>
      obtain ⟨k, rfl, hk⟩ := hrel
      by_cases hlt : k < L - 1
      · have hc := hcx k (by omega)
        have hp := hpar k (by omega)
        clear hcx hpar
        generalize F (k + 1) 0 = x at *
        have g3 : ¬ x < 0 := by omega
        have g4 : ¬ (k : Int) < x := by omega
        go_wp2
        all_goals exact ⟨⟨k + 1, by go_num, by omega⟩, by simp only [intOf]; omega⟩
      · have : k = L - 1 := by omega
        subst this
        clear hcx hpar
        go_wp2
        all_goals (go_ret; exact ⟨rfl, rfl⟩)
theorem Check_none (a : Option Addr) (cap : Nat) (w : World) :
    Calls Try.prog 10 #[.slice a 0 cap] w fun e w' => e = .returned (.int .i64 120) ∧ w' = w := by
  go_enter Try.func10, Try.ntmps10
  go_wp2
  go_ret
  exact ⟨rfl, rfl⟩
theorem Check_bad (b off cap : Nat) (l : List Int) (w : World) (hn : ¬ PM.Tr l) (hpos : 0 < l.length) (hcap : l.length ≤ cap) (hmx : cap ≤ maxLen) (hc : ∀ i : Nat, i < l.length → w.cell? ⟨b, off + i, none⟩ = some (.int .i64 (l.getD i 0))) :
    Calls Try.prog 10 #[.slice (some ⟨b, off, none⟩) l.length cap] w fun e w' => e = .returned (.int .i64 120) ∧ w' = w := by
  have h0 := hc 0 hpos
  have h0' : w.cell? ⟨b, off, none⟩ = some (.int .i64 (l.getD 0 0)) := h0
  simp only [maxLen] at hmx
  have hcx : ∀ k : Nat, k + 1 < l.length → w.cell? ⟨b, off + 1 + k, none⟩ = some (.int .i64 (l.getD (k + 1) 0)) := fun k hk => by rw [Nat.add_assoc, Nat.add_comm 1 k]; exact hc _ hk
  clear hc h0
  have g1 : ((l.length : Int) == 0) = false := beq_eq_false_iff_ne.2 (by omega)
  have hT : l.length ≤ 16 → l.getD 0 0 = -1 → (∀ k : Nat, k + 1 < l.length → 0 ≤ l.getD (k + 1) 0 ∧ l.getD (k + 1) 0 < ((k + 1 : Nat) : Int)) → False := fun h1 h2 h3 => hn ⟨hpos, h1, h2, fun i hi hl => by
    obtain ⟨j, rfl⟩ : ∃ j, i = j + 1 := ⟨i - 1, by omega⟩
    exact h3 j hl⟩
  generalize hL : l.length = L at *
  generalize hF : l.getD = F at *
  by_cases g2 : (16 : Int) < L
  · clear hT hcx h0'
    go_enter Try.func10, Try.ntmps10
    go_wp2
    go_ret
    exact ⟨rfl, rfl⟩
  by_cases g5 : F 0 0 = -1
  · rw [g5] at h0'
    have hT' := hT (by omega) g5
    clear hT
    go_enter Try.func10, Try.ntmps10
    go_wp2
    all_goals
      go_loop [22] (fun i => ∃ k : Nat, i = .int .i64 k ∧ k ≤ L - 1 ∧ ∀ j : Nat, j < k → 0 ≤ F (j + 1) 0 ∧ F (j + 1) 0 < ((j + 1 : Nat) : Int)) (fun i => L - (intOf i).toNat)
      case atStart => exact ⟨0, rfl, by omega, fun j hj => by omega⟩
      case round =>
        obtain ⟨k, rfl, hk, hall⟩ := hrel
        by_cases hlt : k < L - 1
        · have hc := hcx k (by omega)
          have hal := PM.hid hall
          clear hcx hT' hall
          by_cases g6 : 0 ≤ F (k + 1) 0 ∧ F (k + 1) 0 < ((k + 1 : Nat) : Int)
          · have g7 := PM.hid g6
            generalize F (k + 1) 0 = x at hc g6
            have g3 : ¬ x < 0 := by omega
            have g4 : ¬ (k : Int) < x := by omega
            clear g6
            go_wp2
            all_goals
              refine ⟨⟨k + 1, by go_num, by omega, fun j hj => ?_⟩, by simp only [intOf]; omega⟩
              by_cases hjk : j < k
              · exact hal.out j hjk
              · have : j = k := by omega
                subst this
                exact g7.out
          · generalize F (k + 1) 0 = x at hc g6
            go_wp2
            all_goals first | omega | skip
            all_goals (go_ret; exact ⟨rfl, rfl⟩)
        · have : k = L - 1 := by omega
          subst this
          exact (hT' fun j hj => hall j (by omega)).elim
  · have g6 : (F 0 0 != -1) = true := by simpa using g5
    generalize F 0 0 = x at *
    clear hT hcx
    go_enter Try.func10, Try.ntmps10
    go_wp2
    go_ret
    exact ⟨rfl, rfl⟩
end Go.Proofs.Ytmlgiifebbigeaa
