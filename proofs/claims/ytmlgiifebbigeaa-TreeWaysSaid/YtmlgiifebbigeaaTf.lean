/-
  CONTRACTS OF package tree: Way and Step of whatever numbers; the document's Same.
-/
import Derived.Test.YtmlgiifebbigeaaTe
namespace Go.Proofs.Ytmlgiifebbigeaa
open Go.RowKit
set_option linter.unusedVariables false
theorem Way_bad (b off cap : Nat) (l : List Int) (m n : Int) (w : World) (h : PT w b off cap l) (hmn : ¬ (0 ≤ m ∧ m < l.length ∧ 0 ≤ n ∧ n < l.length)) :
    Calls Try.prog 11 #[.slice (some ⟨b, off, none⟩) l.length cap, .int .i64 m, .int .i64 n] w fun e w' => e = .returned (.tuple #[.slice none 0 0, .int .i64 1]) ∧ w' = w := by
  have hb1 := broker_any b off cap l m w h
  have hb2 := broker_any b off cap l n w h
  clear h
  by_cases h1 : 0 ≤ m ∧ m < l.length
  · rw [decide_eq_true h1] at hb1
    rw [decide_eq_false (by omega)] at hb2
    go_enter Try.func11, Try.ntmps11
    go_wp2_with fail
    go_step3
    go_wp2_with fail
    refine hb1.mono ?_
    rintro e w1 ⟨rfl, rfl⟩
    clear hb1
    go_wp2_with fail
    refine hb2.mono ?_
    rintro e w2 ⟨rfl, rfl⟩
    clear hb2
    go_wp2
    rw [Exit.noGoto_ret]
    go_ret2
    exact ⟨rfl, rfl⟩
  · rw [decide_eq_false h1] at hb1
    clear hb2
    go_enter Try.func11, Try.ntmps11
    go_wp2_with fail
    go_step3
    go_wp2_with fail
    refine hb1.mono ?_
    rintro e w1 ⟨rfl, rfl⟩
    clear hb1
    go_wp2
    rw [Exit.noGoto_ret]
    go_ret2
    exact ⟨rfl, rfl⟩
theorem Step_any (b off cap : Nat) (l : List Int) (m n s : Nat) (r : List Nat) (w : World) (h : PT w b off cap l) (hm : m < l.length) (hn : n < l.length) (hne : m ≠ n) (hw : PM.way l m n = m :: s :: r) :
    Calls Try.prog 12 #[.slice (some ⟨b, off, none⟩) l.length cap, .int .i64 m, .int .i64 n] w fun e w' => e = .returned (.tuple #[.int .i64 s, .int .i64 0]) ∧ Below w.heap.size w w' := by
  have hW := Way_any b off cap l m n w h hm hn
  rw [hw] at hW
  clear h hw
  have g1 : ((m : Int) == n) = false := beq_eq_false_iff_ne.2 (by omega)
  go_enter Try.func12, Try.ntmps12
  go_wp2_with fail
  refine hW.mono ?_
  rintro e w1 ⟨v, rfl, ho, hB⟩
  obtain ⟨bb, oo, cc, rfl, h1, h2, h3⟩ := ho.es.open1 (by simp)
  have c1 : w1.cell? ⟨bb, oo + 1, none⟩ = some (.int .i64 s) := h3 1 s rfl
  have hb := PM.hid hB
  have hc : 1 < cc := by simp at h1; omega
  simp only [List.map_cons, List.length_cons]
  generalize (List.map (fun i : Nat => (i : Int)) r).length = L at *
  have g2 : (1 : Int) < ((L + 1 + 1 : Nat) : Int) := by omega
  clear hB h1 h2 h3 ho hW
  go_wp2
  go_ret2
  exact ⟨rfl, hb.out⟩
theorem Step_same (b off cap : Nat) (l : List Int) (m : Nat) (w : World) (h : PT w b off cap l) (hm : m < l.length) :
    Calls Try.prog 12 #[.slice (some ⟨b, off, none⟩) l.length cap, .int .i64 m, .int .i64 m] w fun e w' => e = .returned (.tuple #[.int .i64 0, .int .i64 1]) ∧ Below w.heap.size w w' := by
  have hW := Way_any b off cap l m m w h hm hm
  rw [PM.way_same] at hW
  clear h
  go_enter Try.func12, Try.ntmps12
  go_wp2_with fail
  refine hW.mono ?_
  rintro e w1 ⟨v, rfl, ho, hB⟩
  obtain ⟨bb, oo, cc, rfl, h1, h2, h3⟩ := ho.es.open1 (by simp)
  have hb := PM.hid hB
  clear hB h1 h2 h3 ho hW
  go_wp2
  go_ret2
  exact ⟨rfl, hb.out⟩
theorem Step_bad (b off cap : Nat) (l : List Int) (m n : Int) (w : World) (h : PT w b off cap l) (hmn : ¬ (0 ≤ m ∧ m < l.length ∧ 0 ≤ n ∧ n < l.length)) :
    Calls Try.prog 12 #[.slice (some ⟨b, off, none⟩) l.length cap, .int .i64 m, .int .i64 n] w fun e w' => e = .returned (.tuple #[.int .i64 0, .int .i64 1]) ∧ w' = w := by
  have hW := Way_bad b off cap l m n w h hmn
  clear h hmn
  go_enter Try.func12, Try.ntmps12
  go_wp2_with fail
  refine hW.mono ?_
  rintro e w1 ⟨rfl, rfl⟩
  clear hW
  go_wp2
  go_ret2
  exact ⟨rfl, rfl⟩
theorem Same_any (v u : Value) (x y : List Int) (w : World) (hx : PM.ES PM.iv w v x) (hy : PM.ES PM.iv w u y) :
    Calls Try.prog 16 #[v, u] w fun e w' => e = .returned (.bool (decide (x = y))) ∧ Below w.heap.size w w' := by
  have bx := hx.bound
  have by' := hy.bound
  simp only [maxLen] at bx by'
  obtain ⟨va, vc, ev⟩ := hx.len
  obtain ⟨ua, uc, eu⟩ := hy.len
  by_cases hl : x.length = y.length
  · by_cases h0 : x.length = 0
    · have e1 : x = [] := List.length_eq_zero_iff.1 h0
      have e2 : y = [] := List.length_eq_zero_iff.1 (hl ▸ h0)
      subst e1 e2 ev eu
      clear hx hy
      simp only [List.length_nil]
      go_enter Try.func16, Try.ntmps16
      go_wp2
      go_loop [5] (fun i => i = .int .i64 0) (fun _ => 0)
      case atStart => rfl
      case round =>
        obtain rfl := hrel
        go_wp2
        go_ret
        exact ⟨by simp, Below.refl _ _⟩
    · obtain ⟨bv, ov, cv, rfl, hv1, hv2, hv3⟩ := hx.open1 (by omega)
      obtain ⟨bu, ou, cu, rfl, hu1, hu2, hu3⟩ := hy.open1 (by omega)
      clear ev eu hx hy
      have hc1 : ∀ k : Nat, k < x.length → ∃ z, x[k]? = some z ∧ w.cell? ⟨bv, ov + k, none⟩ = some (.int .i64 z) := fun k hk => ⟨x[k], List.getElem?_eq_getElem hk, hv3 k _ (List.getElem?_eq_getElem hk)⟩
      have hc2 : ∀ k : Nat, k < x.length → ∃ z, y[k]? = some z ∧ w.cell? ⟨bu, ou + k, none⟩ = some (.int .i64 z) := fun k hk => ⟨y[k]'(by omega), List.getElem?_eq_getElem (by omega), hu3 k _ (List.getElem?_eq_getElem (by omega))⟩
      have hfin : (∀ j : Nat, j < x.length → x[j]? = y[j]?) → x = y := fun h => List.ext_getElem? fun i => by
        by_cases hi : i < x.length
        · exact h i hi
        · rw [List.getElem?_eq_none (by omega), List.getElem?_eq_none (by omega)]
      clear hv3 hu3
      rw [← hl] at hu1 ⊢
      obtain ⟨L, hL⟩ : ∃ L, L = x.length := ⟨_, rfl⟩
      have hLm : L ≤ 9223372036854775807 := by omega
      rw [← hL] at hc1 hc2 hfin hv1 hu1 ⊢
      clear bx by' hl h0 hL
      go_enter Try.func16, Try.ntmps16
      go_wp2
      go_loopw [5] (fun i wr => ∃ k : Nat, i = .int .i64 k ∧ k ≤ L ∧ (∀ j : Nat, j < k → x[j]? = y[j]?) ∧ Below w.heap.size w wr) (fun i _ => L - (intOf i).toNat)
      case atStart => exact ⟨0, rfl, by omega, fun j hj => by omega, Below.refl _ _⟩
      case round =>
        obtain ⟨k, rfl, hk, hall, hB⟩ := hrel
        by_cases hlt : k < L
        · obtain ⟨z1, hz1, d1⟩ := hc1 k hlt
          obtain ⟨z2, hz2, d2⟩ := hc2 k hlt
          have d1' := PM.cellK hB d1
          have d2' := PM.cellK hB d2
          have hS := PM.hid (And.intro hall (And.intro hz1 (And.intro hz2 hB)))
          clear hall hz1 hz2 hB hc1 hc2 hfin d1 d2
          by_cases hz : z1 = z2
          · subst hz
            have hzz : (z1 != z1) = false := by simp
            go_wp2_with fail
            go_region
            go_wp2
            obtain ⟨hall, hz1, hz2, hB⟩ := hS.out
            refine ⟨⟨k + 1, by go_num, by omega, fun j hj => ?_, hB.drew⟩, by simp only [intOf]; omega⟩
            by_cases hjk : j < k
            · exact hall j hjk
            · have : j = k := by omega
              subst this
              rw [hz1, hz2]
          · have hzz : (z1 != z2) = true := by simpa using hz
            go_wp2_with fail
            go_region
            go_wp2
            go_ret
            obtain ⟨hall, hz1, hz2, hB⟩ := hS.out
            have hne : ¬ x = y := fun e => by
              subst e
              rw [hz1] at hz2
              exact hz (by simpa using hz2)
            exact ⟨by rw [decide_eq_false hne]; rfl, hB.drew⟩
        · have hT : k = L := by omega
          subst hT
          have hE := hfin hall
          have hb := PM.hid hB
          clear hc1 hc2 hall hfin hB
          go_wp2
          go_ret
          exact ⟨by rw [decide_eq_true hE]; rfl, hb.out⟩
  · have g1 : ((x.length : Int) != y.length) = true := by simp; omega
    rw [show decide (x = y) = false from decide_eq_false fun e => hl (by rw [e])]
    subst ev eu
    clear hx hy
    go_enter Try.func16, Try.ntmps16
    go_wp2
    go_ret
    exact ⟨rfl, Below.refl _ _⟩
end Go.Proofs.Ytmlgiifebbigeaa
