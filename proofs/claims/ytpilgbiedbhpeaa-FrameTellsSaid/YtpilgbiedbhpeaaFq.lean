/-
  CONTRACT OF postilionref03.Same.
-/
import Derived.Test.YtpilgbiedbhpeaaFo
namespace Go.Proofs.Ytpilgbiedbhpeaa
open Go.RowKit
set_option linter.unusedVariables false
set_option maxHeartbeats 1000000 in
theorem RSame_any (v u : Value) (x y : List (List UInt8)) (w : World) (hx : PM.RBL w v x) (hy : PM.RBL w u y) :
    Calls Try.prog 14 #[v, u] w fun e w' => e = .returned (.bool (decide (x = y))) ∧ Below w.heap.size w w' := by
  have bx := hx.bound
  have by' := hy.bound
  simp only [maxLen] at bx by'
  obtain ⟨va, vc, ev⟩ := hx.len
  obtain ⟨ua, uc, eu⟩ := hy.len
  by_cases hl : x.length = y.length
  · by_cases h0 : x.length = 0
    · have e1 : x = [] := List.length_eq_zero_iff.1 h0
      have e2 : y = [] := List.length_eq_zero_iff.1 (hl ▸ h0)
      subst e1 e2 ev eu
      clear hx hy
      simp only [List.length_nil]
      go_enter Try.func14, Try.ntmps14
      go_wp2
      go_loop [5] (fun i => i = .int .i64 0) (fun _ => 0)
      case atStart => rfl
      case round =>
        obtain rfl := hrel
        go_wp2
        go_ret
        exact ⟨by simp, Below.refl _ _⟩
    · obtain ⟨bv, ov, cv, rfl, hv1, hv2, hv3⟩ := hx.elem (by omega)
      obtain ⟨bu, ou, cu, rfl, hu1, hu2, hu3⟩ := hy.elem (by omega)
      clear ev eu hx hy
      have hc1 : ∀ k : Nat, k < x.length → ∃ z s, x[k]? = some z ∧ w.cell? ⟨bv, ov + k, none⟩ = some s ∧ PM.BS w s z := fun k hk => by
        obtain ⟨s, h1, h2⟩ := hv3 k _ (List.getElem?_eq_getElem hk)
        exact ⟨_, s, List.getElem?_eq_getElem hk, h1, h2⟩
      have hc2 : ∀ k : Nat, k < x.length → ∃ z s, y[k]? = some z ∧ w.cell? ⟨bu, ou + k, none⟩ = some s ∧ PM.BS w s z := fun k hk => by
        have hk' : k < y.length := by omega
        obtain ⟨s, h1, h2⟩ := hu3 k _ (List.getElem?_eq_getElem hk')
        exact ⟨_, s, List.getElem?_eq_getElem hk', h1, h2⟩
      have hfin : (∀ j : Nat, j < x.length → x[j]? = y[j]?) → x = y := fun h => List.ext_getElem? fun i => by
        by_cases hi : i < x.length
        · exact h i hi
        · rw [List.getElem?_eq_none (by omega), List.getElem?_eq_none (by omega)]
      clear hv3 hu3
      rw [← hl] at hu1 ⊢
      obtain ⟨L, hL⟩ : ∃ L, L = x.length := ⟨_, rfl⟩
      have hLm : L ≤ 9223372036854775807 := by omega
      rw [← hL] at hc1 hc2 hfin hv1 hu1 ⊢
      clear bx by' hl h0 hL
      simp only [maxLen] at hv2 hu2
      go_enter Try.func14, Try.ntmps14
      go_wp2
      go_loopw [5] (fun i wr => ∃ k : Nat, i = .int .i64 k ∧ k ≤ L ∧ (∀ j : Nat, j < k → x[j]? = y[j]?) ∧ Below w.heap.size w wr) (fun i _ => L - (intOf i).toNat)
      case atStart => exact ⟨0, rfl, by omega, fun j hj => by omega, Below.refl _ _⟩
      case round =>
        obtain ⟨k, rfl, hk, hall, hB⟩ := hrel
        by_cases hlt : k < L
        · obtain ⟨z1, s1, hz1, d1, b1⟩ := hc1 k hlt
          obtain ⟨z2, s2, hz2, d2, b2⟩ := hc2 k hlt
          have d1' := PM.cellA hB d1
          have d2' := PM.cellA hB d2
          have k1 := PM.run_str bty Try.underlying9 ((b1.keep hB).keep (Below.refl _ _).drew)
          have k2 := PM.run_str bty Try.underlying9 ((b2.keep hB).keep (Below.refl _ _).drew)
          obtain ⟨p1, p2, rfl⟩ := b1.len
          obtain ⟨p3, p4, rfl⟩ := b2.len
          have hS := PM.hid (And.intro hall (And.intro hz1 (And.intro hz2 hB)))
          clear hall hz1 hz2 hB hc1 hc2 hfin d1 d2 b1 b2
          by_cases hz : z1 = z2
          · subst hz
            go_wp2_with fail
            go_region
            go_wp2
            obtain ⟨hall, hz1, hz2, hB⟩ := hS.out
            refine ⟨⟨k + 1, by go_num, by omega, fun j hj => ?_, hB.drew⟩, by simp only [intOf]; omega⟩
            by_cases hjk : j < k
            · exact hall j hjk
            · have : j = k := by omega
              subst this
              rw [hz1, hz2]
          · have hzz : (z1 == z2) = false := beq_eq_false_iff_ne.2 hz
            have hzh := PM.hid hz
            clear hz
            go_wp2_with fail
            go_region
            go_wp2
            go_ret
            obtain ⟨hall, hz1, hz2, hB⟩ := hS.out
            have hne : ¬ x = y := fun e => by
              subst e
              rw [hz1] at hz2
              exact hzh.out (by simpa using hz2)
            exact ⟨by rw [decide_eq_false hne]; rfl, hB.drew⟩
        · have hT : k = L := by omega
          subst hT
          have hE := hfin hall
          have hb := PM.hid hB
          clear hc1 hc2 hall hfin hB
          go_wp2
          go_ret
          exact ⟨by rw [decide_eq_true hE]; rfl, hb.out⟩
  · have g1 : ((x.length : Int) != y.length) = true := by simp; omega
    rw [show decide (x = y) = false from decide_eq_false fun e => hl (by rw [e])]
    subst ev eu
    clear hx hy
    go_enter Try.func14, Try.ntmps14
    go_wp2
    go_ret
    exact ⟨rfl, Below.refl _ _⟩
end Go.Proofs.Ytpilgbiedbhpeaa
