/-
  CONTRACTS OF the law's package: Few; postilionref04: Same.
-/
import Derived.Test.YtenfjgfpeheepaaEh
namespace Go.Proofs.Ytenfjgfpeheepaa
open Go.RowKit
set_option linter.unusedVariables false
namespace PM
def smallA (z : At) : Prop := z.name.size ≤ 100 ∧ z.s.size ≤ 100
/-- few attributes, of short texts -/
def Few (es : List At) : Prop := es.length ≤ 20 ∧ ∀ (j : Nat) (z : At), es[j]? = Option.some z → smallA z
theorem ba_ext {a b : ByteArray} (h : a.toList = b.toList) : a = b := by
  rw [ByteArray.toList_eq, ByteArray.toList_eq] at h
  cases a; cases b
  simp only [ByteArray.mk.injEq]
  exact Array.toList_inj.1 h
end PM
set_option maxHeartbeats 1000000 in
theorem few_any (v : Value) (es : List PM.At) (w : World) (hv : PM.EV w v es) :
    Calls Try.prog 11 #[v] w fun e w' => (e = .returned (.bool true) ∧ PM.Few es ∨ e = .returned (.bool false) ∧ ¬ PM.Few es) ∧ w' = w := by
  obtain ⟨ad, cap, rfl, hcap, hmax, hel⟩ := hv
  unfold maxLen at hmax
  obtain ⟨L, hL⟩ : ∃ L, L = es.length := ⟨_, rfl⟩
  have hLh := PM.hid hL
  rw [← hL] at hcap ⊢
  have helh := PM.hid hel
  clear hel hL
  by_cases hbig : 20 < L
  · have hb : (20 : Int) < (L : Int) := by omega
    go_enter Try.func11, Try.ntmps11
    go_wp2
    go_ret
    exact ⟨.inr ⟨rfl, fun h => by have := h.1; rw [← hLh.out] at this; omega⟩, rfl⟩
  have hb : ¬ (20 : Int) < (L : Int) := by omega
  go_enter Try.func11, Try.ntmps11
  go_wp2
  go_loop [3] (fun i => ∃ k : Nat, i = .int .i64 k ∧ k ≤ L ∧ (∀ (j : Nat) (z : PM.At), j < k → es[j]? = some z → PM.smallA z)) (fun i => L - (intOf i).toNat)
  case atStart => exact ⟨0, rfl, by omega, fun j y hj => absurd hj (by omega)⟩
  case round =>
    obtain ⟨k, rfl, hk, hall⟩ := hrel
    have hS := PM.hid hall
    clear hall
    by_cases hlt : k < L
    · obtain ⟨z, hz⟩ : ∃ z, es[k]? = some z := ⟨es[k]'(by rw [← hLh.out]; exact hlt), List.getElem?_eq_getElem _⟩
      obtain ⟨b, off, rfl, hce⟩ := helh.out (by rw [← hLh.out]; omega)
      obtain ⟨d0, d1, d2, d3⟩ := hce k z hz
      have hzh := PM.hid hz
      clear hz hce
      have hno : ¬ PM.smallA z → ¬ PM.Few es := fun h h' => h (h'.2 k z hzh.out)
      have hnh := PM.hid hno
      clear hno
      by_cases g1 : 100 < z.name.size
      · have g1' : (100 : Int) < (z.name.size : Int) := by omega
        go_wp2_with fail
        go_ret
        exact ⟨.inr ⟨rfl, hnh.out fun h => by have := h.1; omega⟩, rfl⟩
      · have g1' : ¬ (100 : Int) < (z.name.size : Int) := by omega
        by_cases g2 : 100 < z.s.size
        · have g2' : (100 : Int) < (z.s.size : Int) := by omega
          go_wp2_with fail
          go_ret
          exact ⟨.inr ⟨rfl, hnh.out fun h => by have := h.2; omega⟩, rfl⟩
        · have g2' : ¬ (100 : Int) < (z.s.size : Int) := by omega
          go_wp2_with fail
          refine ⟨⟨k + 1, by go_num, by omega, fun j y hj hy => ?_⟩, by simp only [intOf]; omega⟩
          by_cases hjk : j < k
          · exact hS.out j y hjk hy
          · obtain rfl : j = k := by omega
            rw [hzh.out] at hy
            cases hy
            exact ⟨by omega, by omega⟩
    · have hkL : k = L := by omega
      subst hkL
      go_wp2_with fail
      go_ret
      refine ⟨.inl ⟨rfl, by rw [← hLh.out]; omega, fun j z hj => hS.out j z ?_ hj⟩, rfl⟩
      rw [hLh.out]
      exact (List.getElem?_eq_some_iff.1 hj).1
end Go.Proofs.Ytenfjgfpeheepaa
