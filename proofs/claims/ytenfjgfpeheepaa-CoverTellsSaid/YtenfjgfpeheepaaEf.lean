/-
  CONTRACTS OF package event, postilionref04: Find.
-/
import Derived.Test.YtenfjgfpeheepaaEc
namespace Go.Proofs.Ytenfjgfpeheepaa
open Go.RowKit
set_option linter.unusedVariables false
namespace PM
/-- where a name is found: the first place that bears it, or none -/
def Found (nm : ByteArray) (es : List At) (i : Int) : Prop :=
  (i = -1 ∧ ∀ (j : Nat) (z : At), es[j]? = Option.some z → (z.name.toList == nm.toList) = false) ∨
  ∃ (k : Nat) (z : At), i = (k : Int) ∧ es[k]? = Option.some z ∧ (z.name.toList == nm.toList) = true ∧ ∀ (j : Nat) (y : At), j < k → es[j]? = Option.some y → (y.name.toList == nm.toList) = false
end PM
theorem find1_any (z : PM.At) (nm : ByteArray) (b : Nat) (w : World) (h : w.cell? ⟨b, 0, none⟩ = some (.string nm)) :
    Calls Try.prog 66 #[.agg #[.string z.name, .int .i64 z.k, .int .i64 z.n, .string z.s], .pointer (some ⟨b, 0, none⟩)] w fun e w' => e = .returned (.bool (z.name.toList == nm.toList)) ∧ Below w.heap.size w w' := by
  have hlt := World.block_lt_of_cell? w _ h
  have h' : ∀ o, (w.alloc o).cell? ⟨b, 0, none⟩ = some (.string nm) := fun o => PM.cellA ((Below.refl _ _).alloc (Nat.le_refl _) o) h
  go_enter Try.func66, Try.ntmps66
  go_wp2
  go_ret
  exact ⟨rfl, by go_grown⟩
set_option maxHeartbeats 1000000 in
theorem idx_any (v : Value) (nm : ByteArray) (bf : Nat) (es : List PM.At) (w : World) (hv : PM.EV w v es) (hf : w.cell? ⟨bf, 0, none⟩ = some (.string nm)) :
    Calls Try.prog 65 #[v, .func (.func 66) #[] #[.pointer (some ⟨bf, 0, none⟩)]] w fun e w' => ∃ i, e = .returned (.int .i64 i) ∧ PM.Found nm es i ∧ Below w.heap.size w w' := by
  obtain ⟨ad, cap, rfl, hcap, hmax, hel⟩ := hv
  unfold maxLen at hmax
  obtain ⟨L, hL⟩ : ∃ L, L = es.length := ⟨_, rfl⟩
  have hLh := PM.hid hL
  rw [← hL] at hcap ⊢
  have helh := PM.hid hel
  have hfh := PM.hid hf
  clear hel hL hf
  by_cases h0 : L = 0
  · have hno : PM.Found nm es (-1) := .inl ⟨rfl, fun j z hj => by have := (List.getElem?_eq_some_iff.1 hj).1; rw [← hLh.out] at this; omega⟩
    have hnh := PM.hid hno
    subst h0
    clear hno
    go_enter Try.func65, Try.ntmps65
    go_wp2
    go_loop [8] (fun i => i = .int .i64 0) (fun _ => 0)
    case atStart => rfl
    case round =>
      obtain rfl := hrel
      go_wp2
      go_ret
      exact ⟨_, rfl, hnh.out, Below.refl _ _⟩
  obtain ⟨b, off, rfl, hce⟩ := helh.out (by rw [← hLh.out]; omega)
  have hceh := PM.hid hce
  clear hce helh
  go_enter Try.func65, Try.ntmps65
  go_wp2
  go_loopw [8] (fun i wr => ∃ k : Nat, i = .int .i64 k ∧ k ≤ L ∧ (∀ j y, j < k → es[j]? = some y → (y.name.toList == nm.toList) = false) ∧ Below w.heap.size w wr) (fun i _ => L - (intOf i).toNat)
  case atStart => exact ⟨0, rfl, by omega, fun j y hj => absurd hj (by omega), Below.refl _ _⟩
  case round =>
    obtain ⟨k, rfl, hk, hall, hB⟩ := hrel
    have hS := PM.hid (And.intro hall hB)
    by_cases hlt : k < L
    · obtain ⟨z, hz⟩ : ∃ z, es[k]? = some z := ⟨es[k]'(by rw [← hLh.out]; exact hlt), List.getElem?_eq_getElem _⟩
      obtain ⟨d0, d1, d2, d3⟩ := hceh.out k z hz
      replace d0 := PM.cellA hB d0
      replace d1 := PM.cellA hB d1
      replace d2 := PM.cellA hB d2
      replace d3 := PM.cellA hB d3
      have hc := find1_any z nm bf wr (PM.cellA hB hfh.out)
      have hzh := PM.hid hz
      clear hz hall hB
      cases heq : (z.name.toList == nm.toList)
      · rw [heq] at hc
        have heqh := PM.hid heq
        clear heq
        go_wp2_with fail
        refine hc.mono ?_
        rintro e w2 ⟨rfl, hB2⟩
        go_wp2_with fail
        refine ⟨⟨k + 1, by go_num, by omega, fun j y hj hy => ?_, PM.chain hS.out.2 hB2⟩, by simp only [intOf]; omega⟩
        by_cases hjk : j < k
        · exact hS.out.1 j y hjk hy
        · obtain rfl : j = k := by omega
          rw [hzh.out] at hy
          cases hy
          exact heqh.out
      · rw [heq] at hc
        have heqh := PM.hid heq
        clear heq
        go_wp2_with fail
        refine hc.mono ?_
        rintro e w2 ⟨rfl, hB2⟩
        go_wp2_with fail
        go_ret
        exact ⟨_, rfl, .inr ⟨k, z, rfl, hzh.out, heqh.out, hS.out.1⟩, PM.chain hS.out.2 hB2⟩
    · have hkL : k = L := by omega
      subst hkL
      clear hall hB
      go_wp2_with fail
      go_ret
      refine ⟨_, rfl, .inl ⟨rfl, fun j z hj => hS.out.1 j z ?_ hj⟩, hS.out.2⟩
      rw [hLh.out]
      exact (List.getElem?_eq_some_iff.1 hj).1
end Go.Proofs.Ytenfjgfpeheepaa
