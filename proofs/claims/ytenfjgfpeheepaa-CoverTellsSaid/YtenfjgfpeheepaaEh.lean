/-
  CONTRACTS OF postilionref04: Find; of the law's package: Few.
-/
import Derived.Test.YtenfjgfpeheepaaEg
namespace Go.Proofs.Ytenfjgfpeheepaa
open Go.RowKit
set_option linter.unusedVariables false
set_option maxHeartbeats 2000000 in
theorem refind_any (v : Value) (nm : ByteArray) (es : List PM.At) (w : World) (hv : PM.EV w v es) :
    Calls Try.prog 64 #[v, .string nm] w fun e w' => ∃ k n s f, e = .returned (.tuple #[.agg #[.int .i64 k, .int .i64 n, .string s], .bool f]) ∧ PM.FoundV nm es k n s f ∧ Below w.heap.size w w' := by
  obtain ⟨W, hW⟩ : ∃ W, W = w.alloc (.cells #[.int .i64 0, .int .i64 0, .string ⟨#[]⟩] 40) := ⟨_, rfl⟩
  have hB0 : Below w.heap.size w W := by rw [hW]; exact (Below.refl _ _).alloc (Nat.le_refl _) _
  have hb2 : PM.BK W w.heap.size #[.int .i64 0, .int .i64 0, .string ⟨#[]⟩] 40 := by
    rw [hW]; exact PM.BK.new w _ _
  have hvW := hv.keep hB0
  obtain ⟨ad, cap, rfl, hcap, hmax, hel⟩ := hvW
  unfold maxLen at hmax
  obtain ⟨L, hL⟩ : ∃ L, L = es.length := ⟨_, rfl⟩
  have hLh := PM.hid hL
  rw [← hL] at hcap ⊢
  have helh := PM.hid hel
  have hWh := PM.hid (And.intro hB0 hb2)
  clear hel hL hB0 hb2 hv
  go_enter Try.func64, Try.ntmps64
  go_wp2_with fail
  rw [← hW]
  clear hW
  go_loop [6] (fun i => ∃ k : Nat, i = .int .i64 k ∧ k ≤ L ∧ (∀ (j : Nat) (y : PM.At), j < k → es[j]? = some y → (y.name.toList == nm.toList) = false)) (fun i => L - (intOf i).toNat)
  case atStart => exact ⟨0, rfl, by omega, fun j y hj => absurd hj (by omega)⟩
  case round =>
    obtain ⟨k, rfl, hk, hall⟩ := hrel
    have hS := PM.hid hall
    clear hall
    have c0 := hWh.out.2.cell 0
    have c1 := hWh.out.2.cell 1
    have c2 := hWh.out.2.cell 2
    have f0 := hWh.out.2.free 0
    have f1 := hWh.out.2.free 1
    have f2 := hWh.out.2.free 2
    simp only [List.getElem?_toArray, List.getElem?_cons_zero, List.getElem?_cons_succ] at c0 c1 c2
    by_cases hlt : k < L
    · obtain ⟨z, hz⟩ : ∃ z, es[k]? = some z := ⟨es[k]'(by rw [← hLh.out]; exact hlt), List.getElem?_eq_getElem _⟩
      obtain ⟨b, off, rfl, hce⟩ := helh.out (by rw [← hLh.out]; omega)
      obtain ⟨d0, d1, d2, d3⟩ := hce k z hz
      have hzh := PM.hid hz
      clear hz hce
      cases heq : (z.name.toList == nm.toList)
      · have heqh := PM.hid heq
        go_wp2_with fail
        refine ⟨⟨k + 1, by go_num, by omega, fun j y hj hy => ?_⟩, by simp only [intOf]; omega⟩
        by_cases hjk : j < k
        · exact hS.out j y hjk hy
        · obtain rfl : j = k := by omega
          rw [hzh.out] at hy
          cases hy
          exact heqh.out
      · have heqh := PM.hid heq
        go_wp2_with fail
        obtain ⟨W2, hW2⟩ : ∃ W2, W2 = ((W.setCell ⟨w.heap.size, 0, none⟩ (.int .i64 z.k)).setCell ⟨w.heap.size, 1, none⟩ (.int .i64 z.n)).setCell ⟨w.heap.size, 2, none⟩ (.string z.s) := ⟨_, rfl⟩
        have hk2 := PM.BK.set3 hWh.out.2 (.int .i64 z.k) (.int .i64 z.n) (.string z.s)
        have hB2 : Below w.heap.size w W2 := by rw [hW2]; exact ((hWh.out.1.setCell (p := ⟨w.heap.size, 0, none⟩) (Nat.le_refl _) _).setCell (p := ⟨w.heap.size, 1, none⟩) (Nat.le_refl _) _).setCell (p := ⟨w.heap.size, 2, none⟩) (Nat.le_refl _) _
        rw [← hW2] at hk2 ⊢
        clear hW2
        have e0 := hk2.cell 0
        have e1 := hk2.cell 1
        have e2 := hk2.cell 2
        simp only [List.getElem?_toArray, List.getElem?_cons_zero, List.getElem?_cons_succ] at e0 e1 e2
        have hB2h := PM.hid hB2
        clear hk2 hB2
        refine bodyPost_ret (v := .tuple #[.agg #[.int .i64 z.k, .int .i64 z.n, .string z.s], .bool true]) (by simp [results, Try.results64, go_sem, e0, e1, e2]; try rfl) rfl ?_
        exact ⟨_, _, _, .inr ⟨rfl, .inr ⟨k, z, rfl, rfl, rfl, rfl, hzh.out, .inr ⟨k, z, rfl, hzh.out, heqh.out, hS.out⟩⟩, hB2h.out⟩⟩
    · have hkL : k = L := by omega
      subst hkL
      go_wp2_with fail
      obtain ⟨W2, hW2⟩ : ∃ W2, W2 = ((W.setCell ⟨w.heap.size, 0, none⟩ (.int .i64 0)).setCell ⟨w.heap.size, 1, none⟩ (.int .i64 0)).setCell ⟨w.heap.size, 2, none⟩ (.string ⟨#[]⟩) := ⟨_, rfl⟩
      have hk2 := PM.BK.set3 hWh.out.2 (.int .i64 0) (.int .i64 0) (.string ⟨#[]⟩)
      have hB2 : Below w.heap.size w W2 := by rw [hW2]; exact ((hWh.out.1.setCell (p := ⟨w.heap.size, 0, none⟩) (Nat.le_refl _) _).setCell (p := ⟨w.heap.size, 1, none⟩) (Nat.le_refl _) _).setCell (p := ⟨w.heap.size, 2, none⟩) (Nat.le_refl _) _
      rw [← hW2] at hk2 ⊢
      clear hW2
      have e0 := hk2.cell 0
      have e1 := hk2.cell 1
      have e2 := hk2.cell 2
      simp only [List.getElem?_toArray, List.getElem?_cons_zero, List.getElem?_cons_succ] at e0 e1 e2
      have hB2h := PM.hid hB2
      clear hk2 hB2
      refine bodyPost_ret (v := .tuple #[.agg #[.int .i64 0, .int .i64 0, .string ⟨#[]⟩], .bool false]) (by simp [results, Try.results64, go_sem, e0, e1, e2]; try rfl) rfl ?_
      refine ⟨_, _, _, .inl ⟨rfl, .inl ⟨rfl, rfl, rfl, rfl, .inl ⟨rfl, fun j z hj => hS.out j z ?_ hj⟩⟩, hB2h.out⟩⟩
      rw [hLh.out]
      exact (List.getElem?_eq_some_iff.1 hj).1
end Go.Proofs.Ytenfjgfpeheepaa
