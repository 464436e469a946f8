/-
  ROWS OF ANYTHING, AS THEY CAME IN: elements of one cell. Over any program.
-/
import Derived.Test.YtklgibkdbdhaiaaRo
import Derived.Test.YtklgibkdbdhaiaaCs
namespace Go.Proofs.Ytklgibkdbdhaiaa
namespace PM
open Go.RowKit Go.ChangeShapes Go.WideShapes Go.ChangeAt Go.Deep
set_option linter.unusedVariables false
theorem add_putR (b off j : Nat) : (⟨b, off, none⟩ : Addr).add j = ⟨b, off + j, none⟩ := by unfold Addr.add; split <;> simp_all
theorem RR.of_trod1 {α : Type} {R : World → List Value → α → Prop} {H : Type} {enc : TypeId × Value → H} {P : Program} {w : World} {base : Nat} {held : Bool} {fuel : Nat} {t e : TypeId} {v : Value} {x : DataW H × List MemPlace} (y0 : α)
    (ht : P.underlying t = some (.slice e)) (ce : P.cellsOf e = 1)
    (each : ∀ (n : Nat) (V : Value) (z : DataW H × List MemPlace), DataW.trod enc P w base (fun _ => true) held n e [V] = some z → V.oneCell' = true ∧ ∃ y, R w [V] y)
    (h : DataW.trod enc P w base (fun _ => true) held fuel t [v] = some x) : ∃ ls, RR R 1 w v ls := by
  rcases open_slice1 ht ce h with ⟨h0, _⟩ | ⟨a, len, cap, m, n, V, D, Pl, hcs, hb, hl, hm, hmm, hx, hV⟩
  · simp at h0
    subst h0
    exact ⟨[], RR.nil w⟩
  · simp at hcs
    subst hcs
    have hmc : m = cap := by simpa using hmm
    subst hmc
    have each' : ∀ i : Nat, ∃ y : α, i < len → R w [V i] y := fun i => by
      by_cases hi : i < len
      · obtain ⟨_, y, hy⟩ := each _ _ _ (hV i (by omega)).2
        exact ⟨y, fun _ => hy⟩
      · exact ⟨y0, fun h => absurd h hi⟩
    obtain ⟨F, hF⟩ := Classical.axiomOfChoice each'
    have one : ∀ u ∈ (List.range len).map V, u.oneCell' = true := fun u hu => by
      obtain ⟨i, hi, rfl⟩ := List.mem_map.1 hu
      exact (each _ _ _ (hV i (by have := List.mem_range.1 hi; omega)).2).1
    refine ⟨(List.range len).map F, ((List.range len).map V).pmap (fun v h => ce1 v h) one, ?_, by simp, fun i c y hi hy => ?_⟩
    · refine ⟨some a, m, by simp, by simpa using hl, hm, fun hp => ?_⟩
      have h0 : 0 < len := by simpa using hp
      obtain ⟨b, off, spot⟩ := a
      have hc0 := (hV 0 (by omega)).1
      have hspot : spot = none := by simpa [Addr.add] using World.cell?_spot hc0
      subst hspot
      refine ⟨b, off, rfl, fun i c hi j u hu => ?_⟩
      rw [List.getElem?_pmap] at hi
      obtain ⟨v', h9, hv', rfl⟩ := Option.pmap_eq_some_iff.1 hi
      have hil : i < len := by have h9 := (List.getElem?_eq_some_iff.1 hv').1; rw [List.length_map, List.length_range] at h9; exact h9
      have hx : V i = v' := by rw [List.getElem?_map, List.getElem?_range hil] at hv'; simpa using hv'
      have : j = 0 ∧ u = v' := by
        match j, hu with
        | 0, hu => simp [ceL, ce1] at hu; exact ⟨rfl, hu.symm⟩
        | j + 1, hu => simp [ceL, ce1] at hu
      obtain ⟨rfl, rfl⟩ := this
      have h1 := (hV i (by omega)).1
      rw [add_putR] at h1
      rw [Nat.mul_one, Nat.add_zero, h1, hx]
    · rw [List.getElem?_pmap] at hi
      obtain ⟨v', h9, hv', rfl⟩ := Option.pmap_eq_some_iff.1 hi
      have hil : i < len := by have h9 := (List.getElem?_eq_some_iff.1 hv').1; rw [List.length_map, List.length_range] at h9; exact h9
      have hx : V i = v' := by rw [List.getElem?_map, List.getElem?_range hil] at hv'; simpa using hv'
      have hy' : F i = y := by rw [List.getElem?_map, List.getElem?_range hil] at hy; simpa using hy
      rw [← hy']
      show R w [v'] (F i)
      rw [← hx]
      exact hF i hil
end PM
end Go.Proofs.Ytklgibkdbdhaiaa
