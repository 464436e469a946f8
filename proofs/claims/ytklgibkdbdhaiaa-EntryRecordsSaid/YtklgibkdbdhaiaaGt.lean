/-
  SLICES OF ELEMENTS OF SOME CELLS (structs), AS THEY CAME IN. Over any program.
-/
import Derived.Test.YtklgibkdbdhaiaaGm
import Derived.Deep.Slices
import Derived.Deep.Strs
namespace Go.Proofs.Ytklgibkdbdhaiaa
namespace PM
open Go.RowKit Go.ChangeShapes Go.WideShapes Go.ChangeAt Go.Deep
set_option linter.unusedVariables false
theorem add_put (b off j : Nat) : (⟨b, off, none⟩ : Addr).add j = ⟨b, off + j, none⟩ := by unfold Addr.add; split <;> simp_all
theorem EM.of_trod {α : Type} {el : α → List Value} {c : Nat} {wf : α → Prop} {y0 : α} {H : Type} {enc : TypeId × Value → H} {P : Program} {w : World} {base : Nat} {held : Bool} {fuel : Nat} {t e : TypeId} {v : Value} {x : DataW H × List MemPlace}
    (ht : P.underlying t = some (.slice e)) (ce : P.cellsOf e = c) (hc : 0 < c) (heL : ∀ y, (el y).length = c)
    (hel : ∀ n cs x, DataW.trod enc P w base (fun _ => true) held n e cs = some x → ∃ y, wf y ∧ cs = el y)
    (h : DataW.trod enc P w base (fun _ => true) held fuel t [v] = some x) : ∃ es, EM el c w v es ∧ ∀ x ∈ es, wf x := by
  rcases open_slice ht h with ⟨h0, _⟩ | ⟨a, len, cap, m, n, D, Pl, hcs, hb, hl, hm, hmm, _, hx⟩
  · simp at h0
    subst h0
    exact ⟨[], EM.nil _, by simp⟩
  · simp at hcs
    subst hcs
    have hmc : m = cap := by simpa using hmm
    have each : ∀ i, i < len → ∃ y : α, wf y ∧ ∀ j u, (el y)[j]? = some u → w.cell? (a.add (i * c + j)) = some u := by
      intro i hi
      obtain ⟨cs', g1, g2⟩ := hx i (by omega)
      rw [ce] at g1
      obtain ⟨_, hlen, hcell⟩ := World.cells?_some g1
      obtain ⟨y, hy, rfl⟩ := hel _ _ _ g2
      refine ⟨y, hy, fun j u hu => ?_⟩
      have hj := (List.getElem?_eq_some_iff.1 hu).1
      have := hcell j (by omega)
      rw [add_add] at this
      rw [this]; exact hu
    obtain ⟨f, hf⟩ : ∃ f : Nat → α, ∀ i, i < len → wf (f i) ∧ ∀ j u, (el (f i))[j]? = some u → w.cell? (a.add (i * c + j)) = some u := by
      classical
      refine ⟨fun i => if hi : i < len then (each i hi).choose else y0, fun i hi => ?_⟩
      simp only [hi, dif_pos]
      exact (each i hi).choose_spec
    refine ⟨(List.range len).map f, ⟨some a, cap, by simp, by simpa using hl, hm, fun hp => ?_⟩, ?_⟩
    · have hp' : 0 < len := by simpa using hp
      obtain ⟨b, off, spot⟩ := a
      have h00 := (hf 0 hp').2 0 _ (List.getElem?_eq_getElem (by rw [heL]; exact hc))
      have hspot : spot = none := by simpa [Addr.add] using World.cell?_spot h00
      subst hspot
      refine ⟨b, off, rfl, fun i x hi j u hu => ?_⟩
      have hi' : i < len := by have := (List.getElem?_eq_some_iff.1 hi).1; simpa using this
      simp [hi'] at hi
      subst hi
      have := (hf i hi').2 j u hu
      rw [add_put, ← Nat.add_assoc] at this
      exact this
    · intro x hx'
      obtain ⟨i, hi, rfl⟩ := List.mem_map.1 hx'
      exact (hf i (by simpa using hi)).1
end PM
end Go.Proofs.Ytklgibkdbdhaiaa
