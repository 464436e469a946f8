/-
  ROWS OF ROWS OF BYTES: what a slice of slices of bytes reads as ('RBL'), one that the call itself has made ('OBL'). Over any program.
-/
import Derived.Test.YtpilgbiedbhpeaaBk
import Derived.Test.YtpilgbiedbhpeaaGs
namespace Go.Proofs.Ytpilgbiedbhpeaa
namespace PM
open Go.RowKit
set_option linter.unusedVariables false
abbrev vid : Value → Value := fun v => v
/-- rows of bytes, as a slice of slices reads -/
def RBL (w : World) (v : Value) (ls : List (List UInt8)) : Prop :=
  ∃ vs : List Value, ES vid w v vs ∧ vs.length = ls.length ∧ ∀ (i : Nat) (x : Value) (l : List UInt8), vs[i]? = some x → ls[i]? = some l → BS w x l
/-- the same, in rows of the call's own, from block B on -/
def OBL (T E : TypeId) (B : Nat) (w : World) (v : Value) (ls : List (List UInt8)) : Prop :=
  ∃ vs : List Value, OE vid T B w v vs ∧ vs.length = ls.length ∧ ∀ (i : Nat) (x : Value) (l : List UInt8), vs[i]? = some x → ls[i]? = some l → OW E B w x l
theorem RBL.keep {W w : World} {v : Value} {ls : List (List UInt8)} (hb : Below W.heap.size W w) (h : RBL W v ls) : RBL w v ls := by
  obtain ⟨vs, h1, h2, h3⟩ := h
  exact ⟨vs, h1.keep hb, h2, fun i x l a b => (h3 i x l a b).keep hb⟩
theorem OBL.keep {T E : TypeId} {B : Nat} {W w : World} {v : Value} {ls : List (List UInt8)} (hb : Below W.heap.size W w) (h : OBL T E B W v ls) : OBL T E B w v ls := by
  obtain ⟨vs, h1, h2, h3⟩ := h
  exact ⟨vs, h1.keep hb, h2, fun i x l a b => (h3 i x l a b).keep hb⟩
theorem OBL.rbl {T E : TypeId} {B : Nat} {w : World} {v : Value} {ls : List (List UInt8)} (h : OBL T E B w v ls) : RBL w v ls := by
  obtain ⟨vs, h1, h2, h3⟩ := h
  exact ⟨vs, h1.es, h2, fun i x l a b => (h3 i x l a b).bs⟩
theorem OBL.nil (T E : TypeId) (B : Nat) (w : World) : OBL T E B w (.slice none 0 0) [] := ⟨[], OE.nilrow w, rfl, fun i x l a _ => by simp at a⟩
theorem RBL.nil (w : World) : RBL w (.slice none 0 0) [] := ⟨[], ES.nil w, rfl, fun i x l a _ => by simp at a⟩
theorem RBL.len {w : World} {v : Value} {ls : List (List UInt8)} (h : RBL w v ls) : ∃ a cap, v = .slice a ls.length cap := by
  obtain ⟨vs, h1, h2, _⟩ := h
  rw [← h2]
  exact h1.len
theorem RBL.bound {w : World} {v : Value} {ls : List (List UInt8)} (h : RBL w v ls) : ls.length ≤ maxLen := by
  obtain ⟨vs, h1, h2, _⟩ := h
  rw [← h2]
  exact h1.bound
/-- an element: where it lies, and what it reads as -/
theorem RBL.elem {w : World} {v : Value} {ls : List (List UInt8)} (h : RBL w v ls) (hl : 0 < ls.length) : ∃ b off cap, v = .slice (some ⟨b, off, none⟩) ls.length cap ∧ ls.length ≤ cap ∧ cap ≤ maxLen ∧
    ∀ (i : Nat) (l : List UInt8), ls[i]? = some l → ∃ x, w.cell? ⟨b, off + i, none⟩ = some x ∧ BS w x l := by
  obtain ⟨vs, h1, h2, h3⟩ := h
  obtain ⟨b, off, cap, e, g1, g2, g3⟩ := h1.open1 (by omega)
  rw [← h2]
  refine ⟨b, off, cap, e, g1, g2, fun i l hi => ?_⟩
  have hil := (List.getElem?_eq_some_iff.1 hi).1
  have hx : vs[i]? = some (vs[i]'(by omega)) := List.getElem?_eq_getElem _
  exact ⟨_, g3 i _ hx, h3 i _ l hx hi⟩
/-- a row of bytes stays while a row of other things turns -/
theorem OW.kept {α : Type} {e : α → Value} {T E : TypeId} (hne : T ≠ E) {B B' : Nat} {w w' : World} {v r : Value} {l : List UInt8} {m : List α} (h : OW E B w v l) (hr : OE e T B' w r m) (hg : w.grownBy w' r.ownBlock) : OW E B w' v l := by
  refine World.ownsRow.kept h hg ?_
  by_cases hn : v.ownBlock = none
  · exact .inl hn
  · right
    intro he
    rcases h.2 with ⟨rfl, _⟩ | ⟨g, cap, cur, rfl, _, hgb, _⟩
    · simp [Value.ownBlock] at hn
    · rcases hr.2 with ⟨rfl, _⟩ | ⟨g', cap', cur', rfl, _, hgb', _⟩
      · simp [Value.ownBlock] at he
      · simp [Value.ownBlock] at he
        subst he
        rw [hgb] at hgb'
        simp at hgb'
        exact hne hgb'.2.symm
theorem OBL.snoc {T E : TypeId} (hne : T ≠ E) {B : Nat} {w w' : World} {v v' p : Value} {ls : List (List UInt8)} {l : List UInt8} {vs : List Value} (h1 : OE vid T B w v vs) (h2 : vs.length = ls.length) (h3 : ∀ (i : Nat) (x : Value) (l : List UInt8), vs[i]? = some x → ls[i]? = some l → OW E B w x l)
    (hp : OW E B w p l) (ho : OE vid T B w' v' (vs ++ [p])) (hg : w.grownBy w' v.ownBlock) : OBL T E B w' v' (ls ++ [l]) := by
  refine ⟨vs ++ [p], ho, by simp [h2], fun i x m hx hm => ?_⟩
  rcases Nat.lt_trichotomy i vs.length with hi | hi | hi
  · rw [List.getElem?_append_left hi] at hx
    rw [List.getElem?_append_left (by omega)] at hm
    exact (h3 i x m hx hm).kept hne h1 hg
  · subst hi
    rw [List.getElem?_append_right (Nat.le_refl _), Nat.sub_self] at hx
    rw [h2, List.getElem?_append_right (Nat.le_refl _), Nat.sub_self] at hm
    simp at hx hm
    subst hx hm
    exact hp.kept hne h1 hg
  · have := (List.getElem?_eq_some_iff.1 hx).1
    simp at this
    omega
end PM
end Go.Proofs.Ytpilgbiedbhpeaa
