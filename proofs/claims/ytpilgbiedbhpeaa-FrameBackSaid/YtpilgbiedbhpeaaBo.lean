/-
  SLICES OF SLICES OF BYTES AS THEY CAME IN; a row of the call's own whose elements came in ('WBL'). Over any program.
-/
import Derived.Test.YtpilgbiedbhpeaaBl
import Derived.Test.YtpilgbiedbhpeaaCs
namespace Go.Proofs.Ytpilgbiedbhpeaa
namespace PM
open Go.RowKit Go.ChangeShapes Go.WideShapes Go.ChangeAt Go.Deep
set_option linter.unusedVariables false
theorem addr_add (b off i : Nat) : (⟨b, off, none⟩ : Addr).add i = ⟨b, off + i, none⟩ := by unfold Addr.add; split <;> simp_all
theorem RBL.of_trod {H : Type} {enc : TypeId × Value → H} {P : Program} {w : World} {base : Nat} {held : Bool} {fuel : Nat} {t e u : TypeId} {v : Value} {x : DataW H × List MemPlace}
    (ht : P.underlying t = some (.slice e)) (ce : P.cellsOf e = 1) (he : P.underlying e = some (.slice u)) (hu : P.underlying u = some (.int .u8)) (cu : P.cellsOf u = 1)
    (h : DataW.trod enc P w base (fun _ => true) held fuel t [v] = some x) : ∃ ls, RBL w v ls := by
  rcases open_slice1 ht ce h with ⟨h0, _⟩ | ⟨a, len, cap, m, n, V, D, Pl, hcs, hb, hl, hm, hmm, hx, hV⟩
  · simp at h0
    subst h0
    exact ⟨[], RBL.nil w⟩
  · simp at hcs
    subst hcs
    have hmc : m = cap := by simpa using hmm
    subst hmc
    have each : ∀ i : Nat, ∃ l : List UInt8, i < len → BS w (V i) l := fun i => by
      by_cases hi : i < len
      · obtain ⟨l, hl⟩ := BS.of_trod he hu cu (hV i (by omega)).2
        exact ⟨l, fun _ => hl⟩
      · exact ⟨[], fun h => absurd h hi⟩
    obtain ⟨F, hF⟩ := Classical.axiomOfChoice each
    refine ⟨(List.range len).map F, (List.range len).map V, ?_, by simp, fun i x l hi hl => ?_⟩
    · by_cases h0 : len = 0
      · subst h0
        exact .inr (.inr ⟨a, m, rfl, by simp, hm⟩)
      · obtain ⟨b, off, spot⟩ := a
        have hc0 := (hV 0 (by omega)).1
        have hspot : spot = none := by simpa [Addr.add] using World.cell?_spot hc0
        subst hspot
        have hlen : ((List.range len).map V).length = len := by rw [List.length_map, List.length_range]
        refine .inr (.inl ⟨b, off, m, by rw [hlen], by rw [hlen]; exact hl, hm, fun i x hi => ?_⟩)
        have hil : i < len := by have h9 := (List.getElem?_eq_some_iff.1 hi).1; rw [List.length_map, List.length_range] at h9; exact h9
        have hx : V i = x := by rw [List.getElem?_map, List.getElem?_range hil] at hi; simpa using hi
        have ea : (⟨b, off, none⟩ : Addr).add i = ⟨b, off + i, none⟩ := addr_add b off i
        have := (hV i (by omega)).1
        rw [ea] at this
        rw [this, hx]
    · have hil : i < len := by have h9 := (List.getElem?_eq_some_iff.1 hi).1; rw [List.length_map, List.length_range] at h9; exact h9
      have hx : V i = x := by rw [List.getElem?_map, List.getElem?_range hil] at hi; simpa using hi
      have hy : F i = l := by rw [List.getElem?_map, List.getElem?_range hil] at hl; simpa using hl
      rw [← hx, ← hy]
      exact hF i hil
/-- a row of the call's own, whose elements read as they did in an elder world -/
def WBL (T : TypeId) (B : Nat) (w0 w : World) (v : Value) (ls : List (List UInt8)) : Prop :=
  ∃ vs : List Value, OE vid T B w v vs ∧ vs.length = ls.length ∧ ∀ (i : Nat) (x : Value) (l : List UInt8), vs[i]? = some x → ls[i]? = some l → BS w0 x l
theorem WBL.nil (T : TypeId) (B : Nat) (w0 w : World) : WBL T B w0 w (.slice none 0 0) [] := ⟨[], OE.nilrow w, rfl, fun i x l a _ => by simp at a⟩
theorem WBL.keep {T : TypeId} {B : Nat} {w0 W w : World} {v : Value} {ls : List (List UInt8)} (hb : Below W.heap.size W w) (h : WBL T B w0 W v ls) : WBL T B w0 w v ls := by
  obtain ⟨vs, h1, h2, h3⟩ := h
  exact ⟨vs, h1.keep hb, h2, h3⟩
theorem WBL.rbl {T : TypeId} {B : Nat} {w0 w : World} {v : Value} {ls : List (List UInt8)} (hb : Below w0.heap.size w0 w) (h : WBL T B w0 w v ls) : RBL w v ls := by
  obtain ⟨vs, h1, h2, h3⟩ := h
  exact ⟨vs, h1.es, h2, fun i x l a b => (h3 i x l a b).keep hb⟩
/-- a row of one kind of elements stays while a row of another kind turns -/
theorem OE.kept_ne {α β : Type} {e : α → Value} {e' : β → Value} {T E : TypeId} (hne : T ≠ E) {B B' : Nat} {w w' : World} {v r : Value} {l : List α} {m : List β} (h : OE e T B w v l) (hr : OE e' E B' w r m) (hg : w.grownBy w' r.ownBlock) : OE e T B w' v l := by
  refine World.ownsRow.kept h hg ?_
  by_cases hn : v.ownBlock = none
  · exact .inl hn
  · right
    intro he
    rcases h.2 with ⟨rfl, _⟩ | ⟨g, cap, cur, rfl, _, hgb, _⟩
    · simp [Value.ownBlock] at hn
    · rcases hr.2 with ⟨rfl, _⟩ | ⟨g', cap', cur', rfl, _, hgb', _⟩
      · simp [Value.ownBlock] at he
      · simp [Value.ownBlock] at he
        subst he
        rw [hgb] at hgb'
        simp at hgb'
        exact hne hgb'.2
theorem WBL.snoc {T : TypeId} {B : Nat} {w0 w' : World} {v' p : Value} {ls : List (List UInt8)} {l : List UInt8} {vs : List Value} (h2 : vs.length = ls.length) (h3 : ∀ (i : Nat) (x : Value) (l : List UInt8), vs[i]? = some x → ls[i]? = some l → BS w0 x l)
    (hp : BS w0 p l) (ho : OE vid T B w' v' (vs ++ [p])) : WBL T B w0 w' v' (ls ++ [l]) := by
  refine ⟨vs ++ [p], ho, by simp [h2], fun i x m hx hm => ?_⟩
  rcases Nat.lt_trichotomy i vs.length with hi | hi | hi
  · rw [List.getElem?_append_left hi] at hx
    rw [List.getElem?_append_left (by omega)] at hm
    exact h3 i x m hx hm
  · subst hi
    rw [List.getElem?_append_right (Nat.le_refl _), Nat.sub_self] at hx
    rw [h2, List.getElem?_append_right (Nat.le_refl _), Nat.sub_self] at hm
    simp at hx hm
    subst hx hm
    exact hp
  · have := (List.getElem?_eq_some_iff.1 hx).1
    simp at this
    omega
/-- two lists of elements, one behind the other -/
theorem RBL.app {w' : World} {v' : Value} {ls ms : List (List UInt8)} {vs us : List Value} (h2 : vs.length = ls.length) (h3 : ∀ (i : Nat) (x : Value) (l : List UInt8), vs[i]? = some x → ls[i]? = some l → BS w' x l)
    (g2 : us.length = ms.length) (g3 : ∀ (i : Nat) (x : Value) (l : List UInt8), us[i]? = some x → ms[i]? = some l → BS w' x l) (ho : ES vid w' v' (vs ++ us)) : RBL w' v' (ls ++ ms) := by
  refine ⟨vs ++ us, ho, by simp [h2, g2], fun i x m hx hm => ?_⟩
  by_cases hi : i < vs.length
  · rw [List.getElem?_append_left hi] at hx
    rw [List.getElem?_append_left (by omega)] at hm
    exact h3 i x m hx hm
  · rw [List.getElem?_append_right (by omega)] at hx
    rw [List.getElem?_append_right (by omega), ← h2] at hm
    exact g3 _ x m hx hm
end PM
end Go.Proofs.Ytpilgbiedbhpeaa
