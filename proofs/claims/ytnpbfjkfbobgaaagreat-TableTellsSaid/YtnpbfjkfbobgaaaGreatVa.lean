/-
  CONTRACTS: is one of some entries of an ID (package fold, slices.ContainsFunc), an ID among some (slices.Contains).
-/
import Derived.Test.YtnpbfjkfbobgaaaGreatVm
namespace Go.Proofs.YtnpbfjkfbobgaaaGreat
open Go.RowKit
set_option linter.unusedVariables false
set_option linter.unusedSimpArgs false
namespace PM
/-- the first place at which a list is as it is asked, or -1 -/
def At1 {α : Type} (p : α → Bool) (l : List α) (i : Int) : Prop :=
  (i = -1 ∧ ∀ (j : Nat) (x : α), l[j]? = some x → p x = false) ∨ ∃ (k : Nat) (x : α), i = (k : Int) ∧ l[k]? = some x ∧ p x = true ∧ ∀ (j : Nat) (y : α), j < k → l[j]? = some y → p y = false
theorem At1.any {α : Type} {p : α → Bool} {l : List α} {i : Int} (h : At1 p l i) : decide (i ≥ 0) = l.any p := by
  rcases h with ⟨rfl, h⟩ | ⟨k, x, rfl, hx, hp, _⟩
  · have : l.any p = false := by
      rw [List.any_eq_false]
      intro x hx
      obtain ⟨j, hj⟩ := List.mem_iff_getElem?.1 hx
      rw [h j x hj]; simp
    rw [this]; decide
  · have : l.any p = true := List.any_eq_true.2 ⟨x, List.mem_of_getElem? hx, hp⟩
    rw [this]; simp
/-- an entry's ID is it -/
def isId (i : Id) (x : En) : Bool := decide (x.id = i)
def hasE (l : List En) (i : Id) : Bool := l.any (isId i)
def hasI (l : List Id) (i : Id) : Bool := l.any fun x => decide (i = x)
theorem hasI_iff {l : List Id} {i : Id} : hasI l i = true ↔ i ∈ l := by
  unfold hasI
  rw [List.any_eq_true]
  constructor
  · rintro ⟨x, hx, h⟩
    rw [of_decide_eq_true h]
    exact hx
  · intro h
    exact ⟨i, h, by simp⟩
theorem hasE_iff {l : List En} {i : Id} : hasE l i = true ↔ ∃ x ∈ l, x.id = i := by
  unfold hasE isId
  rw [List.any_eq_true]
  simp
theorem id_eq (a b c a' b' c') : decide ((⟨a, b, c⟩ : Id) = ⟨a', b', c'⟩) = (decide (a = a') && (decide (b = b') && decide (c = c'))) := by
  simp only [Id.mk.injEq, Bool.decide_and]
theorem enR_open {w : World} {cs : List Value} {x : En} (h : enR w cs x) : ∃ fa fc ea ec, cs = enC x (.slice fa x.fil.length fc) (.slice ea x.evs.length ec) ∧ TV w (.slice fa x.fil.length fc) x.fil ∧ EVL w (.slice ea x.evs.length ec) x.evs := by
  obtain ⟨fv, ev, h1, h2, h3⟩ := h
  obtain ⟨fa, fc, rfl⟩ := h2.len
  obtain ⟨ea, ec, rfl⟩ := h3.len
  exact ⟨fa, fc, ea, ec, h1, h2, h3⟩
/-- what a function that tells of an entry by a captured block answers -/
def TellsE (P : Program) (K : Nat) (bf : Nat) (p : En → Bool) (W0 : World) : Prop := ∀ (x : En) (fa : Option Addr) (fl fc : Nat) (ea : Option Addr) (el ec : Nat) (W : World), Below W0.heap.size W0 W →
  Calls P K #[.agg #[.int .i64 x.kind, .int .i64 x.id.br, .int .u64 (x.id.life : Int), .int .u64 (x.id.ser : Int), .int .i64 x.client, .int .u64 (x.sub : Int), .slice fa fl fc, .slice ea el ec], .pointer (some ⟨bf, 0, none⟩)] W fun e w' => e = .returned (.bool (p x)) ∧ Below W.heap.size W w'
end PM
end Go.Proofs.YtnpbfjkfbobgaaaGreat
