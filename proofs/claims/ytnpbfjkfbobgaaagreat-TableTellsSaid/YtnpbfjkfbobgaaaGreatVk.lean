/-
  WHAT STAYS WHILE A ROW, A SET, A BOX TURNS: rows, boxes, sets beside it. Types of rows of entries.
-/
import Derived.Test.YtnpbfjkfbobgaaaGreatVo
namespace Go.Proofs.YtnpbfjkfbobgaaaGreat
open Go.RowKit
set_option linter.unusedVariables false
set_option linter.unusedSimpArgs false
namespace PM
section
variable {α : Type} {e : α → List Value} {R : World → List Value → α → Prop} {c : Nat} {E : TypeId} {B : Nat}
/-- the blocks of a row that turns are of one type -/
def RowTy (w : World) (row : Option Nat) (K : TypeId) : Prop := ∀ g, row = some g → ∃ cur m, w.heap[g]? = some (.cells cur K m)
theorem OM.rt {w : World} {v : Value} {l : List α} (h : OM e c E B w v l) : RowTy w v.ownBlock E := OM.rowty h
theorem OR.rt {w : World} {v : Value} {l : List α} (h : OR R c E B w v l) : RowTy w v.ownBlock E := by
  obtain ⟨css, h1, _⟩ := h
  exact OM.rowty h1
theorem OR.stays {w w' : World} {v : Value} {l : List α} {row : Option Nat} {K : TypeId} (hR : Stays R K) (hne : E ≠ K) (h : OR R c E B w v l) (hg : w.grownBy w' row) (ht : RowTy w row K) : OR R c E B w' v l := by
  obtain ⟨css, g1, g2, g3⟩ := h
  exact ⟨css, OM.stays hne g1 hg ht, g2, fun i cs x a b => hR _ _ _ _ _ hg ht (g3 i cs x a b)⟩
theorem BK.grown {w w' : World} {b : Nat} {cs : Array Value} {T K : TypeId} {row : Option Nat} (h : BK w b cs T) (hg : w.grownBy w' row) (ht : RowTy w row K) (hne : T ≠ K) : BK w' b cs T := by
  unfold BK at h ⊢
  have hl := (Array.getElem?_eq_some_iff.1 h).1
  rw [← h]
  refine hg.block b hl ?_
  intro he
  obtain ⟨cur, m, hc⟩ := ht b he.symm
  rw [h] at hc
  injection hc with hc
  injection hc with _ hc _
  exact hne hc
theorem DS.grownK {w w' : World} {b : Nat} {S : Id → Prop} {K : TypeId} {row : Option Nat} (h : DS w b S) (hg : w.grownBy w' row) (ht : RowTy w row K) : DS w' b S :=
  h.grown hg fun g hg => by obtain ⟨cur, m, h⟩ := ht g hg; exact ⟨cur, K, m, h⟩
theorem DS.neB {w : World} {b g : Nat} {S : Id → Prop} {cs : Array Value} {T : TypeId} (h : DS w b S) (k : BK w g cs T) : g ≠ b := by
  intro he
  subst he
  obtain ⟨es, clock, l, h1, _⟩ := h
  unfold BK at k
  rw [h1] at k
  cases k
theorem OM.keepD {w w' : World} {b : Nat} {S : Id → Prop} {v : Value} {l : List α} (h : OM e c E B w v l) (hx : Bx b w w') (hd : DS w b S) : OM e c E B w' v l := by
  refine ⟨h.1, ?_⟩
  rcases h.2 with hn | ⟨g, cap, cur, rfl, hB, hg, r⟩
  · exact .inl hn
  · refine .inr ⟨g, cap, cur, rfl, hB, (hx.block g (Array.getElem?_eq_some_iff.1 hg).1 (fun he => ?_)).trans hg, r⟩
    subst he
    obtain ⟨es, clock, l, h1, _⟩ := hd
    rw [h1] at hg
    cases hg
/-- a reading that stays while a set turns -/
def StaysD (R : World → List Value → α → Prop) : Prop := ∀ (w w' : World) (b : Nat) (S : Id → Prop) (cs : List Value) (x : α), Bx b w w' → DS w b S → R w cs x → R w' cs x
theorem OR.keepD {w w' : World} {b : Nat} {S : Id → Prop} {v : Value} {l : List α} (hR : StaysD R) (h : OR R c E B w v l) (hx : Bx b w w') (hd : DS w b S) : OR R c E B w' v l := by
  obtain ⟨css, g1, g2, g3⟩ := h
  exact ⟨css, g1.keepD hx hd, g2, fun i cs x a b => hR _ _ _ _ _ _ hx hd (g3 i cs x a b)⟩
end
theorem evO_staysD {T : TypeId} {B : Nat} : StaysD (evO T B) := fun w w' b S cs x hx hd ⟨v, h1, h2⟩ => ⟨v, h1, h2.keepD hx hd⟩
theorem enO_staysD {TT TA TE : TypeId} {B : Nat} : StaysD (enO TT TA TE B) := fun w w' b S cs x hx hd ⟨fv, ev, h1, h2, h3⟩ => ⟨fv, ev, h1, h2.keepD hx hd, h3.keepD evO_staysD hx hd⟩
theorem idL_len' (x : Id) : (idL x).length = 3 := rfl
/-- entries of little load -/
def EnsS (l : List En) : Prop := l.length ≤ 1000 ∧ ∀ x ∈ l, EnS x
end PM
theorem tyEnO : PM.MTy Tryz.prog 22 31 8 96 := by
  refine ⟨Tryz.underlying22, by decide, ?_⟩
  obtain ⟨i, h1, h2, h3, h4⟩ := info_parts (P := Tryz.prog) (e := 31) (z := .agg #[.int .i64 0, .int .i64 0, .int .u64 0, .int .u64 0, .int .i64 0, .int .u64 0, .slice none 0 0, .slice none 0 0]) (size := 8) (bytes := 96) (by kernel_rfl)
  exact ⟨i, _, h1, h2, h3, h4, by kernel_rfl⟩
/-- the cells of an entry, as one element -/
def PM.enCe (x : PM.En) (a : Option Addr) (n c : Nat) (b : Option Addr) (m d : Nat) : PM.Ce 8 := ⟨PM.enC x (.slice a n c) (.slice b m d), rfl, by
  intro u hu
  simp only [PM.enC, List.mem_cons, List.not_mem_nil, or_false] at hu
  rcases hu with rfl | rfl | rfl | rfl | rfl | rfl | rfl | rfl <;> rfl⟩
end Go.Proofs.YtnpbfjkfbobgaaaGreat
