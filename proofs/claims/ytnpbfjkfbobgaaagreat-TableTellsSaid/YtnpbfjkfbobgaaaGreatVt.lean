/-
  MESSAGES IN MEMORY; CONTRACTS OF vote.Says.
-/
import Derived.Test.YtnpbfjkfbobgaaaGreatVs
namespace Go.Proofs.YtnpbfjkfbobgaaaGreat
open Go.RowKit
set_option linter.unusedVariables false
set_option linter.unusedSimpArgs false
namespace PM
structure Ms where
  kind : Int
  hav : Nat
  votes : List Vo
  asks : List En
  entries : List En
  prepares : List En
  aborts : List Id
  ends : List Id
def msC (x : Ms) (v0 v1 v2 v3 v4 v5 : Value) : List Value := [.int .i64 x.kind, .int .u64 (x.hav : Int), v0, v1, v2, v3, v4, v5]
/-- what eight cells read as -/
def msR (w : World) (cs : List Value) (x : Ms) : Prop := ∃ v0 v1 v2 v3 v4 v5, cs = msC x v0 v1 v2 v3 v4 v5 ∧ EM voL 4 w v0 x.votes ∧ EnL w v1 x.asks ∧ EnL w v2 x.entries ∧ EnL w v3 x.prepares ∧ EM idL 3 w v4 x.aborts ∧ EM idL 3 w v5 x.ends
theorem EnL.keep {W w : World} {v : Value} {l : List En} (h : EnL W v l) (hb : Below W.heap.size W w) : EnL w v l := RR.keep enR_lasts hb h
theorem msR_lasts : Lasts msR := fun W w cs x hb ⟨v0, v1, v2, v3, v4, v5, h, h0, h1, h2, h3, h4, h5⟩ => ⟨v0, v1, v2, v3, v4, v5, h, h0.keep hb, EnL.keep h1 hb, EnL.keep h2 hb, EnL.keep h3 hb, h4.keep hb, h5.keep hb⟩
abbrev MsL (w : World) (v : Value) (ls : List Ms) : Prop := RR msR 8 w v ls
theorem MsL.keep {W w : World} {v : Value} {l : List Ms} (h : MsL W v l) (hb : Below W.heap.size W w) : MsL w v l := RR.keep msR_lasts hb h
theorem msR_open {w : World} {cs : List Value} {x : Ms} (h : msR w cs x) : ∃ a0 c0 a1 c1 a2 c2 a3 c3 a4 c4 a5 c5,
    cs = msC x (.slice a0 x.votes.length c0) (.slice a1 x.asks.length c1) (.slice a2 x.entries.length c2) (.slice a3 x.prepares.length c3) (.slice a4 x.aborts.length c4) (.slice a5 x.ends.length c5) ∧
    EM voL 4 w (.slice a0 x.votes.length c0) x.votes ∧ EnL w (.slice a1 x.asks.length c1) x.asks ∧ EnL w (.slice a2 x.entries.length c2) x.entries ∧ EnL w (.slice a3 x.prepares.length c3) x.prepares ∧ EM idL 3 w (.slice a4 x.aborts.length c4) x.aborts ∧ EM idL 3 w (.slice a5 x.ends.length c5) x.ends := by
  obtain ⟨v0, v1, v2, v3, v4, v5, h, h0, h1, h2, h3, h4, h5⟩ := h
  obtain ⟨a0, c0, rfl⟩ := h0.len
  obtain ⟨a1, c1, rfl⟩ := h1.len
  obtain ⟨a2, c2, rfl⟩ := h2.len
  obtain ⟨a3, c3, rfl⟩ := h3.len
  obtain ⟨a4, c4, rfl⟩ := h4.len
  obtain ⟨a5, c5, rfl⟩ := h5.len
  exact ⟨a0, c0, a1, c1, a2, c2, a3, c3, a4, c4, a5, c5, h, h0, h1, h2, h3, h4, h5⟩
/-- a vote is among a message's -/
def hasV (v : Vo) (m : Ms) : Bool := m.votes.any fun x => decide (v = x)
/-- what reports say of an ID -/
def sayK (ks : List Ms) (i : Id) (k : Nat) : Int := if (ks.take k).all (hasV ⟨i, true⟩) then 1 else 0
theorem take_at {α : Type} {l : List α} {k : Nat} {x : α} (h : l[k]? = some x) : l.take (k + 1) = l.take k ++ [x] := by
  rw [List.take_add_one, h]; rfl
theorem sayK_yes {ks : List Ms} {i : Id} {k : Nat} {m : Ms} (h : ks[k]? = some m) (hy : hasV ⟨i, true⟩ m = true) : sayK ks i (k + 1) = sayK ks i k := by
  unfold sayK
  rw [take_at h, List.all_append]
  simp [hy]
theorem sayK_no {ks : List Ms} {i : Id} {k : Nat} {m : Ms} (h : ks[k]? = some m) (hy : hasV ⟨i, true⟩ m = false) : sayK ks i (k + 1) = 0 := by
  unfold sayK
  rw [take_at h, List.all_append]
  simp [hy]
theorem anyV_no {ks : List Ms} {i : Id} {k : Nat} {m : Ms} (h : ks[k]? = some m) (h0 : (ks.take k).any (hasV ⟨i, false⟩) = false) (hy : hasV ⟨i, false⟩ m = false) : (ks.take (k + 1)).any (hasV ⟨i, false⟩) = false := by
  rw [take_at h, List.any_append, h0]
  simp [hy]
def says (ks : List Ms) (i : Id) : Int := if ks.any (hasV ⟨i, false⟩) then 2 else if ks.all (hasV ⟨i, true⟩) then 1 else 0
end PM
end Go.Proofs.YtnpbfjkfbobgaaaGreat
