/-
  SLICES OF ELEMENTS OF SOME CELLS (structs): what a slice reads as ('EM'), a row that the call itself has made ('OM'), and append. Over any program.
-/
import Derived.Test.YtklgibkdbdhaiaaGs
namespace Go.Proofs.Ytklgibkdbdhaiaa
namespace PM
open Go.RowKit
set_option linter.unusedVariables false
variable {α : Type} {e : α → List Value} {c : Nat}
/-- an element's cells, from a place on -/
def Lies (w : World) (b off : Nat) (l : List Value) : Prop := ∀ j u, l[j]? = some u → w.cell? ⟨b, off + j, none⟩ = some u
/-- what a slice of elements of c cells reads as -/
def EM (e : α → List Value) (c : Nat) (w : World) (v : Value) (l : List α) : Prop :=
  ∃ ad cap, v = .slice ad l.length cap ∧ l.length ≤ cap ∧ cap ≤ maxLen ∧ (0 < l.length → ∃ b off, ad = some ⟨b, off, none⟩ ∧ ∀ i x, l[i]? = some x → Lies w b (off + i * c) (e x))
theorem Lies.keep {W w : World} {b off : Nat} {l : List Value} (hb : Below W.heap.size W w) (h : Lies W b off l) : Lies w b off l := fun j u hu => by
  have := h j u hu
  rw [hb.cell (World.block_lt_of_cell? W _ this)]; exact this
theorem EM.keep {W w : World} {v : Value} {l : List α} (hb : Below W.heap.size W w) (h : EM e c W v l) : EM e c w v l := by
  obtain ⟨ad, cap, hv, h1, h2, h3⟩ := h
  refine ⟨ad, cap, hv, h1, h2, fun hp => ?_⟩
  obtain ⟨b, off, ha, h4⟩ := h3 hp
  exact ⟨b, off, ha, fun i x hi => (h4 i x hi).keep hb⟩
theorem EM.nil (w : World) : EM e c w (.slice none 0 0) [] := ⟨none, 0, rfl, Nat.le_refl _, by simp, fun h => absurd h (by simp)⟩
theorem EM.nil' (w : World) (ad : Option Addr) (cap : Nat) (h : cap ≤ maxLen) : EM e c w (.slice ad 0 cap) [] := ⟨ad, cap, rfl, Nat.zero_le _, h, fun h => absurd h (by simp)⟩
theorem EM.len {w : World} {v : Value} {l : List α} (h : EM e c w v l) : ∃ ad cap, v = .slice ad l.length cap := by
  obtain ⟨ad, cap, hv, _⟩ := h
  exact ⟨ad, cap, hv⟩
theorem EM.bound {w : World} {v : Value} {l : List α} (h : EM e c w v l) : l.length ≤ maxLen := by
  obtain ⟨ad, cap, hv, h1, h2, _⟩ := h
  omega
theorem EM.open1 {w : World} {v : Value} {l : List α} (h : EM e c w v l) (hl : 0 < l.length) : ∃ b off cap, v = .slice (some ⟨b, off, none⟩) l.length cap ∧ l.length ≤ cap ∧ cap ≤ maxLen ∧ ∀ i x, l[i]? = some x → Lies w b (off + i * c) (e x) := by
  obtain ⟨ad, cap, hv, h1, h2, h3⟩ := h
  obtain ⟨b, off, rfl, h4⟩ := h3 hl
  exact ⟨b, off, cap, hv, h1, h2, h4⟩
theorem flat_get (he : ∀ x, (e x).length = c) : ∀ (l : List α) (i : Nat) (x : α), l[i]? = some x → ∀ j u, (e x)[j]? = some u → (l.flatMap e)[i * c + j]? = some u
  | [], i, x, h, _, _, _ => by simp at h
  | y :: l, 0, x, h, j, u, hu => by
    simp at h; subst h
    rw [List.flatMap_cons, Nat.zero_mul, Nat.zero_add, List.getElem?_append_left (List.getElem?_eq_some_iff.1 hu).1]; exact hu
  | y :: l, i + 1, x, h, j, u, hu => by
    have ih := flat_get he l i x (by simpa using h) j u hu
    rw [List.flatMap_cons, List.getElem?_append_right (by rw [he, Nat.succ_mul]; omega), he, show (i + 1) * c + j - c = i * c + j by rw [Nat.succ_mul]; omega]
    exact ih
theorem flat_len (he : ∀ x, (e x).length = c) (l : List α) : (l.flatMap e).length = l.length * c := by
  induction l with
  | nil => simp
  | cons y l ih => rw [List.flatMap_cons, List.length_append, he, ih, List.length_cons, Nat.succ_mul]; omega
theorem flat_inv (hc : 0 < c) (he : ∀ x, (e x).length = c) (l : List α) (k : Nat) (u : Value) (h : (l.flatMap e)[k]? = some u) : ∃ x, l[k / c]? = some x ∧ (e x)[k % c]? = some u := by
  have hk := (List.getElem?_eq_some_iff.1 h).1
  rw [flat_len he] at hk
  have h1 : k / c < l.length := Nat.div_lt_of_lt_mul (by rw [Nat.mul_comm]; exact hk)
  refine ⟨l[k / c], List.getElem?_eq_getElem h1, ?_⟩
  have h2 : k % c < (e l[k / c]).length := by rw [he]; exact Nat.mod_lt _ hc
  have h3 := flat_get he l (k / c) _ (List.getElem?_eq_getElem h1) (k % c) _ (List.getElem?_eq_getElem h2)
  rw [Nat.div_add_mod' k c, h] at h3
  rw [List.getElem?_eq_getElem h2, ← h3]
/-- a row that the call itself has made: from block number B on -/
def OM (e : α → List Value) (c : Nat) (E : TypeId) (B : Nat) (w : World) (v : Value) (l : List α) : Prop := w.ownsRow B E c v l.length (l.flatMap e)
variable {E : TypeId} {B : Nat}
theorem OM.em (he : ∀ x, (e x).length = c) {w : World} {v : Value} {l : List α} (h : OM e c E B w v l) : EM e c w v l := by
  rcases h.2 with ⟨rfl, h0⟩ | ⟨g, cap, cur, rfl, hB, hg, hn, hm, hs, ht⟩
  · have : l = [] := List.length_eq_zero_iff.1 h0
    subst this
    exact EM.nil _
  · refine ⟨_, cap, rfl, hn, hm, fun _ => ⟨g, 0, rfl, fun i x hi j u hu => ?_⟩⟩
    have e0 := flat_get he l i x hi j u hu
    have hlt := (List.getElem?_eq_some_iff.1 e0).1
    rw [flat_len he] at hlt
    have e1 : cur.toList[i * c + j]? = some u := by
      rw [← ht, List.getElem?_take_of_lt hlt] at e0
      exact e0
    have e3 : cur[i * c + j]? = some u := by simpa using e1
    rw [Nat.zero_add]
    simp only [World.cell?, hg]
    simpa using e3
theorem OM.lt {w : World} {v : Value} {l : List α} (h : OM e c E B w v l) : ∀ k, v.ownBlock = some k → B ≤ k ∧ k < w.heap.size := World.ownsRow.lt h
theorem OM.keep {W w : World} {v : Value} {l : List α} (hb : Below W.heap.size W w) (h : OM e c E B W v l) : OM e c E B w v l := by
  refine ⟨h.1, ?_⟩
  rcases h.2 with hn | ⟨g, cap, cur, hv, hB, hg, r⟩
  · exact .inl hn
  · exact .inr ⟨g, cap, cur, hv, hB, (hb.block g (Array.getElem?_eq_some_iff.1 hg).1).trans hg, r⟩
theorem OM.mono {B' : Nat} (hb : B' ≤ B) {w : World} {v : Value} {l : List α} (h : OM e c E B w v l) : OM e c E B' w v l := by
  refine ⟨h.1, ?_⟩
  rcases h.2 with hn | ⟨g, cap, cur, hv, hB, r⟩
  · exact .inl hn
  · exact .inr ⟨g, cap, cur, hv, Nat.le_trans hb hB, r⟩
theorem OM.nilrow (w : World) : OM e c E B w (.slice none 0 0) [] := World.ownsRow_nil w B E c
theorem OM.below {a w w' : World} {v : Value} {l : List α} (h : OM e c E B w v l) (hb : Below B a w) (hg : w.grownBy w' v.ownBlock) (hB : B ≤ w.heap.size) : Below B a w' :=
  hb.grown hg hB fun k hk => (h.lt k hk).1
theorem OM.kept {β : Type} {e' : β → List Value} {c' : Nat} {w w' : World} {x v : Value} {l : List β} (h : OM e' c' E B w v l) (hg : w.grownBy w' x.ownBlock) (ha : Apart x v) : OM e' c' E B w' v l := by
  refine World.ownsRow.kept h hg ?_
  by_cases hn : v.ownBlock = none
  · exact .inl hn
  · right
    intro he
    obtain ⟨k, hk⟩ := Option.ne_none_iff_exists'.1 hn
    exact ha k (he ▸ hk) hk
theorem EM.kept {w w' : World} {v : Value} {row : Option Nat} {l : List α} (h : EM e c w v l) (hg : w.grownBy w' row) (hr : ∀ k, v.ownBlock = some k → row ≠ some k) : EM e c w' v l := by
  obtain ⟨ad, cap, hv, h1, h2, h3⟩ := h
  refine ⟨ad, cap, hv, h1, h2, fun hp => ?_⟩
  obtain ⟨b, off, rfl, h4⟩ := h3 hp
  exact ⟨b, off, rfl, fun i x hi j u hu => hg.cell (h4 i x hi j u hu) (fun e => hr b (by rw [hv]; rfl) e.symm)⟩
theorem OM.made (w : World) (z : Array Value) (cap : Nat) (hm : cap ≤ maxLen) (hs : z.size = cap * c) (hB : B ≤ w.heap.size) : OM e c E B (w.alloc (.cells z E)) (.slice (some ⟨w.heap.size, 0, none⟩) 0 cap) [] :=
  World.ownsRow_made w z cap hB hm hs
/-- the type facts of a slice of elements -/
structure MTy (P : Program) (T E : TypeId) (c nb : Nat) : Prop where
  sl : P.underlying T = some (.slice E)
  pos : 0 < c
  row : ∃ i z, P.info? E = some i ∧ i.zero = some z ∧ i.size = c ∧ i.bytes = nb ∧ z.cells.size = c
section
variable {P : Program} {w : World} {ops : Array Oper} {rest : List Oper} {o : Oper} {a : Act} {Q : Exit → Act → World → Prop}
/-- append onto a row of the call's own -/
theorem wpList_em {T : TypeId} {nb : Nat} (ET : MTy P T E c nb) (he : ∀ x, (e x).length = c) (h1 : ∀ x, ∀ u ∈ e x, u.oneCell' = true) (B : Nat) (hgd : o.guard = none) (s x : Operand)
    (ho : o.op = .call { callee := .builtin .append, args := #[s, x], argTypes := #[T, T] })
    (v xv : Value) (l m : List α) (hs : a.eval s = v) (hx : a.eval x = xv) (hown : OM e c E B w v l) (hsrc : EM e c w xv m) (hn : (l.length + m.length) * nb ≤ 140737488355328) (hn2 : l.length + m.length ≤ maxLen) (hB : B ≤ w.heap.size)
    (h : ∀ v' w', OM e c E B w' v' (l ++ m) → Below B w w' → w.grownBy w' v.ownBlock → Sep w v v' → wpList P ops Q rest (a.put o.dst v') w') : wpList P ops Q (o :: rest) a w := by
  obtain ⟨i, z, hi, hz, hsz, hby, hzs⟩ := ET.row
  obtain ⟨ad, cap, rfl, h1', h2, h3⟩ := hsrc
  by_cases h0 : ad = none
  · subst h0
    by_cases hm : 0 < m.length
    · obtain ⟨_, _, ha, _⟩ := h3 hm
      cases ha
    · have hm0 : m = [] := List.length_eq_zero_iff.1 (by omega)
      subst hm0
      by_cases hc0 : cap = 0
      · subst hc0
        refine wpList_append_own_none hgd s x T ho B E i c ET.sl hi v l.length (l.flatMap e) hs hown (by simpa using hx) ?_
        exact h v w (by simpa using hown) (Below.refl _ _) ⟨rfl, rfl, rfl, Nat.le_refl _, fun _ _ _ => rfl⟩ (.inl rfl)
      · refine wpList_plain hgd fun K hK => ?_
        have hrun : (Builtin.append_ #[T, T] o.type #[v, .slice none 0 cap]).run P w = .ok v w := by
          rcases hown.2 with ⟨rfl, h00⟩ | ⟨g, cap', cur, rfl, _, _, hnc, _⟩
          · simp [Builtin.append_, run_underlying ET.sl, sizeOf, typeInfo, hi, Builtin.lenOf, Builtin.firstCells]
          · simp [Builtin.append_, run_underlying ET.sl, sizeOf, typeInfo, hi, Builtin.lenOf, Builtin.firstCells, hnc, storeCells]
        unfold Oper.wp
        simp [execOp, ho, resolve, invoke, builtin, hs, hx, hrun, Result.andThen]
        exact hK _ _ (h v w (by simpa using hown) (Below.refl _ _) ⟨rfl, rfl, rfl, Nat.le_refl _, fun _ _ _ => rfl⟩ (.inl rfl))
  · obtain ⟨ad0, rfl⟩ := Option.ne_none_iff_exists'.1 h0
    refine wpList_append_sep hgd s x T ho B E i z c nb ET.sl hi hz hsz hby hzs ET.pos v l.length (l.flatMap e) hs hown ad0 m.length cap (m.flatMap e) hx (flat_len he m) ?_ ?_ hn2 hn hB ?_
    · intro j u hu
      obtain ⟨y, hy, hu'⟩ := flat_inv ET.pos he m j u hu
      obtain ⟨b, off, ha, h4⟩ := h3 (Nat.lt_of_le_of_lt (Nat.zero_le _) (List.getElem?_eq_some_iff.1 hy).1)
      cases ha
      have ea : (⟨b, off, none⟩ : Addr).add j = ⟨b, off + j, none⟩ := by unfold Addr.add; split <;> simp_all
      rw [ea]
      have := h4 _ y hy _ u hu'
      rw [show off + j / c * c + j % c = off + j by rw [Nat.add_assoc, Nat.div_add_mod']] at this
      exact this
    · intro u hu
      obtain ⟨y, hy, hu⟩ := List.mem_flatMap.1 hu
      exact h1 y u hu
    · intro v' w' hown' hgr hsp
      exact h v' w' (by simpa [OM] using hown') (hown.below (Below.refl _ _) hgr hB) hgr hsp
theorem EM.lit (he : ∀ x, (e x).length = c) (W : World) (E : TypeId) (x : α) : EM e c (W.alloc (.cells (e x).toArray E)) (.slice (Option.some ⟨W.heap.size, 0, Option.none⟩) 1 1) [x] := by
  refine ⟨_, 1, rfl, Nat.le_refl _, by simp only [maxLen]; omega, fun _ => ⟨W.heap.size, 0, rfl, fun i y hi j u hu => ?_⟩⟩
  cases i with
  | zero =>
    simp at hi
    subst hi
    rw [Nat.zero_mul, Nat.zero_add, World.cell?_alloc_new]
    try rw [Nat.zero_add]
    simpa using hu
  | succ i => simp at hi
/-- append of one element, out of a new block -/
theorem wpList_em1 {T : TypeId} {nb : Nat} (ET : MTy P T E c nb) (he : ∀ x, (e x).length = c) (h1 : ∀ x, ∀ u ∈ e x, u.oneCell' = true) (B : Nat) (W : World) (hgd : o.guard = none) (s x : Operand)
    (ho : o.op = .call { callee := .builtin .append, args := #[s, x], argTypes := #[T, T] })
    (v : Value) (l : List α) (y : α) (ev : Array Value) (hs : a.eval s = v) (hx : a.eval x = .slice (Option.some ⟨W.heap.size, 0, Option.none⟩) 1 1) (hw : w = W.alloc (.cells ev E)) (hy : ev = (e y).toArray)
    (hown : OM e c E B W v l) (hn : (l.length + 1) * nb ≤ 140737488355328) (hn2 : l.length + 1 ≤ maxLen) (hB : B ≤ W.heap.size)
    (h : ∀ v' w', OM e c E B w' v' (l ++ [y]) → Below B W w' → W.grownBy w' v.ownBlock → Sep W v v' → wpList P ops Q rest (a.put o.dst v') w') : wpList P ops Q (o :: rest) a w := by
  subst hy
  subst hw
  have hb0 : Below W.heap.size W (W.alloc (.cells (e y).toArray E)) := (Below.refl _ _).alloc (Nat.le_refl _) _
  refine wpList_em (w := W.alloc (.cells (e y).toArray E)) ET he h1 B hgd s x ho v _ l [y] hs hx (hown.keep hb0) (EM.lit he W E y) (by simpa using hn) (by simpa using hn2) (Nat.le_trans hB hb0.size) fun v' w' g1 g2 g3 g4 => ?_
  refine h v' w' g1 ((hb0.mono hB).trans g2) ⟨g3.os, g3.tape, g3.output, Nat.le_trans (by simp) g3.size, fun k hk hne => ?_⟩ ?_
  · rw [g3.block k (by simp; omega) hne]
    exact Below.heap_alloc W _ k hk
  · rcases g4 with g4 | g4
    · exact .inl g4
    · exact .inr fun k hk => by have := g4 k hk; simp at this; omega
end
end PM
end Go.Proofs.Ytklgibkdbdhaiaa
