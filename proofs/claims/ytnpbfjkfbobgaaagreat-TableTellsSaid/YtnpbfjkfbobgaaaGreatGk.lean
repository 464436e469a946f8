/-
  BLOCKS OF ONE TYPE STAY (KT): what own rows, own entries need while boxes and rows of other types turn. Two boxes turn (Bx2). Rows of anything without a byte in their cells (ORn), with append. Over any program.
-/
import Derived.Test.YtnpbfjkfbobgaaaGreatVk
namespace Go.Proofs.YtnpbfjkfbobgaaaGreat
open Go.RowKit
set_option linter.unusedVariables false
set_option linter.unusedSimpArgs false
namespace PM
/-- all blocks of a type stay -/
def KT (w w' : World) (E : TypeId) : Prop := ∀ (g : Nat) (cur : Array Value) (m : Nat × Nat), w.heap[g]? = some (.cells cur E m) → w'.heap[g]? = some (.cells cur E m)
theorem KT.refl (w : World) (E : TypeId) : KT w w E := fun _ _ _ h => h
theorem KT.trans {x y z : World} {E : TypeId} (h : KT x y E) (k : KT y z E) : KT x z E := fun g cur m hg => k g cur m (h g cur m hg)
theorem KT.of {w w' : World} (h : Below w.heap.size w w') (E : TypeId) : KT w w' E := fun g cur m hg => (h.block g (Array.getElem?_eq_some_iff.1 hg).1).trans hg
theorem KT.ofx {w w' : World} {b : Nat} {cs : Array Value} {T E : TypeId} (h : Bx b w w') (hb : BK w b cs T) (hne : T ≠ E) : KT w w' E := fun g cur m hg => by
  refine (h.block g (Array.getElem?_eq_some_iff.1 hg).1 fun he => ?_).trans hg
  subst he
  rw [hb] at hg
  injection hg with hg
  injection hg with _ hg _
  exact hne hg
theorem KT.ofg {w w' : World} {row : Option Nat} {K E : TypeId} (h : w.grownBy w' row) (ht : RowTy w row K) (hne : K ≠ E) : KT w w' E := fun g cur m hg => by
  refine (h.block g (Array.getElem?_eq_some_iff.1 hg).1 fun he => ?_).trans hg
  obtain ⟨cur', m', hc⟩ := ht g he.symm
  rw [hc] at hg
  injection hg with hg
  injection hg with _ hg _
  exact hne hg
theorem KT.ofd {w w' : World} {b : Nat} {S : Id → Prop} {E : TypeId} (h : Bx b w w') (hd : DS w b S) : KT w w' E := fun g cur m hg => by
  refine (h.block g (Array.getElem?_eq_some_iff.1 hg).1 fun he => ?_).trans hg
  subst he
  obtain ⟨es, clock, l, h1, _⟩ := hd
  rw [h1] at hg
  cases hg
/-- just two blocks may have turned -/
structure Bx2 (b g : Nat) (w w' : World) : Prop where
  os : w'.os = w.os
  tape : w'.tape = w.tape
  output : w'.output = w.output
  size : w.heap.size ≤ w'.heap.size
  block : ∀ k, k < w.heap.size → k ≠ b → k ≠ g → w'.heap[k]? = w.heap[k]?
theorem Bx2.refl (b g : Nat) (w : World) : Bx2 b g w w := ⟨rfl, rfl, rfl, Nat.le_refl _, fun _ _ _ _ => rfl⟩
theorem Bx2.trans {b g : Nat} {x y z : World} (h : Bx2 b g x y) (k : Bx2 b g y z) : Bx2 b g x z :=
  ⟨k.os.trans h.os, k.tape.trans h.tape, k.output.trans h.output, Nat.le_trans h.size k.size, fun i hi h1 h2 => (k.block i (Nat.lt_of_lt_of_le hi h.size) h1 h2).trans (h.block i hi h1 h2)⟩
theorem Bx2.ofb {b g : Nat} {w w' : World} (h : Bx b w w') : Bx2 b g w w' := ⟨h.os, h.tape, h.output, h.size, fun k hk h1 _ => h.block k hk h1⟩
theorem Bx2.ofg {b g : Nat} {w w' : World} (h : Bx g w w') : Bx2 b g w w' := ⟨h.os, h.tape, h.output, h.size, fun k hk _ h2 => h.block k hk h2⟩
theorem Bx2.of {b g : Nat} {w w' : World} (h : Below w.heap.size w w') : Bx2 b g w w' := ⟨h.os, h.tape, h.output, h.size, fun k hk _ _ => h.block k hk⟩
theorem Bx2.low {b g : Nat} {x y z : World} (h : Bx2 b g x y) (k : Below x.heap.size y z) : Bx2 b g x z :=
  ⟨k.os.trans h.os, k.tape.trans h.tape, k.output.trans h.output, Nat.le_trans h.size k.size, fun i hi h1 h2 => (k.block i hi).trans (h.block i hi h1 h2)⟩
theorem Bx2.low1 {b g r : Nat} {x y z : World} (h : Bx2 b g x y) (k : Bx r y z) (hr : x.heap.size ≤ r) : Bx2 b g x z :=
  ⟨k.os.trans h.os, k.tape.trans h.tape, k.output.trans h.output, Nat.le_trans h.size k.size, fun i hi h1 h2 => (k.block i (Nat.lt_of_lt_of_le hi h.size) (by omega)).trans (h.block i hi h1 h2)⟩
theorem Bx2.below {B b g : Nat} {x y z : World} (h : Below B x y) (k : Bx2 b g y z) (hb : B ≤ b) (hg : B ≤ g) (hB : B ≤ y.heap.size) : Below B x z :=
  h.trans ⟨k.os, k.tape, k.output, k.size, fun i hi => k.block i (Nat.lt_of_lt_of_le hi hB) (by omega) (by omega)⟩
theorem Bx2.kt {b g : Nat} {w w' : World} {cs cs' : Array Value} {T U E : TypeId} (h : Bx2 b g w w') (hb : BK w b cs T) (hg : BK w g cs' U) (h1 : T ≠ E) (h2 : U ≠ E) : KT w w' E := fun k cur m hk => by
  refine (h.block k (Array.getElem?_eq_some_iff.1 hk).1 (fun he => ?_) fun he => ?_).trans hk
  · subst he
    rw [hb] at hk
    injection hk with hk
    injection hk with _ hk _
    exact h1 hk
  · subst he
    rw [hg] at hk
    injection hk with hk
    injection hk with _ hk _
    exact h2 hk
theorem BK.kt {w w' : World} {b : Nat} {cs : Array Value} {T : TypeId} (h : BK w b cs T) (k : KT w w' T) : BK w' b cs T := k b cs (0, 0) h
section
variable {α : Type} {e : α → List Value} {R : World → List Value → α → Prop} {c : Nat} {E : TypeId} {B : Nat} {w w' : World} {v : Value} {l : List α}
theorem OM.kt (h : OM e c E B w v l) (k : KT w w' E) : OM e c E B w' v l := by
  refine ⟨h.1, ?_⟩
  rcases h.2 with hn | ⟨g, cap, cur, rfl, hB, hg, r⟩
  · exact .inl hn
  · exact .inr ⟨g, cap, cur, rfl, hB, k g cur _ hg, r⟩
theorem OR.kt (hR : ∀ cs x, R w cs x → R w' cs x) (h : OR R c E B w v l) (k : KT w w' E) : OR R c E B w' v l := by
  obtain ⟨css, h1, h2, h3⟩ := h
  exact ⟨css, h1.kt k, h2, fun i cs x a b => hR _ _ (h3 i cs x a b)⟩
end
theorem evO_kt {T : TypeId} {B : Nat} {w w' : World} (k : KT w w' T) (cs : List Value) (e : List At) (h : evO T B w cs e) : evO T B w' cs e := by
  obtain ⟨v, h1, h2⟩ := h
  exact ⟨v, h1, h2.kt k⟩
theorem enO_kt {TT TA TE : TypeId} {B : Nat} {w w' : World} (k1 : KT w w' TT) (k2 : KT w w' TA) (k3 : KT w w' TE) (cs : List Value) (x : En) (h : enO TT TA TE B w cs x) : enO TT TA TE B w' cs x := by
  obtain ⟨fv, ev, h1, h2, h3⟩ := h
  exact ⟨fv, ev, h1, h2.kt k1, OR.kt (evO_kt k2) h3 k3⟩
/-- cells of an element, no bytes -/
abbrev Cn (c : Nat) := {l : List Value // l.length = c ∧ (∀ u ∈ l, u.oneCell' = true) ∧ ∀ u ∈ l, NoB u}
def cnL {c : Nat} (x : Cn c) : List Value := x.1
theorem cnL_len {c : Nat} (x : Cn c) : (cnL x).length = c := x.2.1
theorem cnL_one {c : Nat} (x : Cn c) : ∀ u ∈ cnL x, u.oneCell' = true := x.2.2.1
theorem cnL_nob {c : Nat} (x : Cn c) : ∀ u ∈ cnL x, NoB u := x.2.2.2
section
variable {α : Type} {e : α → List Value} {R : World → List Value → α → Prop} {c : Nat} {E : TypeId} {B : Nat} {w w' : World} {v : Value} {l : List α}
/-- a row of the call's own, of anything, without a byte -/
def ORn (R : World → List Value → α → Prop) (c : Nat) (E : TypeId) (B : Nat) (w : World) (v : Value) (l : List α) : Prop :=
  ∃ css : List (Cn c), OM cnL c E B w v css ∧ css.length = l.length ∧ ∀ (i : Nat) (cs : Cn c) (x : α), css[i]? = some cs → l[i]? = some x → R w cs.1 x
theorem ORn.nil (w : World) : ORn R c E B w (.slice none 0 0) [] := ⟨[], OM.nilrow w, rfl, fun i cs x a _ => by simp at a⟩
theorem ORn.or (h : ORn R c E B w v l) : OR R c E B w v l := by
  obtain ⟨css, h1, h2, h3⟩ := h
  refine ⟨css.map fun x => ⟨x.1, x.2.1, x.2.2.1⟩, ?_, by simp [h2], fun i cs x hi hx => ?_⟩
  · have hf : (css.map fun x => (⟨x.1, x.2.1, x.2.2.1⟩ : Ce c)).flatMap ceL = css.flatMap cnL := by
      rw [List.flatMap_map]
      rfl
    unfold OM at h1 ⊢
    rw [hf, List.length_map]
    exact h1
  · rw [List.getElem?_map] at hi
    obtain ⟨y, hy, rfl⟩ := Option.map_eq_some_iff.1 hi
    exact h3 i y x hy hx
/-- where the cells are said by the member -/
theorem ORn.om (h : ORn (fun _ cs x => cs = e x) c E B w v l) : OM e c E B w v l := by
  obtain ⟨css, h1, h2, h3⟩ := h
  have hf : l.flatMap e = css.flatMap cnL := by
    have : l.map e = css.map cnL := by
      refine List.ext_getElem? fun i => ?_
      rw [List.getElem?_map, List.getElem?_map]
      by_cases hi : i < l.length
      · have a := List.getElem?_eq_getElem hi
        have b := List.getElem?_eq_getElem (show i < css.length by omega)
        rw [a, b]
        simp only [Option.map_some]
        rw [← h3 i _ _ b a]
        rfl
      · rw [List.getElem?_eq_none (by omega), List.getElem?_eq_none (by omega)]
        rfl
    rw [List.flatMap_def, List.flatMap_def, this]
  unfold OM at h1 ⊢
  rw [hf, ← h2]
  exact h1
theorem ORn.keep {W : World} (hR : Lasts R) (hb : Below W.heap.size W w) (h : ORn R c E B W v l) : ORn R c E B w v l := by
  obtain ⟨css, h1, h2, h3⟩ := h
  exact ⟨css, h1.keep hb, h2, fun i cs x a b => hR _ _ _ _ hb (h3 i cs x a b)⟩
theorem ORn.kt (hR : ∀ cs x, R w cs x → R w' cs x) (h : ORn R c E B w v l) (k : KT w w' E) : ORn R c E B w' v l := by
  obtain ⟨css, h1, h2, h3⟩ := h
  exact ⟨css, h1.kt k, h2, fun i cs x a b => hR _ _ (h3 i cs x a b)⟩
theorem ORn.len (h : ORn R c E B w v l) : ∃ ad cap, v = .slice ad l.length cap := by
  obtain ⟨css, h1, h2, _⟩ := h
  rw [← h2]
  exact (h1.em cnL_len).len
theorem ORn.lt (h : ORn R c E B w v l) : ∀ g, v.ownBlock = some g → B ≤ g ∧ g < w.heap.size := by
  obtain ⟨css, h1, h2, _⟩ := h
  exact h1.lt
theorem ORn.rt (h : ORn R c E B w v l) : RowTy w v.ownBlock E := by
  obtain ⟨css, h1, _⟩ := h
  exact OM.rowty h1
theorem NBv.kt {E : TypeId} (hn : NBv w v) (hr : RowTy w v.ownBlock E) (k : KT w w' E) : NBv w' v := fun g hg => by
  obtain ⟨cur, m, hc⟩ := hr g hg
  exact (hn g hg).same ((k g cur m hc).trans hc.symm)
variable {P : Program} {ops : Array Oper} {rest : List Oper} {o : Oper} {a : Act} {Q : Exit → Act → World → Prop}
theorem wpList_orn1 {T : TypeId} {nb : Nat} (ET : MTy P T E c nb) (hz0 : ∀ i z, P.info? E = some i → i.zero = some z → ∀ x ∈ z.cells.toList, NoB x) (hS2 : Stays R E) (B : Nat) (W : World) (hgd : o.guard = none) (s x : Operand)
    (ho : o.op = .call { callee := .builtin .append, args := #[s, x], argTypes := #[T, T] })
    (v : Value) (l : List α) (y : α) (cs : Cn c) (ev : Array Value) (hs : a.eval s = v) (hx : a.eval x = .slice (Option.some ⟨W.heap.size, 0, Option.none⟩) 1 1) (hw : w = W.alloc (.cells ev E)) (hy : ev = cs.1.toArray)
    (hR : R W cs.1 y) (hown : ORn R c E B W v l) (hg : NBv W v) (hn : (l.length + 1) * nb ≤ 140737488355328) (hn2 : l.length + 1 ≤ maxLen) (hB : B ≤ W.heap.size)
    (h : ∀ v' w', ORn R c E B w' v' (l ++ [y]) → NBv w' v' → Below B W w' → W.grownBy w' v.ownBlock → wpList P ops Q rest (a.put o.dst v') w') : wpList P ops Q (o :: rest) a w := by
  obtain ⟨css, h1, h2, h3⟩ := hown
  refine wpList_em1v ET hz0 cnL_len cnL_one cnL_nob B W hgd s x ho v css cs ev hs hx hw hy h1 hg (by rw [h2]; exact hn) (by rw [h2]; exact hn2) hB ?_
  intro v' w' g1 g2 g3 g4
  refine h v' w' ⟨css ++ [cs], g1, by simp [h2], fun i c0 z hi hz => ?_⟩ g2 g3 g4
  have ht := OM.rowty h1
  rcases Nat.lt_trichotomy i css.length with hl | hl | hl
  · rw [List.getElem?_append_left hl] at hi
    rw [List.getElem?_append_left (by omega)] at hz
    exact hS2 _ _ _ _ _ g4 ht (h3 i c0 z hi hz)
  · subst hl
    rw [List.getElem?_append_right (Nat.le_refl _), Nat.sub_self] at hi
    rw [h2, List.getElem?_append_right (Nat.le_refl _), Nat.sub_self] at hz
    simp at hi hz
    subst hi hz
    exact hS2 _ _ _ _ _ g4 ht hR
  · have := (List.getElem?_eq_some_iff.1 hi).1
    simp at this
    omega
end
theorem idL_nob (x : Id) : ∀ u ∈ idL x, NoB u := by intro u hu y; simp [idL] at hu; rcases hu with rfl | rfl | rfl <;> simp [bv]
theorem voL_nob (x : Vo) : ∀ u ∈ voL x, NoB u := by intro u hu y; simp [voL] at hu; rcases hu with rfl | rfl | rfl | rfl <;> simp [bv]
def idCn (x : Id) : Cn 3 := ⟨idL x, rfl, idL_one x, idL_nob x⟩
def voCn (x : Vo) : Cn 4 := ⟨voL x, rfl, voL_one x, voL_nob x⟩
def enCn (x : En) (fa : Option Addr) (fl fc : Nat) (ea : Option Addr) (el ec : Nat) : Cn 8 := ⟨enC x (.slice fa fl fc) (.slice ea el ec), rfl, (enCe x fa fl fc ea el ec).2.2, by
  intro u hu y
  simp only [enC, List.mem_cons, List.not_mem_nil, or_false] at hu
  rcases hu with rfl | rfl | rfl | rfl | rfl | rfl | rfl | rfl <;> simp [bv]⟩
end PM
end Go.Proofs.YtnpbfjkfbobgaaaGreat
