/-
  A ROW OF THE CALL's OWN, WITH A PROPERTY OF ALL ITS CELLS (those behind its length too): append, and bytes that stay. Over any program.
-/
import Derived.Test.YtklgibkdbdhaiaaGm
import Derived.Test.YtklgibkdbdhaiaaBk
namespace Go.Proofs.Ytklgibkdbdhaiaa
namespace PM
open Go.RowKit
set_option linter.unusedVariables false
/-- no byte -/
def NoB (x : Value) : Prop := ∀ y : UInt8, x ≠ bv y
/-- all cells of a block are no bytes -/
def NB (w : World) (g : Nat) : Prop := ∀ i x, w.cell? ⟨g, i, none⟩ = some x → NoB x
theorem NB.same {w w' : World} {g : Nat} (h : NB w g) (he : w'.heap[g]? = w.heap[g]?) : NB w' g := fun i x hx => h i x (by rw [← World.cell?_of_block (a := ⟨g, i, none⟩) he]; exact hx)
theorem NB.keep {w w' : World} {g : Nat} (hb : Below w.heap.size w w') (hg : g < w.heap.size) (h : NB w g) : NB w' g := h.same (hb.block g hg)
theorem NB.keepx {w w' : World} {g b : Nat} (hx : Bx b w w') (hg : g < w.heap.size) (hne : g ≠ b) (h : NB w g) : NB w' g := h.same (hx.block g hg hne)
theorem NB.of {w : World} {g : Nat} {cs : Array Value} {E : TypeId} (hg : w.heap[g]? = some (.cells cs E (0, 0))) (h : ∀ x ∈ cs.toList, NoB x) : NB w g := fun i x hx => by
  simp only [World.cell?, hg] at hx
  have hx' : cs[i]? = some x := by simpa using hx
  exact h x (List.mem_iff_getElem?.2 ⟨i, by simpa using hx'⟩)
theorem NB.mem {w : World} {g : Nat} {cs : Array Value} {E : TypeId} (hg : w.heap[g]? = some (.cells cs E (0, 0))) (h : NB w g) : ∀ x ∈ cs.toList, NoB x := fun x hx => by
  obtain ⟨i, hi⟩ := List.mem_iff_getElem?.1 hx
  refine h i x ?_
  simp only [World.cell?, hg]
  simpa using hi
theorem noB_at {z : Array Value} (hp : 0 < z.size) (h : ∀ x ∈ z.toList, NoB x) (i : Nat) : NoB z[i % z.size]! := by
  have hlt : i % z.size < z.size := Nat.mod_lt _ hp
  rw [getElem!_pos z (i % z.size) hlt]
  exact h _ (by simp)
theorem noB_zero {z : Array Value} (h : ∀ x ∈ z.toList, NoB x) (k : Nat) : ∀ x ∈ (Builtin.zeroCells z k).toList, NoB x := by
  intro x hx
  simp [Builtin.zeroCells] at hx
  obtain ⟨i, hi, rfl⟩ := hx
  exact noB_at (Nat.pos_of_ne_zero fun h0 => by rw [h0] at hi; omega) h i
theorem noB_made {z : Array Value} (hp : 0 < z.size) (h : ∀ x ∈ z.toList, NoB x) (k : Nat) : ∀ x ∈ (madeCells z k).toList, NoB x := by
  intro x hx
  simp [madeCells] at hx
  obtain ⟨i, hi, rfl⟩ := hx
  exact noB_at hp h i
/-- bytes stay while a row that has none is turned -/
theorem BS.keptn {w w' : World} {v : Value} {g : Nat} {l : List UInt8} (h : BS w v l) (hg : w.grownBy w' (some g)) (hn : NB w g) : BS w' v l := by
  rcases h with h | ⟨b, off, cap, rfl, h1, h2, h3⟩ | h
  · exact .inl h
  · refine .inr (.inl ⟨b, off, cap, rfl, h1, h2, fun i x hi => ?_⟩)
    have hc := h3 i x hi
    exact hg.cell hc (fun he => by injection he with he; subst he; exact hn _ _ hc x rfl)
  · exact .inr (.inr h)
theorem BK.kept {w w' : World} {b g : Nat} {cs : Array Value} {T : TypeId} (h : BK w b cs T) (hg : w.grownBy w' (some g)) (hne : b ≠ g) : BK w' b cs T := (hg.block b h.lt (by simpa using hne)).trans h
theorem RD.kept {T : TypeId} {w w' : World} {b g : Nat} {l : List UInt8} {wr : Bool} (h : RD T w b l wr) (hg : w.grownBy w' (some g)) (hn : NB w g) (hne : b ≠ g) : RD T w' b l wr := by
  obtain ⟨v, h1, h2⟩ := h
  exact ⟨v, h1.kept hg hne, h2.keptn hg hn⟩
variable {α : Type} {e : α → List Value} {c : Nat} {E : TypeId} {B : Nat}
/-- another block than one of another type -/
theorem OM.ne {w : World} {g n cap b : Nat} {l : List α} {cs : Array Value} {T : TypeId} (h : OM e c E B w (.slice (some ⟨g, 0, none⟩) n cap) l) (hb : BK w b cs T) (hT : T ≠ E) : b ≠ g := by
  rcases h.2 with ⟨hc, _⟩ | ⟨g', cap', cur, hv, hB, hg, r⟩
  · cases hc
  · simp at hv
    obtain ⟨rfl, _, rfl⟩ := hv
    intro e
    subst e
    rw [hb] at hg
    injection hg with hg
    injection hg with _ hg _
    exact hT hg
theorem OM.keepx {w w' : World} {b : Nat} {v : Value} {l : List α} {cs : Array Value} {T : TypeId} (h : OM e c E B w v l) (hx : Bx b w w') (hb : BK w b cs T) (hT : T ≠ E) : OM e c E B w' v l := by
  refine ⟨h.1, ?_⟩
  rcases h.2 with hn | ⟨g, cap, cur, rfl, hB, hg, r⟩
  · exact .inl hn
  · exact .inr ⟨g, cap, cur, rfl, hB, (hx.block g (Array.getElem?_eq_some_iff.1 hg).1 (fun e => (OM.ne h hb hT) e.symm)).trans hg, r⟩
section
variable {P : Program} {w : World} {ops : Array Oper} {rest : List Oper} {o : Oper} {a : Act} {Q : Exit → Act → World → Prop}
/-- append of one element, out of a new block, onto a row that lies somewhere: where no byte is, none comes -/
theorem wpList_em1n {T : TypeId} {nb : Nat} (ET : MTy P T E c nb) (hz0 : ∀ i z, P.info? E = some i → i.zero = some z → ∀ x ∈ z.cells.toList, NoB x) (he : ∀ x, (e x).length = c) (h1 : ∀ x, ∀ u ∈ e x, u.oneCell' = true) (hnb : ∀ x, ∀ u ∈ e x, NoB u) (B : Nat) (W : World) (hgd : o.guard = none) (s x : Operand)
    (ho : o.op = .call { callee := .builtin .append, args := #[s, x], argTypes := #[T, T] })
    (g n cap : Nat) (l : List α) (y : α) (ev : Array Value) (hs : a.eval s = .slice (Option.some ⟨g, 0, Option.none⟩) n cap) (hx : a.eval x = .slice (Option.some ⟨W.heap.size, 0, Option.none⟩) 1 1) (hw : w = W.alloc (.cells ev E)) (hy : ev = (e y).toArray)
    (hown : OM e c E B W (.slice (some ⟨g, 0, none⟩) n cap) l) (hg : NB W g) (hn : (l.length + 1) * nb ≤ 140737488355328) (hn2 : l.length + 1 ≤ maxLen) (hB : B ≤ W.heap.size)
    (h : ∀ g' cap' w', OM e c E B w' (.slice (some ⟨g', 0, none⟩) (n + 1) cap') (l ++ [y]) → NB w' g' → Below B W w' → W.grownBy w' (some g) → wpList P ops Q rest (a.put o.dst (.slice (some ⟨g', 0, none⟩) (n + 1) cap')) w') : wpList P ops Q (o :: rest) a w := by
  have hln : l.length = n := by
    rcases hown.2 with ⟨hc, _⟩ | ⟨g', cap', cur, hv, hB, hg, r⟩
    · cases hc
    · simp at hv; exact hv.2.1.symm
  subst hln
  obtain ⟨i, z, hi, hz, hsz, hby, hzs⟩ := ET.row
  have hz1 := hz0 i z hi hz
  subst hy
  subst hw
  have hb0 : Below W.heap.size W (W.alloc (.cells (e y).toArray E)) := (Below.refl _ _).alloc (Nat.le_refl _) _
  have hgl := (hown.lt g rfl).2
  have hown' := hown.keep hb0
  have hg' := hg.keep hb0 hgl
  have hsrc : ∀ j u, (e y)[j]? = some u → (W.alloc (.cells (e y).toArray E)).cell? ((⟨W.heap.size, 0, none⟩ : Addr).add j) = some u := fun j u hu => by
    have ea : (⟨W.heap.size, 0, none⟩ : Addr).add j = ⟨W.heap.size, j, none⟩ := by unfold Addr.add; split <;> simp_all
    rw [ea, World.cell?_alloc_new]
    simpa using hu
  refine wpList_plain hgd fun K hK => ?_
  obtain ⟨v', w', hr, g1, g2, g3⟩ := run_append_sep (P := P) (w := W.alloc (.cells (e y).toArray E)) B T o.type E i z c nb ET.sl hi hz hsz hby hzs ET.pos _ l.length (l.flatMap e) hown' ⟨W.heap.size, 0, none⟩ 1 1 (e y) (by rw [he]; omega) hsrc (h1 y) hn2 hn (Nat.le_trans hB hb0.size)
  have hgr : W.grownBy w' (some g) := ⟨g2.os, g2.tape, g2.output, Nat.le_trans (by simp) g2.size, fun k hk hne => by rw [g2.block k (by simp; omega) hne]; exact Below.heap_alloc W _ k hk⟩
  have fin : ∀ g' cap', v' = .slice (some ⟨g', 0, none⟩) (l.length + 1) cap' → NB w' g' → K (a.put o.dst v') w' := fun g' cap' e1 h2 => by
    subst e1
    exact hK _ _ (h g' cap' w' (by simpa [OM] using g1) h2 (hown.below (Below.refl _ _) hgr hB) hgr)
  unfold Oper.wp execOp
  simp only [ho, resolve, invoke, builtin, Sem.run_bind, Sem.run_pure, Result.andThen_ok, List.map_toArray, List.map_cons, List.map_nil, hs, hx, hr]
  rcases hown'.2 with ⟨hc, _⟩ | ⟨g0, cap0, cur, hv, hB0, hg0, hnc, hcm, hcs, htake⟩
  · cases hc
  · simp at hv
    obtain ⟨rfl, rfl⟩ := hv
    have hcur := hg'.mem hg0
    subst hsz
    subst hby
    by_cases hroom : l.length + 1 ≤ cap
    · have hfit : l.length * i.size + (e y).length ≤ cur.size := by rw [he, hcs, ← Nat.succ_mul]; exact Nat.mul_le_mul_right _ hroom
      have hr2 := run_append_room (P := P) _ T o.type E i ET.sl hi g l.length cap cur hg0 ⟨W.heap.size, 0, none⟩ 1 1 (e y) (by rw [he]; omega) hsrc (h1 y) hroom hfit
      rw [hr] at hr2
      injection hr2 with e1 e2
      refine fin g cap e1 ?_
      rw [e2]
      refine NB.of (setRow_heap _ g cur _ E (0, 0) hg0) fun u hu => ?_
      simp only [List.mem_append] at hu
      rcases hu with (hu | hu) | hu
      · exact hcur u (List.mem_of_mem_take hu)
      · exact hnb y u hu
      · exact hcur u (List.mem_of_mem_drop hu)
    · have holds : ∀ j u, (l.flatMap e)[j]? = some u → (W.alloc (.cells (e y).toArray E)).cell? ((⟨g, 0, none⟩ : Addr).add j) = some u := World.ownsRow.cells hown' (g := g) rfl
      have h63' := hn2
      simp only [maxLen] at h63'
      have hr2 := run_append_grow (P := P) _ T o.type E i z ET.sl hi hz ⟨g, 0, none⟩ l.length cap (l.flatMap e) hown'.1 holds ⟨W.heap.size, 0, none⟩ 1 1 (e y) (by rw [he]; omega) hsrc (by omega) (by omega) (growslice_fits (by omega) hn)
      rw [hr] at hr2
      injection hr2 with e1 e2
      refine fin _ _ e1 ?_
      rw [e2]
      refine NB.of (E := E) (heap_alloc_new _ _) fun u hu => ?_
      simp only [Array.toList_append, List.mem_append] at hu
      rcases hu with (hu | hu) | hu
      · obtain ⟨q, _, hq⟩ := List.mem_flatMap.1 hu
        exact hnb q u hq
      · exact hnb y u hu
      · exact noB_zero hz1 _ u hu
/-- make of a row -/
theorem run_mkm {T : TypeId} {nb : Nat} (ET : MTy P T E c nb) (hz0 : ∀ i z, P.info? E = some i → i.zero = some z → ∀ x ∈ z.cells.toList, NoB x) (w : World) (B : Nat) (kl kc : IntKind) (n : Nat) (hn : nb * n ≤ 281474976710656) (hn2 : n ≤ maxLen) (hB : B ≤ w.heap.size) :
    ∃ g w', (Instr.makeSlice T (.int kl 0) (.int kc (n : Int))).run P w = .ok (.slice (some ⟨g, 0, none⟩) 0 n) w' ∧ OM e c E B w' (.slice (some ⟨g, 0, none⟩) 0 n) [] ∧ NB w' g ∧ w.heap.size ≤ g ∧ Below w.heap.size w w' := by
  obtain ⟨i, z, hi, hz, hsz, hby, hzs⟩ := ET.row
  have hz1 := hz0 i z hi hz
  have hb : (i.bytes : Int) * (n : Int) ≤ 281474976710656 := by
    have h0 : ((nb * n : Nat) : Int) ≤ 281474976710656 := by omega
    rw [hby]
    rwa [Int.natCast_mul] at h0
  have h63 : (n : Int) ≤ 9223372036854775807 := by unfold maxLen at hn2; omega
  have hr := run_make (P := P) w T E i z ET.sl hi hz kl kc 0 n (Int.le_refl _) (by omega) hb h63
  simp only [Int.toNat_zero, Int.toNat_natCast] at hr
  refine ⟨w.heap.size, _, hr, World.ownsRow_made w _ n hB hn2 (by rw [size_madeCells, hsz]), ?_, Nat.le_refl _, (Below.refl _ _).alloc (Nat.le_refl _) _⟩
  exact NB.of (E := E) (heap_alloc_new _ _) (noB_made (by rw [hzs]; exact ET.pos) hz1 _)
end
end PM
end Go.Proofs.Ytklgibkdbdhaiaa
