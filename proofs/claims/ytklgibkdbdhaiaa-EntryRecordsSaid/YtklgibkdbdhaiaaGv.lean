/-
  A ROW OF THE CALL's OWN, EMPTY AT FIRST OR NOT, WITHOUT A BYTE IN ITS CELLS: append of an element. Over any program.
-/
import Derived.Test.YtklgibkdbdhaiaaGn
namespace Go.Proofs.Ytklgibkdbdhaiaa
namespace PM
open Go.RowKit
set_option linter.unusedVariables false
/-- a row's block, if it has one, has no bytes -/
def NBv (w : World) (v : Value) : Prop := ∀ g, v.ownBlock = some g → NB w g
theorem NBv.nil (w : World) : NBv w (.slice none 0 0) := fun g h => by simp [Value.ownBlock] at h
theorem BS.keptv {w w' : World} {v x : Value} {l : List UInt8} (h : BS w v l) (hg : w.grownBy w' x.ownBlock) (hn : NBv w x) : BS w' v l := by
  rcases h with h | ⟨b, off, cap, rfl, h1, h2, h3⟩ | h
  · exact .inl h
  · refine .inr (.inl ⟨b, off, cap, rfl, h1, h2, fun i y hi => ?_⟩)
    have hc := h3 i y hi
    exact hg.cell hc (fun he => hn b he.symm _ _ hc y rfl)
  · exact .inr (.inr h)
theorem RD.keptv {T : TypeId} {w w' : World} {b : Nat} {x : Value} {l : List UInt8} {wr : Bool} (h : RD T w b l wr) (hg : w.grownBy w' x.ownBlock) (hn : NBv w x) (hne : ∀ g, x.ownBlock = some g → b ≠ g) : RD T w' b l wr := by
  obtain ⟨v, h1, h2⟩ := h
  exact ⟨v, (hg.block b h1.lt (fun he => hne b he.symm rfl)).trans h1, h2.keptv hg hn⟩
variable {α : Type} {e : α → List Value} {c : Nat} {E : TypeId} {B : Nat}
theorem OM.nev {w : World} {v : Value} {b : Nat} {l : List α} {cs : Array Value} {T : TypeId} (h : OM e c E B w v l) (hb : BK w b cs T) (hT : T ≠ E) : ∀ g, v.ownBlock = some g → b ≠ g := by
  intro g hg
  rcases h.2 with ⟨rfl, _⟩ | ⟨g', cap', cur, rfl, hB, hgg, r⟩
  · simp [Value.ownBlock] at hg
  · simp [Value.ownBlock] at hg
    subst hg
    intro e
    subst e
    rw [hb] at hgg
    injection hgg with hgg
    injection hgg with _ hgg _
    exact hT hgg
theorem NBv.keepx {w w' : World} {b : Nat} {v : Value} (hx : Bx b w w') (hl : ∀ g, v.ownBlock = some g → g < w.heap.size) (hne : ∀ g, v.ownBlock = some g → b ≠ g) (h : NBv w v) : NBv w' v :=
  fun g hg => (h g hg).keepx hx (hl g hg) (Ne.symm (hne g hg))
theorem NBv.keep {w w' : World} {v : Value} (hb : Below w.heap.size w w') (hl : ∀ g, v.ownBlock = some g → g < w.heap.size) (h : NBv w v) : NBv w' v :=
  fun g hg => (h g hg).keep hb (hl g hg)
section
variable {P : Program} {w : World} {ops : Array Oper} {rest : List Oper} {o : Oper} {a : Act} {Q : Exit → Act → World → Prop}
theorem wpList_em1v {T : TypeId} {nb : Nat} (ET : MTy P T E c nb) (hz0 : ∀ i z, P.info? E = some i → i.zero = some z → ∀ x ∈ z.cells.toList, NoB x) (he : ∀ x, (e x).length = c) (h1 : ∀ x, ∀ u ∈ e x, u.oneCell' = true) (hnb : ∀ x, ∀ u ∈ e x, NoB u) (B : Nat) (W : World) (hgd : o.guard = none) (s x : Operand)
    (ho : o.op = .call { callee := .builtin .append, args := #[s, x], argTypes := #[T, T] })
    (v : Value) (l : List α) (y : α) (ev : Array Value) (hs : a.eval s = v) (hx : a.eval x = .slice (Option.some ⟨W.heap.size, 0, Option.none⟩) 1 1) (hw : w = W.alloc (.cells ev E)) (hy : ev = (e y).toArray)
    (hown : OM e c E B W v l) (hg : NBv W v) (hn : (l.length + 1) * nb ≤ 140737488355328) (hn2 : l.length + 1 ≤ maxLen) (hB : B ≤ W.heap.size)
    (h : ∀ v' w', OM e c E B w' v' (l ++ [y]) → NBv w' v' → Below B W w' → W.grownBy w' v.ownBlock → wpList P ops Q rest (a.put o.dst v') w') : wpList P ops Q (o :: rest) a w := by
  have hown0 := hown
  rcases hown.2 with ⟨rfl, hl0⟩ | ⟨g, cap, cur, rfl, hbg, hgg, hnc, hcm, hcs, htake⟩
  · have hln : l = [] := List.length_eq_zero_iff.1 hl0
    subst hln
    obtain ⟨i, z, hi, hz, hsz, hby, hzs⟩ := ET.row
    have hz1 := hz0 i z hi hz
    subst hy
    subst hw
    have hb0 : Below W.heap.size W (W.alloc (.cells (e y).toArray E)) := (Below.refl _ _).alloc (Nat.le_refl _) _
    have hown' := hown.keep hb0
    have hsrc : ∀ j u, (e y)[j]? = some u → (W.alloc (.cells (e y).toArray E)).cell? ((⟨W.heap.size, 0, none⟩ : Addr).add j) = some u := fun j u hu => by
      have ea : (⟨W.heap.size, 0, none⟩ : Addr).add j = ⟨W.heap.size, j, none⟩ := by unfold Addr.add; split <;> simp_all
      rw [ea, World.cell?_alloc_new]
      simpa using hu
    refine wpList_plain hgd fun K hK => ?_
    obtain ⟨v', w', hr, g1, g2, _⟩ := run_append_sep (P := P) (w := W.alloc (.cells (e y).toArray E)) B T o.type E i z c nb ET.sl hi hz hsz hby hzs ET.pos _ 0 [] hown' ⟨W.heap.size, 0, none⟩ 1 1 (e y) (by rw [he]; omega) hsrc (h1 y) (by simpa using hn2) (by simpa using hn) (Nat.le_trans hB hb0.size)
    have hgr : W.grownBy w' (Value.slice none 0 0).ownBlock := ⟨g2.os, g2.tape, g2.output, Nat.le_trans (by simp) g2.size, fun k hk hne => by rw [g2.block k (by simp; omega) hne]; exact Below.heap_alloc W _ k hk⟩
    have hr2 := run_append_nil (P := P) (W.alloc (.cells (e y).toArray E)) T o.type E i z ET.sl hi hz ⟨W.heap.size, 0, none⟩ 1 1 (e y) (by rw [he, hsz]; omega) hsrc (by omega) (by omega) (by rw [hby]; simp only [List.length_nil, Nat.zero_add] at hn; omega)
    rw [hr] at hr2
    injection hr2 with e1 e2
    unfold Oper.wp execOp
    simp only [ho, resolve, invoke, builtin, Sem.run_bind, Sem.run_pure, Result.andThen_ok, List.map_toArray, List.map_cons, List.map_nil, hs, hx, hr]
    refine hK _ _ (h v' w' (by simpa [OM] using g1) (fun g hg => ?_) (hown.below (Below.refl _ _) hgr hB) hgr)
    rw [e1] at hg
    simp [Value.ownBlock] at hg
    subst hg
    rw [e2]
    refine NB.of (E := E) (by have := heap_alloc_new (W.alloc (.cells (e y).toArray E)).drew (.cells ((e y).toArray ++ Builtin.zeroCells z.cells (grownCap (W.alloc (.cells (e y).toArray E)) 1 0 E - 1)) E); simpa using this) fun u hu => ?_
    simp only [Array.toList_append, List.mem_append] at hu
    rcases hu with hu | hu
    · exact hnb y u hu
    · exact noB_zero hz1 _ u hu
  · refine wpList_em1n ET hz0 he h1 hnb B W hgd s x ho g l.length cap l y ev hs hx hw hy hown0 (hg g rfl) hn hn2 hB fun g' cap' w' t1 t2 t3 t4 => ?_
    exact h _ w' t1 (fun k hk => by simp [Value.ownBlock] at hk; subst hk; exact t2) t3 t4
end
end PM
end Go.Proofs.Ytklgibkdbdhaiaa
