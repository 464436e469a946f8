/-
  READINGS OF LISTS OF ENTRIES, IDs, VOTES, MESSAGES AND OF STATES THAT COME IN.
-/
import Derived.Test.YtnpbfjkfbobgaaaGreatJT
import Derived.Test.YtnpbfjkfbobgaaaGreatVt
import Derived.Test.YtnpbfjkfbobgaaaGreatWa
import Derived.ChangeArms
namespace Go.Proofs.YtnpbfjkfbobgaaaGreat
open Go.RowKit
set_option linter.unusedVariables false
set_option linter.unusedSimpArgs false
namespace PM
theorem choose_list {α β : Type} {P : α → β → Prop} : ∀ (css : List α), (∀ x ∈ css, ∃ y, P x y) → ∃ ls : List β, css.length = ls.length ∧ ∀ (i : Nat) (c : α) (x : β), css[i]? = some c → ls[i]? = some x → P c x
  | [], _ => ⟨[], rfl, fun i c x h _ => by simp at h⟩
  | c0 :: css, h => by
    obtain ⟨y, hy⟩ := h c0 (by simp)
    obtain ⟨ls, h1, h2⟩ := choose_list css fun x hx => h x (by simp [hx])
    refine ⟨y :: ls, by simp [h1], fun i c x hc hx => ?_⟩
    match i with
    | 0 => simp at hc hx; subst hc hx; exact hy
    | i + 1 => exact h2 i c x (by simpa using hc) (by simpa using hx)
section
variable {H : Type} {enc : TypeId × Value → H} {P : Program} {w : World} {base : Nat} {held : Bool}
theorem RR.of_trodc {α : Type} {R : World → List Value → α → Prop} {Pw : α → Prop} {c : Nat} {fuel : Nat} {t e : TypeId} {v : Value} {x : DataW H × List MemPlace} (y0 : Ce c)
    (ht : P.underlying t = some (.slice e)) (ce : P.cellsOf e = c) (hc : 0 < c)
    (hel : ∀ n cs x, DataW.trod enc P w base (fun _ => true) held n e cs = some x → cs.length = c ∧ (∀ u ∈ cs, u.oneCell' = true) ∧ ∃ y, Pw y ∧ R w cs y)
    (h : DataW.trod enc P w base (fun _ => true) held fuel t [v] = some x) : ∃ ls, RR R c w v ls ∧ ∀ y ∈ ls, Pw y := by
  obtain ⟨css, h1, h2⟩ := EM.of_trod (el := ceL (c := c)) (wf := fun ce => ∃ y, Pw y ∧ R w ce.1 y) (y0 := y0) ht ce hc ceL_len (fun n cs x h => by
    obtain ⟨g1, g2, g3⟩ := hel n cs x h
    exact ⟨⟨cs, g1, g2⟩, g3, rfl⟩) h
  obtain ⟨ls, g1, g2⟩ := choose_list (P := fun (ce : Ce c) y => Pw y ∧ R w ce.1 y) css h2
  refine ⟨ls, ⟨css, h1, g1, fun i cs x a b => (g2 i cs x a b).2⟩, fun y hy => ?_⟩
  obtain ⟨i, hi⟩ := List.mem_iff_getElem?.1 hy
  have hil : i < css.length := by rw [g1]; exact (List.getElem?_eq_some_iff.1 hi).1
  exact (g2 i css[i] y (List.getElem?_eq_getElem hil) hi).1
theorem vo_trod {e : TypeId} {f0 f1 : Field} (hs : P.underlying e = some (.struct #[f0, f1])) (ce : P.cellsOf e = 4) (p0 : f0.offset = 0) (p1 : f1.offset = 3)
    (d0 : P.cellsOf f0.type = 3) (d1 : P.cellsOf f1.type = 1) (u1 : P.underlying f1.type = some .bool)
    (ri : ∀ n cs x, DataW.trod enc P w base (fun _ => true) held n f0.type cs = some x → ∃ y, Id.wf y ∧ cs = idL y) :
    ∀ n cs x, DataW.trod enc P w base (fun _ => true) held n e cs = some x → ∃ y : Vo, True ∧ cs = voL y := by
  intro n cs x h
  obtain ⟨xs, k, hk, hxy, hlen, hxl, hf⟩ := DataW.trod_struct hs h
  rw [ce] at hlen
  match xs, hxl, cs, hlen with
  | [y0, y1], _, [v0, v1, v2, v3], _ =>
    have q0 := hf 0 f0 rfl
    have q1 := hf 1 f1 rfl
    simp [p0, p1, d0, d1] at q0 q1
    obtain ⟨i, wi, hi⟩ := ri _ _ _ q0
    obtain ⟨b, hb, _⟩ := DataW.trod_bool u1 q1
    obtain ⟨i0, i1, i2⟩ := i
    simp [idL] at hi hb
    obtain ⟨e1, e2, e3⟩ := hi
    subst e1 e2 e3 hb
    exact ⟨⟨⟨i0, i1, i2⟩, b⟩, trivial, rfl⟩
theorem ms_trod {e : TypeId} {f0 f1 f2 f3 f4 f5 f6 f7 : Field} (he : P.underlying e = some (.struct #[f0, f1, f2, f3, f4, f5, f6, f7])) (ce : P.cellsOf e = 8)
    (o0 : f0.offset = 0) (o1 : f1.offset = 1) (o2 : f2.offset = 2) (o3 : f3.offset = 3) (o4 : f4.offset = 4) (o5 : f5.offset = 5) (o6 : f6.offset = 6) (o7 : f7.offset = 7)
    (c0 : P.cellsOf f0.type = 1) (c1 : P.cellsOf f1.type = 1) (c2 : P.cellsOf f2.type = 1) (c3 : P.cellsOf f3.type = 1) (c4 : P.cellsOf f4.type = 1) (c5 : P.cellsOf f5.type = 1) (c6 : P.cellsOf f6.type = 1) (c7 : P.cellsOf f7.type = 1)
    (t0 : P.underlying f0.type = some (.int .i64)) (t1 : P.underlying f1.type = some (.int .u64))
    (r2 : ∀ n V x, DataW.trod enc P w base (fun _ => true) held n f2.type [V] = some x → ∃ l : List Vo, EM voL 4 w V l)
    (r3 : ∀ n V x, DataW.trod enc P w base (fun _ => true) held n f3.type [V] = some x → ∃ l, EnL w V l ∧ ∀ y ∈ l, En.wf y)
    (r4 : ∀ n V x, DataW.trod enc P w base (fun _ => true) held n f4.type [V] = some x → ∃ l, EnL w V l ∧ ∀ y ∈ l, En.wf y)
    (r5 : ∀ n V x, DataW.trod enc P w base (fun _ => true) held n f5.type [V] = some x → ∃ l, EnL w V l ∧ ∀ y ∈ l, En.wf y)
    (r6 : ∀ n V x, DataW.trod enc P w base (fun _ => true) held n f6.type [V] = some x → ∃ l : List Id, EM idL 3 w V l)
    (r7 : ∀ n V x, DataW.trod enc P w base (fun _ => true) held n f7.type [V] = some x → ∃ l : List Id, EM idL 3 w V l) :
    ∀ n cs x, DataW.trod enc P w base (fun _ => true) held n e cs = some x → cs.length = 8 ∧ (∀ u ∈ cs, u.oneCell' = true) ∧ ∃ y : Ms, True ∧ msR w cs y := by
  intro n cs x h
  obtain ⟨xs, k, hk, hxy, hlen, hxl, hf⟩ := DataW.trod_struct he h
  rw [ce] at hlen
  match xs, hxl, cs, hlen with
  | [y0, y1, y2, y3, y4, y5, y6, y7], _, [v0, v1, v2, v3, v4, v5, v6, v7], _ =>
    have q0 := hf 0 f0 rfl
    have q1 := hf 1 f1 rfl
    have q2 := hf 2 f2 rfl
    have q3 := hf 3 f3 rfl
    have q4 := hf 4 f4 rfl
    have q5 := hf 5 f5 rfl
    have q6 := hf 6 f6 rfl
    have q7 := hf 7 f7 rfl
    simp [o0, o1, o2, o3, o4, o5, o6, o7, c0, c1, c2, c3, c4, c5, c6, c7] at q0 q1 q2 q3 q4 q5 q6 q7
    obtain ⟨k0, n0, _, w0⟩ := DataW.trod_int t0 q0
    obtain ⟨k1, n1, _, w1⟩ := DataW.trod_int t1 q1
    obtain ⟨l2, h2⟩ := r2 _ _ _ q2
    obtain ⟨l3, h3, _⟩ := r3 _ _ _ q3
    obtain ⟨l4, h4, _⟩ := r4 _ _ _ q4
    obtain ⟨l5, h5, _⟩ := r5 _ _ _ q5
    obtain ⟨l6, h6⟩ := r6 _ _ _ q6
    obtain ⟨l7, h7⟩ := r7 _ _ _ q7
    simp at n0 n1
    obtain ⟨k1, rfl, m1⟩ := nat_u64 w1
    subst n0 n1
    obtain ⟨a2, d2, rfl⟩ := h2.len
    obtain ⟨a3, d3, rfl⟩ := h3.len
    obtain ⟨a4, d4, rfl⟩ := h4.len
    obtain ⟨a5, d5, rfl⟩ := h5.len
    obtain ⟨a6, d6, rfl⟩ := h6.len
    obtain ⟨a7, d7, rfl⟩ := h7.len
    refine ⟨rfl, ?_, ⟨k0, k1, l2, l3, l4, l5, l6, l7⟩, trivial, _, _, _, _, _, _, rfl, h2, h3, h4, h5, h6, h7⟩
    intro u hu
    simp only [List.mem_cons, List.not_mem_nil, or_false] at hu
    rcases hu with rfl | rfl | rfl | rfl | rfl | rfl | rfl | rfl <;> rfl
end
end PM
section
variable {H : Type} {enc : TypeId × Value → H} {w : World} {base : Nat} {held : Bool}
theorem ens_open : ∀ n V x, DataW.trod enc Tryz.prog w base (fun _ => true) held n 22 [V] = some x → ∃ l, PM.EnL w V l ∧ ∀ y ∈ l, PM.En.wf y := fun n V x h =>
  PM.RR.of_trodc (R := PM.enR) (Pw := PM.En.wf) (PM.enCe ⟨0, ⟨0, 0, 0⟩, 0, 0, [], []⟩ none 0 0 none 0 0) Tryz.underlying22 (by kernel_rfl) (by decide) (fun n cs x h => by
    obtain ⟨y, fv, ev, hw, hcs, h1, h2⟩ := en_open n cs x h
    obtain ⟨fa, fc, rfl⟩ := h1.len
    obtain ⟨ea, ec, rfl⟩ := h2.len
    refine ⟨by rw [hcs]; rfl, ?_, y, hw, _, _, hcs, h1, h2⟩
    rw [hcs]
    exact (PM.enCe y fa y.fil.length fc ea y.evs.length ec).2.2) h
end
end Go.Proofs.YtnpbfjkfbobgaaaGreat
