import Derived.Test.YtnpbfjkfbobgaaaGreatJA
import Derived.Test.YtnpbfjkfbobgaaaGreatG0
/-
  ENTRIES AND RECORDS THAT COME IN: their cells, and what they read as. Over any program.
-/
namespace Go.Proofs.YtnpbfjkfbobgaaaGreat
namespace PM
open Go.RowKit
set_option linter.unusedVariables false
set_option linter.unusedSimpArgs false
theorem nat_u64 {x : Int} (h : (Lit.int .u64 x).wf = true) : ∃ n : Nat, x = (n : Int) ∧ n < 2 ^ 64 := by
  have := Go.bounds_u64 h
  exact ⟨x.toNat, by omega, by omega⟩
section
variable {H : Type} {enc : TypeId × Value → H} {P : Program} {w : World} {base : Nat} {held : Bool}
theorem id_trod {e : TypeId} {h0 h1 h2 : Field} (hs : P.underlying e = some (.struct #[h0, h1, h2])) (ce : P.cellsOf e = 3) (p0 : h0.offset = 0) (p1 : h1.offset = 1) (p2 : h2.offset = 2)
    (d0 : P.cellsOf h0.type = 1) (d1 : P.cellsOf h1.type = 1) (d2 : P.cellsOf h2.type = 1) (u0 : P.underlying h0.type = some (.int .i64)) (u1 : P.underlying h1.type = some (.int .u64)) (u2 : P.underlying h2.type = some (.int .u64)) :
    ∀ n cs x, DataW.trod enc P w base (fun _ => true) held n e cs = some x → ∃ y, Id.wf y ∧ cs = idL y := by
  intro n cs x h
  obtain ⟨xs, k, hk, hxy, hlen, hxl, hf⟩ := DataW.trod_struct hs h
  rw [ce] at hlen
  match xs, hxl, cs, hlen with
  | [y0, y1, y2], _, [v0, v1, v2], _ =>
    have r0 := hf 0 h0 rfl
    have r1 := hf 1 h1 rfl
    have r2 := hf 2 h2 rfl
    simp [p0, p1, p2, d0, d1, d2] at r0 r1 r2
    obtain ⟨k0, n0, _, w0⟩ := DataW.trod_int u0 r0
    obtain ⟨k1, n1, _, w1⟩ := DataW.trod_int u1 r1
    obtain ⟨k2, n2, _, w2⟩ := DataW.trod_int u2 r2
    simp at n0 n1 n2
    obtain ⟨k1, rfl, m1⟩ := nat_u64 w1
    obtain ⟨k2, rfl, m2⟩ := nat_u64 w2
    subst n0 n1 n2
    exact ⟨⟨k0, k1, k2⟩, ⟨w0, m1, m2⟩, rfl⟩
theorem en_trod {e : TypeId} {f0 f1 f2 f3 f4 f5 : Field} (he : P.underlying e = some (.struct #[f0, f1, f2, f3, f4, f5])) (ce : P.cellsOf e = 8)
    (o0 : f0.offset = 0) (o1 : f1.offset = 1) (o2 : f2.offset = 4) (o3 : f3.offset = 5) (o4 : f4.offset = 6) (o5 : f5.offset = 7)
    (c0 : P.cellsOf f0.type = 1) (c1 : P.cellsOf f1.type = 3) (c2 : P.cellsOf f2.type = 1) (c3 : P.cellsOf f3.type = 1) (c4 : P.cellsOf f4.type = 1) (c5 : P.cellsOf f5.type = 1)
    (t0 : P.underlying f0.type = some (.int .i64)) (t2 : P.underlying f2.type = some (.int .i64)) (t3 : P.underlying f3.type = some (.int .u64))
    (ri : ∀ n cs x, DataW.trod enc P w base (fun _ => true) held n f1.type cs = some x → ∃ y, Id.wf y ∧ cs = idL y)
    (rf : ∀ n V x, DataW.trod enc P w base (fun _ => true) held n f4.type [V] = some x → ∃ l, TV w V l ∧ ∀ y ∈ l, Te.wf y)
    (re : ∀ n V x, DataW.trod enc P w base (fun _ => true) held n f5.type [V] = some x → ∃ l, EVL w V l ∧ ∀ e ∈ l, ∀ y ∈ e, At.wf y) :
    ∀ n cs x, DataW.trod enc P w base (fun _ => true) held n e cs = some x → ∃ y fv ev, En.wf y ∧ cs = enC y fv ev ∧ TV w fv y.fil ∧ EVL w ev y.evs := by
  intro n cs x h
  obtain ⟨xs, k, hk, hxy, hlen, hxl, hf⟩ := DataW.trod_struct he h
  rw [ce] at hlen
  match xs, hxl, cs, hlen with
  | [y0, y1, y2, y3, y4, y5], _, [v0, v1, v2, v3, v4, v5, v6, v7], _ =>
    have q0 := hf 0 f0 rfl
    have q1 := hf 1 f1 rfl
    have q2 := hf 2 f2 rfl
    have q3 := hf 3 f3 rfl
    have q4 := hf 4 f4 rfl
    have q5 := hf 5 f5 rfl
    simp [o0, o1, o2, o3, o4, o5, c0, c1, c2, c3, c4, c5] at q0 q1 q2 q3 q4 q5
    obtain ⟨k0, n0, _, w0⟩ := DataW.trod_int t0 q0
    obtain ⟨i, wi, hi⟩ := ri _ _ _ q1
    obtain ⟨k2, n2, _, w2⟩ := DataW.trod_int t2 q2
    obtain ⟨k3, n3, _, w3⟩ := DataW.trod_int t3 q3
    obtain ⟨l, hl, wl⟩ := rf _ _ _ q4
    obtain ⟨es, hes, wes⟩ := re _ _ _ q5
    obtain ⟨i0, i1, i2⟩ := i
    simp [idL] at n0 n2 n3 hi
    obtain ⟨k3, rfl, m3⟩ := nat_u64 w3
    obtain ⟨e1, e2, e3⟩ := hi
    subst n0 n2 n3 e1 e2 e3
    exact ⟨⟨k0, ⟨i0, i1, i2⟩, k2, k3, l, es⟩, v6, v7, ⟨w0, wi, w2, m3, wl, wes⟩, rfl, hl, hes⟩
theorem rc_trod {e : TypeId} {f0 f1 f2 f3 : Field} (he : P.underlying e = some (.struct #[f0, f1, f2, f3])) (ce : P.cellsOf e = 13)
    (o0 : f0.offset = 0) (o1 : f1.offset = 1) (o2 : f2.offset = 2) (o3 : f3.offset = 10) (c0 : P.cellsOf f0.type = 1) (c1 : P.cellsOf f1.type = 1) (c2 : P.cellsOf f2.type = 8) (c3 : P.cellsOf f3.type = 3)
    (t0 : P.underlying f0.type = some (.int .i64)) (t1 : P.underlying f1.type = some (.int .u64))
    (re : ∀ n cs x, DataW.trod enc P w base (fun _ => true) held n f2.type cs = some x → ∃ y fv ev, En.wf y ∧ cs = enC y fv ev ∧ TV w fv y.fil ∧ EVL w ev y.evs)
    (ri : ∀ n cs x, DataW.trod enc P w base (fun _ => true) held n f3.type cs = some x → ∃ y, Id.wf y ∧ cs = idL y) :
    ∀ n cs x, DataW.trod enc P w base (fun _ => true) held n e cs = some x → ∃ y fv ev, Rc.wf y ∧ cs = rcC y fv ev ∧ TV w fv y.en.fil ∧ EVL w ev y.en.evs := by
  intro n cs x h
  obtain ⟨xs, k, hk, hxy, hlen, hxl, hf⟩ := DataW.trod_struct he h
  rw [ce] at hlen
  match xs, hxl, cs, hlen with
  | [y0, y1, y2, y3], _, [v0, v1, v2, v3, v4, v5, v6, v7, v8, v9, v10, v11, v12], _ =>
    have q0 := hf 0 f0 rfl
    have q1 := hf 1 f1 rfl
    have q2 := hf 2 f2 rfl
    have q3 := hf 3 f3 rfl
    simp [o0, o1, o2, o3, c0, c1, c2, c3] at q0 q1 q2 q3
    obtain ⟨k0, n0, _, w0⟩ := DataW.trod_int t0 q0
    obtain ⟨k1, n1, _, w1⟩ := DataW.trod_int t1 q1
    obtain ⟨y, fv, ev, wy, hy, hl, hes⟩ := re _ _ _ q2
    obtain ⟨i, wi, hi⟩ := ri _ _ _ q3
    obtain ⟨k1, rfl, m1⟩ := nat_u64 w1
    refine ⟨⟨k0, k1, y, i⟩, fv, ev, ⟨w0, m1, wy, wi⟩, ?_, hl, hes⟩
    have e0 : [v0] = [_] := n0
    have e1 : [v1] = [_] := n1
    simp only [List.cons.injEq, and_true] at e0 e1
    subst e0 e1
    show _ = [_, _] ++ enC y fv ev ++ idL i
    rw [← hy, ← hi]
    rfl
end
end PM
end Go.Proofs.YtnpbfjkfbobgaaaGreat

/-
  READINGS OF ENTRIES AND RECORDS THAT COME IN; THE WALK OF EntryRecords.
-/
namespace Go.Proofs.YtnpbfjkfbobgaaaGreat
open Go.RowKit
set_option linter.unusedVariables false
set_option linter.unusedSimpArgs false
theorem PM.str_neJ {l m : List UInt8} (h : l ≠ m) : ((⟨l.toArray⟩ : ByteArray).toList == (⟨m.toArray⟩ : ByteArray).toList) = false := by
  rw [ByteArray.toList_eq, ByteArray.toList_eq]
  simpa using h
section
variable {H : Type} {enc : TypeId × Value → H} {w : World} {base : Nat} {held : Bool}
theorem id_open : ∀ n cs x, DataW.trod enc Tryz.prog w base (fun _ => true) held n 26 cs = some x → ∃ y, PM.Id.wf y ∧ cs = PM.idL y :=
  PM.id_trod Tryz.underlying26 (by kernel_rfl) rfl rfl rfl (by kernel_rfl) (by kernel_rfl) (by kernel_rfl) Tryz.underlying3 Tryz.underlying24 Tryz.underlying24
theorem fil_open : ∀ n V x, DataW.trod enc Tryz.prog w base (fun _ => true) held n 28 [V] = some x → ∃ l, PM.TV w V l ∧ ∀ y ∈ l, PM.Te.wf y := fun n V x h =>
  PM.EM.of_trod (el := PM.teL) (wf := PM.Te.wf) (y0 := ⟨ByteArray.empty, 0, 0, 0, ByteArray.empty⟩) Tryz.underlying28 (by kernel_rfl) (by decide) PM.teL_len (PM.te_trod Tryz.underlying50 Tryz.underlying48 (by kernel_rfl) rfl rfl rfl (by kernel_rfl) (by kernel_rfl) (by kernel_rfl) rfl rfl rfl (by kernel_rfl) (by kernel_rfl) (by kernel_rfl) Tryz.underlying9 Tryz.underlying3 Tryz.underlying3 Tryz.underlying2 Tryz.underlying9) h
theorem evs_open : ∀ n V x, DataW.trod enc Tryz.prog w base (fun _ => true) held n 29 [V] = some x → ∃ l, PM.EVL w V l ∧ ∀ e ∈ l, ∀ y ∈ e, PM.At.wf y := by
  intro n V x h
  obtain ⟨ls, css, h1, h2, h3⟩ := PM.RR.of_trod1 (R := fun w cs e => PM.evR w cs e ∧ ∀ y ∈ e, PM.At.wf y) [] Tryz.underlying29 (by kernel_rfl) (fun n V z hV => by
    obtain ⟨es, he, hw⟩ := PM.EV.of_trod Tryz.underlying55 Tryz.underlying53 Tryz.underlying48 (by kernel_rfl) rfl rfl (by kernel_rfl) (by kernel_rfl) rfl rfl rfl (by kernel_rfl) (by kernel_rfl) (by kernel_rfl) Tryz.underlying9 Tryz.underlying3 Tryz.underlying2 Tryz.underlying9 hV
    refine ⟨?_, es, ⟨V, rfl, he⟩, hw⟩
    obtain ⟨a, c, rfl, _⟩ := he
    rfl) h
  refine ⟨ls, ⟨css, h1, h2, fun i cs x a b => (h3 i cs x a b).1⟩, fun e he => ?_⟩
  obtain ⟨i, hi⟩ := List.mem_iff_getElem?.1 he
  have hil : i < css.length := by rw [h2]; exact (List.getElem?_eq_some_iff.1 hi).1
  exact (h3 i css[i] e (List.getElem?_eq_getElem hil) hi).2
theorem en_open : ∀ n cs x, DataW.trod enc Tryz.prog w base (fun _ => true) held n 31 cs = some x → ∃ y fv ev, PM.En.wf y ∧ cs = PM.enC y fv ev ∧ PM.TV w fv y.fil ∧ PM.EVL w ev y.evs :=
  PM.en_trod Tryz.underlying31 (by kernel_rfl) rfl rfl rfl rfl rfl rfl (by kernel_rfl) (by kernel_rfl) (by kernel_rfl) (by kernel_rfl) (by kernel_rfl) (by kernel_rfl) Tryz.underlying3 Tryz.underlying3 Tryz.underlying24 id_open fil_open evs_open
end
end Go.Proofs.YtnpbfjkfbobgaaaGreat
