/-
  EVENTS: A SLICE OF STRUCTS OF A TEXT AND A VALUE (a number, a number, a text), AS IT CAME IN. Over any program.
-/
import Derived.Test.YtklgibkdbdhaiaaBk
import Derived.Deep.Slices
import Derived.Deep.Strs
namespace Go.Proofs.Ytklgibkdbdhaiaa
namespace PM
open Go.RowKit Go.ChangeShapes Go.WideShapes Go.ChangeAt Go.Deep
set_option linter.unusedVariables false
/-- an attribute -/
structure At where
  name : ByteArray
  k : Int
  n : Int
  s : ByteArray
def At.wf (x : At) : Prop := x.name.size ≤ maxLen ∧ (Lit.int .i64 x.k).wf = true ∧ (Lit.int .i64 x.n).wf = true ∧ x.s.size ≤ maxLen
/-- one of them, at its place -/
def AtE (w : World) (b off : Nat) (x : At) : Prop :=
  w.cell? ⟨b, off, Option.none⟩ = Option.some (.string x.name) ∧ w.cell? ⟨b, off + 1, Option.none⟩ = Option.some (.int .i64 x.k) ∧ w.cell? ⟨b, off + 2, Option.none⟩ = Option.some (.int .i64 x.n) ∧ w.cell? ⟨b, off + 3, Option.none⟩ = Option.some (.string x.s)
/-- all of them -/
def EV (w : World) (v : Value) (es : List At) : Prop := ∃ ad cap, v = .slice ad es.length cap ∧ es.length ≤ cap ∧ cap ≤ maxLen ∧ (0 < es.length → ∃ b off, ad = Option.some ⟨b, off, Option.none⟩ ∧ ∀ i x, es[i]? = Option.some x → AtE w b (off + i * 4) x)
theorem AtE.keep {W w : World} {b off : Nat} {x : At} (hb : Below W.heap.size W w) (h : AtE W b off x) : AtE w b off x := by
  obtain ⟨h1, h2, h3, h4⟩ := h
  have hlt := World.block_lt_of_cell? W _ h1
  exact ⟨(hb.cell hlt).trans h1, (hb.cell (p := ⟨b, off + 1, Option.none⟩) hlt).trans h2, (hb.cell (p := ⟨b, off + 2, Option.none⟩) hlt).trans h3, (hb.cell (p := ⟨b, off + 3, Option.none⟩) hlt).trans h4⟩
theorem EV.keep {W w : World} {v : Value} {es : List At} (hb : Below W.heap.size W w) (h : EV W v es) : EV w v es := by
  obtain ⟨ad, cap, e, h1, h2, h3⟩ := h
  refine ⟨ad, cap, e, h1, h2, fun hp => ?_⟩
  obtain ⟨b, off, e', h4⟩ := h3 hp
  exact ⟨b, off, e', fun i x hi => (h4 i x hi).keep hb⟩
theorem EV.nil (w : World) : EV w (.slice none 0 0) [] := ⟨none, 0, rfl, Nat.le_refl _, by simp, fun h => absurd h (by simp)⟩
theorem EV.of_trod {H : Type} {enc : TypeId × Value → H} {P : Program} {w : World} {base : Nat} {held : Bool} {fuel : Nat} {t e : TypeId} {f0 f1 h0 h1 h2 : Field} {v : Value} {x : DataW H × List MemPlace}
    (ht : P.underlying t = some (.slice e)) (he : P.underlying e = some (.struct #[f0, f1])) (hs : P.underlying f1.type = some (.struct #[h0, h1, h2])) (ce : P.cellsOf e = 4) (o0 : f0.offset = 0) (o1 : f1.offset = 1)
    (c0 : P.cellsOf f0.type = 1) (c1 : P.cellsOf f1.type = 3) (p0 : h0.offset = 0) (p1 : h1.offset = 1) (p2 : h2.offset = 2) (d0 : P.cellsOf h0.type = 1) (d1 : P.cellsOf h1.type = 1) (d2 : P.cellsOf h2.type = 1)
    (t0 : P.underlying f0.type = some .string) (u0 : P.underlying h0.type = some (.int .i64)) (u1 : P.underlying h1.type = some (.int .i64)) (u2 : P.underlying h2.type = some .string)
    (h : DataW.trod enc P w base (fun _ => true) held fuel t [v] = some x) : ∃ es, EV w v es ∧ ∀ x ∈ es, At.wf x := by
  rcases open_slice ht h with ⟨h0, _⟩ | ⟨a, len, cap, m, n, D, Pl, hcs, hb, hl, hm, hmm, _, hx⟩
  · simp at h0
    subst h0
    exact ⟨[], EV.nil _, by simp⟩
  · simp at hcs
    subst hcs
    have hmc : m = cap := by simpa using hmm
    have each : ∀ i, i < len → ∃ y : At, y.wf ∧ w.cell? (a.add (i * 4)) = Option.some (.string y.name) ∧ w.cell? (a.add (i * 4 + 1)) = Option.some (.int .i64 y.k) ∧ w.cell? (a.add (i * 4 + 2)) = Option.some (.int .i64 y.n) ∧ w.cell? (a.add (i * 4 + 3)) = Option.some (.string y.s) := by
      intro i hi
      obtain ⟨cs', g1, g2⟩ := hx i (by omega)
      rw [ce] at g1
      obtain ⟨_, hlen, hcell⟩ := World.cells?_some g1
      obtain ⟨xs, k, hk, hxy, _, hxl, hf⟩ := DataW.trod_struct he g2
      match xs, hxl, cs', hlen with
      | [y0, y1], _, [v0, v1, v2, v3], _ =>
        have q0 := hf 0 f0 rfl
        have q1 := hf 1 f1 rfl
        simp [o0, o1, c0, c1] at q0 q1
        obtain ⟨xs', k', hk', hxy', _, hxl', hf'⟩ := DataW.trod_struct hs q1
        match xs', hxl' with
        | [z0, z1, z2], _ =>
          have r0 := hf' 0 h0 rfl
          have r1 := hf' 1 h1 rfl
          have r2 := hf' 2 h2 rfl
          simp [p0, p1, p2, d0, d1, d2] at r0 r1 r2
          have e0 := hcell 0 (by omega)
          have e1 := hcell 1 (by omega)
          have e2 := hcell 2 (by omega)
          have e3 := hcell 3 (by omega)
          rw [add_add] at e0 e1 e2 e3
          obtain ⟨s0, n0, _, w0⟩ := DataW.trod_string t0 q0
          obtain ⟨k1, n1, _, w1⟩ := DataW.trod_int u0 r0
          obtain ⟨k2, n2, _, w2⟩ := DataW.trod_int u1 r1
          obtain ⟨s3, n3, _, w3⟩ := DataW.trod_string u2 r2
          simp at n0 n1 n2 n3
          subst n0 n1 n2 n3
          exact ⟨⟨s0, k1, k2, s3⟩, ⟨w0, w1, w2, w3⟩, by simpa using e0, by simpa using e1, by simpa using e2, by simpa using e3⟩
    obtain ⟨f, hf⟩ : ∃ f : Nat → At, ∀ i, i < len → (f i).wf ∧ w.cell? (a.add (i * 4)) = Option.some (.string (f i).name) ∧ w.cell? (a.add (i * 4 + 1)) = Option.some (.int .i64 (f i).k) ∧ w.cell? (a.add (i * 4 + 2)) = Option.some (.int .i64 (f i).n) ∧ w.cell? (a.add (i * 4 + 3)) = Option.some (.string (f i).s) := by
      refine ⟨fun i => if hi : i < len then (each i hi).choose else ⟨ByteArray.empty, 0, 0, ByteArray.empty⟩, fun i hi => ?_⟩
      simp only [hi, dif_pos]
      exact (each i hi).choose_spec
    refine ⟨(List.range len).map f, ⟨some a, cap, by simp, by simpa using hl, hm, fun hp => ?_⟩, ?_⟩
    · have hp' : 0 < len := by simpa using hp
      obtain ⟨b, off, spot⟩ := a
      have hspot : spot = none := by simpa [Addr.add] using World.cell?_spot (hf 0 hp').2.1
      subst hspot
      refine ⟨b, off, rfl, fun i x hi => ?_⟩
      have hi' : i < len := by have := (List.getElem?_eq_some_iff.1 hi).1; simpa using this
      simp [hi'] at hi
      subst hi
      obtain ⟨_, g1, g2, g3, g4⟩ := hf i hi'
      have ea : ∀ j, (⟨b, off, none⟩ : Addr).add j = ⟨b, off + j, none⟩ := fun j => by unfold Addr.add; split <;> simp_all
      rw [ea] at g1 g2 g3 g4
      exact ⟨g1, by rw [Nat.add_assoc]; exact g2, by rw [Nat.add_assoc]; exact g3, by rw [Nat.add_assoc]; exact g4⟩
    · intro x hx'
      obtain ⟨i, hi, rfl⟩ := List.mem_map.1 hx'
      exact (hf i (by simpa using hi)).1
end PM
end Go.Proofs.Ytklgibkdbdhaiaa
