/-
  A SLICE OF STRUCTS OF TWO NUMBERS AND BYTES, AS IT CAME IN. Over any program.
-/
import Derived.Test.YtklgibkdbdhaiaaBk
import Derived.Deep.Slices
import Derived.Deep.Strs
namespace Go.Proofs.Ytklgibkdbdhaiaa
namespace PM
open Go.RowKit Go.ChangeShapes Go.WideShapes Go.ChangeAt Go.Deep
set_option linter.unusedVariables false
/-- one of them, at its place -/
def CE (w : World) (b off : Nat) : Prop := ∃ (k z : Int) (v : Value) (l : List UInt8), w.cell? ⟨b, off, Option.none⟩ = Option.some (.int .i64 k) ∧ w.cell? ⟨b, off + 1, Option.none⟩ = Option.some (.int .i64 z) ∧ w.cell? ⟨b, off + 2, Option.none⟩ = Option.some v ∧ BS w v l ∧ (Lit.int .i64 z).wf = true
/-- all of them -/
def CS (w : World) (v : Value) (n : Nat) : Prop := ∃ ad cap, v = .slice ad n cap ∧ n ≤ cap ∧ cap ≤ maxLen ∧ (0 < n → ∃ b off, ad = Option.some ⟨b, off, Option.none⟩ ∧ ∀ i, i < n → CE w b (off + i * 3))
theorem CE.keep {W w : World} {b off : Nat} (hb : Below W.heap.size W w) (h : CE W b off) : CE w b off := by
  obtain ⟨k, z, v, l, h1, h2, h3, h4, h5⟩ := h
  have hlt := World.block_lt_of_cell? W _ h1
  exact ⟨k, z, v, l, (hb.cell hlt).trans h1, (hb.cell (p := ⟨b, off + 1, Option.none⟩) hlt).trans h2, (hb.cell (p := ⟨b, off + 2, Option.none⟩) hlt).trans h3, h4.keep hb, h5⟩
theorem BS.of_trod {H : Type} {enc : TypeId × Value → H} {P : Program} {w : World} {base : Nat} {held : Bool} {fuel : Nat} {t u : TypeId} {v : Value} {x : DataW H × List MemPlace}
    (ht : P.underlying t = some (.slice u)) (hu : P.underlying u = some (.int .u8)) (cu : P.cellsOf u = 1) (h : DataW.trod enc P w base (fun _ => true) held fuel t [v] = some x) : ∃ l, BS w v l := by
  rcases open_ints ht hu cu h with ⟨hcs, hx⟩ | ⟨a, len', cap', zs, hcs, _, hl, hm, hz, hx, hcell, hwz⟩
  · simp at hcs
    subst hcs
    exact ⟨[], BS.nil _⟩
  · simp at hcs
    subst hcs
    obtain ⟨l, h, _⟩ := BS.of_ints hl hm (by simpa using hz) hcell hwz
    exact ⟨l, h⟩
theorem CS.of_trod {H : Type} {enc : TypeId × Value → H} {P : Program} {w : World} {base : Nat} {held : Bool} {fuel : Nat} {t e u : TypeId} {f0 f1 f2 : Field} {v : Value} {x : DataW H × List MemPlace}
    (ht : P.underlying t = some (.slice e)) (he : P.underlying e = some (.struct #[f0, f1, f2])) (ce : P.cellsOf e = 3) (o0 : f0.offset = 0) (o1 : f1.offset = 1) (o2 : f2.offset = 2)
    (c0 : P.cellsOf f0.type = 1) (c1 : P.cellsOf f1.type = 1) (c2 : P.cellsOf f2.type = 1) (t0 : P.underlying f0.type = some (.int .i64)) (t1 : P.underlying f1.type = some (.int .i64)) (t2 : P.underlying f2.type = some (.slice u)) (hu : P.underlying u = some (.int .u8)) (cu : P.cellsOf u = 1)
    (h : DataW.trod enc P w base (fun _ => true) held fuel t [v] = some x) : ∃ n, CS w v n := by
  rcases open_slice ht h with ⟨h0, _⟩ | ⟨a, len, cap, m, n, D, Pl, hcs, hb, hl, hm, hmm, _, hx⟩
  · simp at h0
    subst h0
    exact ⟨0, _, _, rfl, Nat.le_refl _, by simp, fun h => absurd h (by omega)⟩
  · simp at hcs
    subst hcs
    have hmc : m = cap := by simpa using hmm
    refine ⟨len, _, _, rfl, hl, hm, fun hpos => ?_⟩
    have each : ∀ i, i < len → ∃ (k z : Int) (v : Value) (l : List UInt8), w.cell? (a.add (i * 3)) = Option.some (.int .i64 k) ∧ w.cell? (a.add (i * 3 + 1)) = Option.some (.int .i64 z) ∧ w.cell? (a.add (i * 3 + 2)) = Option.some v ∧ BS w v l ∧ (Lit.int .i64 z).wf = true := by
      intro i hi
      obtain ⟨cs', h1, h2⟩ := hx i (by omega)
      rw [ce] at h1
      obtain ⟨_, hlen, hcell⟩ := World.cells?_some h1
      obtain ⟨xs, k, hk, hxy, _, hxl, hf⟩ := DataW.trod_struct he h2
      match xs, hxl, cs', hlen with
      | [y0, y1, y2], _, [v0, v1, v2], _ =>
        have g0 := hf 0 f0 rfl
        have g1 := hf 1 f1 rfl
        have g2 := hf 2 f2 rfl
        simp [o0, o1, o2, c0, c1, c2] at g0 g1 g2
        have e0 := hcell 0 (by omega)
        have e1 := hcell 1 (by omega)
        have e2 := hcell 2 (by omega)
        rw [add_add] at e0 e1 e2
        obtain ⟨k0, q0, _, _⟩ := DataW.trod_int t0 g0
        obtain ⟨k1, q1, _, w1⟩ := DataW.trod_int t1 g1
        obtain ⟨l2, q2⟩ := BS.of_trod t2 hu cu g2
        simp at q0 q1
        subst q0 q1
        exact ⟨k0, k1, v2, l2, by simpa using e0, by simpa using e1, by simpa using e2, q2, w1⟩
    obtain ⟨b, off, spot⟩ := a
    obtain ⟨_, _, _, _, h1, _⟩ := each 0 hpos
    have hspot : spot = none := by simpa [Addr.add] using World.cell?_spot h1
    subst hspot
    refine ⟨b, off, rfl, fun i hi => ?_⟩
    obtain ⟨k, z, v, l, g1, g2, g3, g4, g5⟩ := each i hi
    have ea : ∀ j, (⟨b, off, none⟩ : Addr).add j = ⟨b, off + j, none⟩ := fun j => by unfold Addr.add; split <;> simp_all
    rw [ea] at g1 g2 g3
    exact ⟨k, z, v, l, g1, by rw [Nat.add_assoc]; exact g2, by rw [Nat.add_assoc]; exact g3, g4, g5⟩
end PM
end Go.Proofs.Ytklgibkdbdhaiaa
