/-
  A SLICE OF STRUCTS OF TWO NUMBERS, AS IT CAME IN. Over any program.
-/
import Derived.Test.YtfmbnndpjjjdiaaBk
import Derived.Deep.SlicePairs
namespace Go.Proofs.Ytfmbnndpjjjdiaa
namespace PM
open Go.RowKit Go.ChangeShapes Go.WideShapes Go.ChangeAt Go.Deep
set_option linter.unusedVariables false
/-- one of them, at its place -/
def AE (w : World) (b off : Nat) : Prop := ∃ (k z : Int), w.cell? ⟨b, off, Option.none⟩ = Option.some (.int .i64 k) ∧ w.cell? ⟨b, off + 1, Option.none⟩ = Option.some (.int .i64 z) ∧ (Lit.int .i64 k).wf = true ∧ (Lit.int .i64 z).wf = true
/-- all of them -/
def AS (w : World) (v : Value) (n : Nat) : Prop := ∃ ad cap, v = .slice ad n cap ∧ n ≤ cap ∧ cap ≤ maxLen ∧ (0 < n → ∃ b off, ad = Option.some ⟨b, off, Option.none⟩ ∧ ∀ i, i < n → AE w b (off + i * 2))
theorem AS.of_trod {H : Type} {enc : TypeId × Value → H} {P : Program} {w : World} {base : Nat} {held : Bool} {fuel : Nat} {t e : TypeId} {f0 f1 : Field} {v : Value} {x : DataW H × List MemPlace}
    (ht : P.underlying t = some (.slice e)) (he : P.underlying e = some (.struct #[f0, f1])) (ce : P.cellsOf e = 2) (o0 : f0.offset = 0) (o1 : f1.offset = 1)
    (c0 : P.cellsOf f0.type = 1) (c1 : P.cellsOf f1.type = 1) (t0 : P.underlying f0.type = some (.int .i64)) (t1 : P.underlying f1.type = some (.int .i64))
    (h : DataW.trod enc P w base (fun _ => true) held fuel t [v] = some x) : ∃ n, AS w v n := by
  rcases open_slice_pairs ht he ce o0 o1 c0 c1 h with ⟨h0, _⟩ | ⟨a, len, cap, m, n, V0, V1, D0, D1, P0, P1, hcs, hb, hl, hm, hmm, _, hx⟩
  · simp at h0
    subst h0
    exact ⟨0, _, _, rfl, Nat.le_refl _, by simp, fun h => absurd h (by omega)⟩
  · simp at hcs
    subst hcs
    have hmc : m = cap := by simpa using hmm
    refine ⟨len, _, _, rfl, hl, hm, fun hpos => ?_⟩
    have each : ∀ i, i < len → ∃ (k z : Int), w.cell? (a.add (i * 2)) = Option.some (.int .i64 k) ∧ w.cell? (a.add (i * 2 + 1)) = Option.some (.int .i64 z) ∧ (Lit.int .i64 k).wf = true ∧ (Lit.int .i64 z).wf = true := by
      intro i hi
      obtain ⟨e0, e1, g0, g1⟩ := hx i (by omega)
      obtain ⟨k0, q0, _, w0⟩ := DataW.trod_int t0 g0
      obtain ⟨k1, q1, _, w1⟩ := DataW.trod_int t1 g1
      simp at q0 q1
      rw [q0] at e0
      rw [q1] at e1
      exact ⟨k0, k1, e0, e1, w0, w1⟩
    obtain ⟨b, off, spot⟩ := a
    obtain ⟨_, _, h1, _⟩ := each 0 hpos
    have hspot : spot = none := by simpa [Addr.add] using World.cell?_spot h1
    subst hspot
    refine ⟨b, off, rfl, fun i hi => ?_⟩
    obtain ⟨k, z, g1, g2, g3, g4⟩ := each i hi
    have ea : ∀ j, (⟨b, off, none⟩ : Addr).add j = ⟨b, off + j, none⟩ := fun j => by unfold Addr.add; split <;> simp_all
    rw [ea] at g1 g2
    exact ⟨k, z, g1, by rw [Nat.add_assoc]; exact g2, g3, g4⟩
end PM
end Go.Proofs.Ytfmbnndpjjjdiaa
