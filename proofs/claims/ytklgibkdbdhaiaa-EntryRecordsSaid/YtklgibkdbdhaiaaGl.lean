/-
  SLICES OF ELEMENTS OF SOME CELLS, CUT: 'v[K:]', 'v[:K]'. Over any program.
-/
import Derived.Test.YtklgibkdbdhaiaaGm
import Derived.Laws.Slices
namespace Go.Proofs.Ytklgibkdbdhaiaa
namespace PM
open Go.RowKit
set_option linter.unusedVariables false
variable {α : Type} {e : α → List Value} {c nb : Nat} {P : Program} {T E : TypeId}
theorem MTy.size (MT : MTy P T E c nb) : P.underlying T = some (.slice (P.elem T)) ∧ ∀ w : World, (sizeOf (P.elem T)).run P w = .ok c w := by
  obtain ⟨i, z, hi, hz, hsz, _⟩ := MT.row
  have hel : P.elem T = E := by simp [Program.elem, MT.sl]
  refine ⟨by rw [hel]; exact MT.sl, fun w => ?_⟩
  rw [hel, run_sizeOf w hi]; simp [Program.cellsOf, hi, hsz]
theorem run_restM (MT : MTy P T E c nb) {w : World} {v : Value} {l : List α} (h : EM e c w v l) {K : Nat} (hK : K ≤ l.length) :
    ∃ a k, (∀ W : World, (Instr.slice T v (some (.int .i64 (K : Int))) none none).run P W = .ok (.slice a (l.length - K) k) W) ∧ EM e c w (.slice a (l.length - K) k) (l.drop K) := by
  obtain ⟨hT, hs⟩ := MT.size
  obtain ⟨ad, cap, rfl, h1, h2, h3⟩ := h
  refine ⟨if cap = K then ad else ad.map (·.add (K * c)), cap - K, fun W => ?_, ?_⟩
  · rw [run_slice_l W T ad l.length cap hT .i64 K (by omega) (by omega), hs]
    simp [Result.andThen, sliced]
  · refine ⟨_, _, by rw [List.length_drop], by rw [List.length_drop]; omega, by omega, fun hp => ?_⟩
    rw [List.length_drop] at hp
    obtain ⟨b, off, rfl, h4⟩ := h3 (by omega)
    refine ⟨b, off + K * c, ?_, fun i x hi => ?_⟩
    · rw [if_neg (by omega), Option.map_some]
      unfold Addr.add; split <;> simp_all
    · rw [List.getElem?_drop] at hi
      have := h4 (K + i) x hi
      rw [Nat.add_mul, ← Nat.add_assoc] at this
      exact this
theorem run_takeM (MT : MTy P T E c nb) {w : World} {v : Value} {l : List α} (h : EM e c w v l) {K : Nat} (hK : K ≤ l.length) :
    ∃ a k, (∀ W : World, (Instr.slice T v none (some (.int .i64 (K : Int))) none).run P W = .ok (.slice a K k) W) ∧ EM e c w (.slice a K k) (l.take K) := by
  obtain ⟨hT, hs⟩ := MT.size
  obtain ⟨ad, cap, rfl, h1, h2, h3⟩ := h
  refine ⟨if cap = 0 then ad else ad.map (·.add (0 * c)), cap - 0, fun W => ?_, ?_⟩
  · rw [run_slice_h W T ad l.length cap hT .i64 K (by omega) (by omega), hs]
    simp [Result.andThen, sliced]
  · refine ⟨_, _, by rw [List.length_take_of_le hK], by rw [List.length_take_of_le hK]; omega, by omega, fun hp => ?_⟩
    rw [List.length_take_of_le hK] at hp
    obtain ⟨b, off, rfl, h4⟩ := h3 (by omega)
    refine ⟨b, off, ?_, fun i x hi => ?_⟩
    · rw [if_neg (by omega), Option.map_some]
      unfold Addr.add; split <;> simp_all
    · refine h4 i x ?_
      rw [List.getElem?_take] at hi
      split at hi
      · exact hi
      · cases hi
end PM
end Go.Proofs.Ytklgibkdbdhaiaa
