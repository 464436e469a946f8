/-
  A SLICE's REST, whatever form the slice has: 'v[K:]'.
-/
import Derived.Test.YtocggnaekajdbaaBk
namespace Go.Proofs.Ytocggnaekajdbaa
namespace PM
open Go.RowKit
set_option linter.unusedVariables false
theorem run_rest {P : Program} {T E : TypeId} (BT : ByteTy P T E) {w : World} {v : Value} {m : List UInt8} (h : BS w v m) {K : Nat} (hK : K ≤ m.length) :
    ∃ a c, (Instr.slice T v (some (.int .i64 (K : Int))) none none).run P w = .ok (.slice a (m.length - K) c) w ∧ BS w (.slice a (m.length - K) c) (m.drop K) := by
  obtain ⟨i, z, hi, hz, hsz, _⟩ := BT.row
  have hel : P.elem T = E := by simp [Program.elem, BT.sl]
  have hT : P.underlying T = some (.slice (P.elem T)) := by rw [hel]; exact BT.sl
  have hs : ∀ w : World, (sizeOf (P.elem T)).run P w = .ok 1 w := fun w => by
    rw [hel, run_sizeOf w hi]; simp [Program.cellsOf, hi, hsz]
  obtain ⟨a, c, rfl⟩ := h.len
  refine ⟨if c = K then a else a.map (·.add K), c - K, ?_, ?_⟩
  · rw [run_slice_l w T a m.length c hT .i64 K (by omega) (by omega), hs]
    simp [Result.andThen, sliced]
  · rcases h with ⟨e, rfl⟩ | ⟨b, off, cap, e, h1, h2, h3⟩ | ⟨x, cap, e, rfl, hm⟩
    · cases e
      have : K = 0 := by simpa using hK
      subst this
      exact .inl ⟨rfl, rfl⟩
    · cases e
      have hc := BS.cut h1 h2 h3 hK
      by_cases hcK : c = K
      · rw [if_pos hcK]
        exact hc.2 (by omega)
      · rw [if_neg hcK]
        have ea : (⟨b, off, none⟩ : Addr).add K = ⟨b, off + K, none⟩ := by unfold Addr.add; split <;> simp_all
        rw [Option.map_some, ea]
        exact hc.1
    · cases e
      have : K = 0 := by simpa using hK
      subst this
      refine .inr (.inr ⟨if c = 0 then x else x.add 0, c, ?_, rfl, hm⟩)
      by_cases hc : c = 0 <;> simp [hc]
/-- the same, in whatever world the slice is cut -/
theorem run_rest' {P : Program} {T E : TypeId} (BT : ByteTy P T E) {w : World} {v : Value} {m : List UInt8} (h : BS w v m) {K : Nat} (hK : K ≤ m.length) :
    ∃ a c, (∀ W : World, (Instr.slice T v (some (.int .i64 (K : Int))) none none).run P W = .ok (.slice a (m.length - K) c) W) ∧ BS w (.slice a (m.length - K) c) (m.drop K) := by
  obtain ⟨i, z, hi, hz, hsz, _⟩ := BT.row
  have hel : P.elem T = E := by simp [Program.elem, BT.sl]
  have hT : P.underlying T = some (.slice (P.elem T)) := by rw [hel]; exact BT.sl
  have hs : ∀ w : World, (sizeOf (P.elem T)).run P w = .ok 1 w := fun w => by
    rw [hel, run_sizeOf w hi]; simp [Program.cellsOf, hi, hsz]
  obtain ⟨a, c, h1, h2⟩ := run_rest BT h hK
  refine ⟨a, c, fun W => ?_, h2⟩
  obtain ⟨a0, c0, rfl⟩ := h.len
  rw [run_slice_l w T a0 m.length c0 hT .i64 K (by omega) (by omega), hs] at h1
  rw [run_slice_l W T a0 m.length c0 hT .i64 K (by omega) (by omega), hs]
  simp only [Result.andThen] at h1 ⊢
  injection h1 with h1 _
  rw [h1]
end PM
end Go.Proofs.Ytocggnaekajdbaa
