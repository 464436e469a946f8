/-
  CONTRACTS of layer 19: own.Each[Entry], own.Entries, order.From, order.Told.
-/
import Derived.Test.YtnpbfjkfbobgaaaWd
import Derived.Test.YtnpbfjkfbobgaaaWt
namespace Go.Proofs.Ytnpbfjkfbobgaaa
open Go.RowKit
set_option linter.unusedVariables false
set_option linter.unusedSimpArgs false
namespace PM
def fromL (l : List En) (have_ : Nat) : List En := (l.drop have_).take 4
theorem EnsS.sub {l m : List En} (h : EnsS l) (hl : m.length ≤ l.length) (hm : ∀ x ∈ m, x ∈ l) : EnsS m := ⟨Nat.le_trans hl h.1, fun x hx => h.2 x (hm x hx)⟩
theorem EnL.takeS4 {w : World} {a : Option Addr} {n cap : Nat} {l : List En} (h : EnL w (.slice a n cap) l) {K : Nat} (hK : K ≤ n) : EnL w (.slice a K cap) (l.take K) := by
  obtain ⟨css, ⟨ad, cap', he, h1, h2, h3⟩, g2, g3⟩ := h
  injection he with he1 he2 he3
  subst he1 he2 he3
  have hl : (css.take K).length = K := List.length_take_of_le hK
  refine ⟨css.take K, ⟨a, cap, by rw [hl], by omega, h2, fun hp => ?_⟩, by simp [g2], fun i cs x ha hb => ?_⟩
  · obtain ⟨b, off, ha, h4⟩ := h3 (by omega)
    refine ⟨b, off, ha, fun i x hi => h4 i x ?_⟩
    rw [List.getElem?_take] at hi
    split at hi
    · exact hi
    · cases hi
  · rw [List.getElem?_take] at ha hb
    split at ha
    · rename_i hlt
      rw [if_pos hlt] at hb
      exact g3 i cs x ha hb
    · cases ha
theorem EM.restU {α : Type} {e : α → List Value} {c nb : Nat} {P : Program} {T E : TypeId} (MT : MTy P T E c nb) {w : World} {v : Value} {l : List α} (h : EM e c w v l) {K : Nat} (hK : K ≤ l.length) :
    ∃ a k, (∀ W : World, (Instr.slice T v (some (.int .u64 (K : Int))) none none).run P W = .ok (.slice a (l.length - K) k) W) ∧ EM e c w (.slice a (l.length - K) k) (l.drop K) := by
  obtain ⟨hT, hs⟩ := MT.size
  obtain ⟨ad, cap, rfl, h1, h2, h3⟩ := h
  refine ⟨if cap = K then ad else ad.map (·.add (K * c)), cap - K, fun W => ?_, ?_⟩
  · rw [run_slice_l W T ad l.length cap hT .u64 K (by omega) (by omega), hs]
    simp [Result.andThen, sliced]
  · refine ⟨_, _, by rw [List.length_drop], by rw [List.length_drop]; omega, by omega, fun hp => ?_⟩
    rw [List.length_drop] at hp
    obtain ⟨b, off, rfl, h4⟩ := h3 (by omega)
    refine ⟨b, off + K * c, ?_, fun i x hi => ?_⟩
    · rw [if_neg (by omega), Option.map_some]
      unfold Addr.add; split <;> simp_all
    · rw [List.getElem?_drop] at hi
      have := h4 (K + i) x hi
      rw [Nat.add_mul, ← Nat.add_assoc] at this
      exact this
theorem RR.restU {α : Type} {R : World → List Value → α → Prop} {c nb : Nat} {P : Program} {T E : TypeId} (MT : MTy P T E c nb) {w : World} {v : Value} {l : List α} (h : RR R c w v l) {K : Nat} (hK : K ≤ l.length) :
    ∃ a k, (∀ W : World, (Instr.slice T v (some (.int .u64 (K : Int))) none none).run P W = .ok (.slice a (l.length - K) k) W) ∧ RR R c w (.slice a (l.length - K) k) (l.drop K) := by
  obtain ⟨css, h1, h2, h3⟩ := h
  obtain ⟨a, k, g1, g2⟩ := EM.restU MT h1 (K := K) (by omega)
  rw [h2] at g1 g2
  refine ⟨a, k, g1, css.drop K, g2, by simp [h2], fun i cs x hi hx => ?_⟩
  rw [List.getElem?_drop] at hi hx
  exact h3 _ _ _ hi hx
end PM
end Go.Proofs.Ytnpbfjkfbobgaaa
