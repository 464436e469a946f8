/-
  A REGION THAT DRAWS ITS ORDER, WALKED BY HAND: each operation that is ready is walked as a list of one (so that the laws of lists, 'append' too, serve). Over any program.
-/
import Derived.Test.YtenfjgfpeheepaaRs
import Derived.RegionTactic
namespace Go.Proofs.Ytenfjgfpeheepaa
namespace PM
open Go.RowKit
set_option linter.unusedVariables false
/-- to come to the end in the plain way, and K there -/
def QN (K : Act → World → Prop) : Exit → Act → World → Prop := fun ex a w => ex = .normal ∧ K a w
section
variable {P : Program} {md : Region.Mode} {ops : Array Oper} {Q : Exit → Act → World → Prop}
theorem wp_QN {o : Oper} {a : Act} {w : World} {K K' : Act → World → Prop} (h : o.wp P a w (fun a w => QN K' .normal a w) (QN K')) (hk : ∀ a w, K' a w → K a w) : o.wp P a w K Q := by
  unfold Oper.wp at *
  generalize (execOp a.eval o).run P w = r at *
  cases r with
  | ok n w' =>
    cases n <;> simp only [Oper.upon] at h ⊢
    case value => exact hk _ _ h.2
    case skip => exact hk _ _ h.2
    case defer => exact hk _ _ h.2
    case row =>
      intro c cs
      obtain ⟨v, w2, h1, h2⟩ := h c cs
      exact ⟨v, w2, hk _ _ h1.2, h2⟩
    case enter f args =>
      refine Calls.mono h fun e w'' he => ?_
      cases e with
      | returned u => exact hk _ _ he.2
      | panicked c => exact absurd he.1 (by simp)
      | outgrown => obtain ⟨_, _, hf⟩ := he; exact absurd hf.1 (by simp)
  | halt x w' =>
    cases x <;> simp only [Oper.upon] at h ⊢
    case panic => exact absurd h.1 (by simp)
theorem ready1 {fuel : Nat} {listed : Array Bool} {a : Act} {w : World} {i : Nat} {o : Oper} {rs : List Nat} (ho : ops[i]? = some o)
    (h : wpList P ops (QN (wpAny P md ops Q fuel (listed.setIfInBounds i true))) [o] a w)
    (hs : AllReady P md ops Q fuel listed a w rs) : AllReady P md ops Q fuel listed a w (i :: rs) := by
  refine AllReady.cons ho (fun K hK => ?_) hs
  unfold wpList at h
  split at h
  · rename_i hw
    rw [if_pos hw]
    rcases h with h | ⟨_, _, _, hf⟩
    · exact wp_QN h hK
    · exact absurd hf.1 (by simp)
  · rename_i hw
    rw [if_neg hw]
    exact hK _ _ h.2
end
end PM
end Go.Proofs.Ytenfjgfpeheepaa
