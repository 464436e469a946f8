/-
  PLAINLY, of StageStays: what is asked for stays till it is settled; what is settled is gone.
-/
import Derived.Test.YtnjcociidipogaaYo
namespace Go.Proofs.Ytnjcociidipogaa
open Go.RowKit
set_option linter.unusedVariables false
set_option linter.unusedSimpArgs false
namespace PM
theorem find_some {i : Id} {l : List Tx} {x : Tx} (h : findT i l = some x) : x ∈ l ∧ x.en.id = i := by
  unfold findT at h
  split at h
  · cases h
  · rename_i hp
    rcases posT_cases i l with ⟨h1, _⟩ | ⟨k, y, h1, h2, h3, _⟩
    · omega
    · rw [h1] at h
      simp only [Int.toNat_natCast] at h
      rw [h2] at h
      injection h with h
      subst h
      exact ⟨List.mem_of_getElem? h2, by simpa [isT] using h3⟩
theorem find_none {i : Id} {l : List Tx} (h : ∀ x ∈ l, x.en.id ≠ i) : findT i l = none := by
  cases hf : findT i l with
  | none => rfl
  | some x => exact (h x (find_some hf).1 (find_some hf).2).elim
/-- what is asked for is not open -/
theorem next_asked {l : List Tx} {c : Cl} {x : Tx} (hx : x ∈ l) (hq : x.ask = true) (hs : ¬ (c.kind = 6 ∧ c.id = x.en.id)) : x ∈ (nextT l c).1 := by
  have ha : ∀ (z : En) (q : Bool), x ∈ (addT l z q).1 := fun z q => by
    unfold addT
    split
    · exact List.mem_append.2 (.inl hx)
    · exact hx
  have hne : ∀ {y : Tx}, y.ask = false → x ≠ y := fun {y} hy e => by subst e; rw [hq] at hy; cases hy
  unfold nextT
  by_cases h1 : c.kind = 1
  · rw [if_pos h1]; exact ha _ _
  rw [if_neg h1]
  by_cases h2 : c.kind = 2
  · rw [if_pos h2]
    by_cases hc : pubE c.id l c.e = 0
    · obtain ⟨k, y, ho, hy, hyq, hp, _, _, _, h4⟩ := pub_ok hc
      rw [h4]
      exact set_other hy hx (hne hyq)
    · unfold pubT
      rw [if_neg hc]
      exact hx
  rw [if_neg h2]
  by_cases h3 : c.kind = 3
  · rw [if_pos h3]
    rcases openT_cases c.id l with ho | ⟨k, y, ho, hy, hyq, hp⟩
    · unfold cmtT
      rw [ho, if_pos (by decide)]
      exact hx
    · unfold cmtT
      rw [ho, if_neg (by omega)]
      simp only [Int.toNat_natCast, hy]
      exact set_other hy hx (hne hyq)
  rw [if_neg h3]
  by_cases h4 : c.kind = 4
  · rw [if_pos h4]
    rcases openT_cases c.id l with ho | ⟨k, y, ho, hy, hyq, hp⟩
    · unfold abtT
      rw [ho, if_pos (by decide)]
      exact hx
    · unfold abtT
      rw [ho, if_neg (by omega)]
      show x ∈ setT c.id l
      unfold setT
      rw [hp, if_neg (by omega)]
      simp only [Int.toNat_natCast]
      exact rem_other hy hx (hne hyq)
  rw [if_neg h4]
  by_cases h5 : c.kind = 5
  · rw [if_pos h5]; exact ha _ _
  rw [if_neg h5]
  by_cases h6 : c.kind = 6
  · rw [if_pos h6]; exact set_mem hx (fun e => hs ⟨h6, e.symm⟩)
  · rw [if_neg h6]; exact hx
theorem stays {l : List Tx} {c : Cl} {i : Id} {x : Tx} (hg : Gz (nextT l c).1) (hf : findT i l = some x) (hq : x.ask = true) (hs : ¬ (c.kind = 6 ∧ c.id = i)) : findT i (nextT l c).1 = some x := by
  obtain ⟨h1, rfl⟩ := find_some hf
  exact find_mem hg.nd (next_asked h1 hq hs)
theorem rem_inv {k : Nat} {l : List Tx} {y : Tx} (h : y ∈ remT k l) : ∃ j, j ≠ k ∧ l[j]? = some y := by
  unfold remT at h
  rcases List.mem_append.1 h with h | h
  · obtain ⟨j, hj⟩ := List.mem_iff_getElem?.1 h
    rw [List.getElem?_take] at hj
    split at hj
    · exact ⟨j, by omega, hj⟩
    · cases hj
  · obtain ⟨j, hj⟩ := List.mem_iff_getElem?.1 h
    rw [List.getElem?_drop] at hj
    exact ⟨k + 1 + j, by omega, hj⟩
theorem gone {l : List Tx} {c : Cl} (hg : Gz l) (h6 : c.kind = 6) : findT c.id (nextT l c).1 = none := by
  have e : (nextT l c).1 = setT c.id l := by
    unfold nextT
    rw [if_neg (by omega), if_neg (by omega), if_neg (by omega), if_neg (by omega), if_neg (by omega), if_pos h6]
  rw [e]
  refine find_none fun y hy hid => ?_
  unfold setT at hy
  split at hy
  · rename_i hp
    exact pos_no hp (by rw [← hid]; exact List.mem_map.2 ⟨y, hy, rfl⟩)
  · rcases posT_cases c.id l with ⟨h1, _⟩ | ⟨k, z, h1, h2, h3, _⟩
    · omega
    · rw [h1] at hy
      simp only [Int.toNat_natCast] at hy
      obtain ⟨j, hjk, hj⟩ := rem_inv hy
      have hz : z.en.id = c.id := by simpa [isT] using h3
      have a : (tid l)[k]? = some c.id := by unfold tid; rw [List.getElem?_map, h2]; simp [hz]
      have b : (tid l)[j]? = some c.id := by unfold tid; rw [List.getElem?_map, hj]; simp [hid]
      obtain ⟨ha, ea⟩ := List.getElem?_eq_some_iff.1 a
      obtain ⟨hb, eb⟩ := List.getElem?_eq_some_iff.1 b
      have hp := List.pairwise_iff_getElem.1 hg.nd
      rcases Nat.lt_trichotomy k j with h | h | h
      · exact hp k j ha hb h (ea.trans eb.symm)
      · exact hjk h.symm
      · exact hp j k hb ha h (eb.trans ea.symm)
end PM
end Go.Proofs.Ytnjcociidipogaa
