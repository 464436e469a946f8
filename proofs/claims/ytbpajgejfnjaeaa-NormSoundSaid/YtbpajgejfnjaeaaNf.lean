/-
  PLAIN FACTS ON THE ORDER OF TESTS.
-/
import Derived.Test.YtbpajgejfnjaeaaNe
namespace Go.Proofs.Ytbpajgejfnjaeaa
namespace PM
set_option linter.unusedVariables false
set_option linter.unusedSimpArgs false
theorem plI_anti (a b : Int) : plI b a = - plI a b := by unfold plI; (repeat' split) <;> omega
theorem plS_anti (a b : List UInt8) : plS b a = - plS a b := by
  unfold plS
  by_cases h : a < b
  · simp [h, lt_asy a b h]
  · by_cases h' : b < a <;> simp [h, h']
theorem tord_eq (a b : Te) : tord a b = if plS a.name.data.toList b.name.data.toList ≠ 0 then plS a.name.data.toList b.name.data.toList else if plI a.op b.op ≠ 0 then plI a.op b.op else vo a b := by
  unfold tord orI orI orI orI
  by_cases h1 : plS a.name.data.toList b.name.data.toList = 0
  · by_cases h2 : plI a.op b.op = 0
    · by_cases h3 : vo a b = 0 <;> simp [h1, h2, h3]
    · simp [h1, h2]
  · simp [h1]
theorem tord_anti (a b : Te) : tord b a = - tord a b := by
  have e1 := plS_anti a.name.data.toList b.name.data.toList
  have e2 := plI_anti a.op b.op
  have e3 : vo b a = - vo a b := ord_anti _ _ _ _ _ _
  rw [tord_eq, tord_eq, e1, e2, e3]
  (repeat' split) <;> omega
theorem plS_lt {a b : List UInt8} : plS a b < 0 ↔ a < b := by
  unfold plS
  by_cases h : a < b
  · simp [h]
  · by_cases h' : b < a <;> simp [h, h']
theorem plI_lt {a b : Int} : plI a b < 0 ↔ a < b := by
  unfold plI; (repeat' split) <;> omega
theorem tord_zero {a b : Te} (h : tord a b = 0) : a = b := by
  rw [tord_eq] at h
  by_cases h1 : plS a.name.data.toList b.name.data.toList = 0
  · rw [if_neg (by simp [h1])] at h
    by_cases h2 : plI a.op b.op = 0
    · rw [if_neg (by simp [h2])] at h
      obtain ⟨e3, e4, e5⟩ := ord_zero _ _ _ _ _ _ h
      have e1 := bytes_ext (plS_zero _ _ h1)
      have e2 := plI_zero _ _ h2
      cases a; cases b
      simp only at e1 e2 e3 e4 e5
      subst e1 e2 e3 e4
      rw [bytes_ext e5]
    · rw [if_pos h2] at h; exact absurd h h2
  · rw [if_pos h1] at h; exact absurd h h1
theorem tord_neg (a b : Te) : tord a b < 0 ↔ a.name.data.toList < b.name.data.toList ∨ (a.name.data.toList = b.name.data.toList ∧ (a.op < b.op ∨ (a.op = b.op ∧ vo a b < 0))) := by
  rw [tord_eq]
  generalize a.name.data.toList = s
  generalize b.name.data.toList = r
  generalize a.op = p
  generalize b.op = q
  generalize vo a b = o
  by_cases h1 : plS s r = 0
  · have e := plS_zero _ _ h1
    subst e
    rw [if_neg (by simp [h1])]
    have n1 := lt_irr s
    by_cases h2 : plI p q = 0
    · have e2 := plI_zero _ _ h2
      subst e2
      rw [if_neg (by simp [h2])]
      constructor
      · exact fun h => Or.inr ⟨rfl, Or.inr ⟨rfl, h⟩⟩
      · rintro (h | ⟨_, h | ⟨_, h⟩⟩)
        · exact absurd h n1
        · omega
        · exact h
    · rw [if_pos h2, plI_lt]
      have n2 : ¬ p = q := fun h => h2 (by subst h; unfold plI; simp)
      constructor
      · exact fun h => Or.inr ⟨rfl, Or.inl h⟩
      · rintro (h | ⟨_, h | ⟨h, _⟩⟩)
        · exact absurd h n1
        · exact h
        · exact absurd h n2
  · rw [if_pos h1, plS_lt]
    have n1 : ¬ s = r := fun h => h1 (by subst h; unfold plS; rw [if_neg (lt_irr s), if_neg (lt_irr s)])
    constructor
    · exact Or.inl
    · rintro (h | ⟨h, _⟩)
      · exact h
      · exact absurd h n1
theorem tord_trans {a b c : Te} (h1 : tord a b < 0) (h2 : tord b c < 0) : tord a c < 0 := by
  rw [tord_neg] at *
  rcases h1 with h1 | ⟨e1, h1⟩
  · rcases h2 with h2 | ⟨e2, h2⟩
    · exact Or.inl (List.lt_trans h1 h2)
    · exact Or.inl (by rw [← e2]; exact h1)
  · rcases h2 with h2 | ⟨e2, h2⟩
    · exact Or.inl (by rw [e1]; exact h2)
    · refine Or.inr ⟨e1.trans e2, ?_⟩
      rcases h1 with h1 | ⟨o1, h1⟩
      · rcases h2 with h2 | ⟨o2, h2⟩
        · exact Or.inl (by omega)
        · exact Or.inl (by omega)
      · rcases h2 with h2 | ⟨o2, h2⟩
        · exact Or.inl (by omega)
        · exact Or.inr ⟨by omega, ord_trans _ _ _ _ _ _ _ _ _ h1 (Int.le_of_lt h2)⟩
theorem tord_self (a : Te) : tord a a = 0 := by have := tord_anti a a; omega
end PM
end Go.Proofs.Ytbpajgejfnjaeaa
