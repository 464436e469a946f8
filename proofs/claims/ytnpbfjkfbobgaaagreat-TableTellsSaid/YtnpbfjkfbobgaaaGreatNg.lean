/-
  PLAIN FACTS: implying goes on from test to test.
-/
import Derived.Test.YtnpbfjkfbobgaaaGreatNa
namespace Go.Proofs.YtnpbfjkfbobgaaaGreat
namespace PM
set_option linter.unusedVariables false
set_option linter.unusedSimpArgs false
set_option maxHeartbeats 2000000 in
theorem impP_trans {a b c : Te} (ha : teOk a = true) (hb : teOk b = true) (hc : teOk c = true) (h1 : impP a b) (h2 : impP b c) : impP a c := by
  have h2' := h2
  obtain ⟨n1, oa, ob, h1⟩ := h1
  obtain ⟨n2, _, oc, h2⟩ := h2
  refine ⟨n1.trans n2, oa, oc, ?_⟩
  by_cases c8 : c.op = 8
  · exact Or.inr (Or.inl c8)
  rcases h2 with ⟨q1, q2, q3, q4⟩ | q8 | ⟨b8, kb, h2⟩
  · unfold vo at *
    rw [← q1, ← q2, ← q3, ← q4]
    have : isB c a.k a.n a.s = isB b a.k a.n a.s := by unfold isB; rw [q1, q2, q3, q4]
    rw [this]
    exact h1
  · exact absurd q8 c8
  rcases h1 with ⟨p1, p2, p3, p4⟩ | p8 | ⟨a8, ka, h1⟩
  · unfold vo at *
    rw [p1, p2, p3, p4]
    exact Or.inr (Or.inr ⟨b8, kb, h2⟩)
  · exact absurd p8 b8
  refine Or.inr (Or.inr ⟨a8, ka.trans kb, ?_⟩)
  have T := ord3 a.k a.n a.s.data.toList b.k b.n b.s.data.toList c.k c.n c.s.data.toList
  have t1 : vo a b < 0 → vo b c ≤ 0 → vo a c < 0 := fun x y => by unfold vo at *; exact T.1 x y
  have t2 : vo a b ≤ 0 → vo b c < 0 → vo a c < 0 := fun x y => by
    unfold vo at *
    obtain ⟨_, _, T3, T4, _, _, e1, e2, e3⟩ := T
    by_cases h : ord a.k a.n a.s.data.toList c.k c.n c.s.data.toList < 0
    · exact h
    · have := T4 y (by omega); omega
  have t3 : vo a b ≤ 0 → vo b c ≤ 0 → vo a c ≤ 0 := fun x y => by
    by_cases h : vo a b < 0
    · have := t1 h y; omega
    · by_cases h' : vo b c < 0
      · have := t2 x h'; omega
      · unfold vo at *
        obtain ⟨e1, e2, e3⟩ := ord_eq0 (show ord a.k a.n a.s.data.toList b.k b.n b.s.data.toList = 0 by omega)
        rw [e1, e2, e3]; omega
  have s1 : 0 < vo a b → 0 ≤ vo b c → 0 < vo a c := fun x y => by
    unfold vo at *
    obtain ⟨_, _, _, _, _, T6, e1, e2, e3⟩ := T
    by_cases h : ord c.k c.n c.s.data.toList a.k a.n a.s.data.toList < 0
    · omega
    · by_cases h' : ord c.k c.n c.s.data.toList b.k b.n b.s.data.toList < 0
      · have := T6 h' (by omega); omega
      · have e0 : ord b.k b.n b.s.data.toList c.k c.n c.s.data.toList = 0 := by omega
        obtain ⟨f1, f2, f3⟩ := ord_eq0 e0
        rw [← f1, ← f2, ← f3]; exact x
  have s2 : 0 ≤ vo a b → 0 < vo b c → 0 < vo a c := fun x y => by
    unfold vo at *
    obtain ⟨_, _, _, _, _, T6, e1, e2, e3⟩ := T
    have := T6 (by omega) (by omega); omega
  have s3 : 0 ≤ vo a b → 0 ≤ vo b c → 0 ≤ vo a c := fun x y => by
    by_cases h : 0 < vo a b
    · have := s1 h y; omega
    · by_cases h' : 0 < vo b c
      · have := s2 x h'; omega
      · unfold vo at *
        obtain ⟨e1, e2, e3⟩ := ord_eq0 (show ord a.k a.n a.s.data.toList b.k b.n b.s.data.toList = 0 by omega)
        rw [e1, e2, e3]; omega
  clear T
  have ht3 := PM.hid t3
  have ht2 := PM.hid t2
  have ht1 := PM.hid t1
  have hs1 := PM.hid s1
  have hs2 := PM.hid s2
  have hs3 := PM.hid s3
  clear t1 t2 t3 s1 s2 s3
  generalize hxx : vo a c = z at *
  generalize hxy : vo a b = x at *
  generalize hyz : vo b c = y at *
  rcases h1 with ⟨o1, h1⟩ | ⟨o3, p, hl⟩ | ⟨o4, h1⟩ | ⟨o5, p, hl⟩ | ⟨o6, h1⟩ | ⟨o7, h1⟩
  · exact Or.inl ⟨o1, impP_sound hb hc (teOk_may ha a8) h2' h1⟩
  · have hh : (c.op = 2 ∨ c.op = 3 ∨ c.op = 4) ∧ y ≤ 0 := by
      rcases h2 with ⟨o, _⟩ | ⟨o, h, h'⟩ | ⟨o, ⟨h, h'⟩ | ⟨h, h'⟩⟩ | ⟨o, h⟩ | ⟨o, h⟩ | ⟨o, _⟩
      all_goals first | (exfalso; clear h2'; omega) | (constructor <;> omega)
    exact Or.inr (Or.inl ⟨o3, hh.1, ht3.out hl hh.2⟩)
  · have hh : (c.op = 4 ∧ z ≤ 0) ∨ ((c.op = 2 ∨ c.op = 3) ∧ z < 0) := by
      rcases h1 with ⟨p, hl⟩ | ⟨p, hl⟩
      · rcases h2 with ⟨o, _⟩ | ⟨o, h, h'⟩ | ⟨o, ⟨h, h'⟩ | ⟨h, h'⟩⟩ | ⟨o, h⟩ | ⟨o, h⟩ | ⟨o, _⟩
        · exfalso; omega
        · exfalso; omega
        · exact Or.inl ⟨h, ht3.out hl h'⟩
        · exact Or.inr ⟨h, ht2.out hl h'⟩
        · exfalso; omega
        · exfalso; omega
        · exfalso; omega
      · rcases h2 with ⟨o, _⟩ | ⟨o, h, h'⟩ | ⟨o, h⟩ | ⟨o, h⟩ | ⟨o, h⟩ | ⟨o, _⟩
        · exfalso; omega
        · have := ht1.out hl h'
          omega
        · exfalso; omega
        · exfalso; omega
        · exfalso; omega
        · exfalso; omega
    exact Or.inr (Or.inr (Or.inl ⟨o4, hh⟩))
  · have hh : (c.op = 2 ∨ c.op = 5 ∨ c.op = 6) ∧ 0 ≤ y := by
      rcases h2 with ⟨o, _⟩ | ⟨o, h, h'⟩ | ⟨o, h⟩ | ⟨o, h, h'⟩ | ⟨o, ⟨h, h'⟩ | ⟨h, h'⟩⟩ | ⟨o, _⟩
      all_goals first | (exfalso; clear h2'; omega) | (constructor <;> omega)
    exact Or.inr (Or.inr (Or.inr (Or.inl ⟨o5, hh.1, hs3.out hl hh.2⟩)))
  · have hh : (c.op = 6 ∧ 0 ≤ z) ∨ ((c.op = 2 ∨ c.op = 5) ∧ 0 < z) := by
      rcases h1 with ⟨p, hl⟩ | ⟨p, hl⟩
      · rcases h2 with ⟨o, _⟩ | ⟨o, h⟩ | ⟨o, h⟩ | ⟨o, h⟩ | ⟨o, ⟨h, h'⟩ | ⟨h, h'⟩⟩ | ⟨o, _⟩
        · exfalso; omega
        · exfalso; omega
        · exfalso; omega
        · exfalso; omega
        · exact Or.inl ⟨h, hs3.out hl h'⟩
        · exact Or.inr ⟨h, hs2.out hl h'⟩
        · exfalso; omega
      · rcases h2 with ⟨o, _⟩ | ⟨o, h⟩ | ⟨o, h⟩ | ⟨o, h, h'⟩ | ⟨o, h⟩ | ⟨o, _⟩
        · exfalso; omega
        · exfalso; omega
        · exfalso; omega
        · have := hs1.out hl h'
          omega
        · exfalso; omega
        · exfalso; omega
    exact Or.inr (Or.inr (Or.inr (Or.inr (Or.inl ⟨o6, hh⟩))))
  · have a2 := teOk_pre ha o7
    have cn : c.n = 0 := may_textN (teOk_may hc c8) (by omega)
    have bn : b.n = 0 := may_textN (teOk_may hb b8) (by omega)
    have key : 0 < vo a c → beg c.k c.s.data.toList a.k a.s.data.toList = false := by
      intro hp
      cases hg : beg c.k c.s.data.toList a.k a.s.data.toList with
      | false => rfl
      | true =>
        have := beg_ord (n := c.n) (n' := a.n) hg (by omega)
        unfold vo at hp
        rw [ord_anti] at hp
        omega
    refine Or.inr (Or.inr (Or.inr (Or.inr (Or.inr ⟨o7, ?_⟩))))
    rcases h1 with ⟨p, h1⟩ | ⟨p, h1⟩ | ⟨p, h1⟩ | ⟨p, h1⟩
    · have h0 : 0 ≤ x := by rw [← hxy]; exact beg_ord (n := a.n) (n' := b.n) h1 (by omega)
      rcases h2 with ⟨o, _⟩ | ⟨o, _⟩ | ⟨o, _⟩ | ⟨o, _⟩ | ⟨o, _⟩ | ⟨o, h2⟩
      · exfalso; omega
      · exfalso; omega
      · exfalso; omega
      · exfalso; omega
      · exfalso; omega
      rcases h2 with ⟨r, h⟩ | ⟨r, h⟩ | ⟨r, h⟩ | ⟨r, h⟩
      · exact Or.inl ⟨r, beg_trans h1 h⟩
      · exact Or.inr (Or.inl ⟨r, hs3.out h0 h⟩)
      · exact Or.inr (Or.inr (Or.inl ⟨r, hs2.out h0 h⟩))
      · refine Or.inr (Or.inr (Or.inr ⟨r, ?_⟩))
        cases hg : beg c.k c.s.data.toList a.k a.s.data.toList with
        | false => rfl
        | true => rw [beg_trans hg h1] at h; cases h
    · have hv : (c.op = 6 ∧ 0 ≤ z) ∨ ((c.op = 2 ∨ c.op = 5) ∧ 0 < z) := by
        rcases h2 with ⟨o, _⟩ | ⟨o, _⟩ | ⟨o, _⟩ | ⟨o, _⟩ | ⟨o, ⟨h, h'⟩ | ⟨h, h'⟩⟩ | ⟨o, _⟩
        · exfalso; omega
        · exfalso; omega
        · exfalso; omega
        · exfalso; omega
        · exact Or.inl ⟨h, hs3.out h1 h'⟩
        · exact Or.inr ⟨h, hs2.out h1 h'⟩
        · exfalso; omega
      rcases hv with h | ⟨h | h, h'⟩
      · exact Or.inr (Or.inl h)
      · exact Or.inr (Or.inr (Or.inr ⟨h, key (by rw [hxx]; exact h')⟩))
      · exact Or.inr (Or.inr (Or.inl ⟨h, h'⟩))
    · have hv : (c.op = 2 ∨ c.op = 5 ∨ c.op = 6) ∧ 0 < z := by
        rcases h2 with ⟨o, _⟩ | ⟨o, _⟩ | ⟨o, _⟩ | ⟨o, h, h'⟩ | ⟨o, _⟩ | ⟨o, _⟩
        · exfalso; omega
        · exfalso; omega
        · exfalso; omega
        · exact ⟨h, hs1.out h1 h'⟩
        · exfalso; omega
        · exfalso; omega
      rcases hv with ⟨h | h | h, h'⟩
      · exact Or.inr (Or.inr (Or.inr ⟨h, key (by rw [hxx]; exact h')⟩))
      · exact Or.inr (Or.inr (Or.inl ⟨h, h'⟩))
      · exact Or.inr (Or.inl ⟨h, by omega⟩)
    · exfalso
      rcases h2 with ⟨o, _⟩ | ⟨o, _⟩ | ⟨o, _⟩ | ⟨o, _⟩ | ⟨o, _⟩ | ⟨o, _⟩ <;> (clear h2'; omega)
end PM
end Go.Proofs.YtnpbfjkfbobgaaaGreat
