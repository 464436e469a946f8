/-
  PLAIN FACTS ON TESTS: which test implies another one, and that what is implied holds.
-/
import Derived.Test.YtnpbfjkfbobgaaaGreatIA
namespace Go.Proofs.YtnpbfjkfbobgaaaGreat
namespace PM
set_option linter.unusedVariables false
/-- which of two tests' values comes first -/
def vo (a b : Te) : Int := ord a.k a.n a.s.data.toList b.k b.n b.s.data.toList
/-- whether a test implies another one -/
def impP (a b : Te) : Prop :=
  a.name = b.name ∧ (1 ≤ a.op ∧ a.op ≤ 8) ∧ (1 ≤ b.op ∧ b.op ≤ 8) ∧
  ((a.op = b.op ∧ a.k = b.k ∧ a.n = b.n ∧ a.s = b.s) ∨ b.op = 8 ∨
    (a.op ≠ 8 ∧ a.k = b.k ∧
      ((a.op = 1 ∧ isB b a.k a.n a.s = true) ∨
       (a.op = 3 ∧ (b.op = 2 ∨ b.op = 3 ∨ b.op = 4) ∧ vo a b ≤ 0) ∨
       (a.op = 4 ∧ ((b.op = 4 ∧ vo a b ≤ 0) ∨ ((b.op = 2 ∨ b.op = 3) ∧ vo a b < 0))) ∨
       (a.op = 5 ∧ (b.op = 2 ∨ b.op = 5 ∨ b.op = 6) ∧ 0 ≤ vo a b) ∨
       (a.op = 6 ∧ ((b.op = 6 ∧ 0 ≤ vo a b) ∨ ((b.op = 2 ∨ b.op = 5) ∧ 0 < vo a b))) ∨
       (a.op = 7 ∧ ((b.op = 7 ∧ beg a.k a.s.data.toList b.k b.s.data.toList = true) ∨ (b.op = 6 ∧ 0 ≤ vo a b) ∨ (b.op = 5 ∧ 0 < vo a b) ∨ (b.op = 2 ∧ beg b.k b.s.data.toList a.k a.s.data.toList = false))))))
instance (a b : Te) : Decidable (impP a b) := by unfold impP; infer_instance
def impB (a b : Te) : Bool := decide (impP a b)
theorem isB_iff (x : Te) (k n : Int) (s : ByteArray) (hx : 1 ≤ x.op ∧ x.op ≤ 8) : isB x k n s = true ↔ x.op = 8 ∨ (k = x.k ∧
    ((x.op = 1 ∧ ord k n s.data.toList x.k x.n x.s.data.toList = 0) ∨ (x.op = 2 ∧ ord k n s.data.toList x.k x.n x.s.data.toList ≠ 0) ∨ (x.op = 3 ∧ ord k n s.data.toList x.k x.n x.s.data.toList < 0) ∨
     (x.op = 4 ∧ ord k n s.data.toList x.k x.n x.s.data.toList ≤ 0) ∨ (x.op = 5 ∧ 0 < ord k n s.data.toList x.k x.n x.s.data.toList) ∨ (x.op = 6 ∧ 0 ≤ ord k n s.data.toList x.k x.n x.s.data.toList) ∨ (x.op = 7 ∧ beg k s.data.toList x.k x.s.data.toList = true))) := by
  unfold isB
  generalize ord k n s.data.toList x.k x.n x.s.data.toList = o
  generalize beg k s.data.toList x.k x.s.data.toList = g
  generalize x.op = p at *
  have hp : p = 1 ∨ p = 2 ∨ p = 3 ∨ p = 4 ∨ p = 5 ∨ p = 6 ∨ p = 7 ∨ p = 8 := by omega
  by_cases hk : k = x.k
  · rcases hp with rfl | rfl | rfl | rfl | rfl | rfl | rfl | rfl <;> simp [hk]
  · rcases hp with rfl | rfl | rfl | rfl | rfl | rfl | rfl | rfl <;> simp [hk]
theorem ord3 (k n : Int) (s : List UInt8) (k' n' : Int) (s' : List UInt8) (k2 n2 : Int) (s2 : List UInt8) :
    (ord k n s k' n' s' < 0 → ord k' n' s' k2 n2 s2 ≤ 0 → ord k n s k2 n2 s2 < 0) ∧
    (ord k n s k2 n2 s2 < 0 → ord k2 n2 s2 k' n' s' ≤ 0 → ord k n s k' n' s' < 0) ∧
    (ord k' n' s' k n s < 0 → ord k n s k2 n2 s2 ≤ 0 → ord k' n' s' k2 n2 s2 < 0) ∧
    (ord k' n' s' k2 n2 s2 < 0 → ord k2 n2 s2 k n s ≤ 0 → ord k' n' s' k n s < 0) ∧
    (ord k2 n2 s2 k n s < 0 → ord k n s k' n' s' ≤ 0 → ord k2 n2 s2 k' n' s' < 0) ∧
    (ord k2 n2 s2 k' n' s' < 0 → ord k' n' s' k n s ≤ 0 → ord k2 n2 s2 k n s < 0) ∧
    ord k' n' s' k n s = - ord k n s k' n' s' ∧ ord k2 n2 s2 k n s = - ord k n s k2 n2 s2 ∧ ord k2 n2 s2 k' n' s' = - ord k' n' s' k2 n2 s2 :=
  ⟨ord_trans _ _ _ _ _ _ _ _ _, ord_trans _ _ _ _ _ _ _ _ _, ord_trans _ _ _ _ _ _ _ _ _, ord_trans _ _ _ _ _ _ _ _ _, ord_trans _ _ _ _ _ _ _ _ _, ord_trans _ _ _ _ _ _ _ _ _, ord_anti _ _ _ _ _ _, ord_anti _ _ _ _ _ _, ord_anti _ _ _ _ _ _⟩
theorem pre_not_lt : ∀ (a v : List UInt8), a.isPrefixOf v = true → ¬ v < a
  | [], v, _ => List.not_lt_nil v
  | x :: a, [], h => by simp [List.isPrefixOf] at h
  | x :: a, y :: v, h => by
    simp only [List.isPrefixOf, Bool.and_eq_true, beq_iff_eq] at h
    obtain ⟨rfl, h⟩ := h
    rw [List.cons_lt_cons_iff]
    rintro (h1 | ⟨_, h1⟩)
    · exact absurd h1 (UInt8.lt_irrefl x)
    · exact pre_not_lt a v h h1
theorem beg_parts {k k' : Int} {s s' : List UInt8} (h : beg k s k' s' = true) : k = 2 ∧ k' = 2 ∧ s'.isPrefixOf s = true := by
  unfold beg at h
  simp only [Bool.and_eq_true, decide_eq_true_eq] at h
  exact ⟨h.1.1, h.1.2, h.2⟩
theorem beg_trans {k k' k2 : Int} {s s' s2 : List UInt8} (h : beg k s k' s' = true) (h2 : beg k' s' k2 s2 = true) : beg k s k2 s2 = true := by
  obtain ⟨a, b, c⟩ := beg_parts h
  obtain ⟨a', b', c'⟩ := beg_parts h2
  unfold beg
  simp only [a, b', decide_true, Bool.true_and]
  rw [List.isPrefixOf_iff_prefix] at *
  exact c'.trans c
theorem may_textN {k n : Int} {s : List UInt8} (h : may k n s = true) (hk : k = 2) : n = 0 := by
  subst hk
  rw [may_two] at h
  simpa using (of_decide_eq_true h).1
theorem beg_ord {k n k' n' : Int} {s s' : List UInt8} (h : beg k s k' s' = true) (hn : n = n') : 0 ≤ ord k n s k' n' s' := by
  obtain ⟨rfl, rfl, c⟩ := beg_parts h
  subst hn
  have := pre_not_lt _ _ c
  unfold ord plS plI
  simp [this]
  split <;> omega
theorem teOk_pre {z : Te} (h : teOk z = true) (h7 : z.op = 7) : z.k = 2 ∧ z.n = 0 := by
  have hm := (teOk_parts h).2.2.2.2 (by omega)
  unfold teOk at h
  simp only [Bool.and_eq_true, decide_eq_true_eq] at h
  have h2 := h.2
  rw [if_neg (by omega)] at h2
  simp only [Bool.and_eq_true] at h2
  have h3 := h2.2
  rw [if_pos h7] at h3
  have hk := of_decide_eq_true h3
  exact ⟨hk, may_textN hm hk⟩
theorem teOk_may {z : Te} (h : teOk z = true) (h8 : z.op ≠ 8) : may z.k z.n z.s.data.toList = true := (teOk_parts h).2.2.2.2 h8
theorem teOk_op {z : Te} (h : teOk z = true) : 1 ≤ z.op ∧ z.op ≤ 8 := ⟨(teOk_parts h).2.1, (teOk_parts h).2.2.1⟩
theorem ord_eq0 {k n : Int} {s : List UInt8} {k' n' : Int} {s' : List UInt8} (h : ord k n s k' n' s' = 0) : k = k' ∧ n = n' ∧ s = s' := ord_zero _ _ _ _ _ _ h
/-- what is implied holds -/
theorem impP_sound {a b : Te} (ha : teOk a = true) (hb : teOk b = true) {k n : Int} {s : ByteArray} (hv : may k n s.data.toList = true) (hi : impP a b) (h : isB a k n s = true) : isB b k n s = true := by
  obtain ⟨hnm, hao, hbo, hc⟩ := hi
  rw [isB_iff b k n s hbo]
  rw [isB_iff a k n s hao] at h
  rcases hc with ⟨h1, h2, h3, h4⟩ | h8 | ⟨h8, hk, hc⟩
  · rw [← h1, ← h2, ← h3, ← h4]; exact h
  · exact Or.inl h8
  by_cases hb8 : b.op = 8
  · exact Or.inl hb8
  right
  rcases h with h | ⟨hka, h⟩
  · exact absurd h h8
  refine ⟨by omega, ?_⟩
  have T := ord3 k n s.data.toList a.k a.n a.s.data.toList b.k b.n b.s.data.toList
  unfold vo at hc
  rcases hc with ⟨o1, hc⟩ | ⟨o3, hc, hl⟩ | ⟨o4, hc⟩ | ⟨o5, hc, hl⟩ | ⟨o6, hc⟩ | ⟨o7, hc⟩
  · have h0 : ord k n s.data.toList a.k a.n a.s.data.toList = 0 := by omega
    obtain ⟨e1, e2, e3⟩ := ord_eq0 h0
    rw [isB_iff b _ _ _ hbo] at hc
    rw [e1, e2, e3]
    rcases hc with hc | hc
    · exact absurd hc hb8
    · exact hc.2
  · have h0 : ord k n s.data.toList a.k a.n a.s.data.toList < 0 := by omega
    omega
  · have h0 : ord k n s.data.toList a.k a.n a.s.data.toList ≤ 0 := by omega
    omega
  · have h0 : 0 < ord k n s.data.toList a.k a.n a.s.data.toList := by omega
    omega
  · have h0 : 0 ≤ ord k n s.data.toList a.k a.n a.s.data.toList := by omega
    omega
  · have hbg : beg k s.data.toList a.k a.s.data.toList = true := by
      rcases h with h | h | h | h | h | h | h
      all_goals first | exact h.2 | (exfalso; omega)
    obtain ⟨a2, an⟩ := teOk_pre ha o7
    have hn := may_textN hv (by omega)
    have h0 := beg_ord hbg (show n = a.n by omega)
    rcases hc with ⟨p, hc⟩ | ⟨p, hc⟩ | ⟨p, hc⟩ | ⟨p, hc⟩
    · have := beg_trans hbg hc
      exact Or.inr (Or.inr (Or.inr (Or.inr (Or.inr (Or.inr ⟨p, this⟩)))))
    · omega
    · omega
    · refine Or.inr (Or.inl ⟨p, fun h0 => ?_⟩)
      obtain ⟨e1, e2, e3⟩ := ord_eq0 h0
      rw [e1, e3, hc] at hbg
      cases hbg
/-- where a test holds of an event, what it implies holds of it -/
theorem impP_self {a : Te} (ha : teOk a = true) : impP a a := ⟨rfl, teOk_op ha, teOk_op ha, Or.inl ⟨rfl, rfl, rfl, rfl⟩⟩
theorem impP_there {a : Te} (ha : teOk a = true) (z : Te) (hn : z.name = a.name) (h8 : z.op = 8) : impP a z := ⟨hn.symm, teOk_op ha, by omega, Or.inr (Or.inl h8)⟩
theorem impP_name {a b : Te} (h : impP a b) : a.name = b.name := h.1
theorem impP_is {z a : Te} (ha : teOk a = true) (h8 : z.op = 8) (hn : z.name = a.name) (hk : z.k = 0) (hz : z.n = 0) (hs : z.s = ⟨#[]⟩) : impP z a ↔ a.op = 8 := by
  constructor
  · rintro ⟨_, _, _, h | h | ⟨h, _⟩⟩
    · omega
    · exact h
    · exact absurd h8 h
  · intro h
    exact ⟨hn, by omega, teOk_op ha, Or.inr (Or.inl h)⟩
/-- what is asked to be a value implies just those tests that it is as -/
theorem impP_exact {t : Te} (ht : teOk t = true) (k n : Int) (s : ByteArray) (hv : may k n s.data.toList = true) : impP ⟨t.name, 1, k, n, s⟩ t ↔ isB t k n s = true := by
  have hto := teOk_op ht
  constructor
  · intro h
    exact impP_sound (a := ⟨t.name, 1, k, n, s⟩) (by
      have h1 := (teOk_parts ht).1
      unfold teOk
      simp only [Bool.and_eq_true, decide_eq_true_eq]
      refine ⟨⟨h1, by omega⟩, ?_⟩
      rw [if_neg (by omega)]
      simp only [Bool.and_eq_true]
      exact ⟨hv, by rw [if_neg (by omega)]⟩) ht hv h (by rw [isB_iff _ _ _ _ (by simp)]; right; exact ⟨rfl, Or.inl ⟨rfl, ord_self _ _ _⟩⟩)
  · intro h
    refine ⟨rfl, by simp, hto, ?_⟩
    by_cases h8 : t.op = 8
    · exact Or.inr (Or.inl h8)
    have hh := h
    rw [isB_iff _ _ _ _ hto] at h
    rcases h with h | h
    · exact absurd h h8
    · exact Or.inr (Or.inr ⟨by simp, h.1, Or.inl ⟨rfl, hh⟩⟩)
end PM
end Go.Proofs.YtnpbfjkfbobgaaaGreat
