/-
  PLAIN FACTS ON TREES: parents as a list of numbers, who is above whom, how deep, and ways. No program is imported.
-/
import Derived.WalkKit
namespace Go.Proofs.Ytmlgiifebbigeaa
namespace PM
open Go.RowKit
set_option linter.unusedVariables false
/-- parents that make a tree -/
structure Tr (l : List Int) : Prop where
  pos : 0 < l.length
  le : l.length ≤ 16
  root : l.getD 0 0 = -1
  par : ∀ i, 0 < i → i < l.length → 0 ≤ l.getD i 0 ∧ l.getD i 0 < i
/-- a broker's parent, as a place -/
def pn (l : List Int) (n : Nat) : Nat := (l.getD n 0).toNat
theorem Tr.pn_lt {l : List Int} (h : Tr l) {n : Nat} (h0 : 0 < n) (hn : n < l.length) : pn l n < n := by
  have := h.par n h0 hn
  unfold pn
  omega
theorem Tr.pn_eq {l : List Int} (h : Tr l) {n : Nat} (h0 : 0 < n) (hn : n < l.length) : l.getD n 0 = (pn l n : Int) := by
  have := h.par n h0 hn
  unfold pn
  omega
/-- a broker's parent, or -1 -/
def pa (l : List Int) (n : Int) : Int := if 0 < n ∧ n < l.length then l.getD n.toNat 0 else -1
theorem Tr.pa_nat {l : List Int} (h : Tr l) {n : Nat} (h0 : 0 < n) (hn : n < l.length) : pa l n = (pn l n : Int) := by
  rw [← h.pn_eq h0 hn]
  unfold pa
  rw [if_pos (by omega)]
  rfl
theorem pa_zero (l : List Int) : pa l 0 = -1 := by simp [pa]
theorem Tr.pa_lt {l : List Int} (h : Tr l) (n : Int) : pa l n < n ∨ n < 0 := by
  unfold pa
  split
  · have := h.par n.toNat (by omega) (by omega)
    omega
  · omega
theorem Tr.pa_bd {l : List Int} (h : Tr l) (n : Int) : -1 ≤ pa l n ∧ pa l n < l.length := by
  unfold pa
  have := h.pos
  split
  · have := h.par n.toNat (by omega) (by omega)
    omega
  · omega
/-- who is above whom -/
def upN (l : List Int) (a : Nat) (b : Nat) : Bool := if h : a < b then (if h2 : pn l b < b then upN l a (pn l b) else false) else decide (a = b)
termination_by b
/-- the same, of whatever numbers -/
def up (l : List Int) (a b : Int) : Bool := decide (0 ≤ a ∧ a < l.length ∧ 0 ≤ b ∧ b < l.length) && upN l a.toNat b.toNat
/-- how deep one is -/
def dep (l : List Int) (n : Nat) : Nat := if h : 0 < n then (if h2 : pn l n < n then dep l (pn l n) + 1 else 0) else 0
termination_by n
theorem dep_zero (l : List Int) : dep l 0 = 0 := by rw [dep]; simp
theorem Tr.dep_succ {l : List Int} (h : Tr l) {n : Nat} (h0 : 0 < n) (hn : n < l.length) : dep l n = dep l (pn l n) + 1 := by
  rw [dep]
  simp [h0, h.pn_lt h0 hn]
theorem Tr.dep_le {l : List Int} (h : Tr l) : ∀ n, n < l.length → dep l n ≤ n := by
  intro n
  induction n using Nat.strongRecOn with
  | ind n ih =>
    intro hn
    by_cases h0 : 0 < n
    · rw [h.dep_succ h0 hn]
      have h1 := h.pn_lt h0 hn
      have := ih _ h1 (by omega)
      omega
    · have : n = 0 := by omega
      subst this
      simp [dep_zero]
/-- the same, of whatever numbers -/
def depI (l : List Int) (n : Int) : Int := if 0 ≤ n ∧ n < l.length then (dep l n.toNat : Int) else -1
theorem upN_self (l : List Int) (a : Nat) : upN l a a = true := by rw [upN]; simp
theorem upN_gt (l : List Int) {a b : Nat} (h : b < a) : upN l a b = false := by rw [upN]; simp [show ¬ a < b by omega]; omega
theorem Tr.upN_step {l : List Int} (h : Tr l) {a b : Nat} (hab : a < b) (hb : b < l.length) : upN l a b = upN l a (pn l b) := by
  rw [upN]
  simp [hab, h.pn_lt (Nat.lt_of_le_of_lt (Nat.zero_le _) hab) hb]
theorem Tr.upN_trans {l : List Int} (h : Tr l) {a b : Nat} (hab : upN l a b = true) : ∀ c, c < l.length → upN l b c = true → upN l a c = true := by
  intro c
  induction c using Nat.strongRecOn with
  | ind c ih =>
    intro hc hbc
    by_cases h1 : b < c
    · rw [h.upN_step h1 hc] at hbc
      have h2 := h.pn_lt (by omega) hc
      have h3 := ih _ h2 (by omega) hbc
      by_cases h4 : a < c
      · rw [h.upN_step h4 hc]; exact h3
      · exfalso
        by_cases h5 : b < a
        · rw [upN_gt l h5] at hab; cases hab
        · omega
    · by_cases h2 : c < b
      · rw [upN_gt l h2] at hbc; cases hbc
      · have : b = c := by omega
        subst this; exact hab
theorem upN_le {l : List Int} {a b : Nat} (h : upN l a b = true) : a ≤ b := by
  by_cases h1 : b < a
  · rw [upN_gt l h1] at h; cases h
  · omega
theorem Tr.upN_root {l : List Int} (h : Tr l) : ∀ c, c < l.length → upN l 0 c = true := by
  intro c
  induction c using Nat.strongRecOn with
  | ind c ih =>
    intro hc
    by_cases h0 : 0 < c
    · rw [h.upN_step h0 hc]
      exact ih _ (h.pn_lt h0 hc) (by have := h.pn_lt h0 hc; omega)
    · have : c = 0 := by omega
      subst this; exact upN_self l 0
theorem Tr.upN_par {l : List Int} (h : Tr l) {n : Nat} (h0 : 0 < n) (hn : n < l.length) : upN l (pn l n) n = true := by
  rw [h.upN_step (h.pn_lt h0 hn) hn]
  exact upN_self _ _
theorem Tr.dep_up {l : List Int} (h : Tr l) {a : Nat} : ∀ b, b < l.length → upN l a b = true → dep l a ≤ dep l b ∧ (dep l a = dep l b → a = b) := by
  intro b
  induction b using Nat.strongRecOn with
  | ind b ih =>
    intro hb hab
    by_cases h1 : a < b
    · rw [h.upN_step h1 hb] at hab
      have h2 := h.pn_lt (by omega) hb
      have h3 := ih _ h2 (by omega) hab
      rw [h.dep_succ (by omega) hb]
      omega
    · have : a = b := by have := upN_le hab; omega
      subst this
      exact ⟨Nat.le_refl _, fun _ => rfl⟩
/-- the way from one to another one -/
def way (l : List Int) (a b : Nat) : List Nat :=
  if h : a = b then [a] else if h1 : b < a then a :: (if h2 : pn l a < a then way l (pn l a) b else []) else (if h2 : pn l b < b then way l a (pn l b) else []) ++ [b]
termination_by a + b
theorem way_same (l : List Int) (a : Nat) : way l a a = [a] := by rw [way]; simp
theorem Tr.way_up {l : List Int} (h : Tr l) {a b : Nat} (hab : b < a) (ha : a < l.length) : way l a b = a :: way l (pn l a) b := by
  rw [way]
  simp [show ¬ a = b by omega, hab, h.pn_lt (show 0 < a by omega) ha]
theorem Tr.way_down {l : List Int} (h : Tr l) {a b : Nat} (hab : a < b) (hb : b < l.length) : way l a b = way l a (pn l b) ++ [b] := by
  rw [way]
  simp [show ¬ a = b by omega, show ¬ b < a by omega, h.pn_lt (show 0 < b by omega) hb]
/-- the highest broker of a way -/
def top (l : List Int) (a b : Nat) : Nat :=
  if h : a = b then a else if h1 : b < a then (if h2 : pn l a < a then top l (pn l a) b else 0) else (if h2 : pn l b < b then top l a (pn l b) else 0)
termination_by a + b
theorem top_same (l : List Int) (a : Nat) : top l a a = a := by rw [top]; simp
theorem Tr.top_up {l : List Int} (h : Tr l) {a b : Nat} (hab : b < a) (ha : a < l.length) : top l a b = top l (pn l a) b := by
  rw [top]
  simp [show ¬ a = b by omega, hab, h.pn_lt (show 0 < a by omega) ha]
theorem Tr.top_down {l : List Int} (h : Tr l) {a b : Nat} (hab : a < b) (hb : b < l.length) : top l a b = top l a (pn l b) := by
  rw [top]
  simp [show ¬ a = b by omega, show ¬ b < a by omega, h.pn_lt (show 0 < b by omega) hb]
/-- what is said of every way by the three steps -/
theorem Tr.way_ind {l : List Int} (h : Tr l) (p : Nat → Nat → Prop) (hs : ∀ a, a < l.length → p a a)
    (hu : ∀ a b, b < a → a < l.length → p (pn l a) b → p a b) (hd : ∀ a b, a < b → b < l.length → p a (pn l b) → p a b) : ∀ a b, a < l.length → b < l.length → p a b := by
  have key : ∀ n a b, a + b = n → a < l.length → b < l.length → p a b := by
    intro n
    induction n using Nat.strongRecOn with
    | ind n ih =>
      intro a b hn ha hb
      rcases Nat.lt_trichotomy a b with h1 | h1 | h1
      · have h2 := h.pn_lt (show 0 < b by omega) hb
        exact hd a b h1 hb (ih (a + pn l b) (by omega) _ _ rfl ha (by omega))
      · subst h1; exact hs a ha
      · have h2 := h.pn_lt (show 0 < a by omega) ha
        exact hu a b h1 ha (ih (pn l a + b) (by omega) _ _ rfl (by omega) hb)
  exact fun a b => key _ a b rfl
theorem Tr.way_rev {l : List Int} (h : Tr l) : ∀ a b, a < l.length → b < l.length → (way l a b).reverse = way l b a := by
  refine h.way_ind _ ?_ ?_ ?_
  · intro a _; simp [way_same]
  · intro a b hab ha ih
    rw [h.way_up hab ha, h.way_down hab ha, List.reverse_cons, ih]
  · intro a b hab hb ih
    rw [h.way_down hab hb, h.way_up hab hb, List.reverse_append, ih]
    rfl
theorem Tr.way_mem {l : List Int} (h : Tr l) : ∀ a b, a < l.length → b < l.length → ∀ x ∈ way l a b, x ≤ max a b := by
  refine h.way_ind _ ?_ ?_ ?_
  · intro a _ x hx; simp [way_same] at hx; omega
  · intro a b hab ha ih x hx
    rw [h.way_up hab ha] at hx
    have h2 := h.pn_lt (show 0 < a by omega) ha
    rcases List.mem_cons.1 hx with rfl | hx
    · omega
    · have := ih x hx; omega
  · intro a b hab hb ih x hx
    rw [h.way_down hab hb] at hx
    have h2 := h.pn_lt (show 0 < b by omega) hb
    rcases List.mem_append.1 hx with hx | hx
    · have := ih x hx; omega
    · simp at hx; omega
theorem Tr.way_nodup {l : List Int} (h : Tr l) : ∀ a b, a < l.length → b < l.length → (way l a b).Nodup := by
  have key : ∀ a b, a < l.length → b < l.length → b < l.length → (way l a b).Nodup := by
    refine h.way_ind (fun a b => b < l.length → (way l a b).Nodup) ?_ ?_ ?_
    · intro a _ _; simp [way_same]
    · intro a b hab ha ih hb
      rw [h.way_up hab ha, List.nodup_cons]
      have h2 := h.pn_lt (show 0 < a by omega) ha
      refine ⟨fun hm => ?_, ih hb⟩
      have := h.way_mem _ _ (by omega) hb _ hm
      omega
    · intro a b hab hb ih _
      rw [h.way_down hab hb, List.nodup_append]
      have h2 := h.pn_lt (show 0 < b by omega) hb
      refine ⟨ih (by omega), by simp, ?_⟩
      intro x hx y hy
      simp at hy
      subst hy
      have := h.way_mem _ _ (by omega) (by omega) _ hx
      omega
  exact fun a b ha hb => key a b ha hb hb
/-- the first step of a way, and what is left -/
theorem Tr.way_step {l : List Int} (h : Tr l) : ∀ a b, a < l.length → b < l.length → a ≠ b → ∃ s, s < l.length ∧ way l a b = a :: way l s b ∧ (l.getD s 0 = a ∨ l.getD a 0 = s) := by
  have key : ∀ a b, a < l.length → b < l.length → (b < l.length ∧ a < l.length) → a ≠ b → ∃ s, s < l.length ∧ s ≤ max a b ∧ way l a b = a :: way l s b ∧ (l.getD s 0 = a ∨ l.getD a 0 = s) := by
    refine h.way_ind (fun a b => (b < l.length ∧ a < l.length) → a ≠ b → ∃ s, s < l.length ∧ s ≤ max a b ∧ way l a b = a :: way l s b ∧ (l.getD s 0 = a ∨ l.getD a 0 = s)) ?_ ?_ ?_
    · intro a _ _ hne; exact absurd rfl hne
    · intro a b hab ha ih hb hne
      have h2 := h.pn_lt (show 0 < a by omega) ha
      exact ⟨pn l a, by omega, by omega, h.way_up hab ha, .inr (h.pn_eq (by omega) ha)⟩
    · intro a b hab hb ih _ hne
      have h2 := h.pn_lt (show 0 < b by omega) hb
      by_cases he : a = pn l b
      · refine ⟨b, hb, by omega, ?_, .inl (by rw [h.pn_eq (by omega) hb, he])⟩
        rw [h.way_down hab hb, ← he, way_same, way_same]; rfl
      · obtain ⟨s, hs, hm, hw, hp⟩ := ih ⟨by omega, by omega⟩ he
        have hsb : s < b := by omega
        refine ⟨s, hs, by omega, ?_, hp⟩
        rw [h.way_down hab hb, hw, h.way_down hsb hb]; rfl
  intro a b ha hb hne
  obtain ⟨s, h1, _, h2, h3⟩ := key a b ha hb ⟨hb, ha⟩ hne
  exact ⟨s, h1, h2, h3⟩
theorem Tr.way_head {l : List Int} (h : Tr l) {a b : Nat} (ha : a < l.length) (hb : b < l.length) : ∃ r, way l a b = a :: r := by
  by_cases he : a = b
  · subst he; exact ⟨[], way_same l a⟩
  · obtain ⟨s, _, hw, _⟩ := h.way_step a b ha hb he
    exact ⟨_, hw⟩
theorem Tr.way_last {l : List Int} (h : Tr l) {a b : Nat} (ha : a < l.length) (hb : b < l.length) : ∃ r, way l a b = r ++ [b] := by
  obtain ⟨r, hr⟩ := h.way_head hb ha
  refine ⟨r.reverse, ?_⟩
  rw [← h.way_rev b a hb ha, hr]
  simp
theorem Tr.way_top {l : List Int} (h : Tr l) : ∀ a b, a < l.length → b < l.length → (b < l.length ∧ a < l.length) →
    top l a b ∈ way l a b ∧ upN l (top l a b) a = true ∧ upN l (top l a b) b = true ∧ (∀ x ∈ way l a b, x < l.length ∧ upN l (top l a b) x = true) ∧ (way l a b).length + 2 * dep l (top l a b) = dep l a + dep l b + 1 := by
  refine h.way_ind _ ?_ ?_ ?_
  · intro a ha _
    rw [top_same, way_same]
    refine ⟨by simp, upN_self _ _, upN_self _ _, ?_, by simp; omega⟩
    intro x hx
    simp at hx
    subst hx
    exact ⟨ha, upN_self _ _⟩
  · intro a b hab ha ih ⟨hb, _⟩
    have h2 := h.pn_lt (show 0 < a by omega) ha
    obtain ⟨i1, i2, i3, i4, i5⟩ := ih ⟨hb, by omega⟩
    rw [h.top_up hab ha, h.way_up hab ha]
    have ht := h.upN_trans i2 a ha (h.upN_par (by omega) ha)
    refine ⟨List.mem_cons_of_mem _ i1, ht, i3, ?_, ?_⟩
    · intro x hx
      rcases List.mem_cons.1 hx with rfl | hx
      · exact ⟨ha, ht⟩
      · exact i4 x hx
    · rw [List.length_cons, h.dep_succ (by omega) ha]; omega
  · intro a b hab hb ih ⟨_, ha⟩
    have h2 := h.pn_lt (show 0 < b by omega) hb
    obtain ⟨i1, i2, i3, i4, i5⟩ := ih ⟨by omega, ha⟩
    rw [h.top_down hab hb, h.way_down hab hb]
    have ht := h.upN_trans i3 b hb (h.upN_par (by omega) hb)
    refine ⟨List.mem_append_left _ i1, i2, ht, ?_, ?_⟩
    · intro x hx
      rcases List.mem_append.1 hx with hx | hx
      · exact i4 x hx
      · simp at hx; subst hx; exact ⟨hb, ht⟩
    · rw [List.length_append, h.dep_succ (show 0 < b by omega) hb]; simp; omega
theorem Tr.way_len {l : List Int} (h : Tr l) {a b : Nat} (ha : a < l.length) (hb : b < l.length) : (way l a b).length ≤ 31 := by
  have h1 := (h.way_top a b ha hb ⟨hb, ha⟩).2.2.2.2
  have h2 := h.dep_le a ha
  have h3 := h.dep_le b hb
  have := h.le
  omega
/-- a broker's kids -/
def kidsN (l : List Int) (n : Int) : List Nat := (List.range l.length).filter fun k : Nat => decide (pa l k = n)
theorem Tr.kids_sum {l : List Int} (h : Tr l) : ∀ m, m ≤ l.length → ((List.range m).map fun n : Nat => (kidsN l n).length).sum = ((List.range l.length).filter fun k : Nat => decide (0 ≤ pa l k ∧ pa l k < m)).length := by
  have one : ∀ (m : Nat) (r : List Nat), (r.filter fun k : Nat => decide (0 ≤ pa l k ∧ pa l k < m)).length + (r.filter fun k : Nat => decide (pa l k = m)).length = (r.filter fun k : Nat => decide (0 ≤ pa l k ∧ pa l k < ((m + 1 : Nat) : Int))).length := by
    intro m r
    induction r with
    | nil => rfl
    | cons k r ihr =>
      rw [List.filter_cons, List.filter_cons, List.filter_cons]
      by_cases h1 : 0 ≤ pa l k ∧ pa l k < (m : Int)
      · rw [if_pos (decide_eq_true h1), if_neg (by simp; omega), if_pos (decide_eq_true (by omega))]
        simp only [List.length_cons]
        omega
      · by_cases h2 : pa l k = (m : Int)
        · rw [if_neg (by simpa using h1), if_pos (decide_eq_true h2), if_pos (decide_eq_true (by omega))]
          simp only [List.length_cons]
          omega
        · rw [if_neg (by simpa using h1), if_neg (by simpa using h2), if_neg (by simp; omega)]
          omega
  intro m
  induction m with
  | zero =>
    intro _
    have : ((List.range l.length).filter fun k : Nat => decide (0 ≤ pa l k ∧ pa l k < ((0 : Nat) : Int))) = [] := by
      rw [List.filter_eq_nil_iff]
      intro k _
      simp
    rw [this]; rfl
  | succ m ih =>
    intro hm
    rw [List.range_succ, List.map_append, List.sum_append, ih (by omega), ← one m]
    simp [kidsN]
theorem Tr.kids_all {l : List Int} (h : Tr l) : ((List.range l.length).map fun n : Nat => (kidsN l n).length).sum + 1 = l.length := by
  rw [h.kids_sum _ (Nat.le_refl _)]
  have hp := h.pos
  have e : ∀ m, m ≤ l.length → ((List.range m).filter fun k : Nat => decide (0 ≤ pa l k ∧ pa l k < l.length)).length = m - 1 := by
    intro m
    induction m with
    | zero => intro _; rfl
    | succ m ih =>
      intro hm
      rw [List.range_succ, List.filter_append, List.length_append, ih (by omega)]
      by_cases h0 : 0 < m
      · have h1 := h.pa_nat h0 (by omega)
        have h2 := h.pn_lt h0 (by omega)
        have h3 : 0 ≤ pa l m ∧ pa l m < l.length := by omega
        simp [h3]
        omega
      · have : m = 0 := by omega
        subst this
        simp [pa_zero]
  rw [e _ (Nat.le_refl _)]
  omega
theorem Tr.up_step {l : List Int} (h : Tr l) {n k : Int} (hn : 0 ≤ n) (hk : n < k) : up l n k = up l n (pa l k) := by
  by_cases h1 : k < l.length
  · have h2 := h.pa_nat (n := k.toNat) (by omega) (by omega)
    rw [show ((k.toNat : Nat) : Int) = k by omega] at h2
    have h3 := h.pn_lt (n := k.toNat) (by omega) (by omega)
    have h4 := h.upN_step (a := n.toNat) (b := k.toNat) (by omega) (by omega)
    unfold up
    rw [h4, h2]
    rw [show decide (0 ≤ n ∧ n < l.length ∧ 0 ≤ k ∧ k < l.length) = true from decide_eq_true (by omega), show decide (0 ≤ n ∧ n < l.length ∧ 0 ≤ ((pn l k.toNat : Nat) : Int) ∧ ((pn l k.toNat : Nat) : Int) < l.length) = true from decide_eq_true (by omega)]
    simp
  · have h2 : pa l k = -1 := if_neg (by omega)
    rw [h2]
    unfold up
    rw [decide_eq_false (by omega), decide_eq_false (by omega)]
    simp
theorem up_end (l : List Int) {n k : Int} (hn : 0 ≤ n ∧ n < l.length) (hk : k ≤ n) : up l n k = (n == k) := by
  unfold up
  by_cases h1 : k = n
  · subst h1
    simp [hn, upN_self]
  · have h2 : (n == k) = false := by simp; omega
    rw [h2]
    by_cases h3 : 0 ≤ k
    · rw [upN_gt l (by omega)]; simp
    · rw [decide_eq_false (by omega)]; simp
theorem up_out (l : List Int) {n k : Int} (hn : ¬ (0 ≤ n ∧ n < l.length)) : up l n k = false := by
  unfold up
  rw [decide_eq_false (by omega)]; simp
theorem Tr.dep_step {l : List Int} (h : Tr l) {k : Int} (hk : 0 ≤ k ∧ k < l.length) : depI l k = 1 + depI l (pa l k) := by
  have e1 : depI l k = (dep l k.toNat : Int) := if_pos hk
  by_cases h0 : 0 < k
  · have h2 := h.pa_nat (n := k.toNat) (by omega) (by omega)
    rw [show ((k.toNat : Nat) : Int) = k by omega] at h2
    have h3 := h.pn_lt (n := k.toNat) (by omega) (by omega)
    rw [h2, e1, h.dep_succ (by omega) (by omega), show depI l ((pn l k.toNat : Nat) : Int) = (dep l (pn l k.toNat) : Int) from if_pos (by omega)]
    omega
  · have : k = 0 := by omega
    subst this
    rw [pa_zero, e1]
    simp [dep_zero, depI]
theorem Tr.depI_bd {l : List Int} (h : Tr l) (k : Int) : -1 ≤ depI l k ∧ depI l k ≤ 15 := by
  unfold depI
  split
  · have := h.dep_le k.toNat (by omega)
    have := h.le
    omega
  · omega
theorem depI_neg (l : List Int) {k : Int} (hk : k < 0) : depI l k = -1 := if_neg (by omega)
theorem depI_out (l : List Int) {k : Int} (hk : ¬ (0 ≤ k ∧ k < l.length)) : depI l k = -1 := if_neg hk
/-- one list turned about, as far as some step -/
theorem rev_end {α : Type} (l c : List α) (i j : Nat) (hl : c.length = l.length) (hij : i + j + 1 = l.length ∨ (l.length = 0 ∧ i = 0)) (hge : j ≤ i) (h : ∀ t, t < l.length → c[t]? = if t < i ∨ j < t then l[l.length - 1 - t]? else l[t]?) : c = l.reverse := by
  apply List.ext_getElem?
  intro t
  by_cases ht : t < l.length
  · rw [h t ht, List.getElem?_reverse ht]
    split
    · rfl
    · congr 1; omega
  · rw [List.getElem?_eq_none (by omega), List.getElem?_eq_none (by simp; omega)]
end PM
end Go.Proofs.Ytmlgiifebbigeaa
