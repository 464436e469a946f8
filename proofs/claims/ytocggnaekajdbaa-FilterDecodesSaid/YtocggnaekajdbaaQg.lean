/-
  PLAIN FACTS: a filter's test, as the document's own reader has it.
-/
import Derived.Test.YtocggnaekajdbaaPf
import Derived.Test.YtocggnaekajdbaaQf
namespace Go.Proofs.Ytocggnaekajdbaa
namespace PM
set_option linter.unusedVariables false
theorem getV_le (l : List UInt8) : (getV l).2 ≤ l.length := by
  obtain ⟨n1, k1, g1⟩ : ∃ n k, getK l = (n, k) := ⟨_, _, rfl⟩
  obtain ⟨n2, k2, g2⟩ : ∃ n k, getK (l.drop k1) = (n, k) := ⟨_, _, rfl⟩
  obtain ⟨s3, k3, g3⟩ : ∃ s k, getB (l.drop (k1 + k2)) 40 = (s, k) := ⟨_, _, rfl⟩
  have hv := getV_eq l s3 n1 k1 n2 k2 k3 g1 g2 g3
  have h2 := getK_lt l
  have h3 := getK_lt (l.drop k1)
  have h4 := getB_lt (l.drop (k1 + k2)) 40
  rw [g1] at h2
  rw [g2] at h3
  rw [g3] at h4
  rw [List.length_drop] at h3 h4
  simp only at h2 h3 h4
  rw [hv]
  split
  · simp
  · split
    · simp only; omega
    · simp
/-- the test that bytes begin with, and how many these have in all; 0: there is none -/
def getT (l : List UInt8) : Te × Nat :=
  let a := getB l 16
  let b := getK (l.drop a.2)
  if a.2 = 0 ∨ b.2 = 0 ∨ 8 < b.1 then (teR [] 0 (0, 0, []), 0)
  else if b.1 = 8 then (teR a.1 8 (0, 0, []), a.2 + b.2)
  else if (getV (l.drop (a.2 + b.2))).2 = 0 then (teR [] 0 (0, 0, []), 0)
  else (teR a.1 (b.1 : Nat) (getV (l.drop (a.2 + b.2))).1, a.2 + b.2 + (getV (l.drop (a.2 + b.2))).2)
theorem getT_eq (l nm : List UInt8) (k1 n k2 : Nat) (h1 : getB l 16 = (nm, k1)) (h2 : getK (l.drop k1) = (n, k2)) :
    getT l = if k1 = 0 ∨ k2 = 0 ∨ 8 < n then (teR [] 0 (0, 0, []), 0) else if n = 8 then (teR nm 8 (0, 0, []), k1 + k2) else if (getV (l.drop (k1 + k2))).2 = 0 then (teR [] 0 (0, 0, []), 0) else (teR nm (n : Nat) (getV (l.drop (k1 + k2))).1, k1 + k2 + (getV (l.drop (k1 + k2))).2) := by
  unfold getT
  simp only [h1, h2]
theorem getT_le (l : List UInt8) : (getT l).2 ≤ l.length := by
  obtain ⟨nm, k1, h1⟩ : ∃ n k, getB l 16 = (n, k) := ⟨_, _, rfl⟩
  obtain ⟨n, k2, h2⟩ : ∃ n k, getK (l.drop k1) = (n, k) := ⟨_, _, rfl⟩
  have a1 := (getB_lt l 16).1
  have a2 := (getK_lt (l.drop k1)).2
  have a3 := getV_le (l.drop (k1 + k2))
  rw [h1] at a1
  rw [h2] at a2
  rw [List.length_drop] at a2 a3
  simp only at a1 a2 a3
  rw [getT_eq l nm k1 n k2 h1 h2]
  repeat' split
  all_goals (simp only; omega)
theorem readT_getT_no {l : List UInt8} (h : (getT l).2 = 0) : (readT l false).2.2 = true ∨ teOk (readT l false).1 = false := by
  obtain ⟨nm, k1, h1⟩ : ∃ n k, getB l 16 = (n, k) := ⟨_, _, rfl⟩
  obtain ⟨n, k2, h2⟩ : ∃ n k, getK (l.drop k1) = (n, k) := ⟨_, _, rfl⟩
  have e := getT_eq l nm k1 n k2 h1 h2
  have s1 := stepB_getB l 16
  rw [h1] at s1
  have s2 := stepN_getK (l.drop k1)
  rw [h2] at s2
  have s3 := stepV_getV ((l.drop k1).drop k2)
  rw [List.drop_drop] at s3
  simp only at s1 s2
  by_cases c1 : k1 = 0
  · left
    rw [if_pos c1] at s1
    rw [readT_eq l false [] [] [] 0 true true s1 (stepN_wr []), if_neg (by omega), if_neg (by omega)]
    cases hh : (stepV [] true).2.2 with
    | true => rfl
    | false => exact absurd (stepV_wr' hh) (by simp)
  rw [if_neg c1] at s1
  by_cases c2 : k2 = 0
  · left
    rw [if_pos c2] at s2
    rw [readT_eq l false nm _ [] 0 false true s1 s2, if_neg (by omega), if_neg (by omega)]
    cases hh : (stepV [] true).2.2 with
    | true => rfl
    | false => exact absurd (stepV_wr' hh) (by simp)
  rw [if_neg c2] at s2
  rw [readT_eq l false nm _ _ n false false s1 s2]
  by_cases c3 : 8 < n
  · right
    rw [if_pos c3]
    cases hh : teOk (teR nm 0 (0, 0, [])) with
    | false => rfl
    | true => have := (teOk_parts hh).2.1; simp [teR] at this
  rw [if_neg (by omega)] at e
  rw [if_neg c3]
  by_cases c4 : n = 8
  · rw [if_pos c4] at e
    rw [e] at h
    simp only at h
    omega
  rw [if_neg c4] at e ⊢
  by_cases c5 : (getV (l.drop (k1 + k2))).2 = 0
  · left
    rw [if_pos c5] at s3
    rw [List.drop_drop, s3]
  · rw [if_neg c5] at e
    rw [e] at h
    simp only at h
    omega
theorem readT_getT_yes {l : List UInt8} (h : (getT l).2 ≠ 0) : readT l false = ((getT l).1, l.drop (getT l).2, false) := by
  obtain ⟨nm, k1, h1⟩ : ∃ n k, getB l 16 = (n, k) := ⟨_, _, rfl⟩
  obtain ⟨n, k2, h2⟩ : ∃ n k, getK (l.drop k1) = (n, k) := ⟨_, _, rfl⟩
  have e := getT_eq l nm k1 n k2 h1 h2
  have s1 := stepB_getB l 16
  rw [h1] at s1
  have s2 := stepN_getK (l.drop k1)
  rw [h2] at s2
  have s3 := stepV_getV ((l.drop k1).drop k2)
  rw [List.drop_drop] at s3
  simp only at s1 s2
  by_cases c0 : k1 = 0 ∨ k2 = 0 ∨ 8 < n
  · rw [if_pos c0] at e
    rw [e] at h
    exact absurd rfl h
  rw [if_neg c0] at e
  rw [if_neg (by omega)] at s1 s2
  rw [readT_eq l false nm _ _ n false false s1 s2, if_neg (by omega)]
  by_cases c4 : n = 8
  · rw [if_pos c4] at e ⊢
    rw [e, List.drop_drop]
  rw [if_neg c4] at e ⊢
  by_cases c5 : (getV (l.drop (k1 + k2))).2 = 0
  · rw [if_pos c5] at e
    rw [e] at h
    exact absurd rfl h
  rw [if_neg c5] at e s3
  rw [e, List.drop_drop, s3, List.drop_drop]
theorem stepsT_down {k : Nat} {l : List UInt8} {wr : Bool} : ∀ d, (stepsT (k + d) l wr).2.2 = false → (stepsT k l wr).2.2 = false
  | 0, h => h
  | d + 1, h => stepsT_down d (stepsT_prev h)
theorem stepsT_mem {k : Nat} {l : List UInt8} {wr : Bool} {x : Te} (h : x ∈ (stepsT k l wr).1) : ∀ d, x ∈ (stepsT (k + d) l wr).1
  | 0 => h
  | d + 1 => by
    have := stepsT_mem h d
    show x ∈ (stepsT (k + d + 1) l wr).1
    simp only [stepsT, List.mem_append]
    exact Or.inl this
theorem stepsT_fail {n k : Nat} {l : List UInt8} {wr : Bool} (hk : k < n) (h : (stepsT k l wr).2.2 = false) (hz : (getT (stepsT k l wr).2.1).2 = 0) : ¬ ((stepsT n l wr).2.2 = false ∧ filP (stepsT n l wr).1) := by
  rintro ⟨h1, h3⟩
  rw [show n = (k + 1) + (n - (k + 1)) by omega] at h1 h3
  rcases readT_getT_no hz with hr | hr
  · have h2 : (readT (stepsT k l wr).2.1 (stepsT k l wr).2.2).2.2 = false := stepsT_down _ h1
    rw [h, hr] at h2
    cases h2
  · have hm : (readT (stepsT k l wr).2.1 (stepsT k l wr).2.2).1 ∈ (stepsT (k + 1) l wr).1 := by simp [stepsT]
    have := h3.2 _ (stepsT_mem hm _)
    rw [h, hr] at this
    cases this
/-- the filter that bytes begin with, and what is left behind it -/
noncomputable def getF (l : List UInt8) : Option (List Te × List UInt8) :=
  open Classical in
  if (getK l).2 = 0 ∨ 8 < (getK l).1 then none else
  if (stepsT (getK l).1 (l.drop (getK l).2) false).2.2 = false ∧ filP (stepsT (getK l).1 (l.drop (getK l).2) false).1 then some ((stepsT (getK l).1 (l.drop (getK l).2) false).1, (stepsT (getK l).1 (l.drop (getK l).2) false).2.1) else none
theorem getF_none {l : List UInt8} {n k : Nat} (h : getK l = (n, k)) (h1 : k = 0 ∨ 8 < n) : getF l = none := by
  unfold getF
  rw [h, if_pos h1]
theorem getF_no {l : List UInt8} {n k : Nat} (h : getK l = (n, k)) (h1 : ¬ ((stepsT n (l.drop k) false).2.2 = false ∧ filP (stepsT n (l.drop k) false).1)) : getF l = none := by
  unfold getF
  rw [h]
  by_cases hc : k = 0 ∨ 8 < n
  · rw [if_pos hc]
  · rw [if_neg hc, if_neg h1]
theorem getF_yes {l : List UInt8} {n k : Nat} (h : getK l = (n, k)) (h0 : ¬ (k = 0 ∨ 8 < n)) (h1 : (stepsT n (l.drop k) false).2.2 = false) (h2 : filP (stepsT n (l.drop k) false).1) : getF l = some ((stepsT n (l.drop k) false).1, (stepsT n (l.drop k) false).2.1) := by
  unfold getF
  rw [h, if_neg h0, if_pos ⟨h1, h2⟩]
theorem decT_getF (l : List UInt8) : decT l = (getF l).bind fun p => if p.2 = [] then some p.1 else none := by
  obtain ⟨n, k, h⟩ : ∃ n k, getK l = (n, k) := ⟨_, _, rfl⟩
  have hs := stepN_getK l
  rw [h] at hs
  unfold decT
  rw [hs]
  by_cases hk : k = 0
  · rw [if_pos hk, getF_none h (Or.inl hk)]
    exact decF'_no (by simp) (by simp [stepsT])
  rw [if_neg hk]
  by_cases h8 : 8 < n
  · rw [getF_none h (Or.inr h8)]
    exact decF'_big h8
  by_cases hc : (stepsT n (l.drop k) false).2.2 = false ∧ filP (stepsT n (l.drop k) false).1
  · rw [getF_yes h (by omega) hc.1 hc.2]
    simp only [Option.bind_some]
    by_cases he : (stepsT n (l.drop k) false).2.1 = []
    · rw [if_pos he]; exact decF'_yes h8 hc.1 he hc.2
    · rw [if_neg he]; exact decF'_no h8 (fun hh => he hh.2.1)
  · rw [getF_no h hc]
    exact decF'_no h8 (fun hh => hc ⟨hh.1, hh.2.2⟩)
theorem stepsT_next {k : Nat} {l : List UInt8} (h : (stepsT k l false).2.2 = false) (hz : (getT (stepsT k l false).2.1).2 ≠ 0) :
    stepsT (k + 1) l false = ((stepsT k l false).1 ++ [(getT (stepsT k l false).2.1).1], (stepsT k l false).2.1.drop (getT (stepsT k l false).2.1).2, false) := by
  have := readT_getT_yes hz
  show ((stepsT k l false).1 ++ [(readT (stepsT k l false).2.1 (stepsT k l false).2.2).1], (readT (stepsT k l false).2.1 (stepsT k l false).2.2).2.1, (readT (stepsT k l false).2.1 (stepsT k l false).2.2).2.2) = _
  rw [h, this]
end PM
end Go.Proofs.Ytocggnaekajdbaa
