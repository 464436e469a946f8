/-
  postilionref15.Apply.
-/
import Derived.Test.YtnpbfjkfbobgaaaGreatBj
import Derived.Test.YtnpbfjkfbobgaaaGreatBr
import Derived.BigQuiet
namespace Go.Proofs.YtnpbfjkfbobgaaaGreat
open Go.RowKit
set_option linter.unusedVariables false
set_option linter.unusedSimpArgs false
namespace PM
def rstep (kd : Int) (s : Sb) (a : List Sb × Bool) (z : Sb) : List Sb × Bool :=
  (if (sameS s z && (kd == 2 || kd == 3)) = true then (if (!a.2 && !bef z s) = true then a.1 ++ [s] else a.1) else (if (!a.2 && !bef z s) = true then a.1 ++ [s] else a.1) ++ [z], a.2 || (!a.2 && !bef z s))
def rst (kd : Int) (s : Sb) (l : List Sb) : List Sb × Bool := l.foldl (rstep kd s) ([], kd != 2)
/-- what the document lays down -/
def rapL (kd : Int) (s : Sb) (l : List Sb) : List Sb := if (rst kd s l).2 = true then (rst kd s l).1 else (rst kd s l).1 ++ [s]
theorem rst_last (kd : Int) (s : Sb) (l : List Sb) (z : Sb) : rst kd s (l ++ [z]) = rstep kd s (rst kd s l) z := by
  unfold rst
  rw [List.foldl_append]
  rfl
theorem rst_snoc {kd : Int} {s : Sb} {l : List Sb} {k : Nat} {z : Sb} (h : l[k]? = some z) : rst kd s (l.take (k + 1)) = rstep kd s (rst kd s (l.take k)) z := by
  rw [take_at h, rst_last]
theorem snoc_ind {p : List Sb → Prop} (h0 : p []) (h1 : ∀ l z, p l → p (l ++ [z])) (l : List Sb) : p l := by
  have : ∀ n, ∀ l : List Sb, l.length = n → p l := by
    intro n
    induction n with
    | zero => intro l hl; rw [List.length_eq_zero_iff.1 hl]; exact h0
    | succ n ih =>
      intro l hl
      have hne : l ≠ [] := by intro h; rw [h] at hl; cases hl
      rw [← List.dropLast_concat_getLast hne]
      exact h1 _ _ (ih _ (by rw [List.length_dropLast, hl]; omega))
  exact this _ l rfl
theorem rst_len (kd : Int) (s : Sb) (l : List Sb) : (rst kd s l).1.length ≤ 2 * l.length := by
  refine snoc_ind (p := fun l => (rst kd s l).1.length ≤ 2 * l.length) (by simp [rst]) ?_ l
  intro l z ih
  rw [rst_last]
  unfold rstep
  simp only [List.length_append, List.length_cons, List.length_nil]
  split <;> split <;> simp <;> omega
theorem Rise.snoc {l : List Sb} {z : Sb} (h : Rise (l ++ [z])) : Rise l ∧ ∀ x ∈ l, bef x z = true := by
  unfold Rise at h ⊢
  rw [List.pairwise_append] at h
  exact ⟨h.1, fun x hx => h.2.2 x hx z (by simp)⟩
theorem same_sym (x y : Sb) : sameS x y = sameS y x := by
  unfold sameS sameB
  rw [decide_eq_decide.2 (eq_comm (a := y.cl) (b := x.cl)), decide_eq_decide.2 (eq_comm (a := y.sub) (b := x.sub))]
theorem rst_two (s : Sb) (l : List Sb) : Rise l → (∀ x ∈ l, bef x s = true) ∧ rst 2 s l = (l, false) ∨ (∃ x ∈ l, bef x s = false) ∧ rst 2 s l = (insL s l, true) := by
  refine snoc_ind (p := fun l => Rise l → (∀ x ∈ l, bef x s = true) ∧ rst 2 s l = (l, false) ∨ (∃ x ∈ l, bef x s = false) ∧ rst 2 s l = (insL s l, true)) (fun _ => .inl ⟨fun x hx => absurd hx (by simp), rfl⟩) ?_ l
  intro l z ih hr
  obtain ⟨hr1, hz⟩ := hr.snoc
  rcases ih hr1 with ⟨h1, h2⟩ | ⟨⟨x, hx, hb⟩, h2⟩
  · cases hbz : bef z s
    · refine .inr ⟨⟨z, by simp, hbz⟩, ?_⟩
      rw [rst_last, h2]
      unfold rstep
      cases hsm : sameS s z
      · have h3 : bef s z = true := bef_or _ _ (by rw [same_sym]; exact hsm) hbz
        have := insL_of (s := s) (a := l) (m := []) (b := [z]) h1 (fun x hx => by cases hx) (fun x hx => by simp at hx; subst hx; exact h3)
        rw [List.append_nil] at this
        rw [this]
        simp [hbz]
      · have := insL_of (s := s) (a := l) (m := [z]) (b := []) h1 (fun x hx => by simp at hx; subst hx; exact hsm) (fun x hx => by cases hx)
        rw [List.append_nil] at this
        rw [this]
        simp [hbz]
    · refine .inl ⟨fun x hx => ?_, ?_⟩
      · rcases List.mem_append.1 hx with h | h
        · exact h1 x h
        · simp at h; subst h; exact hbz
      · rw [rst_last, h2]
        unfold rstep
        have hsm : sameS s z = false := by
          cases h : sameS s z
          · rfl
          · rw [(same_no h).2] at hbz; cases hbz
        simp [hbz, hsm]
  · have hbz : bef z s = false := by
      cases h : bef z s
      · rfl
      · rw [bef_tr (hz x hx) h] at hb; cases hb
    refine .inr ⟨⟨x, by simp [hx], hb⟩, ?_⟩
    rw [rst_last, h2]
    unfold rstep
    cases hsm : sameS s z
    · have h3 : bef s z = true := bef_or _ _ (by rw [same_sym]; exact hsm) hbz
      simp [insL, hbz, h3]
    · simp [insL, hbz, (same_no hsm).1]
theorem rst_three (s : Sb) (l : List Sb) : rst 3 s l = (l.filter (pS fun cl sb => !sameB s.cl s.sub cl sb), true) := by
  refine snoc_ind (p := fun l => rst 3 s l = (l.filter (pS fun cl sb => !sameB s.cl s.sub cl sb), true)) rfl ?_ l
  intro l z ih
  rw [rst_last, ih, List.filter_append]
  unfold rstep
  cases hsm : sameS s z
  · have : pS (fun cl sb => !sameB s.cl s.sub cl sb) z = true := by show (!sameS s z) = true; rw [hsm]; rfl
    simp [this]
  · have : pS (fun cl sb => !sameB s.cl s.sub cl sb) z = false := by show (!sameS s z) = false; rw [hsm]; rfl
    simp [this]
theorem rst_other {kd : Int} (h2 : ¬ kd = 2) (h3 : ¬ kd = 3) (s : Sb) (l : List Sb) : rst kd s l = (l, true) := by
  refine snoc_ind (p := fun l => rst kd s l = (l, true)) ?_ ?_ l
  · simp [rst, h2]
  · intro l z ih
    rw [rst_last, ih]
    unfold rstep
    simp [h2, h3]
theorem rapL_eq {kd : Int} {s : Sb} {l : List Sb} (hr : Rise l) : rapL kd s l = applyL kd s l := by
  unfold rapL applyL
  by_cases h2 : kd = 2
  · subst h2
    rw [if_pos (rfl : (2 : Int) = 2)]
    rcases rst_two s l hr with ⟨h1, h⟩ | ⟨_, h⟩
    · rw [h]
      have := insL_of (s := s) (a := l) (m := []) (b := []) h1 (fun x hx => by cases hx) (fun x hx => by cases hx)
      rw [List.append_nil, List.append_nil] at this
      simp [this]
    · rw [h]; simp
  · rw [if_neg h2]
    by_cases h3 : kd = 3
    · subst h3
      rw [rst_three]; simp
    · rw [rst_other h2 h3]; simp [h3]
end PM
end Go.Proofs.YtnpbfjkfbobgaaaGreat
