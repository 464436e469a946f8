/-
  PLAIN FACTS ON COVERING AND REDUCING.
-/
import Derived.Test.YtnpbfjkfbobgaaaGreatKb
import Derived.Test.YtnpbfjkfbobgaaaGreatNg
namespace Go.Proofs.YtnpbfjkfbobgaaaGreat
namespace PM
set_option linter.unusedVariables false
set_option linter.unusedSimpArgs false
theorem chkP_mayK {es : List At} (h : chkP es) {x : At} (hx : x ∈ es) : may x.k x.n x.s.data.toList = true := by
  obtain ⟨i, hi⟩ := List.mem_iff_getElem?.1 hx
  have := (h.2.2 i (List.getElem?_eq_some_iff.1 hi).1 x hi).1
  unfold atOk at this
  simp only [Bool.and_eq_true] at this
  exact this.2
theorem impP_holdsK {a b : Te} (ha : teOk a = true) (hb : teOk b = true) {es : List At} (he : ∀ x ∈ es, may x.k x.n x.s.data.toList = true) (hi : impP a b) (h : holdsB a es = true) : holdsB b es = true := by
  unfold holdsB at *
  rw [← impP_name hi]
  cases hf : es.find? (fun x => x.name.toList == a.name.toList) with
  | none => rw [hf] at h; exact h
  | some x =>
    rw [hf] at h
    exact impP_sound ha hb (he x (List.mem_of_find?_eq_some hf)) hi h
theorem covB_iff {f g : List Te} : covB f g = true ↔ ∀ t ∈ f, ∃ y ∈ g, impB y t = true := by
  unfold covB anyI
  rw [List.all_eq_true]
  exact ⟨fun h t ht => List.any_eq_true.1 (h t ht), fun h t ht => List.any_eq_true.2 (h t ht)⟩
theorem covB_sound {f g : List Te} {es : List At} (hf : filP f) (hg : filP g) (he : chkP es) (h : covB f g = true) (hm : matchB g es = true) : matchB f es = true := by
  unfold matchB at *
  rw [List.all_eq_true] at *
  intro t ht
  obtain ⟨y, hy, hi⟩ := covB_iff.1 h t ht
  exact impP_holdsK (hg.2 y hy) (hf.2 t ht) (fun x hx => chkP_mayK he hx) (of_decide_eq_true hi) (hm y hy)
theorem covB_refl {f : List Te} (hf : filP f) : covB f f = true := covB_iff.2 fun t ht => ⟨t, ht, decide_eq_true (impP_self (hf.2 t ht))⟩
theorem covB_more {f : List Te} (hf : filP f) (m : List Te) : covB f (f ++ m) = true := covB_iff.2 fun t ht => ⟨t, by simp [ht], decide_eq_true (impP_self (hf.2 t ht))⟩
theorem covB_nil (f : List Te) : covB [] f = true := rfl
theorem covB_trans {f g h : List Te} (hf : filP f) (hg : filP g) (hh : filP h) (h1 : covB f g = true) (h2 : covB g h = true) : covB f h = true := by
  rw [covB_iff] at *
  intro t ht
  obtain ⟨y, hy, hi⟩ := h1 t ht
  obtain ⟨z, hz, hj⟩ := h2 y hy
  exact ⟨z, hz, decide_eq_true (impP_trans (hh.2 z hz) (hg.2 y hy) (hf.2 t ht) (of_decide_eq_true hj) (of_decide_eq_true hi))⟩
theorem covB_empty {x : List Te} : covB x [] = true ↔ x = [] := by
  rw [covB_iff]
  constructor
  · intro h
    match x, h with
    | [], _ => rfl
    | t :: x, h => obtain ⟨y, hy, _⟩ := h t (by simp); cases hy
  · rintro rfl; simp
section
variable {α : Type} {imp : α → α → Bool}
theorem sv_st : ∀ (r st : List α) (x : α), x ∈ st → x ∈ sv imp st r
  | [], st, x, h => h
  | t :: r, st, x, h => by
    rw [sv]
    split
    · exact sv_st r st x h
    · exact sv_st r _ x (by simp [h])
theorem sv_sub : ∀ (r st : List α) (x : α), x ∈ sv imp st r → x ∈ st ∨ x ∈ r
  | [], st, x, h => .inl h
  | t :: r, st, x, h => by
    rw [sv] at h
    split at h
    · rcases sv_sub r st x h with h | h
      · exact .inl h
      · exact .inr (by simp [h])
    · rcases sv_sub r _ x h with h | h
      · simp only [List.mem_append, List.mem_singleton] at h
        rcases h with h | rfl
        · exact .inl h
        · exact .inr (by simp)
      · exact .inr (by simp [h])
theorem sv_len : ∀ (r st : List α), (sv imp st r).length ≤ st.length + r.length
  | [], st => by simp [sv]
  | t :: r, st => by
    rw [sv]
    split
    · have := sv_len r st
      simp; omega
    · have := sv_len r (st ++ [t])
      simp at this ⊢; omega
theorem sv_any {H : α → Prop} : ∀ (r st : List α), (∀ x y, (x ∈ st ∨ x ∈ r) → (y ∈ st ∨ y ∈ r) → imp x y = true → H y → H x) → (∃ x ∈ r, H x) → ∃ x ∈ sv imp st r, H x
  | [], _, _, h => by obtain ⟨x, hx, _⟩ := h; cases hx
  | t :: r, st, hi, h => by
    have hsub : ∀ x, x ∈ st ∨ x ∈ r → x ∈ st ∨ x ∈ t :: r := fun x hx => hx.imp id (by simp; exact .inr)
    have hsub2 : ∀ x, x ∈ st ++ [t] ∨ x ∈ r → x ∈ st ∨ x ∈ t :: r := fun x hx => by
      simp only [List.mem_append, List.mem_singleton] at hx
      rcases hx with (hx | rfl) | hx
      · exact .inl hx
      · exact .inr (by simp)
      · exact .inr (by simp [hx])
    obtain ⟨x, hx, hH⟩ := h
    rw [sv]
    split
    · rename_i hc
      have ih := sv_any r st (fun x y hx hy => hi x y (hsub x hx) (hsub y hy))
      simp only [List.mem_cons] at hx
      rcases hx with rfl | hx
      · simp only [Bool.or_eq_true, List.any_eq_true] at hc
        rcases hc with ⟨y, hy, hc⟩ | ⟨y, hy, hc⟩
        · exact ⟨y, sv_st r st y hy, hi y x (.inl hy) (.inr (by simp)) hc hH⟩
        · exact ih ⟨y, hy, hi y x (.inr (by simp [hy])) (.inr (by simp)) hc hH⟩
      · exact ih ⟨x, hx, hH⟩
    · have ih := sv_any r (st ++ [t]) (fun x y hx hy => hi x y (hsub2 x hx) (hsub2 y hy))
      simp only [List.mem_cons] at hx
      rcases hx with rfl | hx
      · exact ⟨x, sv_st r _ x (by simp), hH⟩
      · exact ih ⟨x, hx, hH⟩
/-- none does away with another one -/
def Nim (imp : α → α → Bool) (l : List α) : Prop := l.Pairwise fun x y => imp x y = false ∧ imp y x = false
theorem sv_nim : ∀ (r st : List α), Nim imp st → (∀ x ∈ st, ∀ y ∈ r, imp y x = false) → Nim imp (sv imp st r)
  | [], st, h, _ => h
  | t :: r, st, h, hb => by
    rw [sv]
    split
    · exact sv_nim r st h (fun x hx y hy => hb x hx y (by simp [hy]))
    · rename_i hc
      simp only [Bool.or_eq_true, List.any_eq_true, not_or, not_exists, not_and, Bool.not_eq_true] at hc
      refine sv_nim r _ ?_ ?_
      · unfold Nim at *
        rw [List.pairwise_append]
        refine ⟨h, by simp, fun x hx y hy => ?_⟩
        simp only [List.mem_singleton] at hy
        subst hy
        exact ⟨hc.1 x hx, hb x hx y (by simp)⟩
      · intro x hx y hy
        simp only [List.mem_append, List.mem_singleton] at hx
        rcases hx with hx | rfl
        · exact hb x hx y (by simp [hy])
        · exact hc.2 y hy
theorem sv_id : ∀ (r st : List α), Nim imp (st ++ r) → sv imp st r = st ++ r
  | [], st, _ => by simp [sv]
  | t :: r, st, h => by
    have h0 := h
    unfold Nim at h
    rw [List.pairwise_append, List.pairwise_cons] at h
    rw [sv_in (List.any_eq_false.2 fun x hx => by rw [(h.2.2 x hx t (by simp)).1]; simp) (List.any_eq_false.2 fun x hx => by rw [(h.2.1.1 x hx).2]; simp), sv_id r _ (by simpa using h0)]
    simp
theorem sv_twice (hr : ∀ (s : List α), True) : ∀ (l m : List α), (∀ x ∈ l, x ∈ m ∧ imp x x = true) → sv imp [] (l ++ m) = sv imp [] m
  | [], m, _ => rfl
  | t :: l, m, h => by
    have ht := h t (by simp)
    rw [List.cons_append, sv_out (.inr (List.any_eq_true.2 ⟨t, by simp [ht.1], ht.2⟩))]
    exact sv_twice hr l m (fun x hx => h x (by simp [hx]))
end
theorem redL_mem {l : List (List Te)} {x : List Te} (h : x ∈ redL l) : x ∈ l := (sv_sub _ _ _ h).resolve_left (by simp)
theorem redL_len (l : List (List Te)) : (redL l).length ≤ l.length := by
  have := sv_len (imp := covB) l []
  simpa [redL] using this
theorem redL_any {l : List (List Te)} {es : List At} (hl : ∀ x ∈ l, filP x) (he : chkP es) : ((redL l).any fun x => matchB x es) = (l.any fun x => matchB x es) := by
  rw [Bool.eq_iff_iff, List.any_eq_true, List.any_eq_true]
  constructor
  · rintro ⟨x, hx, hm⟩
    exact ⟨x, redL_mem hx, hm⟩
  · intro h
    exact sv_any l [] (fun x y hx hy hi hm => covB_sound (hl x (hx.resolve_left (by simp))) (hl y (hy.resolve_left (by simp))) he hi hm) h
theorem redL_nim (l : List (List Te)) : Nim covB (redL l) := sv_nim l [] .nil (fun x hx => absurd hx (by simp))
theorem redL_no {l : List (List Te)} {a b : Nat} {x y : List Te} (hab : a ≠ b) (hx : (redL l)[a]? = some x) (hy : (redL l)[b]? = some y) : covB x y = false := by
  obtain ⟨ha, rfl⟩ := List.getElem?_eq_some_iff.1 hx
  obtain ⟨hb, rfl⟩ := List.getElem?_eq_some_iff.1 hy
  rcases Nat.lt_or_gt_of_ne hab with h | h
  · exact (List.pairwise_iff_getElem.1 (redL_nim l) a b ha hb h).1
  · exact (List.pairwise_iff_getElem.1 (redL_nim l) b a hb ha h).2
theorem redL_redL (l : List (List Te)) : redL (redL l) = redL l := sv_id _ [] (by simpa using redL_nim l)
theorem redL_some (l : List (List Te)) : (0 < (redL l).length) = (0 < l.length) := by
  apply propext
  constructor
  · intro h; exact Nat.lt_of_lt_of_le h (redL_len l)
  · intro h
    match l, h with
    | x :: l, _ =>
      obtain ⟨y, hy, _⟩ := sv_any (imp := covB) (H := fun _ => True) (x :: l) [] (fun _ _ _ _ _ _ => trivial) ⟨x, by simp, trivial⟩
      exact List.length_pos_of_mem hy
theorem redL_twice {l : List (List Te)} (hl : ∀ x ∈ l, filP x) : redL (l ++ l) = redL l := sv_twice (fun _ => trivial) l l (fun x hx => ⟨hx, covB_refl (hl x hx)⟩)
theorem redL_one (f : List Te) : redL [f] = [f] := sv_id [f] [] (by simp [Nim])
theorem sv_empty : ∀ (r st : List (List Te)), ([] ∈ st ∨ [] ∈ r) → (∀ x ∈ st, x = []) → st.length ≤ 1 → sv covB st r = [[]]
  | [], st, h, h1, h2 => by
    have h := h.resolve_right (by simp)
    match st, h, h1, h2 with
    | [x], h, h1, _ => have := h1 x (by simp); subst this; rfl
  | t :: r, st, h, h1, h2 => by
    by_cases ht : t = []
    · subst ht
      rw [sv]
      split
      · rename_i hc
        refine sv_empty r st ?_ h1 h2
        simp only [Bool.or_eq_true, List.any_eq_true] at hc
        rcases hc with ⟨y, hy, hc⟩ | ⟨y, hy, hc⟩
        · rw [covB_empty] at hc; subst hc; exact .inl hy
        · rw [covB_empty] at hc; subst hc; exact .inr hy
      · rename_i hc
        simp only [Bool.or_eq_true, List.any_eq_true, not_or, not_exists, not_and, Bool.not_eq_true] at hc
        have hst : st = [] := by
          match st, h1, hc with
          | [], _, _ => rfl
          | x :: st, h1, hc =>
            have h3 := hc.1 x (by simp)
            rw [h1 x (by simp)] at h3
            cases h3
        subst hst
        exact sv_empty r _ (.inl (by simp)) (by simp) (by simp)
    · have h' : [] ∈ st ∨ [] ∈ r := h.imp id (by simp; exact fun h => h.resolve_left (fun e => ht e))
      rw [sv_out (h'.imp (fun h => List.any_eq_true.2 ⟨[], h, rfl⟩) (fun h => List.any_eq_true.2 ⟨[], h, rfl⟩))]
      exact sv_empty r st h' h1 h2
theorem redL_empty {l : List (List Te)} (h : [] ∈ l) : redL l = [[]] := sv_empty l [] (.inr h) (by simp) (by simp)
end PM
end Go.Proofs.YtnpbfjkfbobgaaaGreat
