/-
  SUBSCRIPTIONS THAT RISE; slices.Insert onto none.
-/
import Derived.Test.YtnpbfjkfbobgaaaGreatBi
import Derived.Test.YtnpbfjkfbobgaaaGreatBb
import Derived.Test.YtnpbfjkfbobgaaaGreatVk
namespace Go.Proofs.YtnpbfjkfbobgaaaGreat
open Go.RowKit
set_option linter.unusedVariables false
set_option linter.unusedSimpArgs false
namespace PM
/-- the one comes before the other -/
def bef (x y : Sb) : Bool := behB x.cl x.sub y.cl y.sub
def sameS (x y : Sb) : Bool := sameB x.cl x.sub y.cl y.sub
/-- they rise -/
def Rise (l : List Sb) : Prop := l.Pairwise fun x y => bef x y = true
theorem bef_iff (x y : Sb) : bef x y = true ↔ x.cl < y.cl ∨ y.cl = x.cl ∧ x.sub < y.sub := by simp [bef, behB]
theorem same_iff (x y : Sb) : sameS x y = true ↔ y.cl = x.cl ∧ y.sub = x.sub := by simp [sameS, sameB]
theorem bef_no {x y : Sb} (h : bef x y = true) : bef y x = false := by
  rw [bef_iff] at h
  cases h2 : bef y x
  · rfl
  · rw [bef_iff] at h2
    omega
theorem same_no {x y : Sb} (h : sameS x y = true) : bef x y = false ∧ bef y x = false := by
  rw [same_iff] at h
  constructor
  · cases h2 : bef x y
    · rfl
    · rw [bef_iff] at h2; omega
  · cases h2 : bef y x
    · rfl
    · rw [bef_iff] at h2; omega
theorem bef_or (x y : Sb) (h1 : sameS x y = false) (h2 : bef x y = false) : bef y x = true := by
  rw [bef_iff]
  have h1' : ¬ sameS x y = true := by rw [h1]; decide
  have h2' : ¬ bef x y = true := by rw [h2]; decide
  rw [same_iff] at h1'
  rw [bef_iff] at h2'
  omega
theorem bef_tr {x y z : Sb} (h1 : bef x y = true) (h2 : bef y z = true) : bef x z = true := by
  rw [bef_iff] at *
  omega
/-- a subscription put among those that rise -/
def insL (s : Sb) (l : List Sb) : List Sb := l.filter (fun e => bef e s) ++ [s] ++ l.filter (fun e => bef s e)
theorem insL_of {s : Sb} {a m b : List Sb} (ha : ∀ x ∈ a, bef x s = true) (hm : ∀ x ∈ m, sameS s x = true) (hb : ∀ x ∈ b, bef s x = true) : insL s (a ++ m ++ b) = a ++ [s] ++ b := by
  unfold insL
  have e1 : a.filter (fun e => bef e s) = a := List.filter_eq_self.2 ha
  have e2 : m.filter (fun e => bef e s) = [] := List.filter_eq_nil_iff.2 fun x hx => by rw [(same_no (hm x hx)).2]; decide
  have e3 : b.filter (fun e => bef e s) = [] := List.filter_eq_nil_iff.2 fun x hx => by rw [bef_no (hb x hx)]; decide
  have f1 : a.filter (fun e => bef s e) = [] := List.filter_eq_nil_iff.2 fun x hx => by rw [bef_no (ha x hx)]; decide
  have f2 : m.filter (fun e => bef s e) = [] := List.filter_eq_nil_iff.2 fun x hx => by rw [(same_no (hm x hx)).1]; decide
  have f3 : b.filter (fun e => bef s e) = b := List.filter_eq_self.2 hb
  simp only [List.filter_append, e1, e2, e3, f1, f2, f3, List.append_nil, List.nil_append]
theorem Rise.at {l : List Sb} (h : Rise l) {i j : Nat} {x y : Sb} (hij : i < j) (hx : l[i]? = some x) (hy : l[j]? = some y) : bef x y = true := by
  obtain ⟨h1, rfl⟩ := List.getElem?_eq_some_iff.1 hx
  obtain ⟨h2, rfl⟩ := List.getElem?_eq_some_iff.1 hy
  exact List.pairwise_iff_getElem.1 h i j h1 h2 hij
theorem mem_take_at {l : List Sb} {k : Nat} {x : Sb} (h : x ∈ l.take k) : ∃ j, j < k ∧ l[j]? = some x := by
  obtain ⟨j, hj⟩ := List.getElem?_of_mem h
  rw [List.getElem?_take] at hj
  split at hj
  · exact ⟨j, by assumption, hj⟩
  · cases hj
theorem mem_drop_at {l : List Sb} {k : Nat} {x : Sb} (h : x ∈ l.drop k) : ∃ j, k ≤ j ∧ l[j]? = some x := by
  obtain ⟨j, hj⟩ := List.getElem?_of_mem h
  rw [List.getElem?_drop] at hj
  exact ⟨k + j, by omega, hj⟩
theorem drop_at {l : List Sb} {k : Nat} {x : Sb} (h : l[k]? = some x) : l.drop k = x :: l.drop (k + 1) := by
  obtain ⟨hk, rfl⟩ := List.getElem?_eq_some_iff.1 h
  exact List.drop_eq_getElem_cons hk
theorem insL_set {l : List Sb} {s z : Sb} {k : Nat} (hr : Rise l) (hz : l[k]? = some z) (hs : sameS s z = true) : l.set k s = insL s l := by
  have hk := (List.getElem?_eq_some_iff.1 hz).1
  have e : l = l.take k ++ [z] ++ l.drop (k + 1) := by rw [List.append_assoc, List.singleton_append, ← drop_at hz, List.take_append_drop]
  have hzs := (same_iff s z).1 hs
  have := insL_of (s := s) (a := l.take k) (m := [z]) (b := l.drop (k + 1)) (fun x hx => by
    obtain ⟨j, hj, hx⟩ := mem_take_at hx
    have := hr.at hj hx hz
    rw [bef_iff] at this ⊢
    omega) (fun x hx => by simp at hx; subst hx; exact hs) (fun x hx => by
    obtain ⟨j, hj, hx⟩ := mem_drop_at hx
    have := hr.at (show k < j by omega) hz hx
    rw [bef_iff] at this ⊢
    omega)
  rw [← e] at this
  rw [this, List.set_eq_take_append_cons_drop, if_pos hk, List.append_assoc, List.singleton_append]
theorem insL_mid {l : List Sb} {s z : Sb} {k : Nat} (hr : Rise l) (hn : ∀ (j : Nat) (y : Sb), l[j]? = some y → sameS s y = false) (hz : l[k]? = some z) (hb : bef s z = true) (hf : ∀ (j : Nat) (y : Sb), j < k → l[j]? = some y → bef s y = false) : l.take k ++ [s] ++ l.drop k = insL s l := by
  have := insL_of (s := s) (a := l.take k) (m := []) (b := l.drop k) (fun x hx => by
    obtain ⟨j, hj, hx⟩ := mem_take_at hx
    exact bef_or s x (hn j x hx) (hf j x hj hx)) (fun x hx => by simp at hx) (fun x hx => by
    obtain ⟨j, hj, hx2⟩ := mem_drop_at hx
    by_cases hjk : j = k
    · subst hjk
      rw [hz] at hx2
      cases hx2
      exact hb
    · exact bef_tr hb (hr.at (show k < j by omega) hz hx2))
  rw [List.append_nil, List.take_append_drop] at this
  exact this.symm
theorem insL_end {l : List Sb} {s : Sb} (hn : ∀ (j : Nat) (y : Sb), l[j]? = some y → sameS s y = false) (hf : ∀ (j : Nat) (y : Sb), l[j]? = some y → bef s y = false) : l ++ [s] = insL s l := by
  have := insL_of (s := s) (a := l) (m := []) (b := []) (fun x hx => by
    obtain ⟨j, hx⟩ := List.getElem?_of_mem hx
    exact bef_or s x (hn j x hx) (hf j x hx)) (fun x hx => by simp at hx) (fun x hx => by simp at hx)
  simp only [List.append_nil] at this
  exact this.symm
theorem insL_len (s : Sb) (l : List Sb) : (insL s l).length ≤ l.length + 1 := by
  unfold insL
  simp only [List.length_append, List.length_cons, List.length_nil]
  have : ∀ l : List Sb, (l.filter (fun e => bef e s)).length + (l.filter (fun e => bef s e)).length ≤ l.length := by
    intro l
    induction l with
    | nil => simp
    | cons x l ih =>
      by_cases h : bef x s = true
      · rw [List.filter_cons_of_pos (p := fun e => bef e s) h, List.filter_cons_of_neg (p := fun e => bef s e) (by show ¬ bef s x = true; rw [bef_no h]; decide)]
        simp only [List.length_cons]; omega
      · rw [List.filter_cons_of_neg (p := fun e => bef e s) h]
        have := List.length_filter_le (fun e => bef s e) l
        by_cases h2 : bef s x = true
        · rw [List.filter_cons_of_pos (p := fun e => bef s e) h2]
          simp only [List.length_cons]; omega
        · rw [List.filter_cons_of_neg (p := fun e => bef s e) h2]
          simp only [List.length_cons]; omega
  have := this l
  omega
theorem insL_mem {s x : Sb} {l : List Sb} (h : x ∈ insL s l) : x = s ∨ x ∈ l := by
  unfold insL at h
  simp only [List.mem_append, List.mem_filter, List.mem_singleton] at h
  rcases h with (h | h) | h
  · exact .inr h.1
  · exact .inl h
  · exact .inr h.1
theorem insL_rise {s : Sb} {l : List Sb} (h : Rise l) : Rise (insL s l) := by
  unfold Rise insL
  rw [List.pairwise_append, List.pairwise_append]
  refine ⟨⟨List.Pairwise.filter _ h, List.pairwise_singleton _ _, fun a ha b hb => ?_⟩, List.Pairwise.filter _ h, fun a ha b hb => ?_⟩
  · simp at ha hb
    subst hb
    exact ha.2
  · simp only [List.mem_append, List.mem_filter, List.mem_singleton] at ha hb
    rcases ha with ha | rfl
    · exact bef_tr ha.2 hb.2
    · exact hb.2
section
variable {α : Type} {c : Nat}
/-- cells and what they read as, one by one -/
def Al (R : List Value → α → Prop) (css : List (Ce c)) (l : List α) : Prop := css.length = l.length ∧ ∀ (i : Nat) (cs : Ce c) (x : α), css[i]? = some cs → l[i]? = some x → R cs.1 x
theorem Al.imp {R R' : List Value → α → Prop} {css : List (Ce c)} {l : List α} (h : Al R css l) (hi : ∀ cs x, R cs x → R' cs x) : Al R' css l := ⟨h.1, fun i cs x a b => hi _ _ (h.2 i cs x a b)⟩
theorem Al.append {R : List Value → α → Prop} {c1 c2 : List (Ce c)} {l1 l2 : List α} (h1 : Al R c1 l1) (h2 : Al R c2 l2) : Al R (c1 ++ c2) (l1 ++ l2) := by
  refine ⟨by rw [List.length_append, List.length_append, h1.1, h2.1], fun i cs x a b => ?_⟩
  by_cases hi : i < c1.length
  · rw [List.getElem?_append_left hi] at a
    rw [List.getElem?_append_left (by rw [← h1.1]; exact hi)] at b
    exact h1.2 i cs x a b
  · rw [List.getElem?_append_right (by omega)] at a
    rw [List.getElem?_append_right (by rw [← h1.1]; omega), ← h1.1] at b
    exact h2.2 _ cs x a b
theorem Al.one {R : List Value → α → Prop} {cs : Ce c} {x : α} (h : R cs.1 x) : Al R [cs] [x] := ⟨rfl, fun i c' y a b => by
  match i with
  | 0 => simp at a b; subst a b; exact h
  | i + 1 => simp at a⟩
theorem Al.take {R : List Value → α → Prop} {css : List (Ce c)} {l : List α} (h : Al R css l) (k : Nat) : Al R (css.take k) (l.take k) := ⟨by rw [List.length_take, List.length_take, h.1], fun i cs x a b => by
  rw [List.getElem?_take] at a b
  split at a
  · rw [if_pos (by assumption)] at b; exact h.2 i cs x a b
  · cases a⟩
theorem Al.drop {R : List Value → α → Prop} {css : List (Ce c)} {l : List α} (h : Al R css l) (k : Nat) : Al R (css.drop k) (l.drop k) := ⟨by rw [List.length_drop, List.length_drop, h.1], fun i cs x a b => by
  rw [List.getElem?_drop] at a b
  exact h.2 _ cs x a b⟩
theorem Al.set {R : List Value → α → Prop} {css : List (Ce c)} {l : List α} (h : Al R css l) (k : Nat) {cs0 : Ce c} {x0 : α} (h0 : R cs0.1 x0) : Al R (css.set k cs0) (l.set k x0) := ⟨by rw [List.length_set, List.length_set, h.1], fun i cs x a b => by
  rw [List.getElem?_set] at a b
  by_cases hi : k = i
  · rw [if_pos hi] at a b
    split at a
    · rw [if_pos (by rw [← h.1]; assumption)] at b
      cases a; cases b; exact h0
    · cases a
  · rw [if_neg hi] at a b
    exact h.2 i cs x a b⟩
end
theorem OR.al {α : Type} {R : World → List Value → α → Prop} {c : Nat} {E : TypeId} {B : Nat} {w : World} {v : Value} {l : List α} (h : OR R c E B w v l) : ∃ css : List (Ce c), OM ceL c E B w v css ∧ Al (R w) css l := by
  obtain ⟨css, g1, g2, g3⟩ := h
  exact ⟨css, g1, g2, g3⟩
theorem OR.ofal {α : Type} {R : World → List Value → α → Prop} {c : Nat} {E : TypeId} {B : Nat} {w : World} {v : Value} {l : List α} {css : List (Ce c)} (h1 : OM ceL c E B w v css) (h2 : Al (R w) css l) : OR R c E B w v l := ⟨css, h1, h2.1, h2.2⟩
/-- the row is full -/
def FullV (v : Value) (n : Nat) : Prop := n = 0 ∧ v = .slice none 0 0 ∨ 0 < n ∧ ∃ g, v = .slice (some ⟨g, 0, none⟩) n n
/-- a cell of a cell's list, put -/
def Ce.put3 {c : Nat} (y : Ce c) (j : Nat) (u : Value) (hu : u.oneCell' = true) : Ce c := ⟨y.1.set j u, by rw [List.length_set]; exact y.2.1, fun x hx => by
  rcases List.mem_or_eq_of_mem_set hx with h | rfl
  · exact y.2.2 x h
  · exact hu⟩
theorem flat_set3 {c : Nat} (u : Value) (hu : u.oneCell' = true) (j : Nat) (hj : j < c) : ∀ (l : List (Ce c)) (i : Nat) (y : Ce c), l[i]? = some y → (l.flatMap ceL).set (i * c + j) u = (l.set i (y.put3 j u hu)).flatMap ceL
  | [], i, y, h => by simp at h
  | x :: l, 0, y, h => by
    simp at h
    subst h
    simp only [List.flatMap_cons, List.set_cons_zero, Nat.zero_mul, Nat.zero_add]
    rw [List.set_append_left _ _ (by rw [ceL_len]; exact hj)]
    rfl
  | x :: l, i + 1, y, h => by
    have ih := flat_set3 u hu j hj l i y (by simpa using h)
    simp only [List.flatMap_cons, List.set_cons_succ]
    rw [List.set_append_right _ _ (by rw [ceL_len, Nat.add_mul]; omega), ceL_len, show (i + 1) * c + j - c = i * c + j by rw [Nat.add_mul]; omega, ih]
theorem OM.putc3 {E : TypeId} {B : Nat} {w : World} {g n cap i j : Nat} {l : List (Ce 3)} (h : OM ceL 3 E B w (.slice (some ⟨g, 0, none⟩) n cap) l) (u : Value) (hu : u.oneCell' = true) (hj : j < 3) (y : Ce 3) (hy : l[i]? = some y) :
    OM ceL 3 E B (w.setCell ⟨g, i * 3 + j, none⟩ u) (.slice (some ⟨g, 0, none⟩) n cap) (l.set i (y.put3 j u hu)) := by
  unfold OM at h ⊢
  rw [List.length_set]
  rcases h.2 with ⟨hc, _⟩ | ⟨g', cap', cur, hv, hB, hg, hcap, hm, hs, ht⟩
  · cases hc
  · simp at hv
    obtain ⟨rfl, rfl, rfl⟩ := hv
    refine ⟨by rw [flat_len ceL_len, List.length_set], .inr ⟨g, cap, cur.setIfInBounds (i * 3 + j) u, by simp, hB, ?_, hcap, hm, by simpa using hs, ?_⟩⟩
    · show (w.heap.modify g _)[g]? = _
      rw [Array.getElem?_modify, if_pos rfl, hg]
      rfl
    · rw [Array.toList_setIfInBounds, List.take_set, ht]
      exact flat_set3 u hu j hj l i y hy
end PM
namespace PM
theorem free_row {E : TypeId} {B : Nat} {w : World} {g n cap : Nat} {l : List (Ce 3)} (h : OM ceL 3 E B w (.slice (some ⟨g, 0, none⟩) n cap) l) : ∀ i, w.frozen? ⟨g, i, none⟩ = false := by
  rcases h.2 with ⟨hc, _⟩ | ⟨g', cap', cur, hv, hB, hg, hcap, hm, hs, ht⟩
  · cases hc
  · simp at hv
    obtain ⟨rfl, rfl, rfl⟩ := hv
    intro i
    simp [World.frozen?, hg]
end PM
set_option maxHeartbeats 4000000 in
theorem insSb_nil (vb : Nat) (x : PM.Ce 3) (B : Nat) (w : World) (hB : B ≤ w.heap.size) (hx : PM.BK w vb x.1.toArray 57) :
    Calls Tryz.prog 44 #[.slice none 0 0, .int .i64 0, .slice (some ⟨vb, 0, none⟩) 1 1] w fun e w' => ∃ u, e = .returned u ∧ PM.OM PM.ceL 3 57 B w' u [x] ∧ Below B w w' ∧ w.grownBy w' none := by
  have hcx : ∀ j u, x.1[j]? = some u → w.cell? ⟨vb, j, none⟩ = some u := fun j u hu => by
    rw [hx.cell j]
    simpa using hu
  have hemx : PM.EM PM.ceL 3 w (.slice (some ⟨vb, 0, none⟩) 1 1) [x] := by
    refine ⟨some ⟨vb, 0, none⟩, 1, rfl, Nat.le_refl _, by unfold maxLen; omega, fun _ => ⟨vb, 0, rfl, fun k y hk j u hu => ?_⟩⟩
    match k, hk with
    | 0, hk =>
      simp at hk
      subst hk
      simpa using hcx j u hu
  have hown : PM.OM PM.ceL 3 57 B w (.slice none 0 0) ([] : List (PM.Ce 3)) := PM.OM.nilrow _
  have hl16 : (([] : List (PM.Ce 3)).length + [x].length) * 40 ≤ 140737488355328 := by simp
  have hl17 : ([] : List (PM.Ce 3)).length + [x].length ≤ maxLen := by simp [maxLen]
  clear hcx hx
  go_enter Tryz.func44, Tryz.ntmps44
  go_wp2_with (at_builtin; go_loud (refine PM.wpList_em tySb PM.ceL_len PM.ceL_one B rfl _ _ rfl (.slice none 0 0) (.slice (some ⟨vb, 0, none⟩) 1 1) [] [x] rfl rfl hown hemx hl16 hl17 hB ?_); intro v' w' t1 t2 t3 t4; have t5 : w.grownBy w' none := t3; have hE := PM.hid (And.intro t1 (And.intro t2 t5)); clear t1 t2 t3 t4 t5)
  go_ret
  exact ⟨_, rfl, hE.out.1, hE.out.2⟩
end Go.Proofs.YtnpbfjkfbobgaaaGreat
