/-
  PLAINLY: what the transactions of a script keep: no ID twice, each may be, and is small; what a call leaves as it was.
-/
import Derived.Test.YtnjcociidipogaaYm
namespace Go.Proofs.Ytnjcociidipogaa
open Go.RowKit
set_option linter.unusedVariables false
set_option linter.unusedSimpArgs false
namespace PM
def tid (l : List Tx) : List Id := l.map fun x => x.en.id
structure Gz (l : List Tx) : Prop where
  gw : Gw l
  nd : (tid l).Nodup
  ok : ∀ x ∈ l, enOk x.en ∧ smlT x.en = true ∧ (x.ask = false → x.en.kind = 1)
theorem Gz.nil : Gz [] := ⟨⟨by simp, by simp⟩, by simp [tid], by simp⟩
theorem enE_ok {z : En} (h : enE z = 0) : enOk z := by
  unfold enE at h
  split at h
  · assumption
  · exact absurd h (by decide)
theorem chk_ok {e : List At} (h : chk e = 0) : chkP e := by
  unfold chk at h
  split at h
  · assumption
  · exact absurd h (by decide)
theorem pos_no {i : Id} {l : List Tx} (h : posT i l < 0) : i ∉ tid l := by
  rcases posT_cases i l with ⟨_, h2⟩ | ⟨k, x, h1, _⟩
  · intro hm
    obtain ⟨x, hx, rfl⟩ := List.mem_map.1 hm
    obtain ⟨j, hj⟩ := List.mem_iff_getElem?.1 hx
    have := h2 j x hj
    simp [isT] at this
  · omega
theorem nodup_snoc' {α : Type} {l : List α} {x : α} (h : l.Nodup) (hx : x ∉ l) : (l ++ [x]).Nodup := by
  rw [List.nodup_append]
  refine ⟨h, by simp, ?_⟩
  intro a ha b hb
  simp at hb
  subst hb
  rintro rfl
  exact hx ha
theorem Gz.add {l : List Tx} (h : Gz l) {z : En} (q : Bool) (hz : EnS z) (hw : z.wf) (hk : q = false → z.kind = 1) : Gz (addT l z q).1 := by
  refine ⟨h.gw.add q hz hw, ?_, ?_⟩
  · unfold addT
    split
    · rename_i hc
      have := pos_no (addE_len hc).2.1
      show (tid (l ++ [⟨z, q⟩])).Nodup
      unfold tid at this ⊢
      rw [List.map_append]
      exact nodup_snoc' h.nd this
    · exact h.nd
  · unfold addT
    split
    · rename_i hc
      obtain ⟨h1, h2, h3, h4⟩ := addE_len hc
      intro x hx
      rcases List.mem_append.1 hx with hx | hx
      · exact h.ok x hx
      · simp at hx; subst hx; exact ⟨enE_ok h3, h4, hk⟩
    · exact h.ok
theorem tid_set {l : List Tx} {k : Nat} {x y : Tx} (hx : l[k]? = some x) (hy : y.en.id = x.en.id) : tid (l.set k y) = tid l := by
  unfold tid
  rw [List.map_set]
  refine List.ext_getElem? fun j => ?_
  rw [List.getElem?_set]
  by_cases hj : k = j
  · subst hj
    have hlt := (List.getElem?_eq_some_iff.1 hx).1
    rw [if_pos rfl, if_pos (by simpa using hlt), List.getElem?_map, hx]
    simp [hy]
  · rw [if_neg hj]
theorem Gz.pub {l : List Tx} (h : Gz l) (i : Id) {e : List At} (he : e.length ≤ 1000) (hw : ∀ y ∈ e, y.wf) : Gz (pubT i l e).1 := by
  by_cases hc : pubE i l e = 0
  · obtain ⟨k, x, ho, hx, hq, hp, h1, h2, h3, h4⟩ := pub_ok hc
    have hxo := h.ok x (List.mem_of_getElem? hx)
    refine ⟨h.gw.pub i he hw, by rw [h4]; show (tid (l.set k _)).Nodup; rw [tid_set hx (y := ⟨growE x.en e, x.ask⟩) rfl]; exact h.nd, ?_⟩
    rw [h4]
    intro y hy
    rcases List.mem_or_eq_of_mem_set hy with hy | rfl
    · exact h.ok y hy
    · have hkd := hxo.2.2 hq
      refine ⟨?_, h3, fun _ => hkd⟩
      obtain ⟨o1, o2, o3⟩ := hxo.1
      rcases o3 with ⟨a1, a2, a3, a4, a5⟩ | ⟨a1, _⟩ | ⟨a1, _⟩
      · refine ⟨o1, o2, .inl ⟨a1, a2, a3, by show (x.en.evs ++ [e]).length ≤ 8; rw [List.length_append, List.length_singleton]; omega, fun d hd => ?_⟩⟩
        rcases List.mem_append.1 hd with hd | hd
        · exact a5 d hd
        · simp at hd; subst hd; exact chk_ok h1
      · rw [hkd] at a1; exact absurd a1 (by decide)
      · rw [hkd] at a1; exact absurd a1 (by decide)
  · unfold pubT
    rw [if_neg hc]
    exact h
theorem Gz.cmt {l : List Tx} (h : Gz l) (i : Id) : Gz (cmtT i l).1 := by
  rcases openT_cases i l with ho | ⟨k, x, ho, hx, hq, hp⟩
  · unfold cmtT
    rw [ho, if_pos (by decide)]
    exact h
  · have e : (cmtT i l).1 = l.set k ⟨x.en, true⟩ := by
      unfold cmtT
      rw [ho, if_neg (by omega)]
      simp only [Int.toNat_natCast, hx]
    refine ⟨h.gw.cmt i, by rw [e, tid_set hx (y := ⟨x.en, true⟩) rfl]; exact h.nd, ?_⟩
    rw [e]
    intro y hy
    rcases List.mem_or_eq_of_mem_set hy with hy | rfl
    · exact h.ok y hy
    · have := h.ok x (List.mem_of_getElem? hx)
      exact ⟨this.1, this.2.1, fun h => by cases h⟩
theorem rem_sub (k : Nat) (l : List Tx) : List.Sublist (remT k l) l := by
  unfold remT
  conv => rhs; rw [← List.take_append_drop k l]
  exact List.Sublist.append_left (List.drop_sublist_drop_left l (Nat.le_succ k)) _
theorem Gz.set {l : List Tx} (h : Gz l) (i : Id) : Gz (setT i l) := by
  refine ⟨h.gw.set i, ?_, ?_⟩
  · unfold setT
    split
    · exact h.nd
    · exact h.nd.sublist ((rem_sub _ l).map _)
  · unfold setT
    split
    · exact h.ok
    · exact fun x hx => h.ok x (rem_mem hx)
theorem Gz.next {l : List Tx} (h : Gz l) {c : Cl} (hw : c.wf) (hf : FewC c) : Gz (nextT l c).1 := by
  obtain ⟨w1, w2, w3, w4, w5⟩ := hw
  unfold nextT
  split
  · exact h.add false ⟨by simp, by simp, by simp⟩ ⟨show (Lit.int .i64 1).wf = true from by decide, w2, w3, show (0 : Nat) < 2 ^ 64 from by decide, by simp, by simp⟩ (fun _ => rfl)
  split
  · exact h.pub c.id (by have := hf.1.1; omega) w4
  split
  · exact h.cmt c.id
  split
  · unfold abtT
    split
    · exact h
    · exact h.set c.id
  split
  · exact h.add true hf.2.enS w5 (fun h => by cases h)
  split
  · exact h.set c.id
  · exact h
/-- what is refused changes nothing -/
theorem next_err {l : List Tx} {c : Cl} (h : (nextT l c).2 ≠ 0) : (nextT l c).1 = l := by
  unfold nextT at *
  have ha : ∀ (z : En) (q : Bool), (addT l z q).2 ≠ 0 → (addT l z q).1 = l := fun z q h => by
    unfold addT at *
    split at h
    · exact absurd rfl h
    · rename_i hc; rw [if_neg hc]
  by_cases h1 : c.kind = 1
  · rw [if_pos h1] at h ⊢; exact ha _ _ h
  rw [if_neg h1] at h ⊢
  by_cases h2 : c.kind = 2
  · rw [if_pos h2] at h ⊢
    unfold pubT at *
    split at h
    · exact absurd rfl h
    · rename_i hc; rw [if_neg hc]
  rw [if_neg h2] at h ⊢
  by_cases h3 : c.kind = 3
  · rw [if_pos h3] at h ⊢
    unfold cmtT at *
    split at h
    · rename_i hc; rw [if_pos hc]
    · exact absurd rfl h
  rw [if_neg h3] at h ⊢
  by_cases h4 : c.kind = 4
  · rw [if_pos h4] at h ⊢
    unfold abtT at *
    split at h
    · rename_i hc; rw [if_pos hc]
    · exact absurd rfl h
  rw [if_neg h4] at h ⊢
  by_cases h5 : c.kind = 5
  · rw [if_pos h5] at h ⊢; exact ha _ _ h
  rw [if_neg h5] at h ⊢
  by_cases h6 : c.kind = 6
  · rw [if_pos h6] at h; exact absurd rfl h
  rw [if_neg h6] at h
  exact absurd rfl h
/-- the ID that a call is on -/
def Cl.on (c : Cl) : Id := if c.kind = 5 then c.x.id else c.id
theorem set_other {l : List Tx} {k : Nat} {x y z : Tx} (hk : l[k]? = some y) (hx : x ∈ l) (hne : x ≠ y) : x ∈ l.set k z := by
  obtain ⟨j, hj⟩ := List.mem_iff_getElem?.1 hx
  refine List.mem_iff_getElem?.2 ⟨j, ?_⟩
  rw [List.getElem?_set]
  by_cases h : k = j
  · subst h
    rw [hk] at hj
    injection hj with hj
    exact (hne hj.symm).elim
  · rw [if_neg h]
    exact hj
theorem rem_other {l : List Tx} {k : Nat} {x y : Tx} (hk : l[k]? = some y) (hx : x ∈ l) (hne : x ≠ y) : x ∈ remT k l := by
  obtain ⟨j, hj⟩ := List.mem_iff_getElem?.1 hx
  unfold remT
  by_cases h : j < k
  · refine List.mem_append.2 (.inl (List.mem_iff_getElem?.2 ⟨j, ?_⟩))
    rw [List.getElem?_take, if_pos h]
    exact hj
  · have hjk : j ≠ k := fun h => by
      subst h
      rw [hk] at hj
      injection hj with hj
      exact hne hj.symm
    refine List.mem_append.2 (.inr (List.mem_iff_getElem?.2 ⟨j - (k + 1), ?_⟩))
    rw [List.getElem?_drop, show k + 1 + (j - (k + 1)) = j by omega]
    exact hj
theorem set_mem {l : List Tx} {i : Id} {x : Tx} (hx : x ∈ l) (hne : x.en.id ≠ i) : x ∈ setT i l := by
  unfold setT
  split
  · exact hx
  · rcases posT_cases i l with ⟨h1, _⟩ | ⟨k, y, h1, h2, h3, _⟩
    · omega
    · rw [h1]
      simp only [Int.toNat_natCast]
      refine rem_other h2 hx (fun e => ?_)
      subst e
      simp [isT] at h3
      exact hne h3
/-- other transactions are as they were -/
theorem next_other {l : List Tx} {c : Cl} {x : Tx} (hx : x ∈ l) (hne : x.en.id ≠ c.on) : x ∈ (nextT l c).1 := by
  have ha : ∀ (z : En) (q : Bool), x ∈ (addT l z q).1 := fun z q => by
    unfold addT
    split
    · exact List.mem_append.2 (.inl hx)
    · exact hx
  have hid : ∀ {k : Nat} {y : Tx} {i : Id}, posT i l = (k : Int) → l[k]? = some y → y.en.id = i := fun {k y i} h1 h2 => by
    rcases posT_cases i l with ⟨h, _⟩ | ⟨k', y', h3, h4, h5, _⟩
    · omega
    · have : k' = k := by omega
      subst this
      rw [h2] at h4
      injection h4 with h4
      subst h4
      simpa [isT] using h5
  unfold Cl.on at hne
  unfold nextT
  by_cases h1 : c.kind = 1
  · rw [if_pos h1]; exact ha _ _
  rw [if_neg h1]
  by_cases h2 : c.kind = 2
  · rw [if_pos h2]
    rw [if_neg (by omega)] at hne
    by_cases hc : pubE c.id l c.e = 0
    · obtain ⟨k, y, ho, hy, hq, hp, _, _, _, h4⟩ := pub_ok hc
      rw [h4]
      exact set_other hy hx (fun e => by subst e; exact hne (hid hp hy))
    · unfold pubT
      rw [if_neg hc]
      exact hx
  rw [if_neg h2]
  by_cases h3 : c.kind = 3
  · rw [if_pos h3]
    rw [if_neg (by omega)] at hne
    rcases openT_cases c.id l with ho | ⟨k, y, ho, hy, hq, hp⟩
    · unfold cmtT
      rw [ho, if_pos (by decide)]
      exact hx
    · unfold cmtT
      rw [ho, if_neg (by omega)]
      simp only [Int.toNat_natCast, hy]
      exact set_other hy hx (fun e => by subst e; exact hne (hid hp hy))
  rw [if_neg h3]
  by_cases h4 : c.kind = 4
  · rw [if_pos h4]
    rw [if_neg (by omega)] at hne
    unfold abtT
    split
    · exact hx
    · exact set_mem hx hne
  rw [if_neg h4]
  by_cases h5 : c.kind = 5
  · rw [if_pos h5]; exact ha _ _
  rw [if_neg h5]
  rw [if_neg h5] at hne
  by_cases h6 : c.kind = 6
  · rw [if_pos h6]; exact set_mem hx hne
  · rw [if_neg h6]; exact hx
theorem find_mem {l : List Tx} {x : Tx} (hn : (tid l).Nodup) (hx : x ∈ l) : findT x.en.id l = some x := by
  obtain ⟨j, hj⟩ := List.mem_iff_getElem?.1 hx
  rcases posT_cases x.en.id l with ⟨h1, h2⟩ | ⟨k, y, h1, h2, h3, _⟩
  · have := h2 j x hj
    simp [isT] at this
  · have hid : y.en.id = x.en.id := by simpa [isT] using h3
    have hjk : k = j := by
      have a : (tid l)[k]? = some x.en.id := by unfold tid; rw [List.getElem?_map, h2]; simp [hid]
      have b : (tid l)[j]? = some x.en.id := by unfold tid; rw [List.getElem?_map, hj]; rfl
      obtain ⟨ha, ea⟩ := List.getElem?_eq_some_iff.1 a
      obtain ⟨hb, eb⟩ := List.getElem?_eq_some_iff.1 b
      have hp := List.pairwise_iff_getElem.1 hn
      rcases Nat.lt_trichotomy k j with h | h | h
      · exact (hp k j ha hb h (ea.trans eb.symm)).elim
      · exact h
      · exact (hp j k hb ha h (eb.trans ea.symm)).elim
    subst hjk
    unfold findT
    rw [h1, if_neg (by omega)]
    simpa using hj
end PM
end Go.Proofs.Ytnjcociidipogaa
