/-
  PLAIN FACTS ON EVENTS' BYTES: they are read back, and what is read is packed so.
-/
import Derived.Test.YtklgibkdbdhaiaaQb
import Derived.Test.YtklgibkdbdhaiaaEj
import Derived.Test.YtklgibkdbdhaiaaEl
namespace Go.Proofs.Ytklgibkdbdhaiaa
namespace PM
theorem attR_of (x : At) : attR x.name.data.toList (x.k, x.n, x.s.data.toList) = x := by
  cases x
  simp [attR]
theorem stepsE_enc {es : List At} (hc : chkP es) (hw : ∀ x ∈ es, x.wf) (t : List UInt8) : ∀ k, k ≤ es.length → ∀ r, r = ((es.drop k).map attB).flatten ++ t → stepsE k ((es.map attB).flatten ++ t) false = (es.take k, r, false)
  | 0, _, r, hr => by subst hr; simp [stepsE]
  | k + 1, hk, r, hr => by
    have hz : es[k]? = some es[k] := List.getElem?_eq_getElem (by omega)
    have hd : es.drop k = es[k] :: es.drop (k + 1) := List.drop_eq_getElem_cons (by omega)
    have ih := stepsE_enc hc hw t k (by omega) _ rfl
    have hok := ((hc.2.2 k (by omega)) _ hz).1
    have hwf := hw es[k] (List.getElem_mem _)
    obtain ⟨_, hn, hs⟩ := attB_le es[k] hok hwf
    have hb := Go.bounds_i64 hwf.2.2.1
    have hok' := hok
    unfold atOk at hok'
    simp only [Bool.and_eq_true] at hok'
    have hnl : es[k].name.data.toList.length ≤ 16 := by
      have := hok'.1
      unfold nameL at this
      simp only [Bool.and_eq_true, decide_eq_true_eq] at this
      exact this.1.2
    have s1 := stepB_bytes es[k].name.data.toList (valB es[k].k es[k].n es[k].s.data.toList ++ r) 16 (by omega) (by omega)
    have s2 := stepV_val es[k].k es[k].n es[k].s.data.toList r hok'.2 hb.1 hb.2
    have e0 : ((es.drop k).map attB).flatten ++ t = bytesB es[k].name.data.toList ++ (valB es[k].k es[k].n es[k].s.data.toList ++ r) := by
      rw [hd, hr, List.map_cons, List.flatten_cons]
      unfold attB
      simp only [List.append_assoc]
    simp only [stepsE, ih, e0, s1, s2, attR_of]
    rw [List.take_add_one, hz]
    rfl
theorem decE_tail {es : List At} (hc : chkP es) (hw : ∀ x ∈ es, x.wf) (t : List UInt8) (ht : t ≠ []) : decE (encB es ++ t) = none := by
  unfold decE encB
  rw [List.append_assoc, stepN_num es.length (by have := hc.2.1; omega) _]
  have h := stepsE_enc hc hw t es.length (Nat.le_refl _) _ rfl
  refine decF_no (by have := hc.2.1; omega) ?_
  simp only [h]
  simp [ht]
theorem decE_enc {es : List At} (hc : chkP es) (hw : ∀ x ∈ es, x.wf) : decE (encB es) = some es := by
  unfold decE encB
  rw [stepN_num es.length (by have := hc.2.1; omega) _]
  have h := stepsE_enc hc hw [] es.length (Nat.le_refl _) _ rfl
  simp only [List.append_nil] at h
  rw [decF_yes (by have := hc.2.1; omega) (by rw [h]) (by rw [h]; simp) (by rw [h]; simpa using hc)]
  rw [h]; simp
theorem stepV_wr' {l : List UInt8} {wr : Bool} (h : (stepV l wr).2.2 = false) : wr = false := by
  cases wr
  · rfl
  · have he := stepV_eq l true 0 0 [] [] [] [] true true true (stepN_wr l) (stepN_wr []) (stepB_wr [] 40)
    rw [he] at h
    simp at h
theorem attR_B (a : List UInt8) (k n : Int) (s : List UInt8) : attB (attR a (k, n, s)) = bytesB a ++ valB k n s := by simp [attB, attR]
theorem stepsE_back : ∀ (k : Nat) (l : List UInt8) (wr : Bool), (stepsE k l wr).2.2 = false → l = (((stepsE k l wr).1).map attB).flatten ++ (stepsE k l wr).2.1
  | 0, l, wr, h => by simp [stepsE]
  | k + 1, l, wr, h => by
    have h3 : (stepV (stepB (stepsE k l wr).2.1 (stepsE k l wr).2.2 16).2.1 (stepB (stepsE k l wr).2.1 (stepsE k l wr).2.2 16).2.2).2.2 = false := h
    have h2 := stepV_wr' h3
    have h1 := stepB_false h2
    have ih := stepsE_back k l wr h1
    simp only [stepsE]
    rw [h1] at h2 h3 ⊢
    rw [h2] at h3 ⊢
    have b2 := stepB_back h2
    have b3 := (stepV_back h3).1
    rw [List.map_append, List.flatten_append]
    have e1 : (List.map attB [attR (stepB (stepsE k l wr).2.1 false 16).1 (stepV (stepB (stepsE k l wr).2.1 false 16).2.1 false).1]).flatten = bytesB (stepB (stepsE k l wr).2.1 false 16).1 ++ valB (stepV (stepB (stepsE k l wr).2.1 false 16).2.1 false).1.1 (stepV (stepB (stepsE k l wr).2.1 false 16).2.1 false).1.2.1 (stepV (stepB (stepsE k l wr).2.1 false 16).2.1 false).1.2.2 := by
      rw [← attR_B]; simp
    rw [e1, List.append_assoc, List.append_assoc, ← b3, ← b2]
    exact ih
theorem wf64 {n : Int} (h : -9223372036854775808 ≤ n ∧ n ≤ 9223372036854775807) : (Lit.int .i64 n).wf = true := by
  simp [Lit.wf, IntKind.min, IntKind.max, IntKind.signed, IntKind.bits]
  omega
theorem attR_wf (a : List UInt8) (c : Int × Int × List UInt8) (ha : a.length ≤ 100) (h1 : -9223372036854775808 ≤ c.1 ∧ c.1 ≤ 9223372036854775807) (h2 : -9223372036854775808 ≤ c.2.1 ∧ c.2.1 ≤ 9223372036854775807) (hs : c.2.2.length ≤ 100) : (attR a c).wf := by
  refine ⟨?_, wf64 h1, wf64 h2, ?_⟩
  · have e : (attR a c).name.size = a.length := by show a.toArray.size = _; simp
    rw [e]; unfold maxLen; omega
  · have e : (attR a c).s.size = c.2.2.length := by show c.2.2.toArray.size = _; simp
    rw [e]; unfold maxLen; omega
theorem stepsE_wf : ∀ (k : Nat) (l : List UInt8) (wr : Bool), ∀ x ∈ (stepsE k l wr).1, x.wf
  | 0, l, wr => by simp [stepsE]
  | k + 1, l, wr => by
    intro x hx
    simp only [stepsE, List.mem_append, List.mem_singleton] at hx
    rcases hx with hx | rfl
    · exact stepsE_wf k l wr x hx
    · have h := stepV_lt (stepB (stepsE k l wr).2.1 (stepsE k l wr).2.2 16).2.1 (stepB (stepsE k l wr).2.1 (stepsE k l wr).2.2 16).2.2
      have hb : (stepB (stepsE k l wr).2.1 (stepsE k l wr).2.2 16).1.length ≤ 16 := by
        unfold stepB
        split
        · simp
        · simp only [List.length_take]; omega
      exact attR_wf _ _ (by omega) ⟨h.1, h.2.1⟩ ⟨h.2.2.1, h.2.2.2.1⟩ (by omega)
theorem decF_some {n : Nat} {l : List UInt8} {wr : Bool} {es : List At} (h : decF n l wr = some es) : ¬ 16 < n ∧ (stepsE n l wr).2.2 = false ∧ (stepsE n l wr).2.1 = [] ∧ chkP es ∧ es = (stepsE n l wr).1 := by
  unfold decF at h
  split at h
  · cases h
  · rename_i h1
    split at h
    · rename_i h2
      injection h with h
      subst h
      exact ⟨h1, h2.1, h2.2.1, h2.2.2, rfl⟩
    · cases h
theorem stepsE_wr : ∀ (k : Nat) (l : List UInt8) (wr : Bool), (stepsE k l wr).2.2 = false → wr = false
  | 0, _, _, h => h
  | k + 1, l, wr, h => stepsE_wr k l wr (stepB_false (stepV_wr' (show (stepV (stepB (stepsE k l wr).2.1 (stepsE k l wr).2.2 16).2.1 (stepB (stepsE k l wr).2.1 (stepsE k l wr).2.2 16).2.2).2.2 = false from h)))
theorem decE_back {b : List UInt8} {es : List At} (h : decE b = some es) : encB es = b ∧ chkP es ∧ ∀ x ∈ es, x.wf := by
  unfold decE at h
  obtain ⟨h16, h1, h2, h3, rfl⟩ := decF_some h
  refine ⟨?_, h3, stepsE_wf _ _ _⟩
  have hw := stepsE_wr _ _ _ h1
  have b1 := stepN_back hw
  have b2 := stepsE_back _ _ _ h1
  rw [h2, List.append_nil] at b2
  unfold encB
  rw [stepsE_len, ← b2]
  exact b1.symm
theorem decE_cut {es : List At} (hc : chkP es) (hw : ∀ x ∈ es, x.wf) (t : List UInt8) (m : List UInt8) (ht : t ≠ []) (he : encB es = m ++ t) : decE m = none := by
  cases h : decE m with
  | none => rfl
  | some y =>
    obtain ⟨h1, h2, h3⟩ := decE_back h
    have h4 := decE_tail h2 h3 t ht
    rw [h1, ← he, decE_enc hc hw] at h4
    cases h4
end PM
end Go.Proofs.Ytklgibkdbdhaiaa
