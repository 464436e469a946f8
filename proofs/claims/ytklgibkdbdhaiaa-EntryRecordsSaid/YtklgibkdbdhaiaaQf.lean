/-
  PLAIN FACTS ON FILTERS' BYTES: they are read back, and what is read is packed so.
-/
import Derived.Test.YtklgibkdbdhaiaaQb
import Derived.Test.YtklgibkdbdhaiaaIa
namespace Go.Proofs.Ytklgibkdbdhaiaa
namespace PM
set_option linter.unusedVariables false
/-- a test's bytes -/
def tesB (z : Te) : List UInt8 := bytesB z.name.data.toList ++ numB (u64 z.op) ++ (if z.op = 8 then [] else valB z.k z.n z.s.data.toList)
/-- a filter's bytes -/
def filB (l : List Te) : List UInt8 := numB l.length ++ (l.map tesB).flatten
/-- a test that is read -/
def teR (a : List UInt8) (op : Int) (c : Int × Int × List UInt8) : Te := ⟨⟨a.toArray⟩, op, c.1, c.2.1, ⟨c.2.2.toArray⟩⟩
/-- the test that a reader goes on with, what is left, and whether something is wrong -/
def readT (l : List UInt8) (wr : Bool) : Te × List UInt8 × Bool :=
  let a := stepB l wr 16
  let b := stepN a.2.1 a.2.2
  if 8 < b.1 then (teR a.1 0 (0, 0, []), b.2.1, b.2.2)
  else if b.1 = 8 then (teR a.1 8 (0, 0, []), b.2.1, b.2.2)
  else let c := stepV b.2.1 b.2.2; (teR a.1 (b.1 : Nat) c.1, c.2.1, c.2.2)
theorem readT_eq (l : List UInt8) (wr : Bool) (nm r1 r2 : List UInt8) (n : Nat) (w1 w2 : Bool) (h1 : stepB l wr 16 = (nm, r1, w1)) (h2 : stepN r1 w1 = (n, r2, w2)) :
    readT l wr = if 8 < n then (teR nm 0 (0, 0, []), r2, w2) else if n = 8 then (teR nm 8 (0, 0, []), r2, w2) else (teR nm (n : Nat) (stepV r2 w2).1, (stepV r2 w2).2.1, (stepV r2 w2).2.2) := by
  unfold readT
  simp only [h1, h2]
/-- tests that are read one after another -/
def stepsT : Nat → List UInt8 → Bool → List Te × List UInt8 × Bool
  | 0, l, wr => ([], l, wr)
  | k + 1, l, wr =>
    let r := stepsT k l wr
    let a := readT r.2.1 r.2.2
    (r.1 ++ [a.1], a.2.1, a.2.2)
theorem stepsT_len : ∀ k l wr, (stepsT k l wr).1.length = k
  | 0, _, _ => rfl
  | k + 1, l, wr => by simp [stepsT, stepsT_len k]
theorem stepV_le' (l : List UInt8) (wr : Bool) : (stepV l wr).2.1.length ≤ l.length := by
  have h1 := (stepN_lt l wr).2
  have h2 := (stepN_lt (stepN l wr).2.1 (stepN l wr).2.2).2
  have h3 := (stepB_lt (stepN (stepN l wr).2.1 (stepN l wr).2.2).2.1 (stepN (stepN l wr).2.1 (stepN l wr).2.2).2.2 40).2
  unfold stepV
  simp only
  repeat' split
  all_goals first | omega | (simp; done) | (simp; omega)
theorem readT_le (l : List UInt8) (wr : Bool) : (readT l wr).2.1.length ≤ l.length := by
  have h1 := (stepB_lt l wr 16).2
  have h2 := (stepN_lt (stepB l wr 16).2.1 (stepB l wr 16).2.2).2
  have h3 := stepV_le' (stepN (stepB l wr 16).2.1 (stepB l wr 16).2.2).2.1 (stepN (stepB l wr 16).2.1 (stepB l wr 16).2.2).2.2
  unfold readT
  simp only
  repeat' split
  all_goals (simp only; omega)
theorem stepsT_le : ∀ k l wr, (stepsT k l wr).2.1.length ≤ l.length
  | 0, _, _ => Nat.le_refl _
  | k + 1, l, wr => by
    have h1 := stepsT_le k l wr
    have h2 := readT_le (stepsT k l wr).2.1 (stepsT k l wr).2.2
    simp only [stepsT]
    omega
/-- the filter that bytes are -/
noncomputable def decF' (n : Nat) (l : List UInt8) (wr : Bool) : Option (List Te) :=
  open Classical in
  if 8 < n then none else
  if (stepsT n l wr).2.2 = false ∧ (stepsT n l wr).2.1 = [] ∧ filP (stepsT n l wr).1 then some (stepsT n l wr).1 else none
noncomputable def decT (l : List UInt8) : Option (List Te) := decF' (stepN l false).1 (stepN l false).2.1 (stepN l false).2.2
theorem decF'_big {n : Nat} {l : List UInt8} {wr : Bool} (h : 8 < n) : decF' n l wr = none := by unfold decF'; rw [if_pos h]
theorem decF'_yes {n : Nat} {l : List UInt8} {wr : Bool} (h : ¬ 8 < n) (h1 : (stepsT n l wr).2.2 = false) (h2 : (stepsT n l wr).2.1 = []) (h3 : filP (stepsT n l wr).1) : decF' n l wr = some (stepsT n l wr).1 := by
  unfold decF'; rw [if_neg h, if_pos ⟨h1, h2, h3⟩]
theorem decF'_no {n : Nat} {l : List UInt8} {wr : Bool} (h : ¬ 8 < n) (h1 : ¬ ((stepsT n l wr).2.2 = false ∧ (stepsT n l wr).2.1 = [] ∧ filP (stepsT n l wr).1)) : decF' n l wr = none := by
  unfold decF'; rw [if_neg h, if_neg h1]
noncomputable def decTN (l : List UInt8) : Int := if (decT l).isSome then 0 else 50
theorem decTN_none {l : List UInt8} (h : decT l = none) : decTN l = 50 := by unfold decTN; rw [h]; rfl
theorem decTN_some {l : List UInt8} {es : List Te} (h : decT l = some es) : decTN l = 0 := by unfold decTN; rw [h]; rfl
theorem nameL_len {l : List UInt8} (h : nameL l = true) : l.length ≤ 16 := by
  unfold nameL at h
  simp only [Bool.and_eq_true, decide_eq_true_eq] at h
  exact h.1.2
theorem teOk_parts {z : Te} (h : teOk z = true) : nameL z.name.data.toList = true ∧ 1 ≤ z.op ∧ z.op ≤ 8 ∧ (z.op = 8 → z.k = 0 ∧ z.n = 0 ∧ z.s.data.toList = []) ∧ (z.op ≠ 8 → may z.k z.n z.s.data.toList = true) := by
  unfold teOk at h
  simp only [Bool.and_eq_true, decide_eq_true_eq] at h
  refine ⟨h.1.1, h.1.2.1, h.1.2.2, fun e => ?_, fun e => ?_⟩
  · have := h.2; rw [if_pos e] at this; simpa using this
  · have := h.2; rw [if_neg e] at this; simp only [Bool.and_eq_true] at this; exact this.1
theorem tesB_le (z : Te) (h : teOk z = true) (hw : z.wf) : (tesB z).length ≤ 200 ∧ z.name.size ≤ 100 ∧ z.s.size ≤ 100 := by
  obtain ⟨h1, h2, h3, h4, h5⟩ := teOk_parts h
  have hn := nameL_len h1
  have e1 := size_len' z.name
  have e2 := size_len' z.s
  have hb := Go.bounds_i64 hw.2.2.2.1
  have hs : z.s.data.toList.length ≤ 40 := by
    by_cases h8 : z.op = 8
    · rw [(h4 h8).2.2]; simp
    · exact (may_kind (h5 h8)).2
  refine ⟨?_, by omega, by omega⟩
  have w1 := wid_le z.name.data.toList.length (by omega)
  have w2 := wid_le (u64 z.op) (u64_lt _)
  have w3 := wid_le (u64 z.k) (u64_lt _)
  have w4 : wid (if z.k = 1 then foldZ z.n else u64 z.n) ≤ 8 := by
    split
    · exact wid_le _ (foldZ_lt _ hb.1 hb.2)
    · exact wid_le _ (u64_lt _)
  have w5 := wid_le z.s.data.toList.length (by omega)
  unfold tesB
  rw [List.length_append, List.length_append, bytesB, List.length_append, numB_length, numB_length]
  split
  · rw [List.length_nil]; omega
  · unfold valB bytesB
    simp only [List.length_append, numB_length]
    omega
theorem frow_le {es : List Te} (hc : filP es) (hw : ∀ x ∈ es, x.wf) : ∀ k, k ≤ es.length → (((es.take k).map tesB).flatten).length ≤ k * 200
  | 0, _ => by simp
  | k + 1, hk => by
    have ih := frow_le hc hw k (by omega)
    have hz : es[k]? = some es[k] := List.getElem?_eq_getElem (by omega)
    have := (tesB_le es[k] (hc.2 _ (List.getElem_mem _)) (hw _ (List.getElem_mem _))).1
    rw [List.take_add_one, hz]
    simp only [Option.toList, List.map_append, List.flatten_append, List.length_append, List.map_cons, List.map_nil, List.flatten_cons, List.flatten_nil, List.append_nil]
    omega
theorem teR_of (x : Te) : teR x.name.data.toList x.op (x.k, x.n, x.s.data.toList) = x := by
  cases x
  simp [teR]
theorem readT_enc (z : Te) (h : teOk z = true) (hw : z.wf) (r : List UInt8) : readT (tesB z ++ r) false = (z, r, false) := by
  obtain ⟨h1, h2, h3, h4, h5⟩ := teOk_parts h
  have hn := nameL_len h1
  have hb := Go.bounds_i64 hw.2.2.2.1
  have hu : ((u64 z.op : Nat) : Int) = z.op := by unfold u64; omega
  have s1 := stepB_bytes z.name.data.toList (numB (u64 z.op) ++ ((if z.op = 8 then [] else valB z.k z.n z.s.data.toList) ++ r)) 16 (by omega) (by omega)
  have s2 := stepN_num (u64 z.op) (u64_lt _) ((if z.op = 8 then [] else valB z.k z.n z.s.data.toList) ++ r)
  have he := readT_eq (tesB z ++ r) false _ _ _ _ _ _ (by unfold tesB; simpa only [List.append_assoc] using s1) s2
  rw [he, if_neg (by omega)]
  by_cases h8 : z.op = 8
  · rw [if_pos (by omega)]
    obtain ⟨a, b, c⟩ := h4 h8
    rw [if_pos h8, List.nil_append]
    have := teR_of z
    rw [a, b, c, h8] at this
    rw [this]
  · rw [if_neg (by omega), if_neg h8, stepV_val z.k z.n z.s.data.toList r (h5 h8) hb.1 hb.2, hu]
    rw [teR_of]
theorem stepsT_enc {es : List Te} (hc : filP es) (hw : ∀ x ∈ es, x.wf) (t : List UInt8) : ∀ k, k ≤ es.length → ∀ r, r = ((es.drop k).map tesB).flatten ++ t → stepsT k ((es.map tesB).flatten ++ t) false = (es.take k, r, false)
  | 0, _, r, hr => by subst hr; simp [stepsT]
  | k + 1, hk, r, hr => by
    have hz : es[k]? = some es[k] := List.getElem?_eq_getElem (by omega)
    have hd : es.drop k = es[k] :: es.drop (k + 1) := List.drop_eq_getElem_cons (by omega)
    have ih := stepsT_enc hc hw t k (by omega) _ rfl
    have e0 : ((es.drop k).map tesB).flatten ++ t = tesB es[k] ++ r := by
      rw [hd, hr, List.map_cons, List.flatten_cons, List.append_assoc]
    have s := readT_enc es[k] (hc.2 _ (List.getElem_mem _)) (hw _ (List.getElem_mem _)) r
    simp only [stepsT, ih, e0, s]
    rw [List.take_add_one, hz]
    rfl
theorem decT_enc {es : List Te} (hc : filP es) (hw : ∀ x ∈ es, x.wf) : decT (filB es) = some es := by
  have h8 := hc.1
  unfold decT filB
  rw [stepN_num es.length (by omega) _]
  have h := stepsT_enc hc hw [] es.length (Nat.le_refl _) _ rfl
  simp only [List.append_nil] at h
  rw [decF'_yes (by omega) (by rw [h]) (by rw [h]; simp) (by rw [h]; simpa using hc)]
  rw [h]; simp
theorem stepV_wr' {l : List UInt8} {wr : Bool} (h : (stepV l wr).2.2 = false) : wr = false := by
  cases wr
  · rfl
  · have he := stepV_eq l true 0 0 [] [] [] [] true true true (stepN_wr l) (stepN_wr []) (stepB_wr [] 40)
    rw [he] at h
    simp at h
theorem readT_wr {l : List UInt8} {wr : Bool} (h : (readT l wr).2.2 = false) : wr = false := by
  cases wr
  · rfl
  · have he := readT_eq l true [] [] [] 0 true true (stepB_wr l 16) (stepN_wr [])
    rw [he] at h
    simp at h
    exact absurd (stepV_wr' h) (by simp)
theorem readT_back {l : List UInt8} (h : (readT l false).2.2 = false) (hok : teOk (readT l false).1 = true) : l = tesB (readT l false).1 ++ (readT l false).2.1 := by
  obtain ⟨nm, r1, w1, h1⟩ : ∃ a b c, stepB l false 16 = (a, b, c) := ⟨_, _, _, rfl⟩
  obtain ⟨n, r2, w2, h2⟩ : ∃ a b c, stepN r1 w1 = (a, b, c) := ⟨_, _, _, rfl⟩
  have he := readT_eq l false nm r1 r2 n w1 w2 h1 h2
  have hlt := (stepN_lt r1 w1).1
  rw [h2] at hlt
  simp only at hlt
  have fin : ∀ (x : Te) (rest : List UInt8), x.name.data.toList = nm → w2 = false → (x.op = (n : Int)) → (if x.op = 8 then [] else valB x.k x.n x.s.data.toList) ++ rest = r2 → l = tesB x ++ rest := by
    intro x rest e1 e2 e3 e4
    subst e2
    have f1 : w1 = false := stepN_false (by rw [h2])
    subst f1
    have b1 := stepB_back (l := l) (most := 16) (by rw [h1])
    have b2 := stepN_back (l := r1) (by rw [h2])
    rw [h1] at b1
    rw [h2] at b2
    simp only at b1 b2
    rw [e3] at e4
    unfold tesB
    rw [e1, e3, u64_nat n (by omega), List.append_assoc, List.append_assoc, e4, ← b2, ← b1]
  by_cases hb : 8 < n
  · rw [he, if_pos hb] at hok
    have := (teOk_parts hok).2.1
    simp [teR] at this
  · rw [if_neg hb] at he
    by_cases h8 : n = 8
    · rw [if_pos h8] at he
      rw [he] at h ⊢
      exact fin _ _ (by simp [teR]) h (by simp [teR]; omega) (by simp [teR])
    · rw [if_neg h8] at he
      rw [he] at h ⊢
      have f2 : w2 = false := stepV_wr' h
      subst f2
      have b3 := (stepV_back h).1
      refine fin _ _ (by simp [teR]) rfl (by simp [teR]) ?_
      rw [if_neg (by simp [teR]; omega)]
      simp only [teR]
      exact b3.symm
theorem stepsT_prev {k : Nat} {l : List UInt8} {wr : Bool} (h : (stepsT (k + 1) l wr).2.2 = false) : (stepsT k l wr).2.2 = false :=
  readT_wr (show (readT (stepsT k l wr).2.1 (stepsT k l wr).2.2).2.2 = false from h)
theorem stepsT_wr : ∀ (k : Nat) (l : List UInt8) (wr : Bool), (stepsT k l wr).2.2 = false → wr = false
  | 0, _, _, h => h
  | k + 1, l, wr, h => stepsT_wr k l wr (stepsT_prev h)
theorem stepsT_back : ∀ (k : Nat) (l : List UInt8) (wr : Bool), (stepsT k l wr).2.2 = false → (∀ x ∈ (stepsT k l wr).1, teOk x = true) → l = (((stepsT k l wr).1).map tesB).flatten ++ (stepsT k l wr).2.1
  | 0, l, wr, _, _ => by simp [stepsT]
  | k + 1, l, wr, h, hok => by
    have h1 := stepsT_prev h
    have ih := stepsT_back k l wr h1 (fun x hx => hok x (by simp [stepsT, hx]))
    have h3 : (readT (stepsT k l wr).2.1 (stepsT k l wr).2.2).2.2 = false := h
    have ho : teOk (readT (stepsT k l wr).2.1 (stepsT k l wr).2.2).1 = true := hok _ (by simp [stepsT])
    simp only [stepsT]
    rw [h1] at h3 ho ⊢
    have b := readT_back h3 ho
    rw [List.map_append, List.flatten_append, List.append_assoc]
    simp only [List.map_cons, List.map_nil, List.flatten_cons, List.flatten_nil, List.append_nil]
    rw [← b]
    exact ih
theorem wf64' {n : Int} (h : -9223372036854775808 ≤ n ∧ n ≤ 9223372036854775807) : (Lit.int .i64 n).wf = true := by
  simp [Lit.wf, IntKind.min, IntKind.max, IntKind.signed, IntKind.bits]
  omega
theorem teR_wf (a : List UInt8) (op : Int) (c : Int × Int × List UInt8) (ha : a.length ≤ 100) (h0 : -9223372036854775808 ≤ op ∧ op ≤ 9223372036854775807) (h1 : -9223372036854775808 ≤ c.1 ∧ c.1 ≤ 9223372036854775807) (h2 : -9223372036854775808 ≤ c.2.1 ∧ c.2.1 ≤ 9223372036854775807) (hs : c.2.2.length ≤ 100) : (teR a op c).wf := by
  refine ⟨?_, wf64' h0, wf64' h1, wf64' h2, ?_⟩
  · have e : (teR a op c).name.size = a.length := by show a.toArray.size = _; simp
    rw [e]; unfold maxLen; omega
  · have e : (teR a op c).s.size = c.2.2.length := by show c.2.2.toArray.size = _; simp
    rw [e]; unfold maxLen; omega
theorem stepB_len16 (l : List UInt8) (wr : Bool) : (stepB l wr 16).1.length ≤ 16 := by
  unfold stepB
  split
  · simp
  · simp only [List.length_take]; omega
theorem readT_wf (l : List UInt8) (wr : Bool) : (readT l wr).1.wf := by
  have hb := stepB_len16 l wr
  unfold readT
  simp only
  split
  · exact teR_wf _ _ _ (by omega) (by omega) (by simp) (by simp) (by simp)
  · split
    · exact teR_wf _ _ _ (by omega) (by omega) (by simp) (by simp) (by simp)
    · have h := stepV_lt (stepN (stepB l wr 16).2.1 (stepB l wr 16).2.2).2.1 (stepN (stepB l wr 16).2.1 (stepB l wr 16).2.2).2.2
      exact teR_wf _ _ _ (by omega) (by omega) ⟨h.1, h.2.1⟩ ⟨h.2.2.1, h.2.2.2.1⟩ (by omega)
theorem stepsT_wf : ∀ (k : Nat) (l : List UInt8) (wr : Bool), ∀ x ∈ (stepsT k l wr).1, x.wf
  | 0, l, wr => by simp [stepsT]
  | k + 1, l, wr => by
    intro x hx
    simp only [stepsT, List.mem_append, List.mem_singleton] at hx
    rcases hx with hx | rfl
    · exact stepsT_wf k l wr x hx
    · exact readT_wf _ _
theorem decF'_some {n : Nat} {l : List UInt8} {wr : Bool} {es : List Te} (h : decF' n l wr = some es) : ¬ 8 < n ∧ (stepsT n l wr).2.2 = false ∧ (stepsT n l wr).2.1 = [] ∧ filP es ∧ es = (stepsT n l wr).1 := by
  unfold decF' at h
  split at h
  · cases h
  · rename_i h1
    split at h
    · rename_i h2
      injection h with h
      subst h
      exact ⟨h1, h2.1, h2.2.1, h2.2.2, rfl⟩
    · cases h
theorem decT_back {b : List UInt8} {es : List Te} (h : decT b = some es) : filB es = b ∧ filP es ∧ ∀ x ∈ es, x.wf := by
  unfold decT at h
  obtain ⟨h16, h1, h2, h3, rfl⟩ := decF'_some h
  refine ⟨?_, h3, stepsT_wf _ _ _⟩
  have hw := stepsT_wr _ _ _ h1
  have b1 := stepN_back hw
  have b2 := stepsT_back _ _ _ h1 h3.2
  rw [h2, List.append_nil] at b2
  unfold filB
  rw [stepsT_len, ← b2]
  exact b1.symm
theorem filB_inj {es fs : List Te} (h1 : filP es) (h2 : filP fs) (w1 : ∀ x ∈ es, x.wf) (w2 : ∀ x ∈ fs, x.wf) (h : filB es = filB fs) : es = fs := by
  have a := decT_enc h1 w1
  have b := decT_enc h2 w2
  rw [h, b] at a
  injection a with a
  exact a.symm
end PM
end Go.Proofs.Ytklgibkdbdhaiaa
