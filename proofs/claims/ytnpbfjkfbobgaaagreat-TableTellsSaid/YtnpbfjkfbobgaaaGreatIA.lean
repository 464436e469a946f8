import Derived.Test.YtnpbfjkfbobgaaaGreatG0
import Derived.Test.YtnpbfjkfbobgaaaGreatEA
import Derived.Test.YtnpbfjkfbobgaaaGreatP0
import Derived.Test.YtnpbfjkfbobgaaaGreatP2
/-
  TESTS (a name, an op, a value): as they came in, and whether one may be. Over any program.
-/
namespace Go.Proofs.YtnpbfjkfbobgaaaGreat
namespace PM
open Go.RowKit Go.ChangeShapes Go.WideShapes Go.ChangeAt Go.Deep
set_option linter.unusedVariables false
/-- a test -/
structure Te where
  name : ByteArray
  op : Int
  k : Int
  n : Int
  s : ByteArray
def Te.wf (x : Te) : Prop := x.name.size ≤ maxLen ∧ (Lit.int .i64 x.op).wf = true ∧ (Lit.int .i64 x.k).wf = true ∧ (Lit.int .i64 x.n).wf = true ∧ x.s.size ≤ maxLen
def teL (x : Te) : List Value := [.string x.name, .int .i64 x.op, .int .i64 x.k, .int .i64 x.n, .string x.s]
theorem teL_len (x : Te) : (teL x).length = 5 := rfl
theorem teL_one (x : Te) : ∀ u ∈ teL x, u.oneCell' = true := by intro u hu; simp [teL] at hu; rcases hu with rfl | rfl | rfl | rfl | rfl <;> rfl
abbrev TV (w : World) (v : Value) (l : List Te) : Prop := EM teL 5 w v l
/-- a test's value, one that came in: three numbers' and texts' cells -/
theorem te_trod {H : Type} {enc : TypeId × Value → H} {P : Program} {w : World} {base : Nat} {held : Bool} {e : TypeId} {f0 f1 f2 h0 h1 h2 : Field}
    (he : P.underlying e = some (.struct #[f0, f1, f2])) (hs : P.underlying f2.type = some (.struct #[h0, h1, h2])) (ce : P.cellsOf e = 5) (o0 : f0.offset = 0) (o1 : f1.offset = 1) (o2 : f2.offset = 2)
    (c0 : P.cellsOf f0.type = 1) (c1 : P.cellsOf f1.type = 1) (c2 : P.cellsOf f2.type = 3) (p0 : h0.offset = 0) (p1 : h1.offset = 1) (p2 : h2.offset = 2) (d0 : P.cellsOf h0.type = 1) (d1 : P.cellsOf h1.type = 1) (d2 : P.cellsOf h2.type = 1)
    (t0 : P.underlying f0.type = some .string) (t1 : P.underlying f1.type = some (.int .i64)) (u0 : P.underlying h0.type = some (.int .i64)) (u1 : P.underlying h1.type = some (.int .i64)) (u2 : P.underlying h2.type = some .string) :
    ∀ n cs x, DataW.trod enc P w base (fun _ => true) held n e cs = some x → ∃ y, Te.wf y ∧ cs = teL y := by
  intro n cs x h
  obtain ⟨xs, k, hk, hxy, hlen, hxl, hf⟩ := DataW.trod_struct he h
  rw [ce] at hlen
  match xs, hxl, cs, hlen with
  | [y0, y1, y2], _, [v0, v1, v2, v3, v4], _ =>
    have q0 := hf 0 f0 rfl
    have q1 := hf 1 f1 rfl
    have q2 := hf 2 f2 rfl
    simp [o0, o1, o2, c0, c1, c2] at q0 q1 q2
    obtain ⟨xs', k', hk', hxy', _, hxl', hf'⟩ := DataW.trod_struct hs q2
    match xs', hxl' with
    | [z0, z1, z2], _ =>
      have r0 := hf' 0 h0 rfl
      have r1 := hf' 1 h1 rfl
      have r2 := hf' 2 h2 rfl
      simp [p0, p1, p2, d0, d1, d2] at r0 r1 r2
      obtain ⟨s0, n0, _, w0⟩ := DataW.trod_string t0 q0
      obtain ⟨k1, n1, _, w1⟩ := DataW.trod_int t1 q1
      obtain ⟨k2, n2, _, w2⟩ := DataW.trod_int u0 r0
      obtain ⟨k3, n3, _, w3⟩ := DataW.trod_int u1 r1
      obtain ⟨s4, n4, _, w4⟩ := DataW.trod_string u2 r2
      simp at n0 n1 n2 n3 n4
      subst n0 n1 n2 n3 n4
      exact ⟨⟨s0, k1, k2, k3, s4⟩, ⟨w0, w1, w2, w3, w4⟩, rfl⟩
/-- whether a test may be -/
def teOk (x : Te) : Bool := nameL x.name.data.toList && decide (1 ≤ x.op ∧ x.op ≤ 8) && (if x.op = 8 then decide (x.k = 0 ∧ x.n = 0 ∧ x.s.data.toList = []) else may x.k x.n x.s.data.toList && (if x.op = 7 then decide (x.k = 2) else true))
def teE (x : Te) : Int := if teOk x then 0 else 50
/-- whether a filter may be -/
def filP (l : List Te) : Prop := l.length ≤ 8 ∧ ∀ x ∈ l, teOk x = true
open Classical in
noncomputable def filE (l : List Te) : Int := if filP l then 0 else 50
theorem filE_yes {l : List Te} (h : filP l) : filE l = 0 := by unfold filE; rw [if_pos h]
theorem filE_no {l : List Te} (h : ¬ filP l) : filE l = 50 := by unfold filE; rw [if_neg h]
/-- whether a value is as a test asks -/
def isB (x : Te) (k n : Int) (s : ByteArray) : Bool :=
  if x.op = 8 then true else if k = x.k then
    (let o := ord k n s.data.toList x.k x.n x.s.data.toList
     if x.op = 1 then decide (o = 0) else if x.op = 2 then decide (o ≠ 0) else if x.op = 3 then decide (o < 0) else if x.op = 4 then decide (o ≤ 0) else if x.op = 5 then decide (0 < o) else if x.op = 6 then decide (0 ≤ o) else if x.op = 7 then beg k s.data.toList x.k x.s.data.toList else false)
  else false
end PM
end Go.Proofs.YtnpbfjkfbobgaaaGreat

/-
  PLAIN FACTS ON FILTERS' BYTES: they are read back, and what is read is packed so.
-/
namespace Go.Proofs.YtnpbfjkfbobgaaaGreat
namespace PM
set_option linter.unusedVariables false
/-- a test's bytes -/
def tesB (z : Te) : List UInt8 := bytesB z.name.data.toList ++ numB (u64 z.op) ++ (if z.op = 8 then [] else valB z.k z.n z.s.data.toList)
/-- a filter's bytes -/
def filB (l : List Te) : List UInt8 := numB l.length ++ (l.map tesB).flatten
/-- a test that is read -/
def teR (a : List UInt8) (op : Int) (c : Int × Int × List UInt8) : Te := ⟨⟨a.toArray⟩, op, c.1, c.2.1, ⟨c.2.2.toArray⟩⟩
/-- the test that a reader goes on with, what is left, and whether something is wrong -/
def readT (l : List UInt8) (wr : Bool) : Te × List UInt8 × Bool :=
  let a := stepB l wr 16
  let b := stepN a.2.1 a.2.2
  if 8 < b.1 then (teR a.1 0 (0, 0, []), b.2.1, b.2.2)
  else if b.1 = 8 then (teR a.1 8 (0, 0, []), b.2.1, b.2.2)
  else let c := stepV b.2.1 b.2.2; (teR a.1 (b.1 : Nat) c.1, c.2.1, c.2.2)
theorem readT_eq (l : List UInt8) (wr : Bool) (nm r1 r2 : List UInt8) (n : Nat) (w1 w2 : Bool) (h1 : stepB l wr 16 = (nm, r1, w1)) (h2 : stepN r1 w1 = (n, r2, w2)) :
    readT l wr = if 8 < n then (teR nm 0 (0, 0, []), r2, w2) else if n = 8 then (teR nm 8 (0, 0, []), r2, w2) else (teR nm (n : Nat) (stepV r2 w2).1, (stepV r2 w2).2.1, (stepV r2 w2).2.2) := by
  unfold readT
  simp only [h1, h2]
/-- tests that are read one after another -/
def stepsT : Nat → List UInt8 → Bool → List Te × List UInt8 × Bool
  | 0, l, wr => ([], l, wr)
  | k + 1, l, wr =>
    let r := stepsT k l wr
    let a := readT r.2.1 r.2.2
    (r.1 ++ [a.1], a.2.1, a.2.2)
theorem stepsT_len : ∀ k l wr, (stepsT k l wr).1.length = k
  | 0, _, _ => rfl
  | k + 1, l, wr => by simp [stepsT, stepsT_len k]
theorem stepV_le' (l : List UInt8) (wr : Bool) : (stepV l wr).2.1.length ≤ l.length := by
  have h1 := (stepN_lt l wr).2
  have h2 := (stepN_lt (stepN l wr).2.1 (stepN l wr).2.2).2
  have h3 := (stepB_lt (stepN (stepN l wr).2.1 (stepN l wr).2.2).2.1 (stepN (stepN l wr).2.1 (stepN l wr).2.2).2.2 40).2
  unfold stepV
  simp only
  repeat' split
  all_goals first | omega | (simp; done) | (simp; omega)
theorem readT_le (l : List UInt8) (wr : Bool) : (readT l wr).2.1.length ≤ l.length := by
  have h1 := (stepB_lt l wr 16).2
  have h2 := (stepN_lt (stepB l wr 16).2.1 (stepB l wr 16).2.2).2
  have h3 := stepV_le' (stepN (stepB l wr 16).2.1 (stepB l wr 16).2.2).2.1 (stepN (stepB l wr 16).2.1 (stepB l wr 16).2.2).2.2
  unfold readT
  simp only
  repeat' split
  all_goals (simp only; omega)
theorem stepsT_le : ∀ k l wr, (stepsT k l wr).2.1.length ≤ l.length
  | 0, _, _ => Nat.le_refl _
  | k + 1, l, wr => by
    have h1 := stepsT_le k l wr
    have h2 := readT_le (stepsT k l wr).2.1 (stepsT k l wr).2.2
    simp only [stepsT]
    omega
/-- the filter that bytes are -/
noncomputable def decF' (n : Nat) (l : List UInt8) (wr : Bool) : Option (List Te) :=
  open Classical in
  if 8 < n then none else
  if (stepsT n l wr).2.2 = false ∧ (stepsT n l wr).2.1 = [] ∧ filP (stepsT n l wr).1 then some (stepsT n l wr).1 else none
noncomputable def decT (l : List UInt8) : Option (List Te) := decF' (stepN l false).1 (stepN l false).2.1 (stepN l false).2.2
theorem decF'_big {n : Nat} {l : List UInt8} {wr : Bool} (h : 8 < n) : decF' n l wr = none := by unfold decF'; rw [if_pos h]
theorem decF'_yes {n : Nat} {l : List UInt8} {wr : Bool} (h : ¬ 8 < n) (h1 : (stepsT n l wr).2.2 = false) (h2 : (stepsT n l wr).2.1 = []) (h3 : filP (stepsT n l wr).1) : decF' n l wr = some (stepsT n l wr).1 := by
  unfold decF'; rw [if_neg h, if_pos ⟨h1, h2, h3⟩]
theorem decF'_no {n : Nat} {l : List UInt8} {wr : Bool} (h : ¬ 8 < n) (h1 : ¬ ((stepsT n l wr).2.2 = false ∧ (stepsT n l wr).2.1 = [] ∧ filP (stepsT n l wr).1)) : decF' n l wr = none := by
  unfold decF'; rw [if_neg h, if_neg h1]
noncomputable def decTN (l : List UInt8) : Int := if (decT l).isSome then 0 else 50
theorem decTN_none {l : List UInt8} (h : decT l = none) : decTN l = 50 := by unfold decTN; rw [h]; rfl
theorem decTN_some {l : List UInt8} {es : List Te} (h : decT l = some es) : decTN l = 0 := by unfold decTN; rw [h]; rfl
theorem nameL_len {l : List UInt8} (h : nameL l = true) : l.length ≤ 16 := by
  unfold nameL at h
  simp only [Bool.and_eq_true, decide_eq_true_eq] at h
  exact h.1.2
theorem teOk_parts {z : Te} (h : teOk z = true) : nameL z.name.data.toList = true ∧ 1 ≤ z.op ∧ z.op ≤ 8 ∧ (z.op = 8 → z.k = 0 ∧ z.n = 0 ∧ z.s.data.toList = []) ∧ (z.op ≠ 8 → may z.k z.n z.s.data.toList = true) := by
  unfold teOk at h
  simp only [Bool.and_eq_true, decide_eq_true_eq] at h
  refine ⟨h.1.1, h.1.2.1, h.1.2.2, fun e => ?_, fun e => ?_⟩
  · have := h.2; rw [if_pos e] at this; simpa using this
  · have := h.2; rw [if_neg e] at this; simp only [Bool.and_eq_true] at this; exact this.1
theorem tesB_le (z : Te) (h : teOk z = true) (hw : z.wf) : (tesB z).length ≤ 200 ∧ z.name.size ≤ 100 ∧ z.s.size ≤ 100 := by
  obtain ⟨h1, h2, h3, h4, h5⟩ := teOk_parts h
  have hn := nameL_len h1
  have e1 := size_len' z.name
  have e2 := size_len' z.s
  have hb := Go.bounds_i64 hw.2.2.2.1
  have hs : z.s.data.toList.length ≤ 40 := by
    by_cases h8 : z.op = 8
    · rw [(h4 h8).2.2]; simp
    · exact (may_kind (h5 h8)).2
  refine ⟨?_, by omega, by omega⟩
  have w1 := wid_le z.name.data.toList.length (by omega)
  have w2 := wid_le (u64 z.op) (u64_lt _)
  have w3 := wid_le (u64 z.k) (u64_lt _)
  have w4 : wid (if z.k = 1 then foldZ z.n else u64 z.n) ≤ 8 := by
    split
    · exact wid_le _ (foldZ_lt _ hb.1 hb.2)
    · exact wid_le _ (u64_lt _)
  have w5 := wid_le z.s.data.toList.length (by omega)
  unfold tesB
  rw [List.length_append, List.length_append, bytesB, List.length_append, numB_length, numB_length]
  split
  · rw [List.length_nil]; omega
  · unfold valB bytesB
    simp only [List.length_append, numB_length]
    omega
theorem frow_le {es : List Te} (hc : filP es) (hw : ∀ x ∈ es, x.wf) : ∀ k, k ≤ es.length → (((es.take k).map tesB).flatten).length ≤ k * 200
  | 0, _ => by simp
  | k + 1, hk => by
    have ih := frow_le hc hw k (by omega)
    have hz : es[k]? = some es[k] := List.getElem?_eq_getElem (by omega)
    have := (tesB_le es[k] (hc.2 _ (List.getElem_mem _)) (hw _ (List.getElem_mem _))).1
    rw [List.take_add_one, hz]
    simp only [Option.toList, List.map_append, List.flatten_append, List.length_append, List.map_cons, List.map_nil, List.flatten_cons, List.flatten_nil, List.append_nil]
    omega
theorem teR_of (x : Te) : teR x.name.data.toList x.op (x.k, x.n, x.s.data.toList) = x := by
  cases x
  simp [teR]
theorem readT_enc (z : Te) (h : teOk z = true) (hw : z.wf) (r : List UInt8) : readT (tesB z ++ r) false = (z, r, false) := by
  obtain ⟨h1, h2, h3, h4, h5⟩ := teOk_parts h
  have hn := nameL_len h1
  have hb := Go.bounds_i64 hw.2.2.2.1
  have hu : ((u64 z.op : Nat) : Int) = z.op := by unfold u64; omega
  have s1 := stepB_bytes z.name.data.toList (numB (u64 z.op) ++ ((if z.op = 8 then [] else valB z.k z.n z.s.data.toList) ++ r)) 16 (by omega) (by omega)
  have s2 := stepN_num (u64 z.op) (u64_lt _) ((if z.op = 8 then [] else valB z.k z.n z.s.data.toList) ++ r)
  have he := readT_eq (tesB z ++ r) false _ _ _ _ _ _ (by unfold tesB; simpa only [List.append_assoc] using s1) s2
  rw [he, if_neg (by omega)]
  by_cases h8 : z.op = 8
  · rw [if_pos (by omega)]
    obtain ⟨a, b, c⟩ := h4 h8
    rw [if_pos h8, List.nil_append]
    have := teR_of z
    rw [a, b, c, h8] at this
    rw [this]
  · rw [if_neg (by omega), if_neg h8, stepV_val z.k z.n z.s.data.toList r (h5 h8) hb.1 hb.2, hu]
    rw [teR_of]
theorem stepsT_enc {es : List Te} (hc : filP es) (hw : ∀ x ∈ es, x.wf) (t : List UInt8) : ∀ k, k ≤ es.length → ∀ r, r = ((es.drop k).map tesB).flatten ++ t → stepsT k ((es.map tesB).flatten ++ t) false = (es.take k, r, false)
  | 0, _, r, hr => by subst hr; simp [stepsT]
  | k + 1, hk, r, hr => by
    have hz : es[k]? = some es[k] := List.getElem?_eq_getElem (by omega)
    have hd : es.drop k = es[k] :: es.drop (k + 1) := List.drop_eq_getElem_cons (by omega)
    have ih := stepsT_enc hc hw t k (by omega) _ rfl
    have e0 : ((es.drop k).map tesB).flatten ++ t = tesB es[k] ++ r := by
      rw [hd, hr, List.map_cons, List.flatten_cons, List.append_assoc]
    have s := readT_enc es[k] (hc.2 _ (List.getElem_mem _)) (hw _ (List.getElem_mem _)) r
    simp only [stepsT, ih, e0, s]
    rw [List.take_add_one, hz]
    rfl
theorem decT_enc {es : List Te} (hc : filP es) (hw : ∀ x ∈ es, x.wf) : decT (filB es) = some es := by
  have h8 := hc.1
  unfold decT filB
  rw [stepN_num es.length (by omega) _]
  have h := stepsT_enc hc hw [] es.length (Nat.le_refl _) _ rfl
  simp only [List.append_nil] at h
  rw [decF'_yes (by omega) (by rw [h]) (by rw [h]; simp) (by rw [h]; simpa using hc)]
  rw [h]; simp
theorem stepV_wr' {l : List UInt8} {wr : Bool} (h : (stepV l wr).2.2 = false) : wr = false := by
  cases wr
  · rfl
  · have he := stepV_eq l true 0 0 [] [] [] [] true true true (stepN_wr l) (stepN_wr []) (stepB_wr [] 40)
    rw [he] at h
    simp at h
theorem readT_wr {l : List UInt8} {wr : Bool} (h : (readT l wr).2.2 = false) : wr = false := by
  cases wr
  · rfl
  · have he := readT_eq l true [] [] [] 0 true true (stepB_wr l 16) (stepN_wr [])
    rw [he] at h
    simp at h
    exact absurd (stepV_wr' h) (by simp)
theorem readT_back {l : List UInt8} (h : (readT l false).2.2 = false) (hok : teOk (readT l false).1 = true) : l = tesB (readT l false).1 ++ (readT l false).2.1 := by
  obtain ⟨nm, r1, w1, h1⟩ : ∃ a b c, stepB l false 16 = (a, b, c) := ⟨_, _, _, rfl⟩
  obtain ⟨n, r2, w2, h2⟩ : ∃ a b c, stepN r1 w1 = (a, b, c) := ⟨_, _, _, rfl⟩
  have he := readT_eq l false nm r1 r2 n w1 w2 h1 h2
  have hlt := (stepN_lt r1 w1).1
  rw [h2] at hlt
  simp only at hlt
  have fin : ∀ (x : Te) (rest : List UInt8), x.name.data.toList = nm → w2 = false → (x.op = (n : Int)) → (if x.op = 8 then [] else valB x.k x.n x.s.data.toList) ++ rest = r2 → l = tesB x ++ rest := by
    intro x rest e1 e2 e3 e4
    subst e2
    have f1 : w1 = false := stepN_false (by rw [h2])
    subst f1
    have b1 := stepB_back (l := l) (most := 16) (by rw [h1])
    have b2 := stepN_back (l := r1) (by rw [h2])
    rw [h1] at b1
    rw [h2] at b2
    simp only at b1 b2
    rw [e3] at e4
    unfold tesB
    rw [e1, e3, u64_nat n (by omega), List.append_assoc, List.append_assoc, e4, ← b2, ← b1]
  by_cases hb : 8 < n
  · rw [he, if_pos hb] at hok
    have := (teOk_parts hok).2.1
    simp [teR] at this
  · rw [if_neg hb] at he
    by_cases h8 : n = 8
    · rw [if_pos h8] at he
      rw [he] at h ⊢
      exact fin _ _ (by simp [teR]) h (by simp [teR]; omega) (by simp [teR])
    · rw [if_neg h8] at he
      rw [he] at h ⊢
      have f2 : w2 = false := stepV_wr' h
      subst f2
      have b3 := (stepV_back h).1
      refine fin _ _ (by simp [teR]) rfl (by simp [teR]) ?_
      rw [if_neg (by simp [teR]; omega)]
      simp only [teR]
      exact b3.symm
theorem stepsT_prev {k : Nat} {l : List UInt8} {wr : Bool} (h : (stepsT (k + 1) l wr).2.2 = false) : (stepsT k l wr).2.2 = false :=
  readT_wr (show (readT (stepsT k l wr).2.1 (stepsT k l wr).2.2).2.2 = false from h)
theorem stepsT_wr : ∀ (k : Nat) (l : List UInt8) (wr : Bool), (stepsT k l wr).2.2 = false → wr = false
  | 0, _, _, h => h
  | k + 1, l, wr, h => stepsT_wr k l wr (stepsT_prev h)
theorem stepsT_back : ∀ (k : Nat) (l : List UInt8) (wr : Bool), (stepsT k l wr).2.2 = false → (∀ x ∈ (stepsT k l wr).1, teOk x = true) → l = (((stepsT k l wr).1).map tesB).flatten ++ (stepsT k l wr).2.1
  | 0, l, wr, _, _ => by simp [stepsT]
  | k + 1, l, wr, h, hok => by
    have h1 := stepsT_prev h
    have ih := stepsT_back k l wr h1 (fun x hx => hok x (by simp [stepsT, hx]))
    have h3 : (readT (stepsT k l wr).2.1 (stepsT k l wr).2.2).2.2 = false := h
    have ho : teOk (readT (stepsT k l wr).2.1 (stepsT k l wr).2.2).1 = true := hok _ (by simp [stepsT])
    simp only [stepsT]
    rw [h1] at h3 ho ⊢
    have b := readT_back h3 ho
    rw [List.map_append, List.flatten_append, List.append_assoc]
    simp only [List.map_cons, List.map_nil, List.flatten_cons, List.flatten_nil, List.append_nil]
    rw [← b]
    exact ih
theorem wf64' {n : Int} (h : -9223372036854775808 ≤ n ∧ n ≤ 9223372036854775807) : (Lit.int .i64 n).wf = true := by
  simp [Lit.wf, IntKind.min, IntKind.max, IntKind.signed, IntKind.bits]
  omega
theorem teR_wf (a : List UInt8) (op : Int) (c : Int × Int × List UInt8) (ha : a.length ≤ 100) (h0 : -9223372036854775808 ≤ op ∧ op ≤ 9223372036854775807) (h1 : -9223372036854775808 ≤ c.1 ∧ c.1 ≤ 9223372036854775807) (h2 : -9223372036854775808 ≤ c.2.1 ∧ c.2.1 ≤ 9223372036854775807) (hs : c.2.2.length ≤ 100) : (teR a op c).wf := by
  refine ⟨?_, wf64' h0, wf64' h1, wf64' h2, ?_⟩
  · have e : (teR a op c).name.size = a.length := by show a.toArray.size = _; simp
    rw [e]; unfold maxLen; omega
  · have e : (teR a op c).s.size = c.2.2.length := by show c.2.2.toArray.size = _; simp
    rw [e]; unfold maxLen; omega
theorem stepB_len16 (l : List UInt8) (wr : Bool) : (stepB l wr 16).1.length ≤ 16 := by
  unfold stepB
  split
  · simp
  · simp only [List.length_take]; omega
theorem readT_wf (l : List UInt8) (wr : Bool) : (readT l wr).1.wf := by
  have hb := stepB_len16 l wr
  unfold readT
  simp only
  split
  · exact teR_wf _ _ _ (by omega) (by omega) (by simp) (by simp) (by simp)
  · split
    · exact teR_wf _ _ _ (by omega) (by omega) (by simp) (by simp) (by simp)
    · have h := stepV_lt (stepN (stepB l wr 16).2.1 (stepB l wr 16).2.2).2.1 (stepN (stepB l wr 16).2.1 (stepB l wr 16).2.2).2.2
      exact teR_wf _ _ _ (by omega) (by omega) ⟨h.1, h.2.1⟩ ⟨h.2.2.1, h.2.2.2.1⟩ (by omega)
theorem stepsT_wf : ∀ (k : Nat) (l : List UInt8) (wr : Bool), ∀ x ∈ (stepsT k l wr).1, x.wf
  | 0, l, wr => by simp [stepsT]
  | k + 1, l, wr => by
    intro x hx
    simp only [stepsT, List.mem_append, List.mem_singleton] at hx
    rcases hx with hx | rfl
    · exact stepsT_wf k l wr x hx
    · exact readT_wf _ _
theorem decF'_some {n : Nat} {l : List UInt8} {wr : Bool} {es : List Te} (h : decF' n l wr = some es) : ¬ 8 < n ∧ (stepsT n l wr).2.2 = false ∧ (stepsT n l wr).2.1 = [] ∧ filP es ∧ es = (stepsT n l wr).1 := by
  unfold decF' at h
  split at h
  · cases h
  · rename_i h1
    split at h
    · rename_i h2
      injection h with h
      subst h
      exact ⟨h1, h2.1, h2.2.1, h2.2.2, rfl⟩
    · cases h
theorem decT_back {b : List UInt8} {es : List Te} (h : decT b = some es) : filB es = b ∧ filP es ∧ ∀ x ∈ es, x.wf := by
  unfold decT at h
  obtain ⟨h16, h1, h2, h3, rfl⟩ := decF'_some h
  refine ⟨?_, h3, stepsT_wf _ _ _⟩
  have hw := stepsT_wr _ _ _ h1
  have b1 := stepN_back hw
  have b2 := stepsT_back _ _ _ h1 h3.2
  rw [h2, List.append_nil] at b2
  unfold filB
  rw [stepsT_len, ← b2]
  exact b1.symm
theorem filB_inj {es fs : List Te} (h1 : filP es) (h2 : filP fs) (w1 : ∀ x ∈ es, x.wf) (w2 : ∀ x ∈ fs, x.wf) (h : filB es = filB fs) : es = fs := by
  have a := decT_enc h1 w1
  have b := decT_enc h2 w2
  rw [h, b] at a
  injection a with a
  exact a.symm
end PM
end Go.Proofs.YtnpbfjkfbobgaaaGreat

/-
  PLAIN FACTS: a filter's test, as the document's own reader has it.
-/
namespace Go.Proofs.YtnpbfjkfbobgaaaGreat
namespace PM
set_option linter.unusedVariables false
theorem getV_le (l : List UInt8) : (getV l).2 ≤ l.length := by
  obtain ⟨n1, k1, g1⟩ : ∃ n k, getK l = (n, k) := ⟨_, _, rfl⟩
  obtain ⟨n2, k2, g2⟩ : ∃ n k, getK (l.drop k1) = (n, k) := ⟨_, _, rfl⟩
  obtain ⟨s3, k3, g3⟩ : ∃ s k, getB (l.drop (k1 + k2)) 40 = (s, k) := ⟨_, _, rfl⟩
  have hv := getV_eq l s3 n1 k1 n2 k2 k3 g1 g2 g3
  have h2 := getK_lt l
  have h3 := getK_lt (l.drop k1)
  have h4 := getB_lt (l.drop (k1 + k2)) 40
  rw [g1] at h2
  rw [g2] at h3
  rw [g3] at h4
  rw [List.length_drop] at h3 h4
  simp only at h2 h3 h4
  rw [hv]
  split
  · simp
  · split
    · simp only; omega
    · simp
/-- the test that bytes begin with, and how many these have in all; 0: there is none -/
def getT (l : List UInt8) : Te × Nat :=
  let a := getB l 16
  let b := getK (l.drop a.2)
  if a.2 = 0 ∨ b.2 = 0 ∨ 8 < b.1 then (teR [] 0 (0, 0, []), 0)
  else if b.1 = 8 then (teR a.1 8 (0, 0, []), a.2 + b.2)
  else if (getV (l.drop (a.2 + b.2))).2 = 0 then (teR [] 0 (0, 0, []), 0)
  else (teR a.1 (b.1 : Nat) (getV (l.drop (a.2 + b.2))).1, a.2 + b.2 + (getV (l.drop (a.2 + b.2))).2)
theorem getT_eq (l nm : List UInt8) (k1 n k2 : Nat) (h1 : getB l 16 = (nm, k1)) (h2 : getK (l.drop k1) = (n, k2)) :
    getT l = if k1 = 0 ∨ k2 = 0 ∨ 8 < n then (teR [] 0 (0, 0, []), 0) else if n = 8 then (teR nm 8 (0, 0, []), k1 + k2) else if (getV (l.drop (k1 + k2))).2 = 0 then (teR [] 0 (0, 0, []), 0) else (teR nm (n : Nat) (getV (l.drop (k1 + k2))).1, k1 + k2 + (getV (l.drop (k1 + k2))).2) := by
  unfold getT
  simp only [h1, h2]
theorem getT_le (l : List UInt8) : (getT l).2 ≤ l.length := by
  obtain ⟨nm, k1, h1⟩ : ∃ n k, getB l 16 = (n, k) := ⟨_, _, rfl⟩
  obtain ⟨n, k2, h2⟩ : ∃ n k, getK (l.drop k1) = (n, k) := ⟨_, _, rfl⟩
  have a1 := (getB_lt l 16).1
  have a2 := (getK_lt (l.drop k1)).2
  have a3 := getV_le (l.drop (k1 + k2))
  rw [h1] at a1
  rw [h2] at a2
  rw [List.length_drop] at a2 a3
  simp only at a1 a2 a3
  rw [getT_eq l nm k1 n k2 h1 h2]
  repeat' split
  all_goals (simp only; omega)
theorem readT_getT_no {l : List UInt8} (h : (getT l).2 = 0) : (readT l false).2.2 = true ∨ teOk (readT l false).1 = false := by
  obtain ⟨nm, k1, h1⟩ : ∃ n k, getB l 16 = (n, k) := ⟨_, _, rfl⟩
  obtain ⟨n, k2, h2⟩ : ∃ n k, getK (l.drop k1) = (n, k) := ⟨_, _, rfl⟩
  have e := getT_eq l nm k1 n k2 h1 h2
  have s1 := stepB_getB l 16
  rw [h1] at s1
  have s2 := stepN_getK (l.drop k1)
  rw [h2] at s2
  have s3 := stepV_getV ((l.drop k1).drop k2)
  rw [List.drop_drop] at s3
  simp only at s1 s2
  by_cases c1 : k1 = 0
  · left
    rw [if_pos c1] at s1
    rw [readT_eq l false [] [] [] 0 true true s1 (stepN_wr []), if_neg (by omega), if_neg (by omega)]
    cases hh : (stepV [] true).2.2 with
    | true => rfl
    | false => exact absurd (stepV_wr' hh) (by simp)
  rw [if_neg c1] at s1
  by_cases c2 : k2 = 0
  · left
    rw [if_pos c2] at s2
    rw [readT_eq l false nm _ [] 0 false true s1 s2, if_neg (by omega), if_neg (by omega)]
    cases hh : (stepV [] true).2.2 with
    | true => rfl
    | false => exact absurd (stepV_wr' hh) (by simp)
  rw [if_neg c2] at s2
  rw [readT_eq l false nm _ _ n false false s1 s2]
  by_cases c3 : 8 < n
  · right
    rw [if_pos c3]
    cases hh : teOk (teR nm 0 (0, 0, [])) with
    | false => rfl
    | true => have := (teOk_parts hh).2.1; simp [teR] at this
  rw [if_neg (by omega)] at e
  rw [if_neg c3]
  by_cases c4 : n = 8
  · rw [if_pos c4] at e
    rw [e] at h
    simp only at h
    omega
  rw [if_neg c4] at e ⊢
  by_cases c5 : (getV (l.drop (k1 + k2))).2 = 0
  · left
    rw [if_pos c5] at s3
    rw [List.drop_drop, s3]
  · rw [if_neg c5] at e
    rw [e] at h
    simp only at h
    omega
theorem readT_getT_yes {l : List UInt8} (h : (getT l).2 ≠ 0) : readT l false = ((getT l).1, l.drop (getT l).2, false) := by
  obtain ⟨nm, k1, h1⟩ : ∃ n k, getB l 16 = (n, k) := ⟨_, _, rfl⟩
  obtain ⟨n, k2, h2⟩ : ∃ n k, getK (l.drop k1) = (n, k) := ⟨_, _, rfl⟩
  have e := getT_eq l nm k1 n k2 h1 h2
  have s1 := stepB_getB l 16
  rw [h1] at s1
  have s2 := stepN_getK (l.drop k1)
  rw [h2] at s2
  have s3 := stepV_getV ((l.drop k1).drop k2)
  rw [List.drop_drop] at s3
  simp only at s1 s2
  by_cases c0 : k1 = 0 ∨ k2 = 0 ∨ 8 < n
  · rw [if_pos c0] at e
    rw [e] at h
    exact absurd rfl h
  rw [if_neg c0] at e
  rw [if_neg (by omega)] at s1 s2
  rw [readT_eq l false nm _ _ n false false s1 s2, if_neg (by omega)]
  by_cases c4 : n = 8
  · rw [if_pos c4] at e ⊢
    rw [e, List.drop_drop]
  rw [if_neg c4] at e ⊢
  by_cases c5 : (getV (l.drop (k1 + k2))).2 = 0
  · rw [if_pos c5] at e
    rw [e] at h
    exact absurd rfl h
  rw [if_neg c5] at e s3
  rw [e, List.drop_drop, s3, List.drop_drop]
theorem stepsT_down {k : Nat} {l : List UInt8} {wr : Bool} : ∀ d, (stepsT (k + d) l wr).2.2 = false → (stepsT k l wr).2.2 = false
  | 0, h => h
  | d + 1, h => stepsT_down d (stepsT_prev h)
theorem stepsT_mem {k : Nat} {l : List UInt8} {wr : Bool} {x : Te} (h : x ∈ (stepsT k l wr).1) : ∀ d, x ∈ (stepsT (k + d) l wr).1
  | 0 => h
  | d + 1 => by
    have := stepsT_mem h d
    show x ∈ (stepsT (k + d + 1) l wr).1
    simp only [stepsT, List.mem_append]
    exact Or.inl this
theorem stepsT_fail {n k : Nat} {l : List UInt8} {wr : Bool} (hk : k < n) (h : (stepsT k l wr).2.2 = false) (hz : (getT (stepsT k l wr).2.1).2 = 0) : ¬ ((stepsT n l wr).2.2 = false ∧ filP (stepsT n l wr).1) := by
  rintro ⟨h1, h3⟩
  rw [show n = (k + 1) + (n - (k + 1)) by omega] at h1 h3
  rcases readT_getT_no hz with hr | hr
  · have h2 : (readT (stepsT k l wr).2.1 (stepsT k l wr).2.2).2.2 = false := stepsT_down _ h1
    rw [h, hr] at h2
    cases h2
  · have hm : (readT (stepsT k l wr).2.1 (stepsT k l wr).2.2).1 ∈ (stepsT (k + 1) l wr).1 := by simp [stepsT]
    have := h3.2 _ (stepsT_mem hm _)
    rw [h, hr] at this
    cases this
/-- the filter that bytes begin with, and what is left behind it -/
noncomputable def getF (l : List UInt8) : Option (List Te × List UInt8) :=
  open Classical in
  if (getK l).2 = 0 ∨ 8 < (getK l).1 then none else
  if (stepsT (getK l).1 (l.drop (getK l).2) false).2.2 = false ∧ filP (stepsT (getK l).1 (l.drop (getK l).2) false).1 then some ((stepsT (getK l).1 (l.drop (getK l).2) false).1, (stepsT (getK l).1 (l.drop (getK l).2) false).2.1) else none
theorem getF_none {l : List UInt8} {n k : Nat} (h : getK l = (n, k)) (h1 : k = 0 ∨ 8 < n) : getF l = none := by
  unfold getF
  rw [h, if_pos h1]
theorem getF_no {l : List UInt8} {n k : Nat} (h : getK l = (n, k)) (h1 : ¬ ((stepsT n (l.drop k) false).2.2 = false ∧ filP (stepsT n (l.drop k) false).1)) : getF l = none := by
  unfold getF
  rw [h]
  by_cases hc : k = 0 ∨ 8 < n
  · rw [if_pos hc]
  · rw [if_neg hc, if_neg h1]
theorem getF_yes {l : List UInt8} {n k : Nat} (h : getK l = (n, k)) (h0 : ¬ (k = 0 ∨ 8 < n)) (h1 : (stepsT n (l.drop k) false).2.2 = false) (h2 : filP (stepsT n (l.drop k) false).1) : getF l = some ((stepsT n (l.drop k) false).1, (stepsT n (l.drop k) false).2.1) := by
  unfold getF
  rw [h, if_neg h0, if_pos ⟨h1, h2⟩]
theorem decT_getF (l : List UInt8) : decT l = (getF l).bind fun p => if p.2 = [] then some p.1 else none := by
  obtain ⟨n, k, h⟩ : ∃ n k, getK l = (n, k) := ⟨_, _, rfl⟩
  have hs := stepN_getK l
  rw [h] at hs
  unfold decT
  rw [hs]
  by_cases hk : k = 0
  · rw [if_pos hk, getF_none h (Or.inl hk)]
    exact decF'_no (by simp) (by simp [stepsT])
  rw [if_neg hk]
  by_cases h8 : 8 < n
  · rw [getF_none h (Or.inr h8)]
    exact decF'_big h8
  by_cases hc : (stepsT n (l.drop k) false).2.2 = false ∧ filP (stepsT n (l.drop k) false).1
  · rw [getF_yes h (by omega) hc.1 hc.2]
    simp only [Option.bind_some]
    by_cases he : (stepsT n (l.drop k) false).2.1 = []
    · rw [if_pos he]; exact decF'_yes h8 hc.1 he hc.2
    · rw [if_neg he]; exact decF'_no h8 (fun hh => he hh.2.1)
  · rw [getF_no h hc]
    exact decF'_no h8 (fun hh => hc ⟨hh.1, hh.2.2⟩)
theorem stepsT_next {k : Nat} {l : List UInt8} (h : (stepsT k l false).2.2 = false) (hz : (getT (stepsT k l false).2.1).2 ≠ 0) :
    stepsT (k + 1) l false = ((stepsT k l false).1 ++ [(getT (stepsT k l false).2.1).1], (stepsT k l false).2.1.drop (getT (stepsT k l false).2.1).2, false) := by
  have := readT_getT_yes hz
  show ((stepsT k l false).1 ++ [(readT (stepsT k l false).2.1 (stepsT k l false).2.2).1], (readT (stepsT k l false).2.1 (stepsT k l false).2.2).2.1, (readT (stepsT k l false).2.1 (stepsT k l false).2.2).2.2) = _
  rw [h, this]
end PM
end Go.Proofs.YtnpbfjkfbobgaaaGreat
