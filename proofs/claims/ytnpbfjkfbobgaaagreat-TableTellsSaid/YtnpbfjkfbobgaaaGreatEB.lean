import Derived.Test.YtnpbfjkfbobgaaaGreatEA
import Derived.Test.YtnpbfjkfbobgaaaGreatP1
import Derived.Test.YtnpbfjkfbobgaaaGreatR0
import Derived.Deep.RegionWith
import Derived.Test.YtnpbfjkfbobgaaaGreatG0
import Derived.Test.YtnpbfjkfbobgaaaGreatP0
/-
  CONTRACT OF event.Encode.
-/
namespace Go.Proofs.YtnpbfjkfbobgaaaGreat
open Go.RowKit
set_option linter.unusedVariables false
namespace PM
def attB (z : At) : List UInt8 := bytesB z.name.data.toList ++ valB z.k z.n z.s.data.toList
def encB (es : List At) : List UInt8 := numB es.length ++ (es.map attB).flatten
theorem may_text {k n : Int} {s : List UInt8} (h : may k n s = true) : s.length ≤ 40 := by
  unfold may at h
  split at h
  · simp at h; subst h; simp
  · split at h
    · simp at h; exact h.2
    · split at h
      · simp at h; rw [h.2]; simp
      · cases h
theorem attB_le (z : At) (h : atOk z = true) (hw : z.wf) : (attB z).length ≤ 200 ∧ z.name.size ≤ 100 ∧ z.s.size ≤ 100 := by
  unfold atOk at h
  simp only [Bool.and_eq_true] at h
  obtain ⟨h1, h2⟩ := h
  have hn : z.name.data.toList.length ≤ 16 := by
    unfold nameL at h1
    simp only [Bool.and_eq_true, decide_eq_true_eq] at h1
    exact h1.1.2
  have hs : z.s.data.toList.length ≤ 40 := may_text h2
  have e1 := size_len' z.name
  have e2 := size_len' z.s
  have hf : ∀ n, foldZ n < 2 ^ 64 → wid (foldZ n) ≤ 8 := fun n h => wid_le _ h
  have hb := Go.bounds_i64 hw.2.2.1
  refine ⟨?_, by omega, by omega⟩
  unfold attB valB bytesB
  simp only [List.length_append, numB_length]
  have w1 := wid_le z.name.data.toList.length (by omega)
  have w2 := wid_le (u64 z.k) (u64_lt _)
  have w3 := wid_le z.s.data.toList.length (by omega)
  have w4 : wid (if z.k = 1 then foldZ z.n else u64 z.n) ≤ 8 := by
    split
    · exact wid_le _ (foldZ_lt _ hb.1 hb.2)
    · exact wid_le _ (u64_lt _)
  omega
theorem row_le {es : List At} (hc : chkP es) (hw : ∀ x ∈ es, x.wf) : ∀ k, k ≤ es.length → (((es.take k).map attB).flatten).length ≤ k * 200
  | 0, _ => by simp
  | k + 1, hk => by
    have ih := row_le hc hw k (by omega)
    have hz : es[k]? = some es[k] := List.getElem?_eq_getElem (by omega)
    have := (attB_le es[k] ((hc.2.2 k (by omega)) _ hz).1 (hw _ (List.getElem_mem _))).1
    rw [List.take_add_one, hz]
    simp only [Option.toList, List.map_append, List.flatten_append, List.length_append, List.map_cons, List.map_nil, List.flatten_cons, List.flatten_nil, List.append_nil]
    omega
end PM
end Go.Proofs.YtnpbfjkfbobgaaaGreat

/-
  CONTRACT OF event.Encode, of any event.
-/
namespace Go.Proofs.YtnpbfjkfbobgaaaGreat
open Go.RowKit
set_option linter.unusedVariables false
/-- what Encode answers: the bytes, and the number of the error -/
def RetE (E : TypeId) (W : World) (es : List PM.At) (e : Ending) (w' : World) : Prop :=
  ∃ o, e = .returned (.tuple #[o, .int .i64 (PM.chk es)]) ∧ (PM.chkP es → PM.OW E W.heap.size w' o (PM.encB es)) ∧ (¬ PM.chkP es → o = .slice none 0 0) ∧ Below W.heap.size W w'
end Go.Proofs.YtnpbfjkfbobgaaaGreat

/-
  CONTRACT OF event.Decode.
-/
namespace Go.Proofs.YtnpbfjkfbobgaaaGreat
open Go.RowKit
set_option linter.unusedVariables false
namespace PM
open Classical
/-- an attribute's cells -/
def attL (x : At) : List Value := [.string x.name, .int .i64 x.k, .int .i64 x.n, .string x.s]
theorem attL_len (x : At) : (attL x).length = 4 := rfl
theorem attL_one (x : At) : ∀ u ∈ attL x, u.oneCell' = true := by intro u hu; simp [attL] at hu; rcases hu with rfl | rfl | rfl | rfl <;> rfl
theorem attL_nob (x : At) : ∀ u ∈ attL x, NoB u := by intro u hu y; simp [attL] at hu; rcases hu with rfl | rfl | rfl | rfl <;> simp [bv]
theorem EV.em {w : World} {v : Value} {es : List At} (h : EV w v es) : EM attL 4 w v es := by
  obtain ⟨ad, cap, hv, h1, h2, h3⟩ := h
  refine ⟨ad, cap, hv, h1, h2, fun hp => ?_⟩
  obtain ⟨b, off, ha, h4⟩ := h3 hp
  refine ⟨b, off, ha, fun i x hi j u hu => ?_⟩
  obtain ⟨d0, d1, d2, d3⟩ := h4 i x hi
  match j, hu with
  | 0, hu => simp [attL] at hu; subst hu; exact d0
  | 1, hu => simp [attL] at hu; subst hu; exact d1
  | 2, hu => simp [attL] at hu; subst hu; exact d2
  | 3, hu => simp [attL] at hu; subst hu; exact d3
  | j + 4, hu => simp [attL] at hu
theorem EM.ev {w : World} {v : Value} {es : List At} (h : EM attL 4 w v es) : EV w v es := by
  obtain ⟨ad, cap, hv, h1, h2, h3⟩ := h
  refine ⟨ad, cap, hv, h1, h2, fun hp => ?_⟩
  obtain ⟨b, off, ha, h4⟩ := h3 hp
  exact ⟨b, off, ha, fun i x hi => ⟨h4 i x hi 0 _ rfl, h4 i x hi 1 _ rfl, h4 i x hi 2 _ rfl, h4 i x hi 3 _ rfl⟩⟩
/-- an attribute that is read -/
def attR (a : List UInt8) (c : Int × Int × List UInt8) : At := ⟨⟨a.toArray⟩, c.1, c.2.1, ⟨c.2.2.toArray⟩⟩
/-- attributes that are read one after another: they, what is left, and whether something is wrong -/
def stepsE : Nat → List UInt8 → Bool → List At × List UInt8 × Bool
  | 0, l, wr => ([], l, wr)
  | k + 1, l, wr =>
    let r := stepsE k l wr
    let a := stepB r.2.1 r.2.2 16
    let c := stepV a.2.1 a.2.2
    (r.1 ++ [attR a.1 c.1], c.2.1, c.2.2)
theorem stepsE_len : ∀ k l wr, (stepsE k l wr).1.length = k
  | 0, _, _ => rfl
  | k + 1, l, wr => by simp [stepsE, stepsE_len k]
theorem stepB_le (l : List UInt8) (wr : Bool) (m : Int) : (stepB l wr m).2.1.length ≤ l.length := by
  have h := (stepN_lt l wr).2
  unfold stepB
  split
  · simp
  · simp; omega
theorem stepV_le (l : List UInt8) (wr : Bool) : (stepV l wr).2.1.length ≤ l.length := by
  have h1 := (stepN_lt l wr).2
  have h2 := (stepN_lt (stepN l wr).2.1 (stepN l wr).2.2).2
  have h3 := stepB_le (stepN (stepN l wr).2.1 (stepN l wr).2.2).2.1 (stepN (stepN l wr).2.1 (stepN l wr).2.2).2.2 40
  unfold stepV
  simp only
  repeat' split
  all_goals first | omega | (simp; done) | (simp; omega)
theorem stepsE_lt : ∀ k l wr, (stepsE k l wr).2.1.length ≤ l.length
  | 0, _, _ => Nat.le_refl _
  | k + 1, l, wr => by
    have h1 := stepsE_lt k l wr
    have h2 := stepB_le (stepsE k l wr).2.1 (stepsE k l wr).2.2 16
    have h3 := stepV_le (stepB (stepsE k l wr).2.1 (stepsE k l wr).2.2 16).2.1 (stepB (stepsE k l wr).2.1 (stepsE k l wr).2.2 16).2.2
    simp only [stepsE]
    omega
/-- the event that bytes are -/
noncomputable def decF (n : Nat) (l : List UInt8) (wr : Bool) : Option (List At) :=
  if 16 < n then none else
  if (stepsE n l wr).2.2 = false ∧ (stepsE n l wr).2.1 = [] ∧ chkP (stepsE n l wr).1 then some (stepsE n l wr).1 else none
noncomputable def decE (l : List UInt8) : Option (List At) := decF (stepN l false).1 (stepN l false).2.1 (stepN l false).2.2
theorem decF_big {n : Nat} {l : List UInt8} {wr : Bool} (h : 16 < n) : decF n l wr = none := by unfold decF; rw [if_pos h]
theorem decF_yes {n : Nat} {l : List UInt8} {wr : Bool} (h : ¬ 16 < n) (h1 : (stepsE n l wr).2.2 = false) (h2 : (stepsE n l wr).2.1 = []) (h3 : chkP (stepsE n l wr).1) : decF n l wr = some (stepsE n l wr).1 := by
  unfold decF; rw [if_neg h, if_pos ⟨h1, h2, h3⟩]
theorem decF_no {n : Nat} {l : List UInt8} {wr : Bool} (h : ¬ 16 < n) (h1 : ¬ ((stepsE n l wr).2.2 = false ∧ (stepsE n l wr).2.1 = [] ∧ chkP (stepsE n l wr).1)) : decF n l wr = none := by
  unfold decF; rw [if_neg h, if_neg h1]
noncomputable def decN (l : List UInt8) : Int := if (decE l).isSome then 0 else 40
end PM
theorem attTy : PM.MTy Tryz.prog 55 53 4 48 := by
  refine ⟨Tryz.underlying55, by decide, ?_⟩
  obtain ⟨i, h1, h2, h3, h4⟩ := info_parts (P := Tryz.prog) (e := 53) (z := .agg #[.string ByteArray.empty, .int .i64 0, .int .i64 0, .string ByteArray.empty]) (size := 4) (bytes := 48) (by kernel_rfl)
  exact ⟨i, _, h1, h2, h3, h4, by kernel_rfl⟩
theorem attZ : ∀ i z, Tryz.prog.info? 53 = some i → i.zero = some z → ∀ x ∈ z.cells.toList, PM.NoB x := by
  intro i z hi hz x hx y
  have h0 : (Tryz.prog.info? 53).bind (·.zero) = some (.agg #[.string ByteArray.empty, .int .i64 0, .int .i64 0, .string ByteArray.empty]) := by kernel_rfl
  rw [hi] at h0
  simp only [Option.bind_some, hz, Option.some.injEq] at h0
  subst h0
  simp [Value.cells] at hx
  rcases hx with rfl | rfl | rfl | rfl <;> simp [PM.bv]
def RetD (E : TypeId) (W : World) (l : List UInt8) (e : Ending) (w' : World) : Prop :=
  ∃ o, e = .returned (.tuple #[o, .int .i64 (PM.decN l)]) ∧ (∀ es, PM.decE l = some es → PM.OM PM.attL 4 E W.heap.size w' o es) ∧ (PM.decE l = none → o = .slice none 0 0) ∧ Below W.heap.size W w'
end Go.Proofs.YtnpbfjkfbobgaaaGreat

/-
  PLAIN FACTS ON EVENTS' BYTES: they are read back, and what is read is packed so.
-/
namespace Go.Proofs.YtnpbfjkfbobgaaaGreat
namespace PM
theorem attR_of (x : At) : attR x.name.data.toList (x.k, x.n, x.s.data.toList) = x := by
  cases x
  simp [attR]
theorem stepsE_enc {es : List At} (hc : chkP es) (hw : ∀ x ∈ es, x.wf) (t : List UInt8) : ∀ k, k ≤ es.length → ∀ r, r = ((es.drop k).map attB).flatten ++ t → stepsE k ((es.map attB).flatten ++ t) false = (es.take k, r, false)
  | 0, _, r, hr => by subst hr; simp [stepsE]
  | k + 1, hk, r, hr => by
    have hz : es[k]? = some es[k] := List.getElem?_eq_getElem (by omega)
    have hd : es.drop k = es[k] :: es.drop (k + 1) := List.drop_eq_getElem_cons (by omega)
    have ih := stepsE_enc hc hw t k (by omega) _ rfl
    have hok := ((hc.2.2 k (by omega)) _ hz).1
    have hwf := hw es[k] (List.getElem_mem _)
    obtain ⟨_, hn, hs⟩ := attB_le es[k] hok hwf
    have hb := Go.bounds_i64 hwf.2.2.1
    have hok' := hok
    unfold atOk at hok'
    simp only [Bool.and_eq_true] at hok'
    have hnl : es[k].name.data.toList.length ≤ 16 := by
      have := hok'.1
      unfold nameL at this
      simp only [Bool.and_eq_true, decide_eq_true_eq] at this
      exact this.1.2
    have s1 := stepB_bytes es[k].name.data.toList (valB es[k].k es[k].n es[k].s.data.toList ++ r) 16 (by omega) (by omega)
    have s2 := stepV_val es[k].k es[k].n es[k].s.data.toList r hok'.2 hb.1 hb.2
    have e0 : ((es.drop k).map attB).flatten ++ t = bytesB es[k].name.data.toList ++ (valB es[k].k es[k].n es[k].s.data.toList ++ r) := by
      rw [hd, hr, List.map_cons, List.flatten_cons]
      unfold attB
      simp only [List.append_assoc]
    simp only [stepsE, ih, e0, s1, s2, attR_of]
    rw [List.take_add_one, hz]
    rfl
theorem decE_tail {es : List At} (hc : chkP es) (hw : ∀ x ∈ es, x.wf) (t : List UInt8) (ht : t ≠ []) : decE (encB es ++ t) = none := by
  unfold decE encB
  rw [List.append_assoc, stepN_num es.length (by have := hc.2.1; omega) _]
  have h := stepsE_enc hc hw t es.length (Nat.le_refl _) _ rfl
  refine decF_no (by have := hc.2.1; omega) ?_
  simp only [h]
  simp [ht]
theorem decE_enc {es : List At} (hc : chkP es) (hw : ∀ x ∈ es, x.wf) : decE (encB es) = some es := by
  unfold decE encB
  rw [stepN_num es.length (by have := hc.2.1; omega) _]
  have h := stepsE_enc hc hw [] es.length (Nat.le_refl _) _ rfl
  simp only [List.append_nil] at h
  rw [decF_yes (by have := hc.2.1; omega) (by rw [h]) (by rw [h]; simp) (by rw [h]; simpa using hc)]
  rw [h]; simp
theorem stepV_wr' {l : List UInt8} {wr : Bool} (h : (stepV l wr).2.2 = false) : wr = false := by
  cases wr
  · rfl
  · have he := stepV_eq l true 0 0 [] [] [] [] true true true (stepN_wr l) (stepN_wr []) (stepB_wr [] 40)
    rw [he] at h
    simp at h
theorem attR_B (a : List UInt8) (k n : Int) (s : List UInt8) : attB (attR a (k, n, s)) = bytesB a ++ valB k n s := by simp [attB, attR]
theorem stepsE_back : ∀ (k : Nat) (l : List UInt8) (wr : Bool), (stepsE k l wr).2.2 = false → l = (((stepsE k l wr).1).map attB).flatten ++ (stepsE k l wr).2.1
  | 0, l, wr, h => by simp [stepsE]
  | k + 1, l, wr, h => by
    have h3 : (stepV (stepB (stepsE k l wr).2.1 (stepsE k l wr).2.2 16).2.1 (stepB (stepsE k l wr).2.1 (stepsE k l wr).2.2 16).2.2).2.2 = false := h
    have h2 := stepV_wr' h3
    have h1 := stepB_false h2
    have ih := stepsE_back k l wr h1
    simp only [stepsE]
    rw [h1] at h2 h3 ⊢
    rw [h2] at h3 ⊢
    have b2 := stepB_back h2
    have b3 := (stepV_back h3).1
    rw [List.map_append, List.flatten_append]
    have e1 : (List.map attB [attR (stepB (stepsE k l wr).2.1 false 16).1 (stepV (stepB (stepsE k l wr).2.1 false 16).2.1 false).1]).flatten = bytesB (stepB (stepsE k l wr).2.1 false 16).1 ++ valB (stepV (stepB (stepsE k l wr).2.1 false 16).2.1 false).1.1 (stepV (stepB (stepsE k l wr).2.1 false 16).2.1 false).1.2.1 (stepV (stepB (stepsE k l wr).2.1 false 16).2.1 false).1.2.2 := by
      rw [← attR_B]; simp
    rw [e1, List.append_assoc, List.append_assoc, ← b3, ← b2]
    exact ih
theorem wf64 {n : Int} (h : -9223372036854775808 ≤ n ∧ n ≤ 9223372036854775807) : (Lit.int .i64 n).wf = true := by
  simp [Lit.wf, IntKind.min, IntKind.max, IntKind.signed, IntKind.bits]
  omega
theorem attR_wf (a : List UInt8) (c : Int × Int × List UInt8) (ha : a.length ≤ 100) (h1 : -9223372036854775808 ≤ c.1 ∧ c.1 ≤ 9223372036854775807) (h2 : -9223372036854775808 ≤ c.2.1 ∧ c.2.1 ≤ 9223372036854775807) (hs : c.2.2.length ≤ 100) : (attR a c).wf := by
  refine ⟨?_, wf64 h1, wf64 h2, ?_⟩
  · have e : (attR a c).name.size = a.length := by show a.toArray.size = _; simp
    rw [e]; unfold maxLen; omega
  · have e : (attR a c).s.size = c.2.2.length := by show c.2.2.toArray.size = _; simp
    rw [e]; unfold maxLen; omega
theorem stepsE_wf : ∀ (k : Nat) (l : List UInt8) (wr : Bool), ∀ x ∈ (stepsE k l wr).1, x.wf
  | 0, l, wr => by simp [stepsE]
  | k + 1, l, wr => by
    intro x hx
    simp only [stepsE, List.mem_append, List.mem_singleton] at hx
    rcases hx with hx | rfl
    · exact stepsE_wf k l wr x hx
    · have h := stepV_lt (stepB (stepsE k l wr).2.1 (stepsE k l wr).2.2 16).2.1 (stepB (stepsE k l wr).2.1 (stepsE k l wr).2.2 16).2.2
      have hb : (stepB (stepsE k l wr).2.1 (stepsE k l wr).2.2 16).1.length ≤ 16 := by
        unfold stepB
        split
        · simp
        · simp only [List.length_take]; omega
      exact attR_wf _ _ (by omega) ⟨h.1, h.2.1⟩ ⟨h.2.2.1, h.2.2.2.1⟩ (by omega)
theorem decF_some {n : Nat} {l : List UInt8} {wr : Bool} {es : List At} (h : decF n l wr = some es) : ¬ 16 < n ∧ (stepsE n l wr).2.2 = false ∧ (stepsE n l wr).2.1 = [] ∧ chkP es ∧ es = (stepsE n l wr).1 := by
  unfold decF at h
  split at h
  · cases h
  · rename_i h1
    split at h
    · rename_i h2
      injection h with h
      subst h
      exact ⟨h1, h2.1, h2.2.1, h2.2.2, rfl⟩
    · cases h
theorem stepsE_wr : ∀ (k : Nat) (l : List UInt8) (wr : Bool), (stepsE k l wr).2.2 = false → wr = false
  | 0, _, _, h => h
  | k + 1, l, wr, h => stepsE_wr k l wr (stepB_false (stepV_wr' (show (stepV (stepB (stepsE k l wr).2.1 (stepsE k l wr).2.2 16).2.1 (stepB (stepsE k l wr).2.1 (stepsE k l wr).2.2 16).2.2).2.2 = false from h)))
theorem decE_back {b : List UInt8} {es : List At} (h : decE b = some es) : encB es = b ∧ chkP es ∧ ∀ x ∈ es, x.wf := by
  unfold decE at h
  obtain ⟨h16, h1, h2, h3, rfl⟩ := decF_some h
  refine ⟨?_, h3, stepsE_wf _ _ _⟩
  have hw := stepsE_wr _ _ _ h1
  have b1 := stepN_back hw
  have b2 := stepsE_back _ _ _ h1
  rw [h2, List.append_nil] at b2
  unfold encB
  rw [stepsE_len, ← b2]
  exact b1.symm
theorem decE_cut {es : List At} (hc : chkP es) (hw : ∀ x ∈ es, x.wf) (t : List UInt8) (m : List UInt8) (ht : t ≠ []) (he : encB es = m ++ t) : decE m = none := by
  cases h : decE m with
  | none => rfl
  | some y =>
    obtain ⟨h1, h2, h3⟩ := decE_back h
    have h4 := decE_tail h2 h3 t ht
    rw [h1, ← he, decE_enc hc hw] at h4
    cases h4
end PM
end Go.Proofs.YtnpbfjkfbobgaaaGreat
