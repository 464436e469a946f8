import Derived.Test.YtphdadlpfjfeoaaJB
import Derived.Test.YtphdadlpfjfeoaaEB
import Derived.Test.YtphdadlpfjfeoaaIA
import Derived.Test.YtphdadlpfjfeoaaP1
import Derived.Test.YtphdadlpfjfeoaaG0
/-
  ENTRIES READ FROM BYTES: plain. Over any program.
-/
namespace Go.Proofs.Ytphdadlpfjfeoaa
namespace PM
open Go.RowKit
set_option linter.unusedVariables false
set_option linter.unusedSimpArgs false
/-- a small number, or -1 -/
def sm (n : Nat) : Int := if 2147483647 < n then -1 else (n : Int)
theorem sm_u64 {n : Int} (h0 : 0 ≤ n) (h1 : n ≤ 2147483647) : sm (u64 n) = n := by
  unfold sm u64
  split <;> omega
theorem sm_back {n : Nat} (hn : n < 2 ^ 64) (h : 0 ≤ sm n) : u64 (sm n) = n := by
  unfold sm u64 at *
  split at h <;> (split <;> omega)
theorem sm_wf (n : Nat) : (Lit.int .i64 (sm n)).wf = true := wf64' (by unfold sm; split <;> omega)
def readI (l : List UInt8) (wr : Bool) : Id × List UInt8 × Bool :=
  (⟨sm (stepN l wr).1, (stepN (stepN l wr).2.1 (stepN l wr).2.2).1, (stepN (stepN (stepN l wr).2.1 (stepN l wr).2.2).2.1 (stepN (stepN l wr).2.1 (stepN l wr).2.2).2.2).1⟩,
   (stepN (stepN (stepN l wr).2.1 (stepN l wr).2.2).2.1 (stepN (stepN l wr).2.1 (stepN l wr).2.2).2.2).2.1, (stepN (stepN (stepN l wr).2.1 (stepN l wr).2.2).2.1 (stepN (stepN l wr).2.1 (stepN l wr).2.2).2.2).2.2)
theorem readI_eq {l l1 l2 l3 : List UInt8} {wr w1 w2 w3 : Bool} {a b c : Nat} (h1 : stepN l wr = (a, l1, w1)) (h2 : stepN l1 w1 = (b, l2, w2)) (h3 : stepN l2 w2 = (c, l3, w3)) : readI l wr = (⟨sm a, b, c⟩, l3, w3) := by
  simp only [readI, h1, h2, h3]
theorem readI_wf (l : List UInt8) (wr : Bool) : (readI l wr).1.wf := ⟨sm_wf _, (stepN_lt _ _).1, (stepN_lt _ _).1⟩
theorem readI_le (l : List UInt8) (wr : Bool) : (readI l wr).2.1.length ≤ l.length := by
  have h1 := (stepN_lt l wr).2
  have h2 := (stepN_lt (stepN l wr).2.1 (stepN l wr).2.2).2
  have h3 := (stepN_lt (stepN (stepN l wr).2.1 (stepN l wr).2.2).2.1 (stepN (stepN l wr).2.1 (stepN l wr).2.2).2.2).2
  show (stepN (stepN (stepN l wr).2.1 (stepN l wr).2.2).2.1 (stepN (stepN l wr).2.1 (stepN l wr).2.2).2.2).2.1.length ≤ _
  omega
theorem readI_enc {x : Id} (hx : x.wf) (h0 : 0 ≤ x.br) (h1 : x.br ≤ 2147483647) (r : List UInt8) : readI (idB x ++ r) false = (x, r, false) := by
  obtain ⟨b, l, s⟩ := x
  obtain ⟨q1, q2, q3⟩ := hx
  simp only at h0 h1 q2 q3
  have e := readI_eq (l := idB ⟨b, l, s⟩ ++ r) (wr := false) (by unfold idB; rw [List.append_assoc, List.append_assoc]; exact stepN_num _ (u64_lt _) _) (stepN_num _ q2 _) (stepN_num _ q3 r)
  rw [e, sm_u64 h0 h1]
theorem readI_back {l : List UInt8} {wr : Bool} (h : (readI l wr).2.2 = false) (h0 : 0 ≤ (readI l wr).1.br) : wr = false ∧ l = idB (readI l wr).1 ++ (readI l wr).2.1 := by
  obtain ⟨a, l1, w1, e1⟩ : ∃ a b c, stepN l wr = (a, b, c) := ⟨_, _, _, rfl⟩
  obtain ⟨b, l2, w2, e2⟩ : ∃ a b c, stepN l1 w1 = (a, b, c) := ⟨_, _, _, rfl⟩
  obtain ⟨c, l3, w3, e3⟩ : ∃ a b c, stepN l2 w2 = (a, b, c) := ⟨_, _, _, rfl⟩
  have he := readI_eq e1 e2 e3
  rw [he] at h h0 ⊢
  simp only at h h0
  subst h
  have f2 := stepN_false (l := l2) (wr := w2) (by rw [e3])
  subst f2
  have f1 := stepN_false (l := l1) (wr := w1) (by rw [e2])
  subst f1
  have f0 := stepN_false (l := l) (wr := wr) (by rw [e1])
  subst f0
  have b1 := stepN_back (l := l) (by rw [e1])
  have b2 := stepN_back (l := l1) (by rw [e2])
  have b3 := stepN_back (l := l2) (by rw [e3])
  rw [e1] at b1; rw [e2] at b2; rw [e3] at b3
  simp only at b1 b2 b3
  have hl := (stepN_lt l false).1
  rw [e1] at hl
  refine ⟨rfl, ?_⟩
  unfold idB
  simp only
  rw [sm_back hl h0, List.append_assoc, List.append_assoc, ← b3, ← b2]
  exact b1
open Classical in
/-- as many events as are asked for; none, if one may not be -/
noncomputable def stepsV (most : Int) : Nat → List UInt8 → Bool → Option (List (List At)) × List UInt8 × Bool
  | 0, l, wr => (some [], l, wr)
  | k + 1, l, wr => match (stepsV most k l wr).1 with
    | none => (none, (stepsV most k l wr).2)
    | some es => ((decE (stepB (stepsV most k l wr).2.1 (stepsV most k l wr).2.2 most).1).map (fun e => es ++ [e]), (stepB (stepsV most k l wr).2.1 (stepsV most k l wr).2.2 most).2)
theorem stepsV_next {most : Int} {k : Nat} {l l1 : List UInt8} {wr w1 : Bool} {es : List (List At)} (h : stepsV most k l wr = (some es, l1, w1)) : stepsV most (k + 1) l wr = ((decE (stepB l1 w1 most).1).map (fun e => es ++ [e]), (stepB l1 w1 most).2) := by
  rw [stepsV]
  rw [h]
theorem stepsV_none {most : Int} {k : Nat} {l : List UInt8} {wr : Bool} (h : (stepsV most k l wr).1 = none) : ∀ j, k ≤ j → (stepsV most j l wr).1 = none
  | 0, hj => by obtain rfl : k = 0 := by omega
                exact h
  | j + 1, hj => by
    by_cases hk : k = j + 1
    · subst hk; exact h
    · have ih := stepsV_none h j (by omega)
      rw [stepsV, ih]
theorem stepsV_len {most : Int} : ∀ (k : Nat) (l : List UInt8) (wr : Bool) (es : List (List At)), (stepsV most k l wr).1 = some es → es.length = k
  | 0, l, wr, es, h => by simp [stepsV] at h; subst h; rfl
  | k + 1, l, wr, es, h => by
    obtain ⟨o, l1, w1, e⟩ : ∃ a b c, stepsV most k l wr = (a, b, c) := ⟨_, _, _, rfl⟩
    cases o with
    | none => rw [stepsV, e] at h; cases h
    | some fs =>
      have ih := stepsV_len k l wr fs (by rw [e])
      rw [stepsV_next e] at h
      simp only [Option.map_eq_some_iff] at h
      obtain ⟨x, _, rfl⟩ := h
      simp [ih]
theorem stepsV_le {most : Int} : ∀ (k : Nat) (l : List UInt8) (wr : Bool), (stepsV most k l wr).2.1.length ≤ l.length
  | 0, l, wr => Nat.le_refl _
  | k + 1, l, wr => by
    have ih := stepsV_le (most := most) k l wr
    obtain ⟨o, l1, w1, e⟩ : ∃ a b c, stepsV most k l wr = (a, b, c) := ⟨_, _, _, rfl⟩
    rw [e] at ih
    cases o with
    | none => rw [stepsV, e]; exact ih
    | some fs =>
      rw [stepsV_next e]
      have := (stepB_lt l1 w1 most).2
      simp only at ih ⊢
      omega
theorem stepsV_enc {most : Int} {es : List (List At)} (hc : ∀ e ∈ es, chkP e) (hw : ∀ e ∈ es, ∀ y ∈ e, y.wf) (hm : ∀ e ∈ es, ((encB e).length : Int) ≤ most) (t : List UInt8) : ∀ k, k ≤ es.length → stepsV most k (evsB es ++ t) false = (some (es.take k), evsB (es.drop k) ++ t, false)
  | 0, _ => by simp [stepsV]
  | k + 1, hk => by
    have ih := stepsV_enc hc hw hm t k (by omega)
    have hz : es[k]? = some es[k] := List.getElem?_eq_getElem (by omega)
    have hmem : es[k] ∈ es := List.getElem_mem _
    have hd : evsB (es.drop k) ++ t = bytesB (encB es[k]) ++ (evsB (es.drop (k + 1)) ++ t) := by
      have hcons : evsB (es[k] :: es.drop (k + 1)) = bytesB (encB es[k]) ++ evsB (es.drop (k + 1)) := rfl
      rw [List.drop_eq_getElem_cons (by omega), hcons, List.append_assoc]
    have hb := encB_le (hc _ hmem) (hw _ hmem)
    rw [stepsV_next ih, hd, stepB_bytes _ _ _ (by omega) (hm _ hmem)]
    simp only [decE_enc (hc _ hmem) (hw _ hmem), Option.map_some]
    rw [List.take_add_one, hz]
    rfl
theorem stepsV_back {most : Int} : ∀ (k : Nat) (l l' : List UInt8) (wr : Bool) (es : List (List At)), stepsV most k l wr = (some es, l', false) → wr = false ∧ l = evsB es ++ l' ∧ ∀ e ∈ es, chkP e ∧ ∀ y ∈ e, y.wf
  | 0, l, l', wr, es, h => by
    simp only [stepsV, Prod.mk.injEq, Option.some.injEq] at h
    obtain ⟨rfl, rfl, rfl⟩ := h
    exact ⟨rfl, by simp [evsB], by simp⟩
  | k + 1, l, l', wr, es, h => by
    obtain ⟨o, l1, w1, e⟩ : ∃ a b c, stepsV most k l wr = (a, b, c) := ⟨_, _, _, rfl⟩
    cases o with
    | none => rw [stepsV, e] at h; cases h
    | some fs =>
      rw [stepsV_next e] at h
      simp only [Prod.mk.injEq, Option.map_eq_some_iff] at h
      obtain ⟨⟨x, hx, rfl⟩, h2⟩ := h
      have hb : (stepB l1 w1 most).2.2 = false := by rw [h2]
      have hw1 := stepB_false hb
      subst hw1
      have hbk := stepB_back hb
      rw [h2] at hbk
      simp only at hbk
      obtain ⟨g1, g2, g3⟩ := stepsV_back k l l1 wr fs e
      obtain ⟨d1, d2, d3⟩ := decE_back hx
      refine ⟨g1, ?_, ?_⟩
      · rw [g2, hbk]
        simp [evsB, d1]
      · intro y hy
        rcases List.mem_append.1 hy with hy | hy
        · exact g3 y hy
        · simp at hy
          subst hy
          exact ⟨d2, d3⟩
open Classical in
noncomputable def finE (x : En) (l : List UInt8) (wr : Bool) : Option En := if wr = false ∧ l = [] ∧ enOk x then some x else none
theorem finE_yes {x : En} (h : enOk x) : finE x [] false = some x := by unfold finE; rw [if_pos ⟨rfl, rfl, h⟩]
theorem finE_no {x : En} {l : List UInt8} {wr : Bool} (h : ¬ (wr = false ∧ l = [] ∧ enOk x)) : finE x l wr = none := by unfold finE; rw [if_neg h]
theorem finE_some {x y : En} {l : List UInt8} {wr : Bool} (h : finE x l wr = some y) : wr = false ∧ l = [] ∧ enOk x ∧ y = x := by
  unfold finE at h
  split at h
  · rename_i hh
    injection h with h
    exact ⟨hh.1, hh.2.1, hh.2.2, h.symm⟩
  · cases h
/-- what goes on behind an entry's numbers -/
noncomputable def decK (most : Int) (k : Int) (i : Id) (c : Int) (s : Nat) (l : List UInt8) (wr : Bool) : Option En :=
  if k = 1 then if 8 < (stepN l wr).1 then none else match stepsV most (stepN l wr).1 (stepN l wr).2.1 (stepN l wr).2.2 with
    | (some es, l', wr') => finE ⟨k, i, c, s, [], es⟩ l' wr'
    | (none, _) => none
  else if k = 2 then match decT (stepB l wr most).1 with
    | some f => finE ⟨k, i, c, s, f, []⟩ (stepB l wr most).2.1 (stepB l wr most).2.2
    | none => none
  else finE ⟨k, i, c, s, [], []⟩ l wr
def headE (l : List UInt8) : (Int × Id × Int × Nat) × List UInt8 × Bool :=
  let k := stepN l false
  let i := readI k.2.1 k.2.2
  let c := stepN i.2.1 i.2.2
  let s := stepN c.2.1 c.2.2
  ((sm k.1, i.1, sm c.1, s.1), s.2.1, s.2.2)
/-- the entry that bytes are -/
noncomputable def decEn (l : List UInt8) : Option En := decK l.length (headE l).1.1 (headE l).1.2.1 (headE l).1.2.2.1 (headE l).1.2.2.2 (headE l).2.1 (headE l).2.2
theorem headE_eq {l l1 l2 l3 l4 : List UInt8} {w1 w2 w3 w4 : Bool} {k c s : Nat} {i : Id} (h1 : stepN l false = (k, l1, w1)) (h2 : readI l1 w1 = (i, l2, w2)) (h3 : stepN l2 w2 = (c, l3, w3)) (h4 : stepN l3 w3 = (s, l4, w4)) : headE l = ((sm k, i, sm c, s), l4, w4) := by
  simp only [headE, h1, h2, h3, h4]
theorem decEn_eq {l l' : List UInt8} {k c : Int} {i : Id} {s : Nat} {wr : Bool} (h : headE l = ((k, i, c, s), l', wr)) : decEn l = decK l.length k i c s l' wr := by
  unfold decEn
  rw [h]
theorem encB_mem : ∀ {es : List (List At)} {e : List At}, e ∈ es → (encB e).length ≤ (evsB es).length
  | x :: es, e, h => by
    have hcons : evsB (x :: es) = bytesB (encB x) ++ evsB es := rfl
    rw [hcons, List.length_append, bytesB, List.length_append]
    rcases List.mem_cons.1 h with rfl | h
    · omega
    · have := encB_mem h
      omega
theorem decEn_enc {x : En} (hx : x.wf) (hok : enOk x) : decEn (enB x) = some x := by
  obtain ⟨kd, i, cl, sub, fil, evs⟩ := x
  obtain ⟨q1, q2, q3, q4, q5, q6⟩ := hx
  have hok' := hok
  obtain ⟨⟨hb1, hb2⟩, ⟨hc1, hc2⟩, hk⟩ := hok
  simp only at q1 q2 q3 q4 q5 q6 hb1 hb2 hc1 hc2 hk
  have hk3 : 0 ≤ kd ∧ kd ≤ 2147483647 := by rcases hk with ⟨k, _⟩ | ⟨k, _⟩ | ⟨k, _⟩ <;> omega
  obtain ⟨R, hR⟩ : ∃ R, R = (if kd = 1 then numB evs.length ++ evsB evs else if kd = 2 then bytesB (filB fil) else []) := ⟨_, rfl⟩
  have hB : enB ⟨kd, i, cl, sub, fil, evs⟩ = numB (u64 kd) ++ (idB i ++ (numB (u64 cl) ++ (numB sub ++ R))) := by
    simp only [enB, hR, List.append_assoc]
  have hh : headE (enB ⟨kd, i, cl, sub, fil, evs⟩) = ((kd, i, cl, sub), R, false) := by
    rw [hB, headE_eq (stepN_num _ (u64_lt _) _) (readI_enc q2 hb1 (by omega) _) (stepN_num _ (u64_lt _) _) (stepN_num _ q4 _), sm_u64 hk3.1 hk3.2, sm_u64 hc1 (by omega)]
  rw [decEn_eq hh]
  have hlen : R.length ≤ (enB ⟨kd, i, cl, sub, fil, evs⟩).length := by rw [hB]; simp only [List.length_append]; omega
  unfold decK
  rcases hk with ⟨rfl, hs, hf0, hl8, hch⟩ | ⟨rfl, hf0, he0⟩ | ⟨rfl, he0, hfp⟩
  · rw [if_pos rfl] at hR
    rw [if_pos rfl]
    rw [hR, stepN_num _ (by omega), if_neg (by simp only; omega)]
    have hst := stepsV_enc (most := ((enB ⟨1, i, cl, sub, fil, evs⟩).length : Int)) hch q6 (fun e he => by
      have h1 := encB_mem he
      rw [hR, List.length_append] at hlen
      omega) [] evs.length (Nat.le_refl _)
    rw [List.append_nil] at hst
    simp only [hst]
    rw [List.take_length, List.drop_length]
    subst hs hf0
    exact finE_yes hok'
  · rw [if_neg (by omega), if_neg (by omega)] at hR ⊢
    subst hR hf0 he0
    exact finE_yes hok'
  · rw [if_neg (by omega), if_pos rfl] at hR ⊢
    have hfl := filB_le hfp q5
    have e1 : stepB R false ((enB ⟨2, i, cl, sub, fil, evs⟩).length : Int) = (filB fil, [], false) := by
      have := stepB_bytes (filB fil) [] ((enB ⟨2, i, cl, sub, fil, evs⟩).length : Int) (by omega) (by rw [hR, bytesB, List.length_append] at hlen; omega)
      rw [List.append_nil] at this
      rw [hR]
      exact this
    rw [e1]
    simp only [decT_enc hfp q5]
    subst he0
    exact finE_yes hok'
theorem decEn_back {b : List UInt8} {x : En} (h : decEn b = some x) : enB x = b ∧ enOk x ∧ x.wf := by
  obtain ⟨k, l1, w1, e1⟩ : ∃ p q r, stepN b false = (p, q, r) := ⟨_, _, _, rfl⟩
  obtain ⟨i, l2, w2, e2⟩ : ∃ p q r, readI l1 w1 = (p, q, r) := ⟨_, _, _, rfl⟩
  obtain ⟨c, l3, w3, e3⟩ : ∃ p q r, stepN l2 w2 = (p, q, r) := ⟨_, _, _, rfl⟩
  obtain ⟨s, l4, w4, e4⟩ : ∃ p q r, stepN l3 w3 = (p, q, r) := ⟨_, _, _, rfl⟩
  rw [decEn_eq (headE_eq e1 e2 e3 e4)] at h
  have n1 := (stepN_lt b false).1
  have n3 := (stepN_lt l2 w2).1
  have n4 := (stepN_lt l3 w3).1
  have iw := readI_wf l1 w1
  rw [e1] at n1; rw [e3] at n3; rw [e4] at n4; rw [e2] at iw
  simp only at n1 n3 n4 iw
  -- what is left when the numbers are read
  have key : ∀ {fil evs R}, w4 = false → l4 = R → enOk ⟨sm k, i, sm c, s, fil, evs⟩ → b = numB (u64 (sm k)) ++ (idB i ++ (numB (u64 (sm c)) ++ (numB s ++ R))) := by
    intro fil evs R hw hl hok
    subst hw hl
    obtain ⟨⟨hb1, hb2⟩, ⟨hc1, hc2⟩, hk⟩ := hok
    simp only at hb1 hc1 hk
    have hk3 : 0 ≤ sm k := by rcases hk with ⟨k, _⟩ | ⟨k, _⟩ | ⟨k, _⟩ <;> omega
    have f3 := stepN_false (l := l3) (wr := w3) (by rw [e4])
    subst f3
    have f2 := stepN_false (l := l2) (wr := w2) (by rw [e3])
    subst f2
    have b2 := readI_back (l := l1) (wr := w1) (by rw [e2]) (by rw [e2]; exact hb1)
    rw [e2] at b2
    obtain ⟨f1, b2⟩ := b2
    subst f1
    have b1 := stepN_back (l := b) (by rw [e1])
    have b3 := stepN_back (l := l2) (by rw [e3])
    have b4 := stepN_back (l := l3) (by rw [e4])
    rw [e1] at b1; rw [e3] at b3; rw [e4] at b4
    simp only at b1 b2 b3 b4
    rw [sm_back n1 hk3, sm_back n3 hc1, ← b4, ← b3, ← b2]
    exact b1
  unfold decK at h
  split at h
  · rename_i hk1
    split at h
    · cases h
    · rename_i h8
      split at h
      · rename_i es l' wr' hst
        obtain ⟨rfl, rfl, hok, rfl⟩ := finE_some h
        obtain ⟨g1, g2, g3⟩ := stepsV_back _ _ _ _ _ hst
        have g4 := stepsV_len _ _ _ es (by rw [hst])
        have g5 := stepN_false g1
        subst g5
        have b5 := stepN_back g1
        rw [List.append_nil] at g2
        have hb := key (R := numB es.length ++ evsB es) rfl (by rw [g4, ← g2]; exact b5) hok
        refine ⟨?_, hok, sm_wf _, iw, sm_wf _, n4, by simp, fun e he => (g3 e he).2⟩
        rw [hb]
        simp only [enB, if_pos hk1, List.append_assoc]
      · cases h
  · rename_i hk1
    split at h
    · rename_i hk2
      split at h
      · rename_i f hd
        obtain ⟨hw, hl, hok, rfl⟩ := finE_some h
        have g5 := stepB_false hw
        subst g5
        have b5 := stepB_back hw
        rw [hl, List.append_nil] at b5
        obtain ⟨d1, d2, d3⟩ := decT_back hd
        have hb := key (R := bytesB (filB f)) rfl (by rw [d1]; exact b5) hok
        refine ⟨?_, hok, sm_wf _, iw, sm_wf _, n4, d3, by simp⟩
        rw [hb]
        simp only [enB, if_neg hk1, if_pos hk2, List.append_assoc]
      · cases h
    · rename_i hk2
      obtain ⟨hw, hl, hok, rfl⟩ := finE_some h
      have hb := key (R := []) hw hl hok
      refine ⟨?_, hok, sm_wf _, iw, sm_wf _, n4, by simp, by simp⟩
      rw [hb]
      simp only [enB, if_neg hk1, if_neg hk2, List.append_assoc]
end PM
end Go.Proofs.Ytphdadlpfjfeoaa

/-
  CONTRACTS OF package idpack: Small, Read.
-/
namespace Go.Proofs.Ytphdadlpfjfeoaa
open Go.RowKit
set_option linter.unusedVariables false
set_option linter.unusedSimpArgs false
namespace PM
theorem id_nobyte (a b c : Int) : ∀ (i : Nat) (z : UInt8), (#[Value.int .i64 a, Value.int .u64 b, Value.int .u64 c] : Array Value)[i]? ≠ Option.some (bv z) := by
  intro i z he
  match i with
  | 0 => simp [bv] at he
  | 1 => simp [bv] at he
  | 2 => simp [bv] at he
  | i + 3 => simp at he
theorem BK.set3a {w : World} {r : Nat} {a b c : Value} {T : TypeId} (h : BK w r #[a, b, c] T) (x y z : Value) : BK (((w.setCell ⟨r, 0, Option.none⟩ x).setCell ⟨r, 1, Option.none⟩ y).setCell ⟨r, 2, Option.none⟩ z) r #[x, y, z] T := h.set3 x y z
end PM
theorem small_any (b : Nat) (l : List UInt8) (wr : Bool) (w : World) (h : PM.RD 102 w b l wr) :
    Calls Try.prog 34 #[.pointer (some ⟨b, 0, none⟩)] w fun e w' =>
      e = .returned (.int .i64 (PM.sm (PM.stepN l wr).1)) ∧ PM.RD 102 w' b (PM.stepN l wr).2.1 (PM.stepN l wr).2.2 ∧ PM.Bx b w w' := by
  have hn := rnumber_any b l wr w h
  have hlt := (PM.stepN_lt l wr).1
  generalize PM.stepN l wr = S at *
  obtain ⟨n, l1, w1⟩ := S
  simp only at hlt hn ⊢
  by_cases hb : 2147483647 < n
  · have hs : PM.sm n = -1 := by unfold PM.sm; rw [if_pos hb]
    rw [hs]
    have hb' : (2147483647 : Int) < (n : Int) := by omega
    clear hs
    go_enter Try.func34, Try.ntmps34
    go_wp2_with fail
    refine hn.mono ?_
    clear hn
    rintro e w2 ⟨rfl, hr, hx⟩
    have hE := PM.hid (And.intro hr hx)
    clear hr hx
    go_wp2_with fail
    go_ret
    exact ⟨rfl, hE.out⟩
  · have hs : PM.sm n = (n : Int) := by unfold PM.sm; rw [if_neg hb]
    rw [hs]
    have hb' : ¬ (2147483647 : Int) < (n : Int) := by omega
    have hwn : IntKind.i64.wrap (n : Int) = (n : Int) := by rw [IntKind.wrap_i64]; omega
    clear hs
    go_enter Try.func34, Try.ntmps34
    go_wp2_with fail
    refine hn.mono ?_
    clear hn
    rintro e w2 ⟨rfl, hr, hx⟩
    have hE := PM.hid (And.intro hr hx)
    clear hr hx
    go_wp2_with fail
    go_ret
    exact ⟨rfl, hE.out⟩
set_option maxRecDepth 100000 in
set_option maxHeartbeats 4000000 in
theorem idread_any (b : Nat) (l : List UInt8) (wr : Bool) (w : World) (h : PM.RD 102 w b l wr) :
    Calls Try.prog 38 #[.pointer (some ⟨b, 0, none⟩)] w fun e w' =>
      e = .returned (.agg #[.int .i64 (PM.readI l wr).1.br, .int .u64 ((PM.readI l wr).1.life : Int), .int .u64 ((PM.readI l wr).1.ser : Int)]) ∧ PM.RD 102 w' b (PM.readI l wr).2.1 (PM.readI l wr).2.2 ∧ PM.Bx b w w' := by
  have hbw : b < w.heap.size := h.lt
  obtain ⟨g2, hg2⟩ : ∃ g, g = w.heap.size := ⟨_, rfl⟩
  obtain ⟨W0, hW0⟩ : ∃ W, W = w.alloc (.cells #[.int .i64 0, .int .u64 0, .int .u64 0] 39) := ⟨_, rfl⟩
  have hB0 : Below w.heap.size w W0 := by rw [hW0]; exact (Below.refl _ _).alloc (Nat.le_refl _) _
  have hZ : PM.BK W0 g2 #[.int .i64 0, .int .u64 0, .int .u64 0] 39 := by rw [hW0, hg2]; exact PM.BK.new _ _ _
  have hR := h.keep hB0
  have hg2b : g2 ≠ b := by omega
  obtain ⟨a, l1, wr1, s1⟩ : ∃ a b c, PM.stepN l wr = (a, b, c) := ⟨_, _, _, rfl⟩
  obtain ⟨c, l2, wr2, s2⟩ : ∃ a b c, PM.stepN l1 wr1 = (a, b, c) := ⟨_, _, _, rfl⟩
  obtain ⟨d, l3, wr3, s3⟩ : ∃ a b c, PM.stepN l2 wr2 = (a, b, c) := ⟨_, _, _, rfl⟩
  rw [PM.readI_eq s1 s2 s3]
  have hN1 := small_any b l wr W0 hR
  rw [s1] at hN1
  have hN2 := fun (W : World) (h : PM.RD 102 W b l1 wr1) => rnumber_any b l1 wr1 W h
  rw [s2] at hN2
  have hN3 := fun (W : World) (h : PM.RD 102 W b l2 wr2) => rnumber_any b l2 wr2 W h
  rw [s3] at hN3
  have q1 := (PM.stepN_lt l1 wr1).1
  have q2 := (PM.stepN_lt l2 wr2).1
  rw [s2] at q1
  rw [s3] at q2
  simp only at q1 q2 hN1 hN2 hN3 ⊢
  clear s1 s2 s3 h
  go_enter Try.func38, Try.ntmps38
  go_upto_region 1 with fail
  rw [← hW0, ← hg2]
  have hg2w : w.heap.size ≤ g2 := by omega
  clear hW0 hg2
  have hX := PM.hid (PM.Bx.of (b := b) hB0)
  clear hB0 hR
  go_wp2_with fail
  refine hN1.mono ?_
  clear hN1
  rintro e w1 ⟨rfl, hr, hx1⟩
  replace hZ := hZ.keepx hx1 hg2b
  replace hX := PM.hid (hX.out.trans hx1)
  clear hx1
  go_upto_region 2 with fail
  obtain ⟨g3, hg3⟩ : ∃ g, g = w1.heap.size := ⟨_, rfl⟩
  obtain ⟨W2, hW2⟩ : ∃ W, W = w1.alloc (.cells #[.int .i64 (PM.sm a), .int .u64 0, .int .u64 0] 39) := ⟨_, rfl⟩
  have hB2 : Below w1.heap.size w1 W2 := by rw [hW2]; exact (Below.refl _ _).alloc (Nat.le_refl _) _
  have hT3 : PM.BK W2 g3 #[.int .i64 (PM.sm a), .int .u64 0, .int .u64 0] 39 := by rw [hW2, hg3]; exact PM.BK.new _ _ _
  have hg3b : g3 ≠ b := by have := hr.lt; omega
  have hg23 : g2 ≠ g3 := by have := hZ.lt; omega
  have hg3w : w.heap.size ≤ g3 := by have := hX.out.size; omega
  replace hr := hr.keep hB2
  replace hZ := hZ.keep hB2
  replace hX := PM.hid (hX.out.trans (PM.Bx.of hB2))
  rw [← hW2, ← hg3]
  clear hW2 hg3 hB2
  go_wp2_with fail
  refine (hN2 W2 hr).mono ?_
  clear hN2
  rintro e w4 ⟨rfl, hr4, hx4⟩
  replace hZ := hZ.keepx hx4 hg2b
  replace hT3 := hT3.keepx hx4 hg3b
  replace hX := PM.hid (hX.out.trans hx4)
  clear hx4 hr
  have f1 := hT3.free 1
  have t1 := hT3.cell 1
  go_upto_region 3 with fail
  have kn := hT3.set 1 (.int .u64 (c : Int))
  replace kn : PM.BK (w4.setCell ⟨g3, 1, none⟩ (.int .u64 (c : Int))) g3 #[.int .i64 (PM.sm a), .int .u64 (c : Int), .int .u64 0] 39 := by simpa using kn
  have hxs : PM.Bx g3 w4 (w4.setCell ⟨g3, 1, none⟩ (.int .u64 (c : Int))) := PM.Bx.set g3 1 w4 (.int .u64 (c : Int))
  generalize (w4.setCell ⟨g3, 1, none⟩ (.int .u64 (c : Int))) = w5 at *
  replace hZ := hZ.keepx hxs hg23
  have hr := PM.RD.keepy hxs (Ne.symm hg3b) hT3 (PM.id_nobyte _ _ _) hr4
  replace hX := PM.hid (hX.out.low hxs hg3w)
  replace hT3 := kn
  clear hxs hr4 kn f1 t1
  go_wp2_with fail
  refine (hN3 w5 hr).mono ?_
  clear hN3
  rintro e w6 ⟨rfl, hr6, hx6⟩
  replace hZ := hZ.keepx hx6 hg2b
  replace hT3 := hT3.keepx hx6 hg3b
  replace hX := PM.hid (hX.out.trans hx6)
  clear hx6 hr
  have f2 := hT3.free 2
  have t2 := hT3.cell 2
  go_upto_region 4 with fail
  have kn := hT3.set 2 (.int .u64 (d : Int))
  replace kn : PM.BK (w6.setCell ⟨g3, 2, none⟩ (.int .u64 (d : Int))) g3 #[.int .i64 (PM.sm a), .int .u64 (c : Int), .int .u64 (d : Int)] 39 := by simpa using kn
  have hxs : PM.Bx g3 w6 (w6.setCell ⟨g3, 2, none⟩ (.int .u64 (d : Int))) := PM.Bx.set g3 2 w6 (.int .u64 (d : Int))
  generalize (w6.setCell ⟨g3, 2, none⟩ (.int .u64 (d : Int))) = w7 at *
  replace hZ := hZ.keepx hxs hg23
  have hr := PM.RD.keepy hxs (Ne.symm hg3b) hT3 (PM.id_nobyte _ _ _) hr6
  replace hX := PM.hid (hX.out.low hxs hg3w)
  replace hT3 := kn
  clear hxs hr6 kn f2 t2
  have t0 : w7.cell? ⟨g3, 0, none⟩ = some (.int .i64 (PM.sm a)) := hT3.cell 0
  have t1 : w7.cell? ⟨g3, 1, none⟩ = some (.int .u64 (c : Int)) := hT3.cell 1
  have t2 : w7.cell? ⟨g3, 2, none⟩ = some (.int .u64 (d : Int)) := hT3.cell 2
  have z0 := hZ.cell 0
  have z1 := hZ.cell 1
  have z2 := hZ.cell 2
  have f0 := hZ.free 0
  have f1 := hZ.free 1
  have f2 := hZ.free 2
  go_wp2
  have ZF := hZ.set3a (.int .i64 (PM.sm a)) (.int .u64 (c : Int)) (.int .u64 (d : Int))
  have hxf := PM.Bx.set3 g2 w7 (.int .i64 (PM.sm a)) (.int .u64 (c : Int)) (.int .u64 (d : Int))
  generalize (((w7.setCell ⟨g2, 0, none⟩ (.int .i64 (PM.sm a))).setCell ⟨g2, 1, none⟩ (.int .u64 (c : Int))).setCell ⟨g2, 2, none⟩ (.int .u64 (d : Int))) = wf at *
  have q0 := ZF.cell 0
  have q1 := ZF.cell 1
  have q2 := ZF.cell 2
  refine bodyPost_ret (v := .agg #[.int .i64 (PM.sm a), .int .u64 (c : Int), .int .u64 (d : Int)]) (by simp [results, Try.results38, go_sem, q0, q1, q2]) rfl ?_
  exact ⟨rfl, PM.RD.keepy hxf (Ne.symm hg2b) hZ (PM.id_nobyte _ _ _) hr, hX.out.low hxf hg2w⟩
end Go.Proofs.Ytphdadlpfjfeoaa

/-
  CONTRACT OF entry.readEvents.
-/
namespace Go.Proofs.Ytphdadlpfjfeoaa
open Go.RowKit
set_option linter.unusedVariables false
set_option linter.unusedSimpArgs false
namespace PM
/-- a slice in a cell -/
structure SV where
  v : Value
  one : v.oneCell' = true
  nb : NoB v
def svL (s : SV) : List Value := [s.v]
theorem svL_len (s : SV) : (svL s).length = 1 := rfl
theorem svL_one (s : SV) : ∀ u ∈ svL s, u.oneCell' = true := by intro u hu; simp [svL] at hu; subst hu; exact s.one
theorem svL_nob (s : SV) : ∀ u ∈ svL s, NoB u := by intro u hu; simp [svL] at hu; subst hu; exact s.nb
/-- events of the call's own -/
def OEv (TE TA : TypeId) (B : Nat) (w : World) (v : Value) (es : List (List At)) : Prop :=
  ∃ svs : List SV, OM svL 1 TE B w v svs ∧ svs.length = es.length ∧ ∀ (i : Nat) (s : SV) (e : List At), svs[i]? = some s → es[i]? = some e → OM attL 4 TA B w s.v e
section
variable {TE TA : TypeId} {B : Nat} {w W : World} {v : Value} {es : List (List At)}
theorem OEv.nil (w : World) : OEv TE TA B w (.slice none 0 0) [] := ⟨[], OM.nilrow w, rfl, fun i s e a _ => by simp at a⟩
theorem OEv.keep (hb : Below W.heap.size W w) (h : OEv TE TA B W v es) : OEv TE TA B w v es := by
  obtain ⟨svs, h1, h2, h3⟩ := h
  exact ⟨svs, h1.keep hb, h2, fun i s e a b => (h3 i s e a b).keep hb⟩
theorem OEv.mono {B' : Nat} (hb : B' ≤ B) (h : OEv TE TA B w v es) : OEv TE TA B' w v es := by
  obtain ⟨svs, h1, h2, h3⟩ := h
  exact ⟨svs, h1.mono hb, h2, fun i s e a b => (h3 i s e a b).mono hb⟩
theorem OEv.keepx {b : Nat} {cs : Array Value} {T : TypeId} (h : OEv TE TA B W v es) (hx : Bx b W w) (hb : BK W b cs T) (h1 : T ≠ TE) (h2 : T ≠ TA) : OEv TE TA B w v es := by
  obtain ⟨svs, g1, g2, g3⟩ := h
  exact ⟨svs, g1.keepx hx hb h1, g2, fun i s e a b => (g3 i s e a b).keepx hx hb h2⟩
theorem OEv.evl (h : OEv TE TA B w v es) : EVL w v es := by
  obtain ⟨svs, h1, h2, h3⟩ := h
  refine ⟨svs.map fun s => ce1 s.v s.one, ?_, by simp [h2], fun i cs e hi he => ?_⟩
  · have := h1.em svL_len
    obtain ⟨ad, cap, hv, g1, g2, g3⟩ := this
    refine ⟨ad, cap, by simpa using hv, by simpa using g1, g2, fun hp => ?_⟩
    obtain ⟨b, off, ha, g4⟩ := g3 (by simpa using hp)
    refine ⟨b, off, ha, fun i x hx => ?_⟩
    rw [List.getElem?_map] at hx
    obtain ⟨s, hs, rfl⟩ := Option.map_eq_some_iff.1 hx
    exact g4 i s hs
  · rw [List.getElem?_map] at hi
    obtain ⟨s, hs, rfl⟩ := Option.map_eq_some_iff.1 hi
    exact ⟨s.v, rfl, ((h3 i s e hs he).em attL_len).ev⟩
theorem OEv.len (h : OEv TE TA B w v es) : ∃ ad cap, v = .slice ad es.length cap := by
  obtain ⟨svs, h1, h2, h3⟩ := h
  rw [← h2]
  exact (h1.em svL_len).len
end
theorem Bx.low' {b : Nat} {x y z : World} (h : Bx b x y) (k : Below x.heap.size y z) : Bx b x z :=
  ⟨k.os.trans h.os, k.tape.trans h.tape, k.output.trans h.output, Nat.le_trans h.size k.size, fun i hi hn => (k.block i hi).trans (h.block i hi hn)⟩
end PM
theorem evTy : PM.MTy Try.prog 42 84 1 24 := by
  refine ⟨Try.underlying42, by decide, ?_⟩
  obtain ⟨i, h1, h2, h3, h4⟩ := info_parts (P := Try.prog) (e := 84) (z := .slice none 0 0) (size := 1) (bytes := 24) (by kernel_rfl)
  exact ⟨i, _, h1, h2, h3, h4, by kernel_rfl⟩
theorem evZ : ∀ i z, Try.prog.info? 84 = some i → i.zero = some z → ∀ x ∈ z.cells.toList, PM.NoB x := by
  intro i z hi hz x hx y
  have h0 : (Try.prog.info? 84).bind (·.zero) = some (.slice none 0 0) := by kernel_rfl
  rw [hi] at h0
  simp only [Option.bind_some, hz, Option.some.injEq] at h0
  subst h0
  simp [Value.cells] at hx
  subst hx
  simp [PM.bv]
def RetEvs (W : World) (b : Nat) (most : Int) (l : List UInt8) (wr : Bool) (e : Ending) (w' : World) : Prop :=
  (∃ es l' wr' o, ¬ 8 < (PM.stepN l wr).1 ∧ PM.stepsV most (PM.stepN l wr).1 (PM.stepN l wr).2.1 (PM.stepN l wr).2.2 = (some es, l', wr') ∧ e = .returned (.tuple #[o, .int .i64 0]) ∧ PM.OEv 84 112 W.heap.size w' o es ∧ PM.RD 102 w' b l' wr' ∧ PM.Bx b W w') ∨
  (∃ z : Int, z ≠ 0 ∧ (8 < (PM.stepN l wr).1 ∨ (PM.stepsV most (PM.stepN l wr).1 (PM.stepN l wr).2.1 (PM.stepN l wr).2.2).1 = none) ∧ e = .returned (.tuple #[.slice none 0 0, .int .i64 z]) ∧ PM.Bx b W w')
set_option maxRecDepth 100000 in
set_option maxHeartbeats 4000000 in
theorem readEvents_any (b : Nat) (l : List UInt8) (wr : Bool) (most : Int) (w : World) (h : PM.RD 102 w b l wr) (hl : l.length ≤ 70368744177664) (hm1 : -9223372036854775808 ≤ most) (hm2 : most ≤ 9223372036854775807) :
    Calls Try.prog 66 #[.pointer (some ⟨b, 0, none⟩), .int .i64 most] w (RetEvs w b most l wr) := by
  unfold RetEvs
  have hn1 := rnumber_any b l wr w h
  have hlt := PM.stepN_lt l wr
  have hbw := h.lt
  generalize PM.stepN l wr = S at *
  obtain ⟨n0, l0, wr0⟩ := S
  simp only at hn1 hlt ⊢
  obtain ⟨hn64, hl0⟩ := hlt
  clear h
  go_enter Try.func66, Try.ntmps66
  go_wp2_with fail
  refine hn1.mono ?_
  clear hn1
  rintro e w2 ⟨rfl, hr2, hx2⟩
  by_cases h8 : 8 < n0
  · have hg : decide ((8 : Int) < (n0 : Int)) = true := by simp; omega
    have hxh := PM.hid hx2
    have h8h := PM.hid h8
    clear hr2 hx2 h8
    go_wp2_with fail
    go_ret2
    exact .inr ⟨110, by decide, .inl h8h.out, rfl, hxh.out⟩
  have hg : decide ((8 : Int) < (n0 : Int)) = false := by simp; omega
  have h8' : n0 ≤ 8 := by omega
  have hin := PM.hid (And.intro hr2 hx2)
  clear hr2 h8 hx2
  go_wp2_with fail
  go_loopw [6, 15] (fun o i wr => ∃ k : Nat, i = .int .u64 k ∧ k ≤ n0 ∧ ∃ (svs : List PM.SV) (es : List (List PM.At)) (l1 : List UInt8) (wr1 : Bool), PM.stepsV most k l0 wr0 = (some es, l1, wr1) ∧ PM.OM PM.svL 1 84 w.heap.size wr o svs ∧ PM.NBv wr o ∧ svs.length = es.length ∧ (∀ (i : Nat) (s : PM.SV) (e : List PM.At), svs[i]? = some s → es[i]? = some e → PM.OM PM.attL 4 112 w.heap.size wr s.v e) ∧ PM.RD 102 wr b l1 wr1 ∧ PM.Bx b w wr) (fun _ i _ => n0 - (intOf i).toNat)
  case atStart => exact ⟨0, rfl, by omega, [], [], l0, wr0, rfl, PM.OM.nilrow _, PM.NBv.nil _, rfl, fun i s e a _ => by simp at a, hin.out.1, hin.out.2⟩
  case round =>
    clear hin
    obtain ⟨k, rfl, hk, svs, es, l1, wr1, hst, hO, hN, hlen, hev, hr, hx⟩ := hrel
    have hle := PM.stepsV_le (most := most) k l0 wr0
    have hlk := PM.stepsV_len (most := most) k l0 wr0 es (by rw [hst])
    rw [hst] at hle
    simp only at hle
    by_cases hlt : k < n0
    · have hc : decide ((k : Int) < (n0 : Int)) = true := by simp; omega
      have hct := rbytes_any b l1 wr1 most wr hr (by omega) hm1 hm2
      have hnx := PM.stepsV_next hst
      have hSl := PM.stepB_lt l1 wr1 most
      generalize PM.stepB l1 wr1 most = S at *
      obtain ⟨m, l2, wr2⟩ := S
      simp only at hSl hct hnx
      obtain ⟨cs, hbk⟩ : ∃ cs, PM.BK wr b cs 102 := ⟨_, hr.choose_spec.1⟩
      have hin := PM.hid (And.intro hO (And.intro hN (And.intro hev (And.intro hx hbk))))
      have hnxh := PM.hid hnx
      have hlh := PM.hid hlen
      have hlkh := PM.hid hlk
      clear hO hN hev hx hr hbk hnx hst hlen hlk
      go_wp2_with fail
      refine hct.mono ?_
      clear hct
      rintro e w3 ⟨v3, rfl, ho3, hr3, hx3⟩
      have hd := decode_any v3 m w3 ho3.bs (by omega)
      have hin3 := PM.hid (And.intro hr3 hx3)
      clear ho3 hr3 hx3
      cases hdm : PM.decE m with
      | none =>
        have hdn : Hid (PM.stepsV most (k + 1) l0 wr0 = (none, l2, wr2)) := PM.hid (by rw [hnxh.out, hdm]; rfl)
        have hdv : PM.decN m = 40 := by unfold PM.decN; rw [hdm]; rfl
        unfold RetD at hd
        rw [hdv] at hd
        clear hdv hdm
        go_wp2_with fail
        refine hd.mono ?_
        clear hd
        rintro e w4 ⟨o4, rfl, -, -, hB4⟩
        have hx4 := PM.hid ((hin.out.2.2.2.1.trans hin3.out.2).trans (PM.Bx.of hB4))
        clear hB4
        go_wp2_with fail
        go_ret2
        exact .inr ⟨40, by decide, .inr (PM.stepsV_none (k := k + 1) (by rw [hdn.out]) _ (by omega)), rfl, hx4.out⟩
      | some z =>
        have hdy : Hid (PM.stepsV most (k + 1) l0 wr0 = (some (es ++ [z]), l2, wr2)) := PM.hid (by rw [hnxh.out, hdm]; rfl)
        have hdv : PM.decN m = 0 := by unfold PM.decN; rw [hdm]; rfl
        have hdmh := PM.hid hdm
        unfold RetD at hd
        rw [hdv] at hd
        clear hdv hdm
        go_wp2_with fail
        refine hd.mono ?_
        clear hd
        rintro e w4 ⟨o4, rfl, ho4, -, hB4⟩
        replace ho4 := ho4 z hdmh.out
        obtain ⟨oa, oc, hoe⟩ := (ho4.em PM.attL_len).len
        subst hoe
        obtain ⟨hO, hN, hev, hx, hbk⟩ := hin.out
        have hT1 : 102 ≠ 84 := by decide
        have hT2 : 102 ≠ 112 := by decide
        have hT3 : 112 ≠ 84 := by decide
        have hne := hO.nev hbk hT1
        have hO4 := (hO.keepx hin3.out.2 hbk hT1).keep hB4
        have hN4 := (hN.keepx hin3.out.2 (fun g hg => (hO.lt g hg).2) hne).keep hB4 (fun g hg => ((hO.keepx hin3.out.2 hbk hT1).lt g hg).2)
        have hev4 : Hid (∀ (i : Nat) (s : PM.SV) (e : List PM.At), svs[i]? = some s → es[i]? = some e → PM.OM PM.attL 4 112 w.heap.size w4 s.v e) := PM.hid fun i s e a c => ((hev i s e a c).keepx hin3.out.2 hbk hT2).keep hB4
        have hx4 := PM.hid ((hx.trans hin3.out.2).trans (PM.Bx.of hB4))
        have hr4 := PM.hid (hin3.out.1.keep hB4)
        have ho4' := PM.hid (ho4.mono (Nat.le_trans hx.size hin3.out.2.size))
        have hnh := PM.hid hne
        have hs4 : w.heap.size ≤ w4.heap.size := hx4.out.size
        have hn1 : (svs.length + 1) * 24 ≤ 140737488355328 := by have := hlh.out; have := hlkh.out; omega
        have hn2 : svs.length + 1 ≤ maxLen := by have := hlh.out; have := hlkh.out; unfold maxLen; omega
        clear hO hN hev hx hbk hB4 ho4 hne hin hin3
        go_wp2_with (at_builtin; refine PM.wpList_em1v (e := PM.svL) evTy evZ PM.svL_len PM.svL_one PM.svL_nob w.heap.size w4 rfl _ _ rfl _ svs ⟨_, rfl, by intro y; simp [PM.bv]⟩ _ rfl rfl rfl rfl hO4 hN4 hn1 hn2 hs4 ?_; intro v' w' t1 t2 t3 t4; have hE := PM.hid (And.intro t1 (And.intro t2 (And.intro t3 t4))); clear t1 t2 t3 t4)
        have hrow := hO4.rowty
        refine ⟨⟨k + 1, by simp, by omega, _, es ++ [z], l2, wr2, hdy.out, hE.out.1, hE.out.2.1, by simp [hlh.out], fun i s e hi he => ?_, ?_, hx4.out.low' hE.out.2.2.1⟩, by simp only [intOf]; omega⟩
        · by_cases hil : i < svs.length
          · rw [List.getElem?_append_left hil] at hi
            rw [List.getElem?_append_left (by rw [← hlh.out]; exact hil)] at he
            exact (hev4.out i s e hi he).stays hT3 hE.out.2.2.2 hrow
          · rw [List.getElem?_append_right (by omega)] at hi
            rw [List.getElem?_append_right (by rw [← hlh.out]; omega), ← hlh.out] at he
            have h0 : i - svs.length = 0 := by have := (List.getElem?_eq_some_iff.1 hi).1; simp at this; omega
            rw [h0] at hi he
            simp at hi he
            subst hi he
            exact ho4'.out.stays hT3 hE.out.2.2.2 hrow
        · exact hr4.out.keptv hE.out.2.2.2 hN4 hnh.out
    · have hkn : k = n0 := by omega
      subst hkn
      have hc : decide ((k : Int) < (k : Int)) = false := by simp
      have hin := PM.hid (And.intro hst (And.intro (show PM.OEv 84 112 w.heap.size wr u6 es from ⟨svs, hO, hlen, hev⟩) (And.intro hr hx)))
      clear hst hO hN hlen hev hr hx
      go_wp2_with fail
      go_ret2
      exact .inl ⟨es, l1, wr1, u6, by omega, hin.out.1, rfl, hin.out.2.1, hin.out.2.2.1, hin.out.2.2.2⟩
end Go.Proofs.Ytphdadlpfjfeoaa
