/-
  A REGION THAT DRAWS ITS ORDER, IN TWO PARTS, as in XRt, where the second part may write slots that the first one reads. Over any program.
-/
import Derived.Test.YtklgibkdbdhaiaaRt
namespace Go.Proofs.Ytklgibkdbdhaiaa
namespace PM
open Go.RowKit
set_option linter.unusedVariables false
def dstsN (n1 : Nat) (ops : Array Oper) : List Tmp := (ops.toList.take n1).filterMap (·.dst)
/-- slots that the first operations do not write are as they were -/
structure FrN (n1 : Nat) (ops : Array Oper) (a0 a : Act) : Prop where
  defers : a.defers = a0.defers
  size : a.tmps.size = a0.tmps.size
  keep : ∀ k, (dstsN n1 ops).contains k = false → a.tmps.getD k undef = a0.tmps.getD k undef
section
variable {P : Program} {ops : Array Oper} {Q : Exit → Act → World → Prop} {a0 : Act} {w0 : World} {Spec : Nat → Value → World → Prop}
theorem wpAny_twoL (n1 : Nat) (hn : n1 ≤ ops.size) (hck : rck ops a0.tmps.size = true) (hcl : closck ops n1 = true) (stable : ∀ i v w w', Spec i v w → Below w.heap.size w w' → Spec i v w')
    (ob : ∀ i o, i < n1 → ops[i]? = some o → ∀ a w, Below w0.heap.size w0 w → FrN n1 ops a0 a → (∀ e ∈ o.after, Region.binds .any e = true → Sp ops Spec e.on a w) →
      wpOp P ops Q i (fun a' w' => Below w.heap.size w w' ∧ ∃ v, a' = a.put o.dst v ∧ Spec i v w') a w)
    (fin : ∀ a w, Below w0.heap.size w0 w → FrN n1 ops a0 a → (∀ i, i < n1 → Sp ops Spec i a w) → wpAny P .any ops Q (ops.size - n1) (firstN n1 ops.size) a w) :
    ∀ (fuel : Nat) (listed : Array Bool) (a : Act) (w : World), listed.size = ops.size → ((listed.toList.take n1).filter (!·)).length = fuel → (∀ i, n1 ≤ i → listed.getD i false = false) → Down ops listed → Below w0.heap.size w0 w → FrN n1 ops a0 a →
      (∀ i, listed.getD i false = true → Sp ops Spec i a w) → wpAny P .any ops Q (fuel + (ops.size - n1)) listed a w := by
  have hget : ∀ (listed : Array Bool) (i : Nat), i < n1 → (listed.toList.take n1)[i]? = listed[i]? := fun listed i hi => by rw [List.getElem?_take_of_lt hi]; simp
  intro fuel
  induction fuel with
  | zero =>
    intro listed a w hs hu hno hdn hb hf hsp
    have hall : ∀ i, i < n1 → listed.getD i false = true := fun i hi => by
      have h := un_zero _ hu i (by simp [hs]; omega)
      rw [hget listed i hi] at h
      rw [Array.getD_eq_getD_getElem?, h]; rfl
    have he : listed = firstN n1 ops.size := by
      apply Array.ext
      · simp [firstN, hs]
      · intro i h1 h2
        have e1 : listed.getD i false = listed[i] := by simp [Array.getD_eq_getD_getElem?, h1]
        have e2 : (firstN n1 ops.size).getD i false = (firstN n1 ops.size)[i] := by simp [Array.getD_eq_getD_getElem?, h2]
        rw [← e1, ← e2, firstN_getD _ _ _ (by omega)]
        by_cases hi : i < n1
        · rw [hall i hi]; simp [hi]
        · rw [hno i (by omega)]; simp [hi]
    rw [Nat.zero_add, he]
    exact fin a w hb hf fun i hi => hsp i (hall i hi)
  | succ fuel ih =>
    intro listed a w hs hu hno hdn hb hf hsp
    obtain ⟨i0, hi0, hj0⟩ := un_pos (listed.toList.take n1) (by omega)
    have hi0n : i0 < n1 := by
      have := (List.getElem?_eq_some_iff.1 hi0).1
      simp at this; omega
    rw [hget listed i0 hi0n] at hi0
    have hready : Region.ready .any ops listed ≠ [] := by
      intro he
      have hlt : i0 < ops.size := by omega
      obtain ⟨o, ho⟩ : ∃ o, ops[i0]? = some o := ⟨ops[i0], by simp⟩
      have hm : i0 ∈ Region.ready .any ops listed := mem_ready.2 ⟨by rw [Array.getD_eq_getD_getElem?, hi0]; rfl, o, ho, fun e he' _ => by
        have hlt' := rck_after hck ho e he'
        have hj' := hj0 e.on hlt'
        rw [hget listed e.on (by omega)] at hj'
        rw [Array.getD_eq_getD_getElem?, hj']; rfl⟩
      rw [he] at hm
      cases hm
    rw [show fuel + 1 + (ops.size - n1) = (fuel + (ops.size - n1)) + 1 from by omega]
    refine ⟨fun he => absurd he hready, fun i hi => ?_⟩
    obtain ⟨h0, o, ho, hdep⟩ := mem_ready.1 hi
    have hlt : i < ops.size := (Array.getElem?_eq_some_iff.1 ho).1
    have hlt' : i < listed.size := by omega
    have hin : i < n1 := by
      refine Nat.lt_of_not_le fun hge => ?_
      have h1 := List.all_eq_true.1 hcl i (List.mem_range.2 hlt)
      simp only [Bool.or_eq_true, decide_eq_true_eq] at h1
      have h2 := h1.resolve_left (by omega)
      have h3 := List.all_eq_true.1 h2 i0 (List.mem_range.2 hi0n)
      have h4 := clos_listed hdn _ i i0 o ho hdep h3
      rw [Array.getD_eq_getD_getElem?, hi0] at h4
      cases h4
    refine wpOp_mono (fun a' w' ⟨hbw, v, hv, hspec⟩ => ?_) (ob i o hin ho a w hb hf fun e he hbd => hsp e.on (hdep e he hbd))
    subst hv
    have hi1 : (listed.toList.take n1)[i]? = some false := by
      rw [hget listed i hin]
      simp only [Array.getD_eq_getD_getElem?, Array.getElem?_eq_getElem hlt', Option.getD_some] at h0
      simp [hlt', h0]
    refine ih _ _ _ (by simpa using hs) ?_ ?_ ?_ (hb.trans (hbw.mono hb.size)) ?_ ?_
    · have := un_set _ i hi1
      rw [Array.toList_setIfInBounds, List.take_set]
      omega
    · intro j hj
      rw [getD_set_ne false (by omega)]
      exact hno j hj
    · intro j o' ho' hj e he hbd
      by_cases hji : j = i
      · subst hji
        rw [ho] at ho'
        obtain rfl := Option.some.inj ho'
        exact getD_set_true (hdep e he hbd)
      · rw [getD_set_ne false (Ne.symm hji)] at hj
        exact getD_set_true (hdn j o' ho' hj e he hbd)
    · cases hd : o.dst with
      | none => simpa [Act.put] using hf
      | some d =>
        have hmem : (dstsN n1 ops).contains d = true := by
          unfold dstsN
          simp only [List.contains_iff_mem, List.mem_filterMap]
          exact ⟨o, List.mem_of_getElem? (i := i) (by rw [List.getElem?_take_of_lt hin]; simpa using ho), hd⟩
        refine ⟨by simpa [Act.put] using hf.defers, by simpa [Act.put] using hf.size, fun k hk => ?_⟩
        rw [← hf.keep k hk]
        have hne : d ≠ k := fun e => by rw [e] at hmem; rw [hmem] at hk; cases hk
        simp [Act.put, Array.getD_eq_getD_getElem?, Array.getElem?_setIfInBounds_ne hne]
    · intro j hj
      by_cases hji : j = i
      · subst hji
        unfold Sp
        rw [ho]
        cases hd : o.dst with
        | none => simp [hd]
        | some d =>
          have hdl := (rck_dst hck ho hd).1
          simp only [Option.bind_some, hd]
          have hsz : d < a.tmps.size := by rw [hf.size]; exact hdl
          simpa [Act.put, Array.getD_eq_getD_getElem?, hsz] using hspec
      · have hj' : listed.getD j false = true := by rw [getD_set_ne false (Ne.symm hji)] at hj; exact hj
        have h1 := hsp j hj'
        unfold Sp at *
        cases hd : o.dst with
        | none =>
          simp only [Act.put]
          split
          · rename_i d' hd'
            rw [hd'] at h1
            exact stable _ _ _ _ h1 hbw
          · trivial
        | some d =>
          have hne := (rck_dst hck ho hd).2 j hji
          split
          · rename_i d' hd'
            rw [hd'] at h1
            have hdd : d ≠ d' := fun e => by subst e; exact hne hd'
            have e1 : (a.put (some d) v).tmps.getD d' undef = a.tmps.getD d' undef := by
              simp [Act.put, Array.getD_eq_getD_getElem?, Array.getElem?_setIfInBounds_ne hdd]
            rw [e1]
            exact stable _ _ _ _ h1 hbw
          · trivial
/-- what is to be shown of one operation -/
def ob1L (P : Program) (fl dl : List (Option Nat)) (a0 : Act) (w0 : World) (specs : List (Value → World → Prop)) (i : Nat) (o : Oper) : Prop :=
  ∀ a w, Below w0.heap.size w0 w → (∀ k, fl.contains (some k) = false → sl a k = sl a0 k) → depsL dl specs a w o.after.toList →
    if wantL dl a o = true then o.wp P a w (fun a' w' => Below w.heap.size w w' ∧ ∃ v, a' = a.put o.dst v ∧ spec specs i v w') NoExit else spec specs i undef w
def obsL (P : Program) (fl dl : List (Option Nat)) (a0 : Act) (w0 : World) (specs : List (Value → World → Prop)) : Nat → List Oper → Prop
  | _, [] => True
  | i, o :: rest => ob1L P fl dl a0 w0 specs i o ∧ obsL P fl dl a0 w0 specs (i + 1) rest
theorem obsL_get {fl dl : List (Option Nat)} {specs : List (Value → World → Prop)} : ∀ (l : List Oper) (k : Nat), obsL P fl dl a0 w0 specs k l → ∀ i o, l[i]? = some o → ob1L P fl dl a0 w0 specs (k + i) o
  | [], _, _, i, o, h => by simp at h
  | o' :: l, k, h, 0, o, hi => by simp at hi; subst hi; exact h.1
  | o' :: l, k, h, i + 1, o, hi => by
    have := obsL_get l (k + 1) h.2 i o (by simpa using hi)
    rwa [show k + 1 + i = k + (i + 1) from by omega] at this
theorem wp_region_stL {id : Nat} {l : List Oper} (n1 : Nat) (dl : List (Option Nat)) (specs : List (Value → World → Prop)) (hm : P.follows .mixedOrders = true) (hck : rck l.toArray a0.tmps.size = true) (hcl : closck l.toArray n1 = true) (hla : lastck l.toArray n1 = true)
    (hdone : Region.ready .any l.toArray (firstN l.toArray.size l.toArray.size) = []) (hn : n1 ≤ l.length) (hdl : l.map (·.dst) = dl)
    (stable : ∀ S ∈ specs, ∀ v w w', S v w → Below w.heap.size w w' → S v w')
    (ob : obsL P (dl.take n1) dl a0 w0 specs 0 (l.take n1))
    (fin : ∀ (G : Nat → Value) w, Below w0.heap.size w0 w → (∀ k, (dl.take n1).contains (some k) = false → G k = sl a0 k) → allSp specs G w 0 (dl.take n1) → wpList P l.toArray Q (l.drop n1) { tmps := ((List.range a0.tmps.size).map G).toArray, defers := a0.defers } w) : (Code.region id l.toArray true).wp P Q a0 w0 := by
  subst hdl
  have hget : ∀ j, (l.toArray[j]?).bind (·.dst) = (l.map (·.dst)).getD j none := fun j => by
    rw [List.getD_eq_getElem?_getD, List.getElem?_map]
    simp only [List.getElem?_toArray]
    cases l[j]? <;> rfl
  have hcon : ∀ k, ((l.map (·.dst)).take n1).contains (some k) = false → (dstsN n1 l.toArray).contains k = false := fun k hk => by
    cases hc : (dstsN n1 l.toArray).contains k
    · rfl
    · exfalso
      unfold dstsN at hc
      simp only [List.contains_iff_mem, List.mem_filterMap] at hc
      obtain ⟨o, ho, hd⟩ := hc
      have : ((l.map (·.dst)).take n1).contains (some k) = true := by
        rw [← List.map_take]
        simp only [List.contains_iff_mem, List.mem_map]
        exact ⟨o, ho, hd⟩
      rw [this] at hk
      cases hk
  refine wp_region_any hm ?_
  have hmain := fun w1 (hb1 : Below w0.heap.size w0 w1) => wpAny_twoL (P := P) (Q := Q) (a0 := a0) (w0 := w0) (Spec := spec specs) n1 (by simpa using hn) hck hcl ?_ ?_ ?_ n1 (Array.replicate l.toArray.size false) a0 w1 (by simp) ?_ ?_ ?_ hb1 ⟨rfl, rfl, fun _ _ => rfl⟩ ?_
  · rw [show n1 + (l.toArray.size - n1) = l.toArray.size from by simp; omega] at hmain
    exact hmain _ ⟨rfl, rfl, rfl, Nat.le_refl _, fun _ _ => rfl⟩
  · intro i v w w' h hb
    unfold spec at *
    by_cases hi : i < specs.length
    · have hm : specs.getD i (fun _ _ => True) ∈ specs := by
        rw [List.getD_eq_getElem?_getD, List.getElem?_eq_getElem hi, Option.getD_some]
        exact List.getElem_mem hi
      exact stable _ hm v w w' h hb
    · rw [List.getD_eq_getElem?_getD, List.getElem?_eq_none (by omega)]
      trivial
  · intro i o hi ho a w hb hf hd
    have hdeps : ∀ (es : List Edge), (∀ e ∈ es, Region.binds .any e = true → Sp l.toArray (spec specs) e.on a w) → depsL (l.map (·.dst)) specs a w es := by
      intro es
      induction es with
      | nil => intro _; trivial
      | cons e es ih =>
        intro h
        refine ⟨?_, ih fun e' he' => h e' (by simp [he'])⟩
        split
        · rename_i hb'
          have h1 := h e (by simp) hb'
          unfold Sp at h1
          rw [hget] at h1
          exact h1
        · trivial
    have ho' : (l.take n1)[i]? = some o := by rw [List.getElem?_take_of_lt hi]; simpa using ho
    have h1 := obsL_get (l.take n1) 0 ob i o ho' a w hb (fun k hk => hf.keep k (hcon k hk)) (hdeps _ fun e he => hd e (by simpa using he))
    rw [Nat.zero_add] at h1
    have hw : wantL (l.map (·.dst)) a o = Region.wanted o (yielded l.toArray a.tmps) := by
      unfold wantL Region.wanted
      cases hg : o.guard with
      | none => rfl
      | some g =>
        obtain ⟨j, want⟩ := g
        simp only [yielded]
        rw [hget]
        cases hd' : (l.map (·.dst)).getD j none with
        | none => rfl
        | some d =>
          simp only [Option.bind_some, sl, Array.getD_eq_getD_getElem?]
          cases a.tmps[d]? with
          | none => rfl
          | some x => cases x <;> simp
    rw [hw] at h1
    unfold wpOp
    rw [ho]
    simp only
    split
    · rename_i hw
      rw [if_pos hw] at h1
      exact .inl (Oper.wp_noExit h1)
    · rename_i hw
      rw [if_neg hw] at h1
      exact ⟨Below.refl _ _, undef, rfl, h1⟩
  · intro a w hb hf hs
    refine wpAny_last _ n1 rfl hla (by simpa using hn) hdone a w ?_
    rw [act_eq hf.defers hf.size]
    have h1 := fin (sl a) w hb (fun k hk => hf.keep k (hcon k hk)) ?_
    · simpa using h1
    · have hal : ∀ (dl' : List (Option Nat)) (k : Nat), (∀ i, i < dl'.length → (l.toArray[k + i]?).bind (·.dst) = dl'.getD i none ∧ k + i < n1) → allSp specs (sl a) w k dl' := by
        intro dl'
        induction dl' with
        | nil => intro _ _; trivial
        | cons d dl' ih =>
          intro k hk
          have h0 := hk 0 (by simp)
          have hr := ih (k + 1) fun i hi => by have := hk (i + 1) (by simpa using hi); rwa [show k + 1 + i = k + (i + 1) from by omega]
          cases d with
          | none => exact hr
          | some d =>
            have h1 := hs k h0.2
            unfold Sp at h1
            rw [show (l.toArray[k]?).bind (·.dst) = some d from h0.1] at h1
            exact ⟨h1, hr⟩
      refine hal _ 0 fun i hi => ?_
      have hi' : i < n1 := by simp at hi; omega
      refine ⟨?_, by omega⟩
      rw [Nat.zero_add, hget i, List.getD_eq_getElem?_getD, List.getD_eq_getElem?_getD, List.getElem?_take_of_lt hi']
  · have : ∀ m, ((List.replicate m false).filter (!·)).length = m := fun m => by induction m with
      | zero => rfl
      | succ m ih => simp [List.replicate_succ]
    rw [Array.toList_replicate, List.take_replicate, this]
    simp; omega
  · intro i hi
    by_cases h : i < l.length
    · simp [Array.getD_eq_getD_getElem?, h]
    · simp [Array.getD_eq_getD_getElem?, h]
  · intro i o ho h
    exfalso
    by_cases h' : i < l.length
    · simp [Array.getD_eq_getD_getElem?, h'] at h
    · simp [Array.getD_eq_getD_getElem?, h'] at h
  · intro i hi
    exfalso
    by_cases h : i < l.length
    · simp [Array.getD_eq_getD_getElem?, h] at hi
    · simp [Array.getD_eq_getD_getElem?, h] at hi
end
end PM
end Go.Proofs.Ytklgibkdbdhaiaa
