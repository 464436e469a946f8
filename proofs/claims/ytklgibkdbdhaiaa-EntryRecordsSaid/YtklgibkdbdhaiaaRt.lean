/-
  A REGION THAT DRAWS ITS ORDER, IN TWO PARTS: the first operations in whatever order, each with a property that lasts when memory is made; then those that wait for all of them, in the one order that is left. Over any program.
-/
import Derived.Test.YtklgibkdbdhaiaaRs
namespace Go.Proofs.Ytklgibkdbdhaiaa
namespace PM
open Go.RowKit

/-- does operation i wait for operation j, over any number of others? -/
def clos (ops : Array Oper) : Nat → Nat → Nat → Bool
  | 0, _, _ => false
  | f + 1, i, j => match ops[i]? with
    | some o => o.after.any fun e => Region.binds .any e && (e.on == j || clos ops f e.on j)
    | none => false
def Down (ops : Array Oper) (listed : Array Bool) : Prop := ∀ i o, ops[i]? = some o → listed.getD i false = true → ∀ e ∈ o.after, Region.binds .any e = true → listed.getD e.on false = true
theorem clos_listed {ops : Array Oper} {listed : Array Bool} (hd : Down ops listed) : ∀ (f i j : Nat) (o : Oper), ops[i]? = some o → (∀ e ∈ o.after, Region.binds .any e = true → listed.getD e.on false = true) → clos ops f i j = true → listed.getD j false = true
  | 0, _, _, _, _, _, h => by simp [clos] at h
  | f + 1, i, j, o, ho, hdep, h => by
    unfold clos at h
    rw [ho] at h
    simp only [Array.any_eq_true] at h
    obtain ⟨k, hk, h⟩ := h
    simp only [Bool.and_eq_true, Bool.or_eq_true, beq_iff_eq] at h
    have hm : o.after[k] ∈ o.after := Array.getElem_mem hk
    have h1 := hdep _ hm h.1
    rcases h.2 with h2 | h2
    · rw [← h2]; exact h1
    · cases hf : ops[o.after[k].on]? with
      | none => cases f <;> simp [clos, hf] at h2
      | some o' => exact clos_listed hd f _ j o' hf (hd _ o' hf h1) h2
def firstN (n m : Nat) : Array Bool := ((List.range m).map fun i => decide (i < n)).toArray
theorem firstN_getD (n m i : Nat) (h : i < m) : (firstN n m).getD i false = decide (i < n) := by
  unfold firstN
  simp [Array.getD_eq_getD_getElem?, h]
def closck (ops : Array Oper) (n1 : Nat) : Bool := (List.range ops.size).all fun i => decide (i < n1) || (List.range n1).all fun j => clos ops ops.size i j

section
variable {P : Program} {ops : Array Oper} {Q : Exit → Act → World → Prop} {a0 : Act} {w0 : World} {Spec : Nat → Value → World → Prop}

theorem wpAny_two (n1 : Nat) (hn : n1 ≤ ops.size) (hck : rck ops a0.tmps.size = true) (hcl : closck ops n1 = true) (stable : ∀ i v w w', Spec i v w → Below w.heap.size w w' → Spec i v w')
    (ob : ∀ i o, i < n1 → ops[i]? = some o → ∀ a w, Below w0.heap.size w0 w → Fr ops a0 a → (∀ e ∈ o.after, Region.binds .any e = true → Sp ops Spec e.on a w) →
      wpOp P ops Q i (fun a' w' => Below w.heap.size w w' ∧ ∃ v, a' = a.put o.dst v ∧ Spec i v w') a w)
    (fin : ∀ a w, Below w0.heap.size w0 w → Fr ops a0 a → (∀ i, i < n1 → Sp ops Spec i a w) → wpAny P .any ops Q (ops.size - n1) (firstN n1 ops.size) a w) :
    ∀ (fuel : Nat) (listed : Array Bool) (a : Act) (w : World), listed.size = ops.size → ((listed.toList.take n1).filter (!·)).length = fuel → (∀ i, n1 ≤ i → listed.getD i false = false) → Down ops listed → Below w0.heap.size w0 w → Fr ops a0 a →
      (∀ i, listed.getD i false = true → Sp ops Spec i a w) → wpAny P .any ops Q (fuel + (ops.size - n1)) listed a w := by
  have hget : ∀ (listed : Array Bool) (i : Nat), i < n1 → (listed.toList.take n1)[i]? = listed[i]? := fun listed i hi => by rw [List.getElem?_take_of_lt hi]; simp
  intro fuel
  induction fuel with
  | zero =>
    intro listed a w hs hu hno hdn hb hf hsp
    have hall : ∀ i, i < n1 → listed.getD i false = true := fun i hi => by
      have h := un_zero _ hu i (by simp [hs]; omega)
      rw [hget listed i hi] at h
      rw [Array.getD_eq_getD_getElem?, h]; rfl
    have he : listed = firstN n1 ops.size := by
      apply Array.ext
      · simp [firstN, hs]
      · intro i h1 h2
        have e1 : listed.getD i false = listed[i] := by simp [Array.getD_eq_getD_getElem?, h1]
        have e2 : (firstN n1 ops.size).getD i false = (firstN n1 ops.size)[i] := by simp [Array.getD_eq_getD_getElem?, h2]
        rw [← e1, ← e2, firstN_getD _ _ _ (by omega)]
        by_cases hi : i < n1
        · rw [hall i hi]; simp [hi]
        · rw [hno i (by omega)]; simp [hi]
    rw [Nat.zero_add, he]
    exact fin a w hb hf fun i hi => hsp i (hall i hi)
  | succ fuel ih =>
    intro listed a w hs hu hno hdn hb hf hsp
    obtain ⟨i0, hi0, hj0⟩ := un_pos (listed.toList.take n1) (by omega)
    have hi0n : i0 < n1 := by
      have := (List.getElem?_eq_some_iff.1 hi0).1
      simp at this; omega
    rw [hget listed i0 hi0n] at hi0
    have hready : Region.ready .any ops listed ≠ [] := by
      intro he
      have hlt : i0 < ops.size := by omega
      obtain ⟨o, ho⟩ : ∃ o, ops[i0]? = some o := ⟨ops[i0], by simp⟩
      have hm : i0 ∈ Region.ready .any ops listed := mem_ready.2 ⟨by rw [Array.getD_eq_getD_getElem?, hi0]; rfl, o, ho, fun e he' _ => by
        have hlt' := rck_after hck ho e he'
        have hj' := hj0 e.on hlt'
        rw [hget listed e.on (by omega)] at hj'
        rw [Array.getD_eq_getD_getElem?, hj']; rfl⟩
      rw [he] at hm
      cases hm
    rw [show fuel + 1 + (ops.size - n1) = (fuel + (ops.size - n1)) + 1 from by omega]
    refine ⟨fun he => absurd he hready, fun i hi => ?_⟩
    obtain ⟨h0, o, ho, hdep⟩ := mem_ready.1 hi
    have hlt : i < ops.size := (Array.getElem?_eq_some_iff.1 ho).1
    have hlt' : i < listed.size := by omega
    have hin : i < n1 := by
      refine Nat.lt_of_not_le fun hge => ?_
      have h1 := List.all_eq_true.1 hcl i (List.mem_range.2 hlt)
      simp only [Bool.or_eq_true, decide_eq_true_eq] at h1
      have h2 := h1.resolve_left (by omega)
      have h3 := List.all_eq_true.1 h2 i0 (List.mem_range.2 hi0n)
      have h4 := clos_listed hdn _ i i0 o ho hdep h3
      rw [Array.getD_eq_getD_getElem?, hi0] at h4
      cases h4
    refine wpOp_mono (fun a' w' ⟨hbw, v, hv, hspec⟩ => ?_) (ob i o hin ho a w hb hf fun e he hbd => hsp e.on (hdep e he hbd))
    subst hv
    have hi1 : (listed.toList.take n1)[i]? = some false := by
      rw [hget listed i hin]
      simp only [Array.getD_eq_getD_getElem?, Array.getElem?_eq_getElem hlt', Option.getD_some] at h0
      simp [hlt', h0]
    refine ih _ _ _ (by simpa using hs) ?_ ?_ ?_ (hb.trans (hbw.mono hb.size)) ?_ ?_
    · have := un_set _ i hi1
      rw [Array.toList_setIfInBounds, List.take_set]
      omega
    · intro j hj
      rw [getD_set_ne false (by omega)]
      exact hno j hj
    · intro j o' ho' hj e he hbd
      by_cases hji : j = i
      · subst hji
        rw [ho] at ho'
        obtain rfl := Option.some.inj ho'
        exact getD_set_true (hdep e he hbd)
      · rw [getD_set_ne false (Ne.symm hji)] at hj
        exact getD_set_true (hdn j o' ho' hj e he hbd)
    · cases hd : o.dst with
      | none => simpa [Act.put] using hf
      | some d =>
        have hmem : (dsts ops).contains d = true := by
          unfold dsts
          simp only [List.contains_iff_mem, List.mem_filterMap]
          exact ⟨o, by simpa using Array.mem_of_getElem? ho, hd⟩
        refine ⟨by simpa [Act.put] using hf.defers, by simpa [Act.put] using hf.size, fun k hk => ?_⟩
        rw [← hf.keep k hk]
        have hne : d ≠ k := fun e => by rw [e] at hmem; rw [hmem] at hk; cases hk
        simp [Act.put, Array.getD_eq_getD_getElem?, Array.getElem?_setIfInBounds_ne hne]
    · intro j hj
      by_cases hji : j = i
      · subst hji
        unfold Sp
        rw [ho]
        cases hd : o.dst with
        | none => simp [hd]
        | some d =>
          have hdl := (rck_dst hck ho hd).1
          simp only [Option.bind_some, hd]
          have hsz : d < a.tmps.size := by rw [hf.size]; exact hdl
          simpa [Act.put, Array.getD_eq_getD_getElem?, hsz] using hspec
      · have hj' : listed.getD j false = true := by rw [getD_set_ne false (Ne.symm hji)] at hj; exact hj
        have h1 := hsp j hj'
        unfold Sp at *
        cases hd : o.dst with
        | none =>
          simp only [Act.put]
          split
          · rename_i d' hd'
            rw [hd'] at h1
            exact stable _ _ _ _ h1 hbw
          · trivial
        | some d =>
          have hne := (rck_dst hck ho hd).2 j hji
          split
          · rename_i d' hd'
            rw [hd'] at h1
            have hdd : d ≠ d' := fun e => by subst e; exact hne hd'
            have e1 : (a.put (some d) v).tmps.getD d' undef = a.tmps.getD d' undef := by
              simp [Act.put, Array.getD_eq_getD_getElem?, Array.getElem?_setIfInBounds_ne hdd]
            rw [e1]
            exact stable _ _ _ _ h1 hbw
          · trivial
/-- from where on each operation is the only one that is ready -/
def lastck (ops : Array Oper) (n1 : Nat) : Bool := (List.range (ops.size - n1)).all fun k => (Region.ready .any ops (firstN (n1 + k) ops.size) == [n1 + k]) && ((firstN (n1 + k) ops.size).setIfInBounds (n1 + k) true == firstN (n1 + k + 1) ops.size)
theorem wpAny_last : ∀ (l : List Oper) (n1 : Nat), ops.toList.drop n1 = l → lastck ops n1 = true → n1 ≤ ops.size → Region.ready .any ops (firstN ops.size ops.size) = [] → ∀ (a : Act) (w : World), wpList P ops Q l a w → wpAny P .any ops Q (ops.size - n1) (firstN n1 ops.size) a w
  | [], n1, hl, _, hn, hr, a, w, h => by
    have he : n1 = ops.size := by
      have := congrArg List.length hl
      simp at this; omega
    subst he
    rw [Nat.sub_self]
    exact ⟨hr, h⟩
  | o :: l, n1, hl, hck, hn, hr, a, w, h => by
    have hlt : n1 < ops.size := by
      have := congrArg List.length hl
      simp at this; omega
    have hl' : ops.toList.drop (n1 + 1) = l := by rw [← List.drop_drop, hl]; rfl
    have ho : ops[n1]? = some o := by
      have := congrArg (fun l => l[0]?) hl
      simpa using this
    have h0 := List.all_eq_true.1 hck 0 (List.mem_range.2 (by omega))
    simp only [Nat.add_zero, Bool.and_eq_true, beq_iff_eq] at h0
    have hck' : lastck ops (n1 + 1) = true := List.all_eq_true.2 fun k hk => by
      have := List.all_eq_true.1 hck (k + 1) (List.mem_range.2 (by have := List.mem_range.1 hk; omega))
      rwa [show n1 + (k + 1) = n1 + 1 + k from by omega] at this
    rw [show ops.size - n1 = (ops.size - (n1 + 1)) + 1 from by omega]
    show (_ → _) ∧ _
    refine ⟨fun he => by rw [h0.1] at he; simp at he, fun i hi => ?_⟩
    rw [h0.1] at hi
    obtain rfl : i = n1 := by simpa using hi
    have ih := wpAny_last l (i + 1) hl' hck' (by omega) hr
    rw [h0.2]
    unfold wpOp
    rw [ho]
    simp only
    unfold wpList at h
    split
    · rename_i hw
      rw [if_pos hw] at h
      exact h.imp (fun h => Oper.wp_mono (fun a w h => ih a w h) h) id
    · rename_i hw
      rw [if_neg hw] at h
      exact ih _ _ h
theorem wp_region_st2 {id : Nat} {l : List Oper} (n1 : Nat) (dl : List (Option Nat)) (specs : List (Value → World → Prop)) (hm : P.follows .mixedOrders = true) (hck : rck l.toArray a0.tmps.size = true) (hcl : closck l.toArray n1 = true) (hla : lastck l.toArray n1 = true)
    (hdone : Region.ready .any l.toArray (firstN l.toArray.size l.toArray.size) = []) (hn : n1 ≤ l.length) (hdl : l.map (·.dst) = dl)
    (stable : ∀ S ∈ specs, ∀ v w w', S v w → Below w.heap.size w w' → S v w')
    (ob : obs P dl a0 w0 specs 0 (l.take n1))
    (fin : ∀ (G : Nat → Value) w, Below w0.heap.size w0 w → (∀ k, dl.contains (some k) = false → G k = sl a0 k) → allSp specs G w 0 (dl.take n1) → wpList P l.toArray Q (l.drop n1) { tmps := ((List.range a0.tmps.size).map G).toArray, defers := a0.defers } w) : (Code.region id l.toArray true).wp P Q a0 w0 := by
  subst hdl
  have hget : ∀ j, (l.toArray[j]?).bind (·.dst) = (l.map (·.dst)).getD j none := fun j => by
    rw [List.getD_eq_getElem?_getD, List.getElem?_map]
    simp only [List.getElem?_toArray]
    cases l[j]? <;> rfl
  have hcon : ∀ k, (l.map (·.dst)).contains (some k) = false → (dsts l.toArray).contains k = false := fun k hk => by
    cases hc : (dsts l.toArray).contains k
    · rfl
    · exfalso
      unfold dsts at hc
      simp only [List.contains_iff_mem, List.mem_filterMap] at hc
      obtain ⟨o, ho, hd⟩ := hc
      have : (l.map (·.dst)).contains (some k) = true := by
        simp only [List.contains_iff_mem, List.mem_map]
        exact ⟨o, ho, hd⟩
      rw [this] at hk
      cases hk
  refine wp_region_any hm ?_
  have hmain := fun w1 (hb1 : Below w0.heap.size w0 w1) => wpAny_two (P := P) (Q := Q) (a0 := a0) (w0 := w0) (Spec := spec specs) n1 (by simpa using hn) hck hcl ?_ ?_ ?_ n1 (Array.replicate l.toArray.size false) a0 w1 (by simp) ?_ ?_ ?_ hb1 ⟨rfl, rfl, fun _ _ => rfl⟩ ?_
  · rw [show n1 + (l.toArray.size - n1) = l.toArray.size from by simp; omega] at hmain
    exact hmain _ ⟨rfl, rfl, rfl, Nat.le_refl _, fun _ _ => rfl⟩
  · intro i v w w' h hb
    unfold spec at *
    by_cases hi : i < specs.length
    · have hm : specs.getD i (fun _ _ => True) ∈ specs := by
        rw [List.getD_eq_getElem?_getD, List.getElem?_eq_getElem hi, Option.getD_some]
        exact List.getElem_mem hi
      exact stable _ hm v w w' h hb
    · rw [List.getD_eq_getElem?_getD, List.getElem?_eq_none (by omega)]
      trivial
  · intro i o hi ho a w hb hf hd
    have hdeps : ∀ (es : List Edge), (∀ e ∈ es, Region.binds .any e = true → Sp l.toArray (spec specs) e.on a w) → depsL (l.map (·.dst)) specs a w es := by
      intro es
      induction es with
      | nil => intro _; trivial
      | cons e es ih =>
        intro h
        refine ⟨?_, ih fun e' he' => h e' (by simp [he'])⟩
        split
        · rename_i hb'
          have h1 := h e (by simp) hb'
          unfold Sp at h1
          rw [hget] at h1
          exact h1
        · trivial
    have ho' : (l.take n1)[i]? = some o := by rw [List.getElem?_take_of_lt hi]; simpa using ho
    have h1 := obs_get (l.take n1) 0 ob i o ho' a w hb (fun k hk => hf.keep k (hcon k hk)) (hdeps _ fun e he => hd e (by simpa using he))
    rw [Nat.zero_add] at h1
    have hw : wantL (l.map (·.dst)) a o = Region.wanted o (yielded l.toArray a.tmps) := by
      unfold wantL Region.wanted
      cases hg : o.guard with
      | none => rfl
      | some g =>
        obtain ⟨j, want⟩ := g
        simp only [yielded]
        rw [hget]
        cases hd' : (l.map (·.dst)).getD j none with
        | none => rfl
        | some d =>
          simp only [Option.bind_some, sl, Array.getD_eq_getD_getElem?]
          cases a.tmps[d]? with
          | none => rfl
          | some x => cases x <;> simp
    rw [hw] at h1
    unfold wpOp
    rw [ho]
    simp only
    split
    · rename_i hw
      rw [if_pos hw] at h1
      exact .inl (Oper.wp_noExit h1)
    · rename_i hw
      rw [if_neg hw] at h1
      exact ⟨Below.refl _ _, undef, rfl, h1⟩
  · intro a w hb hf hs
    refine wpAny_last _ n1 rfl hla (by simpa using hn) hdone a w ?_
    rw [act_eq hf.defers hf.size]
    have h1 := fin (sl a) w hb (fun k hk => hf.keep k (hcon k hk)) ?_
    · simpa using h1
    · have hal : ∀ (dl' : List (Option Nat)) (k : Nat), (∀ i, i < dl'.length → (l.toArray[k + i]?).bind (·.dst) = dl'.getD i none ∧ k + i < n1) → allSp specs (sl a) w k dl' := by
        intro dl'
        induction dl' with
        | nil => intro _ _; trivial
        | cons d dl' ih =>
          intro k hk
          have h0 := hk 0 (by simp)
          have hr := ih (k + 1) fun i hi => by have := hk (i + 1) (by simpa using hi); rwa [show k + 1 + i = k + (i + 1) from by omega]
          cases d with
          | none => exact hr
          | some d =>
            have h1 := hs k h0.2
            unfold Sp at h1
            rw [show (l.toArray[k]?).bind (·.dst) = some d from h0.1] at h1
            exact ⟨h1, hr⟩
      refine hal _ 0 fun i hi => ?_
      have hi' : i < n1 := by simp at hi; omega
      refine ⟨?_, by omega⟩
      rw [Nat.zero_add, hget i, List.getD_eq_getElem?_getD, List.getD_eq_getElem?_getD, List.getElem?_take_of_lt hi']
  · have : ∀ m, ((List.replicate m false).filter (!·)).length = m := fun m => by induction m with
      | zero => rfl
      | succ m ih => simp [List.replicate_succ]
    rw [Array.toList_replicate, List.take_replicate, this]
    simp; omega
  · intro i hi
    by_cases h : i < l.length
    · simp [Array.getD_eq_getD_getElem?, h]
    · simp [Array.getD_eq_getD_getElem?, h]
  · intro i o ho h
    exfalso
    by_cases h' : i < l.length
    · simp [Array.getD_eq_getD_getElem?, h'] at h
    · simp [Array.getD_eq_getD_getElem?, h'] at h
  · intro i hi
    exfalso
    by_cases h : i < l.length
    · simp [Array.getD_eq_getD_getElem?, h] at hi
    · simp [Array.getD_eq_getD_getElem?, h] at hi
end
end PM
end Go.Proofs.Ytklgibkdbdhaiaa
