/-
  A REGION THAT DRAWS ITS ORDER, as in XRs, where operations may turn more than new memory: what each of them keeps is a relation of one's own. Over any program.
-/
import Derived.Test.YtocggnaekajdbaaRs
namespace Go.Proofs.Ytocggnaekajdbaa
namespace PM
open Go.RowKit
set_option linter.unusedVariables false
section
variable {P : Program} {ops : Array Oper} {Q : Exit → Act → World → Prop} {a0 : Act} {w0 : World} {Spec : Nat → Value → World → Prop} {R : World → World → Prop}

theorem wpAny_stableR (Rtrans : ∀ {x y z : World}, R x y → R y z → R x z) (hck : rck ops a0.tmps.size = true) (stable : ∀ i v w w', Spec i v w → R w w' → Spec i v w')
    (ob : ∀ i o, ops[i]? = some o → ∀ a w, R w0 w → Fr ops a0 a → (∀ e ∈ o.after, Region.binds .any e = true → Sp ops Spec e.on a w) →
      wpOp P ops Q i (fun a' w' => R w w' ∧ ∃ v, a' = a.put o.dst v ∧ Spec i v w') a w)
    (fin : ∀ a w, R w0 w → Fr ops a0 a → (∀ i, i < ops.size → Sp ops Spec i a w) → Q .normal a w) :
    ∀ (fuel : Nat) (listed : Array Bool) (a : Act) (w : World), listed.size = ops.size → (listed.toList.filter (!·)).length = fuel → R w0 w → Fr ops a0 a →
      (∀ i, listed.getD i false = true → Sp ops Spec i a w) → wpAny P .any ops Q fuel listed a w := by
  have hready : ∀ (listed : Array Bool), listed.size = ops.size → 0 < (listed.toList.filter (!·)).length → Region.ready .any ops listed ≠ [] := by
    intro listed hs hp he
    obtain ⟨i, hi, hj⟩ := un_pos _ hp
    have hlt : i < listed.size := by
      have := (List.getElem?_eq_some_iff.1 hi).1
      simpa using this
    obtain ⟨o, ho⟩ : ∃ o, ops[i]? = some o := ⟨ops[i]'(by omega), by simp [hs ▸ hlt]⟩
    have hm : i ∈ Region.ready .any ops listed := mem_ready.2 ⟨by
      have hi' : listed[i]? = some false := by simpa using hi
      rw [Array.getD_eq_getD_getElem?, hi']; rfl, o, ho, fun e he' _ => by
      have hlt' := rck_after hck ho e he'
      have hj' : listed[e.on]? = some true := by simpa using hj e.on hlt'
      rw [Array.getD_eq_getD_getElem?, hj']; rfl⟩
    rw [he] at hm
    cases hm
  intro fuel
  induction fuel with
  | zero =>
    intro listed a w hs hu hb hf hsp
    have hall : ∀ i, i < ops.size → listed.getD i false = true := fun i hi => by
      have h := un_zero _ hu i (by simpa [hs] using hi)
      have h' : listed[i]? = some true := by simpa using h
      rw [Array.getD_eq_getD_getElem?, h']; rfl
    refine ⟨?_, fin a w hb hf fun i hi => hsp i (hall i hi)⟩
    apply List.eq_nil_iff_forall_not_mem.2
    intro j hj
    obtain ⟨h0, o, ho, _⟩ := mem_ready.1 hj
    have hlt : j < ops.size := (Array.getElem?_eq_some_iff.1 ho).1
    have h1 := hall j hlt
    have hlt' : j < listed.size := by omega
    simp only [Array.getD_eq_getD_getElem?, Array.getElem?_eq_getElem hlt', Option.getD_some] at h0 h1
    rw [h0] at h1
    cases h1
  | succ fuel ih =>
    intro listed a w hs hu hb hf hsp
    refine ⟨fun he => absurd he (hready listed hs (by omega)), fun i hi => ?_⟩
    obtain ⟨h0, o, ho, hdep⟩ := mem_ready.1 hi
    have hlt : i < ops.size := (Array.getElem?_eq_some_iff.1 ho).1
    have hlt' : i < listed.size := by omega
    refine wpOp_mono (fun a' w' ⟨hbw, v, hv, hspec⟩ => ?_) (ob i o ho a w hb hf fun e he hbd => hsp e.on (hdep e he hbd))
    subst hv
    have hi0 : listed.toList[i]? = some false := by
      simp only [Array.getD_eq_getD_getElem?, Array.getElem?_eq_getElem hlt', Option.getD_some] at h0
      simp [hlt', h0]
    refine ih _ _ _ (by simpa using hs) ?_ (Rtrans hb hbw) ?_ ?_
    · have := un_set _ i hi0
      simp only [Array.toList_setIfInBounds]
      omega
    · cases hd : o.dst with
      | none => simpa [Act.put] using hf
      | some d =>
        have hmem : (dsts ops).contains d = true := by
          unfold dsts
          simp only [List.contains_iff_mem, List.mem_filterMap]
          exact ⟨o, by simpa using Array.mem_of_getElem? ho, hd⟩
        refine ⟨by simpa [Act.put] using hf.defers, by simpa [Act.put] using hf.size, fun k hk => ?_⟩
        rw [← hf.keep k hk]
        have hne : d ≠ k := fun e => by rw [e] at hmem; rw [hmem] at hk; cases hk
        simp [Act.put, Array.getD_eq_getD_getElem?, Array.getElem?_setIfInBounds_ne hne]
    · intro j hj
      by_cases hji : j = i
      · subst hji
        unfold Sp
        rw [ho]
        cases hd : o.dst with
        | none => simp [hd]
        | some d =>
          have hdl := (rck_dst hck ho hd).1
          simp only [Option.bind_some, hd]
          have hsz : d < a.tmps.size := by rw [hf.size]; exact hdl
          simpa [Act.put, Array.getD_eq_getD_getElem?, hsz] using hspec
      · have hj' : listed.getD j false = true := by rw [getD_set_ne false (Ne.symm hji)] at hj; exact hj
        have h1 := hsp j hj'
        unfold Sp at *
        cases hd : o.dst with
        | none =>
          simp only [Act.put]
          split
          · rename_i d' hd'
            rw [hd'] at h1
            exact stable _ _ _ _ h1 hbw
          · trivial
        | some d =>
          have hne := (rck_dst hck ho hd).2 j hji
          split
          · rename_i d' hd'
            rw [hd'] at h1
            have hdd : d ≠ d' := fun e => by subst e; exact hne hd'
            have e1 : (a.put (some d) v).tmps.getD d' undef = a.tmps.getD d' undef := by
              simp [Act.put, Array.getD_eq_getD_getElem?, Array.getElem?_setIfInBounds_ne hdd]
            rw [e1]
            exact stable _ _ _ _ h1 hbw
          · trivial

theorem wp_region_stableR {id : Nat} (Rnew : ∀ w w', Below w.heap.size w w' → R w w') (Rtrans : ∀ {x y z : World}, R x y → R y z → R x z) (Spec : Nat → Value → World → Prop) (hm : P.follows .mixedOrders = true) (hck : rck ops a0.tmps.size = true) (stable : ∀ i v w w', Spec i v w → R w w' → Spec i v w')
    (ob : ∀ i o, ops[i]? = some o → ∀ a w, R w0 w → Fr ops a0 a → (∀ e ∈ o.after, Region.binds .any e = true → Sp ops Spec e.on a w) →
      wpOp P ops Q i (fun a' w' => R w w' ∧ ∃ v, a' = a.put o.dst v ∧ Spec i v w') a w)
    (fin : ∀ a w, R w0 w → Fr ops a0 a → (∀ i, i < ops.size → Sp ops Spec i a w) → Q .normal a w) : (Code.region id ops true).wp P Q a0 w0 := by
  refine wp_region_any hm (wpAny_stableR (R := R) (w0 := w0) Rtrans hck stable ob fin _ _ _ _ (by simp) ?_ (Rnew _ _ ⟨rfl, rfl, rfl, Nat.le_refl _, fun _ _ => rfl⟩) ⟨rfl, rfl, fun _ _ => rfl⟩ ?_)
  · simp
  · intro i hi
    exfalso
    by_cases h : i < ops.size
    · simp [Array.getD_eq_getD_getElem?, h] at hi
    · simp [Array.getD_eq_getD_getElem?, h] at hi

def ob1R (R : World → World → Prop) (P : Program) (dl : List (Option Nat)) (a0 : Act) (w0 : World) (specs : List (Value → World → Prop)) (i : Nat) (o : Oper) : Prop :=
  ∀ a w, R w0 w → (∀ k, dl.contains (some k) = false → sl a k = sl a0 k) → depsL dl specs a w o.after.toList →
    if wantL dl a o = true then o.wp P a w (fun a' w' => R w w' ∧ ∃ v, a' = a.put o.dst v ∧ spec specs i v w') NoExit else spec specs i undef w
def obsR (R : World → World → Prop) (P : Program) (dl : List (Option Nat)) (a0 : Act) (w0 : World) (specs : List (Value → World → Prop)) : Nat → List Oper → Prop
  | _, [] => True
  | i, o :: rest => ob1R R P dl a0 w0 specs i o ∧ obsR R P dl a0 w0 specs (i + 1) rest
theorem obsR_get {dl : List (Option Nat)} {specs : List (Value → World → Prop)} : ∀ (l : List Oper) (k : Nat), obsR R P dl a0 w0 specs k l → ∀ i o, l[i]? = some o → ob1R R P dl a0 w0 specs (k + i) o
  | [], _, _, i, o, h => by simp at h
  | o' :: l, k, h, 0, o, hi => by simp at hi; subst hi; exact h.1
  | o' :: l, k, h, i + 1, o, hi => by
    have := obsR_get l (k + 1) h.2 i o (by simpa using hi)
    rwa [show k + 1 + i = k + (i + 1) from by omega] at this
theorem wp_region_stR {id : Nat} (R : World → World → Prop) (Rnew : ∀ w w', Below w.heap.size w w' → R w w') (Rtrans : ∀ {x y z : World}, R x y → R y z → R x z) {l : List Oper} (dl : List (Option Nat)) (specs : List (Value → World → Prop)) (hm : P.follows .mixedOrders = true) (hck : rck l.toArray a0.tmps.size = true) (hdl : l.map (·.dst) = dl)
    (stable : ∀ S ∈ specs, ∀ v w w', S v w → R w w' → S v w')
    (ob : obsR R P dl a0 w0 specs 0 l)
    (fin : ∀ (G : Nat → Value) w, R w0 w → (∀ k, dl.contains (some k) = false → G k = sl a0 k) → allSp specs G w 0 dl → Q .normal { tmps := ((List.range a0.tmps.size).map G).toArray, defers := a0.defers } w) : (Code.region id l.toArray true).wp P Q a0 w0 := by
  subst hdl
  have hget : ∀ j, (l.toArray[j]?).bind (·.dst) = (l.map (·.dst)).getD j none := fun j => by
    rw [List.getD_eq_getElem?_getD, List.getElem?_map]
    simp only [List.getElem?_toArray]
    cases l[j]? <;> rfl
  have hcon : ∀ k, (l.map (·.dst)).contains (some k) = false → (dsts l.toArray).contains k = false := fun k hk => by
    cases hc : (dsts l.toArray).contains k
    · rfl
    · exfalso
      unfold dsts at hc
      simp only [List.contains_iff_mem, List.mem_filterMap] at hc
      obtain ⟨o, ho, hd⟩ := hc
      have : (l.map (·.dst)).contains (some k) = true := by
        simp only [List.contains_iff_mem, List.mem_map]
        exact ⟨o, ho, hd⟩
      rw [this] at hk
      cases hk
  refine wp_region_stableR Rnew Rtrans (spec specs) hm hck ?_ ?_ ?_
  · intro i v w w' h hb
    unfold spec at *
    by_cases hi : i < specs.length
    · have hm : specs.getD i (fun _ _ => True) ∈ specs := by
        rw [List.getD_eq_getElem?_getD, List.getElem?_eq_getElem hi, Option.getD_some]
        exact List.getElem_mem hi
      exact stable _ hm v w w' h hb
    · rw [List.getD_eq_getElem?_getD, List.getElem?_eq_none (by omega)]
      trivial
  · intro i o ho a w hb hf hd
    have hdeps : ∀ (es : List Edge), (∀ e ∈ es, Region.binds .any e = true → Sp l.toArray (spec specs) e.on a w) → depsL (l.map (·.dst)) specs a w es := by
      intro es
      induction es with
      | nil => intro _; trivial
      | cons e es ih =>
        intro h
        refine ⟨?_, ih fun e' he' => h e' (by simp [he'])⟩
        split
        · rename_i hb'
          have h1 := h e (by simp) hb'
          unfold Sp at h1
          rw [hget] at h1
          exact h1
        · trivial
    have h1 := obsR_get l 0 ob i o (by simpa using ho) a w hb (fun k hk => hf.keep k (hcon k hk)) (hdeps _ fun e he => hd e (by simpa using he))
    rw [Nat.zero_add] at h1
    have hw : wantL (l.map (·.dst)) a o = Region.wanted o (yielded l.toArray a.tmps) := by
      unfold wantL Region.wanted
      cases hg : o.guard with
      | none => rfl
      | some g =>
        obtain ⟨j, want⟩ := g
        simp only [yielded]
        rw [hget]
        cases hd' : (l.map (·.dst)).getD j none with
        | none => rfl
        | some d =>
          simp only [Option.bind_some, sl, Array.getD_eq_getD_getElem?]
          cases a.tmps[d]? with
          | none => rfl
          | some x => cases x <;> simp
    rw [hw] at h1
    unfold wpOp
    rw [ho]
    simp only
    split
    · rename_i hw
      rw [if_pos hw] at h1
      exact .inl (Oper.wp_noExit h1)
    · rename_i hw
      rw [if_neg hw] at h1
      exact ⟨Rnew _ _ (Below.refl _ _), undef, rfl, h1⟩
  · intro a w hb hf hs
    rw [act_eq hf.defers hf.size]
    exact fin (sl a) w hb (fun k hk => hf.keep k (hcon k hk)) (allSp_of _ 0 (fun i hi => ⟨by rw [Nat.zero_add]; exact hget i, by simpa using hi⟩) hs)
end
end PM
end Go.Proofs.Ytocggnaekajdbaa
