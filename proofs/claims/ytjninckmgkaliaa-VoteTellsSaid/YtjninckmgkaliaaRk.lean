/-
  A REGION THAT DRAWS ITS ORDER, WITH CALLS THAT WRITE: operations that write (W) and gentle ones; a property may be killable (it lasts while gentle operations run, and is known until the next writer that is no ancestor of its own runs), or last behind all; what holds ahead of all writers (Pre) is known to the first one. A store speaks of the slot of its pointer. Over any program.
-/
import Derived.Test.YtjninckmgkaliaaR0
namespace Go.Proofs.Ytjninckmgkaliaa
namespace PM
open Go.RowKit
set_option linter.unusedVariables false
/-- what the kernel checks of a region: who is waited for (in any order) stands ahead; each writes a slot of its own -/
def rckb (ops : Array Oper) (n : Nat) : Bool :=
  (List.range ops.size).all (fun i => match ops[i]? with
    | some o => o.after.all (fun e => !(Region.binds .any e) || decide (e.on < i)) && (match o.dst with
      | some d => decide (d < n) && (List.range ops.size).all (fun j => decide (j = i) || (((ops[j]?).bind (·.dst)) != some d))
      | none => true)
    | none => true)
theorem rckb_after {ops : Array Oper} {n i : Nat} {o : Oper} (h : rckb ops n = true) (hi : ops[i]? = some o) : ∀ e ∈ o.after, Region.binds .any e = true → e.on < i := by
  have hlt : i < ops.size := (Array.getElem?_eq_some_iff.1 hi).1
  have h1 := List.all_eq_true.1 h i (List.mem_range.2 hlt)
  simp only [hi, Bool.and_eq_true] at h1
  intro e he hb
  have := Array.all_eq_true_iff_forall_mem.1 h1.1 e he
  rw [hb] at this
  simpa using this
theorem rckb_dst {ops : Array Oper} {n i d : Nat} {o : Oper} (h : rckb ops n = true) (hi : ops[i]? = some o) (hd : o.dst = some d) :
    d < n ∧ ∀ j, j ≠ i → (ops[j]?).bind (·.dst) ≠ some d := by
  have hlt : i < ops.size := (Array.getElem?_eq_some_iff.1 hi).1
  have h1 := List.all_eq_true.1 h i (List.mem_range.2 hlt)
  simp only [hi, hd, Bool.and_eq_true, decide_eq_true_eq] at h1
  refine ⟨h1.2.1, fun j hj => ?_⟩
  by_cases hjl : j < ops.size
  · have := List.all_eq_true.1 h1.2.2 j (List.mem_range.2 hjl)
    simp only [Bool.or_eq_true, decide_eq_true_eq, bne_iff_ne] at this
    exact this.resolve_left hj
  · rw [Array.getElem?_eq_none (by omega)]; simp
/-- which slot an operation speaks of -/
def Spv (vs : List (Option Nat)) (Spec : Nat → Value → World → Prop) (i : Nat) (a : Act) (w : World) : Prop :=
  match vs.getD i none with
  | some d => Spec i (a.tmps.getD d undef) w
  | none => True
/-- what the kernel checks: it is the slot that it writes, or, of one that writes none, one that an operation writes that it waits for -/
def vck (ops : Array Oper) (vs : List (Option Nat)) : Bool :=
  (List.range ops.size).all (fun i => match ops[i]? with
    | some o => (match o.dst with
      | some d => vs.getD i none == some d
      | none => (match vs.getD i none with
        | none => true
        | some d => o.after.any (fun e => Region.binds .any e && (((ops[e.on]?).bind (·.dst)) == some d))))
    | none => true)
/-- listed ancestors are ancestors -/
def ack (ops : Array Oper) (A : List (List Nat)) : Bool :=
  (List.range ops.size).all (fun i => match ops[i]? with
    | some o => (A.getD i []).all (fun j => o.after.any (fun e => Region.binds .any e && (e.on == j || (A.getD e.on []).contains j)))
    | none => true)
def DownK (ops : Array Oper) (listed : Array Bool) : Prop := ∀ (i : Nat) (o : Oper), ops[i]? = some o → listed.getD i false = true → ∀ e ∈ o.after, Region.binds .any e = true → listed.getD e.on false = true
theorem anc_listed {ops : Array Oper} {A : List (List Nat)} {n : Nat} (hck : rckb ops n = true) (hac : ack ops A = true) {listed : Array Bool} (hd : DownK ops listed) : ∀ (m i j : Nat) (o : Oper), i < m → ops[i]? = some o → (∀ e ∈ o.after, Region.binds .any e = true → listed.getD e.on false = true) → j ∈ A.getD i [] → listed.getD j false = true := by
  intro m
  induction m with
  | zero => intro i j o hi; omega
  | succ m ih =>
    intro i j o hi ho hdep hj
    have hlt : i < ops.size := (Array.getElem?_eq_some_iff.1 ho).1
    have h1 := List.all_eq_true.1 hac i (List.mem_range.2 hlt)
    simp only [ho] at h1
    have h2 := List.all_eq_true.1 h1 j hj
    obtain ⟨k, hk, h3⟩ := Array.any_iff_exists.1 h2
    replace h3 := h3.2.2
    rw [Bool.and_eq_true, Bool.or_eq_true] at h3
    have hm : o.after[k] ∈ o.after := Array.getElem_mem _
    have hl := hdep _ hm h3.1
    rcases h3.2 with h4 | h4
    · rw [← (by simpa using h4 : o.after[k].on = j)]
      exact hl
    · have hlt2 := rckb_after hck ho _ hm h3.1
      obtain ⟨o', ho'⟩ : ∃ o', ops[o.after[k].on]? = some o' := ⟨ops[o.after[k].on]'(by omega), Array.getElem?_eq_getElem _⟩
      exact ih _ j o' (by omega) ho' (hd _ o' ho' hl) (by simpa [List.contains_iff_mem] using h4)
/-- may operation j lean on what operation i left? -/
def useOk (A : List (List Nat)) (kb : List Bool) (Wr : List Nat) (j i : Nat) : Bool :=
  (A.getD j []).contains i && (!(kb.getD i false) || Wr.all fun k => k == i || (A.getD i []).contains k || k == j || (A.getD k []).contains j)
def preOk (A : List (List Nat)) (Wr : List Nat) (j : Nat) : Bool := Wr.all fun k => k == j || (A.getD k []).contains j
def finOk (A : List (List Nat)) (kb : List Bool) (Wr : List Nat) (i : Nat) : Bool := !(kb.getD i false) || Wr.all fun k => k == i || (A.getD i []).contains k
section
variable {P : Program} {ops : Array Oper} {Q : Exit → Act → World → Prop} {a0 : Act} {w0 : World} {Spec : Nat → Value → World → Prop} {R S : World → World → Prop} {Pre : World → Prop}
variable {vs : List (Option Nat)} {A : List (List Nat)} {kb : List Bool} {Wr : List Nat}

theorem wpAny_stableK (SR : ∀ {x y : World}, S x y → R x y) (Rtrans : ∀ {x y z : World}, R x y → R y z → R x z) (hck : rckb ops a0.tmps.size = true) (hvk : vck ops vs = true) (hac : ack ops A = true)
    (stR : ∀ i v w w', kb.getD i false = false → Spec i v w → R w w' → Spec i v w') (stS : ∀ i v w w', Spec i v w → S w w' → Spec i v w') (stP : ∀ w w', Pre w → S w w' → Pre w')
    (ob : ∀ i o, ops[i]? = some o → ∀ a w, R w0 w → Fr ops a0 a → (∀ j, useOk A kb Wr i j = true → Spv vs Spec j a w) → (preOk A Wr i = true → Pre w) →
      wpOp P ops Q i (fun a' w' => (if Wr.contains i = true then R w w' else S w w') ∧ ∃ v, a' = a.put o.dst v ∧ (match o.dst with | some _ => Spec i v w' | none => Spv vs Spec i a w')) a w)
    (fin : ∀ a w, R w0 w → Fr ops a0 a → (∀ i, i < ops.size → finOk A kb Wr i = true → Spv vs Spec i a w) → Q .normal a w) :
    ∀ (fuel : Nat) (listed : Array Bool) (a : Act) (w : World), listed.size = ops.size → (listed.toList.filter (!·)).length = fuel → R w0 w → Fr ops a0 a → DownK ops listed →
      (∀ i, listed.getD i false = true → (kb.getD i false = true → ∀ k ∈ Wr, listed.getD k false = true → k = i ∨ k ∈ A.getD i []) → Spv vs Spec i a w) →
      (∀ i, listed.getD i false = true → ∀ d, vs.getD i none = some d → ∃ k o, ops[k]? = some o ∧ o.dst = some d ∧ listed.getD k false = true) →
      ((∀ k ∈ Wr, listed.getD k false = false) → Pre w) → wpAny P .any ops Q fuel listed a w := by
  have hready : ∀ (listed : Array Bool), listed.size = ops.size → 0 < (listed.toList.filter (!·)).length → Region.ready .any ops listed ≠ [] := by
    intro listed hs hp he
    obtain ⟨i, hi, hj⟩ := un_pos _ hp
    have hlt : i < listed.size := by
      have := (List.getElem?_eq_some_iff.1 hi).1
      simpa using this
    obtain ⟨o, ho⟩ : ∃ o, ops[i]? = some o := ⟨ops[i]'(by omega), by simp [hs ▸ hlt]⟩
    have hm : i ∈ Region.ready .any ops listed := mem_ready.2 ⟨by
      have hi' : listed[i]? = some false := by simpa using hi
      rw [Array.getD_eq_getD_getElem?, hi']; rfl, o, ho, fun e he' hbe => by
      have hlt' := rckb_after hck ho e he' hbe
      have hj' : listed[e.on]? = some true := by simpa using hj e.on hlt'
      rw [Array.getD_eq_getD_getElem?, hj']; rfl⟩
    rw [he] at hm
    cases hm
  intro fuel
  induction fuel with
  | zero =>
    intro listed a w hs hu hb hf hdn hsp hvs hpre
    have hall : ∀ i, i < ops.size → listed.getD i false = true := fun i hi => by
      have h := un_zero _ hu i (by simpa [hs] using hi)
      have h' : listed[i]? = some true := by simpa using h
      rw [Array.getD_eq_getD_getElem?, h']; rfl
    refine ⟨?_, fin a w hb hf fun i hi hfo => hsp i (hall i hi) fun hkb k hk _ => ?_⟩
    · apply List.eq_nil_iff_forall_not_mem.2
      intro j hj
      obtain ⟨h0, o, ho, _⟩ := mem_ready.1 hj
      have hlt : j < ops.size := (Array.getElem?_eq_some_iff.1 ho).1
      have h1 := hall j hlt
      have hlt' : j < listed.size := by omega
      simp only [Array.getD_eq_getD_getElem?, Array.getElem?_eq_getElem hlt', Option.getD_some] at h0 h1
      rw [h0] at h1
      cases h1
    · unfold finOk at hfo
      rw [hkb] at hfo
      have := List.all_eq_true.1 (by simpa using hfo : (Wr.all fun k => k == i || (A.getD i []).contains k) = true) k hk
      rw [Bool.or_eq_true] at this
      rcases this with h | h
      · exact .inl (by simpa using h)
      · exact .inr (by simpa [List.contains_iff_mem] using h)
  | succ fuel ih =>
    intro listed a w hs hu hb hf hdn hsp hvs hpre
    refine ⟨fun he => absurd he (hready listed hs (by omega)), fun i hi => ?_⟩
    obtain ⟨h0, o, ho, hdep⟩ := mem_ready.1 hi
    have hlt : i < ops.size := (Array.getElem?_eq_some_iff.1 ho).1
    have hlt' : i < listed.size := by omega
    have hif : listed.getD i false = false := by
      simp only [Array.getD_eq_getD_getElem?, Array.getElem?_eq_getElem hlt', Option.getD_some] at h0 ⊢
      exact h0
    have hdesc : ∀ k, i ∈ A.getD k [] → listed.getD k false = false := fun k hk => by
      cases hc : listed.getD k false
      · rfl
      · exfalso
        have hkl : k < ops.size := by
          by_cases h : k < ops.size
          · exact h
          · rw [Array.getD_eq_getD_getElem?, Array.getElem?_eq_none (by omega)] at hc
            cases hc
        have hko : ops[k]? = some ops[k] := Array.getElem?_eq_getElem hkl
        have := anc_listed hck hac hdn (k + 1) k i _ (by omega) hko (hdn k _ hko hc) hk
        rw [hif] at this
        cases this
    have huse : ∀ j, useOk A kb Wr i j = true → Spv vs Spec j a w := fun j hj => by
      unfold useOk at hj
      rw [Bool.and_eq_true] at hj
      have hjA : j ∈ A.getD i [] := by simpa [List.contains_iff_mem] using hj.1
      refine hsp j (anc_listed hck hac hdn (i + 1) i j o (by omega) ho hdep hjA) fun hkb k hk hkl => ?_
      rw [hkb] at hj
      have := List.all_eq_true.1 (by simpa using hj.2 : (Wr.all fun k => k == j || (A.getD j []).contains k || k == i || (A.getD k []).contains i) = true) k hk
      simp only [Bool.or_eq_true] at this
      rcases this with ((h | h) | h) | h
      · exact .inl (by simpa using h)
      · exact .inr (by simpa [List.contains_iff_mem] using h)
      · have : k = i := by simpa using h
        subst this
        rw [hif] at hkl
        cases hkl
      · have := hdesc k (by simpa [List.contains_iff_mem] using h)
        rw [this] at hkl
        cases hkl
    have hpr : preOk A Wr i = true → Pre w := fun hp => hpre fun k hk => by
      have := List.all_eq_true.1 hp k hk
      simp only [Bool.or_eq_true] at this
      rcases this with h | h
      · have : k = i := by simpa using h
        subst this
        exact hif
      · exact hdesc k (by simpa [List.contains_iff_mem] using h)
    refine wpOp_mono (fun a' w' ⟨hbw, v, hv, hspec⟩ => ?_) (ob i o ho a w hb hf huse hpr)
    subst hv
    have hi0 : listed.toList[i]? = some false := by
      simp only [Array.getD_eq_getD_getElem?, Array.getElem?_eq_getElem hlt', Option.getD_some] at h0
      simp [hlt', h0]
    have hRw : R w w' := by
      split at hbw
      · exact hbw
      · exact SR hbw
    have hgrow : ∀ k, listed.getD k false = true → (listed.setIfInBounds i true).getD k false = true := fun k hk => by
      by_cases hki : k = i
      · subst hki
        simp [Array.getD_eq_getD_getElem?, hlt']
      · rw [getD_set_ne false (Ne.symm hki)]
        exact hk
    have hself : (listed.setIfInBounds i true).getD i false = true := by simp [Array.getD_eq_getD_getElem?, hlt']
    have hv1 := List.all_eq_true.1 hvk i (List.mem_range.2 hlt)
    simp only [ho] at hv1
    refine ih _ _ _ (by simpa using hs) ?_ (Rtrans hb hRw) ?_ ?_ ?_ ?_ ?_
    · have := un_set _ i hi0
      simp only [Array.toList_setIfInBounds]
      omega
    · cases hd : o.dst with
      | none => simpa [Act.put] using hf
      | some d =>
        have hmem : (dsts ops).contains d = true := by
          unfold dsts
          simp only [List.contains_iff_mem, List.mem_filterMap]
          exact ⟨o, by simpa using Array.mem_of_getElem? ho, hd⟩
        refine ⟨by simpa [Act.put] using hf.defers, by simpa [Act.put] using hf.size, fun k hk => ?_⟩
        rw [← hf.keep k hk]
        have hne : d ≠ k := fun e => by rw [e] at hmem; rw [hmem] at hk; cases hk
        simp [Act.put, Array.getD_eq_getD_getElem?, Array.getElem?_setIfInBounds_ne hne]
    · intro j oj hoj hj e he hbd
      by_cases hji : j = i
      · subst hji
        rw [ho] at hoj
        injection hoj with hoj
        subst hoj
        exact hgrow _ (hdep e he hbd)
      · rw [getD_set_ne false (Ne.symm hji)] at hj
        exact hgrow _ (hdn j oj hoj hj e he hbd)
    · intro j hj hkj
      by_cases hji : j = i
      · subst hji
        cases hd : o.dst with
        | none =>
          rw [hd] at hspec
          simpa [Act.put] using hspec
        | some d =>
          rw [hd] at hv1 hspec
          simp only at hv1 hspec
          have hv2 : vs.getD j none = some d := by simpa using hv1
          have hdl := (rckb_dst hck ho hd).1
          have hsz : d < a.tmps.size := by rw [hf.size]; exact hdl
          unfold Spv
          rw [hv2]
          simpa [Act.put, Array.getD_eq_getD_getElem?, hsz] using hspec
      · have hj' : listed.getD j false = true := by rw [getD_set_ne false (Ne.symm hji)] at hj; exact hj
        have h1 := hsp j hj' fun hkb k hk hkl => hkj hkb k hk (hgrow k hkl)
        have h2 := hvs j hj'
        unfold Spv at *
        cases hvj : vs.getD j none with
        | none => trivial
        | some d' =>
          rw [hvj] at h1
          simp only at h1 ⊢
          have hkeep : Spec j (a.tmps.getD d' undef) w' := by
            cases hkb : kb.getD j false with
            | false => exact stR _ _ _ _ hkb h1 hRw
            | true =>
              by_cases hw : Wr.contains i = true
              · exfalso
                have hiW : i ∈ Wr := by simpa [List.contains_iff_mem] using hw
                rcases hkj hkb i hiW hself with h | h
                · exact hji h.symm
                · have hjl : j < ops.size := by
                    by_cases h : j < ops.size
                    · exact h
                    · rw [Array.getD_eq_getD_getElem?, Array.getElem?_eq_none (by omega)] at hj'
                      cases hj'
                  have hjo : ops[j]? = some ops[j] := Array.getElem?_eq_getElem hjl
                  have := anc_listed hck hac hdn (j + 1) j i _ (by omega) hjo (hdn j _ hjo hj') h
                  rw [hif] at this
                  cases this
              · rw [if_neg hw] at hbw
                exact stS _ _ _ _ h1 hbw
          cases hd : o.dst with
          | none =>
            simp only [Act.put]
            exact hkeep
          | some d =>
            obtain ⟨k, o', g1, g2, g3⟩ := h2 d' hvj
            have hki : k ≠ i := fun e => by
              subst e
              rw [hif] at g3
              cases g3
            have hdd : d ≠ d' := fun e => by
              subst e
              have := (rckb_dst hck ho hd).2 k hki
              rw [g1] at this
              exact this g2
            have e1 : (a.put (some d) v).tmps.getD d' undef = a.tmps.getD d' undef := by
              simp [Act.put, Array.getD_eq_getD_getElem?, Array.getElem?_setIfInBounds_ne hdd]
            rw [e1]
            exact hkeep
    · intro j hj d hdv
      by_cases hji : j = i
      · subst hji
        cases hd : o.dst with
        | none =>
          rw [hd] at hv1
          simp only at hv1
          rw [hdv] at hv1
          simp only at hv1
          obtain ⟨e, he, heb⟩ := Array.any_iff_exists.1 hv1
          replace heb := heb.2.2
          rw [Bool.and_eq_true] at heb
          have hb3 : (ops[o.after[e].on]?).bind (·.dst) = some d := by simpa using heb.2
          obtain ⟨o', ho', hd'⟩ := Option.bind_eq_some_iff.1 hb3
          exact ⟨_, o', ho', hd', hgrow _ (hdep _ (Array.getElem_mem _) heb.1)⟩
        | some d2 =>
          rw [hd] at hv1
          simp only at hv1
          have hv2 : vs.getD j none = some d2 := by simpa using hv1
          rw [hv2] at hdv
          injection hdv with hdv
          subst hdv
          exact ⟨j, o, ho, hd, hself⟩
      · rw [getD_set_ne false (Ne.symm hji)] at hj
        obtain ⟨k, o', g1, g2, g3⟩ := hvs j hj d hdv
        exact ⟨k, o', g1, g2, hgrow k g3⟩
    · intro hno
      have hiW : ¬ Wr.contains i = true := fun h => by
        have := hno i (by simpa [List.contains_iff_mem] using h)
        rw [hself] at this
        cases this
      rw [if_neg hiW] at hbw
      refine stP _ _ (hpre fun k hk => ?_) hbw
      cases hc : listed.getD k false
      · rfl
      · have := hno k hk
        rw [hgrow k hc] at this
        cases this
/-- the facts that an operation may lean on -/
def depsK (vs : List (Option Nat)) (specs : List (Value → World → Prop)) (a : Act) (w : World) : List Nat → Prop
  | [] => True
  | j :: js => (match vs.getD j none with | some d => spec specs j (sl a d) w | none => True) ∧ depsK vs specs a w js
theorem depsK_of {specs : List (Value → World → Prop)} {a : Act} {w : World} : ∀ (js : List Nat), (∀ j ∈ js, Spv vs (spec specs) j a w) → depsK vs specs a w js
  | [], _ => trivial
  | j :: js, h => ⟨h j (by simp), depsK_of js fun k hk => h k (by simp [hk])⟩
/-- what is to be shown of one operation -/
def ob1K (R S : World → World → Prop) (Pre : World → Prop) (P : Program) (vs dl : List (Option Nat)) (Wr : List Nat) (a0 : Act) (w0 : World) (specs : List (Value → World → Prop)) (i : Nat) (dp : List Nat × Bool) (o : Oper) : Prop :=
  ∀ a w, R w0 w → (∀ k, dl.contains (some k) = false → sl a k = sl a0 k) → depsK vs specs a w dp.1 → (if dp.2 = true then Pre w else True) →
    if wantL dl a o = true then o.wp P a w (fun a' w' => (if Wr.contains i = true then R w w' else S w w') ∧ ∃ v, a' = a.put o.dst v ∧ (match o.dst with | some _ => spec specs i v w' | none => Spv vs (spec specs) i a w')) NoExit
    else (match o.dst with | some _ => spec specs i undef w | none => Spv vs (spec specs) i a w)
def obsK (R S : World → World → Prop) (Pre : World → Prop) (P : Program) (vs dl : List (Option Nat)) (Wr : List Nat) (a0 : Act) (w0 : World) (specs : List (Value → World → Prop)) : Nat → List (List Nat × Bool) → List Oper → Prop
  | _, _, [] => True
  | _, [], _ :: _ => False
  | i, dp :: dps, o :: rest => ob1K R S Pre P vs dl Wr a0 w0 specs i dp o ∧ obsK R S Pre P vs dl Wr a0 w0 specs (i + 1) dps rest
theorem obsK_get {dl : List (Option Nat)} {specs : List (Value → World → Prop)} : ∀ (l : List Oper) (dps : List (List Nat × Bool)) (k : Nat), obsK R S Pre P vs dl Wr a0 w0 specs k dps l → ∀ i o, l[i]? = some o → ob1K R S Pre P vs dl Wr a0 w0 specs (k + i) (dps.getD i ([], false)) o
  | [], _, _, _, i, o, h => by simp at h
  | o' :: l, [], k, h, _, _, _ => h.elim
  | o' :: l, dp :: dps, k, h, 0, o, hi => by simp at hi; subst hi; exact h.1
  | o' :: l, dp :: dps, k, h, i + 1, o, hi => by
    have := obsK_get l dps (k + 1) h.2 i o (by simpa using hi)
    rwa [show k + 1 + i = k + (i + 1) from by omega] at this
def dpk (A : List (List Nat)) (kb : List Bool) (Wr : List Nat) (dps : List (List Nat × Bool)) : Bool :=
  (List.range dps.length).all fun i => (dps.getD i ([], false)).1.all (fun j => useOk A kb Wr i j) && (!(dps.getD i ([], false)).2 || preOk A Wr i)
/-- what is known behind the region -/
def allK (vs : List (Option Nat)) (specs : List (Value → World → Prop)) (G : Nat → Value) (w : World) : List Nat → Prop
  | [] => True
  | j :: js => (match vs.getD j none with | some d => spec specs j (G d) w | none => True) ∧ allK vs specs G w js
theorem allK_of {specs : List (Value → World → Prop)} {a : Act} {w : World} : ∀ (js : List Nat), (∀ j ∈ js, Spv vs (spec specs) j a w) → allK vs specs (sl a) w js
  | [], _ => trivial
  | j :: js, h => ⟨h j (by simp), allK_of js fun k hk => h k (by simp [hk])⟩
theorem wp_region_stK {id : Nat} (R S : World → World → Prop) (Pre : World → Prop) (Snew : ∀ w w', Below w.heap.size w w' → S w w') (SR : ∀ {x y : World}, S x y → R x y) (Rtrans : ∀ {x y z : World}, R x y → R y z → R x z) {l : List Oper}
    (vs dl : List (Option Nat)) (A : List (List Nat)) (kb : List Bool) (Wr : List Nat) (dps : List (List Nat × Bool)) (fs : List Nat) (specs : List (Value → World → Prop)) (hm : P.follows .mixedOrders = true) (hck : rckb l.toArray a0.tmps.size = true) (hvk : vck l.toArray vs = true) (hac : ack l.toArray A = true)
    (hdp : dpk A kb Wr dps = true) (hfs : fs.all (fun i => decide (i < l.length) && finOk A kb Wr i) = true) (hdl : l.map (·.dst) = dl) (hdl2 : dps.length = l.length) (hkl : kb.length = specs.length)
    (stR : ∀ p ∈ specs.zip kb, p.2 = false → ∀ v w w', p.1 v w → R w w' → p.1 v w')
    (stS : ∀ T ∈ specs, ∀ v w w', T v w → S w w' → T v w') (stP : ∀ w w', Pre w → S w w' → Pre w') (hPre : Pre w0)
    (ob : obsK R S Pre P vs dl Wr a0 w0 specs 0 dps l)
    (fin : ∀ (G : Nat → Value) w, R w0 w → (∀ k, dl.contains (some k) = false → G k = sl a0 k) → allK vs specs G w fs → Q .normal { tmps := ((List.range a0.tmps.size).map G).toArray, defers := a0.defers } w) : (Code.region id l.toArray true).wp P Q a0 w0 := by
  subst hdl
  have hget : ∀ j, (l.toArray[j]?).bind (·.dst) = (l.map (·.dst)).getD j none := fun j => by
    rw [List.getD_eq_getElem?_getD, List.getElem?_map]
    simp only [List.getElem?_toArray]
    cases l[j]? <;> rfl
  have hcon : ∀ k, (l.map (·.dst)).contains (some k) = false → (dsts l.toArray).contains k = false := fun k hk => by
    cases hc : (dsts l.toArray).contains k
    · rfl
    · exfalso
      unfold dsts at hc
      simp only [List.contains_iff_mem, List.mem_filterMap] at hc
      obtain ⟨o, ho, hd⟩ := hc
      have : (l.map (·.dst)).contains (some k) = true := by
        simp only [List.contains_iff_mem, List.mem_map]
        exact ⟨o, ho, hd⟩
      rw [this] at hk
      cases hk
  have hdr : Below w0.heap.size w0 w0.drew := (Below.refl _ _).drew
  have hR0 : R w0 w0.drew := SR (Snew _ _ hdr)
  have hP0 : Pre w0.drew := stP _ _ hPre (Snew _ _ hdr)
  refine wp_region_any hm (wpAny_stableK (R := R) (S := S) (Pre := Pre) (w0 := w0) (vs := vs) (A := A) (kb := kb) (Wr := Wr) (Spec := spec specs) SR Rtrans hck hvk hac ?_ ?_ stP ?_ ?_ _ _ _ _ (by simp) (by simp) hR0 ⟨rfl, rfl, fun _ _ => rfl⟩ ?_ ?_ ?_ (fun _ => hP0))
  · intro i v w w' hkb h hb
    unfold spec at *
    by_cases hi : i < specs.length
    · have hs : specs.getD i (fun _ _ => True) = specs[i] := by rw [List.getD_eq_getElem?_getD, List.getElem?_eq_getElem hi, Option.getD_some]
      have hk : kb.getD i false = kb[i]'(by omega) := by rw [List.getD_eq_getElem?_getD, List.getElem?_eq_getElem (by omega), Option.getD_some]
      rw [hk] at hkb
      rw [hs] at h ⊢
      refine stR (specs[i], kb[i]'(by omega)) ?_ hkb v w w' h hb
      rw [List.mem_iff_getElem?]
      exact ⟨i, by rw [List.getElem?_zip_eq_some]; exact ⟨List.getElem?_eq_getElem _, List.getElem?_eq_getElem _⟩⟩
    · rw [List.getD_eq_getElem?_getD, List.getElem?_eq_none (by omega)]
      trivial
  · intro i v w w' h hb
    unfold spec at *
    by_cases hi : i < specs.length
    · have hm : specs.getD i (fun _ _ => True) ∈ specs := by
        rw [List.getD_eq_getElem?_getD, List.getElem?_eq_getElem hi, Option.getD_some]
        exact List.getElem_mem hi
      exact stS _ hm v w w' h hb
    · rw [List.getD_eq_getElem?_getD, List.getElem?_eq_none (by omega)]
      trivial
  · intro i o ho a w hb hf hd hp
    have hil : i < l.length := by
      have := (List.getElem?_eq_some_iff.1 (by simpa using ho : l[i]? = some o)).1
      exact this
    have hdpi := List.all_eq_true.1 hdp i (List.mem_range.2 (by omega))
    rw [Bool.and_eq_true] at hdpi
    have h1 := obsK_get l dps 0 ob i o (by simpa using ho) a w hb (fun k hk => hf.keep k (hcon k hk)) (by
      refine depsK_of _ fun j hj => hd j (List.all_eq_true.1 hdpi.1 j hj)) (by
      split
      · rename_i h
        have h2 := hdpi.2
        rw [h] at h2
        exact hp (by simpa using h2)
      · trivial)
    rw [Nat.zero_add] at h1
    have hw : wantL (l.map (·.dst)) a o = Region.wanted o (yielded l.toArray a.tmps) := by
      unfold wantL Region.wanted
      cases hg : o.guard with
      | none => rfl
      | some g =>
        obtain ⟨j, want⟩ := g
        simp only [yielded]
        rw [hget]
        cases hd' : (l.map (·.dst)).getD j none with
        | none => rfl
        | some d =>
          simp only [Option.bind_some, sl, Array.getD_eq_getD_getElem?]
          cases a.tmps[d]? with
          | none => rfl
          | some x => cases x <;> simp
    rw [hw] at h1
    unfold wpOp
    rw [ho]
    simp only
    split
    · rename_i hw
      rw [if_pos hw] at h1
      exact .inl (Oper.wp_noExit h1)
    · rename_i hw
      rw [if_neg hw] at h1
      refine ⟨?_, undef, rfl, h1⟩
      split
      · exact SR (Snew _ _ (Below.refl _ _))
      · exact Snew _ _ (Below.refl _ _)
  · intro a w hb hf hs
    rw [act_eq hf.defers hf.size]
    refine fin (sl a) w hb (fun k hk => hf.keep k (hcon k hk)) (allK_of _ fun j hj => ?_)
    have := List.all_eq_true.1 hfs j hj
    rw [Bool.and_eq_true] at this
    exact hs j (by simpa using this.1) this.2
  · intro i o ho hi
    exfalso
    have hlt : i < l.length := (List.getElem?_eq_some_iff.1 (by simpa using ho : l[i]? = some o)).1
    simp [Array.getD_eq_getD_getElem?, hlt] at hi
  · intro i hi
    exfalso
    by_cases h : i < l.length
    · simp [Array.getD_eq_getD_getElem?, h] at hi
    · simp [Array.getD_eq_getD_getElem?, h] at hi
  · intro i hi
    exfalso
    by_cases h : i < l.length
    · simp [Array.getD_eq_getD_getElem?, h] at hi
    · simp [Array.getD_eq_getD_getElem?, h] at hi
end
end PM
end Go.Proofs.Ytjninckmgkaliaa
