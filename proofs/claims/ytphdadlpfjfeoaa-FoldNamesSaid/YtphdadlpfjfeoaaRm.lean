/-
  AS Rk, BUT A PROPERTY MAY SPEAK OF SEVERAL SLOTS: its own operation's, and those of operations that it waits for. (Written by tools/mk_rm.py of XRk.) Over any program.
-/
import Derived.Test.YtphdadlpfjfeoaaRk
namespace Go.Proofs.Ytphdadlpfjfeoaa
namespace PM
open Go.RowKit
set_option linter.unusedVariables false
/-- what some slots hold -/
def slt (a : Act) : List Nat → Value
  | [] => .tuple #[]
  | [d] => a.tmps.getD d undef
  | d :: e :: l => .tuple ((d :: e :: l).map fun d => a.tmps.getD d undef).toArray
/-- the same, behind a write -/
def newd (dst : Option Nat) (v : Value) (a : Act) (d : Nat) : Value := if dst = some d then v else a.tmps.getD d undef
def newv (dst : Option Nat) (v : Value) (a : Act) : List Nat → Value
  | [] => .tuple #[]
  | [d] => newd dst v a d
  | d :: e :: l => .tuple ((d :: e :: l).map fun d => newd dst v a d).toArray
theorem newd_put {a : Act} {dst : Option Nat} {v : Value} {d : Nat} (h : dst = some d → d < a.tmps.size) : (a.put dst v).tmps.getD d undef = newd dst v a d := by
  unfold newd
  cases dst with
  | none => simp [Act.put]
  | some d' =>
    by_cases he : d' = d
    · subst he
      have := h rfl
      simp [Act.put, Array.getD_eq_getD_getElem?, this]
    · have hne : some d' ≠ some d := fun e => he (by injection e)
      rw [if_neg hne]
      simp [Act.put, Array.getD_eq_getD_getElem?, Array.getElem?_setIfInBounds_ne he]
theorem newv_put {a : Act} {dst : Option Nat} {v : Value} {l : List Nat} (h : ∀ d, dst = some d → d < a.tmps.size) : slt (a.put dst v) l = newv dst v a l := by
  match l with
  | [] => rfl
  | [d] => exact newd_put (h d)
  | d :: e :: l =>
    simp only [slt, newv]
    congr 2
    exact List.map_congr_left fun x _ => newd_put (h x)
theorem slt_congr {a a' : Act} {l : List Nat} (h : ∀ d ∈ l, a'.tmps.getD d undef = a.tmps.getD d undef) : slt a' l = slt a l := by
  match l with
  | [] => rfl
  | [d] => exact h d (by simp)
  | d :: e :: l =>
    simp only [slt]
    congr 2
    exact List.map_congr_left fun x hx => h x hx
def Spm (vs : List (List Nat)) (Spec : Nat → Value → World → Prop) (i : Nat) (a : Act) (w : World) : Prop := Spec i (slt a (vs.getD i [])) w
def vckm (ops : Array Oper) (vs : List (List Nat)) : Bool :=
  (List.range ops.size).all (fun i => match ops[i]? with
    | some o => (vs.getD i []).all (fun d => (o.dst == some d) || o.after.any (fun e => Region.binds .any e && (((ops[e.on]?).bind (·.dst)) == some d)))
    | none => true)
section
variable {P : Program} {ops : Array Oper} {Q : Exit → Act → World → Prop} {a0 : Act} {w0 : World} {Spec : Nat → Value → World → Prop} {R S : World → World → Prop} {Pre : World → Prop}
variable {vs : List (List Nat)} {A : List (List Nat)} {kb : List Bool} {Wr : List Nat}

theorem wpAny_stableM (SR : ∀ {x y : World}, S x y → R x y) (Rtrans : ∀ {x y z : World}, R x y → R y z → R x z) (hck : rckb ops a0.tmps.size = true) (hvk : vckm ops vs = true) (hac : ack ops A = true)
    (stR : ∀ i v w w', kb.getD i false = false → Spec i v w → R w w' → Spec i v w') (stS : ∀ i v w w', Spec i v w → S w w' → Spec i v w') (stP : ∀ w w', Pre w → S w w' → Pre w')
    (ob : ∀ i o, ops[i]? = some o → ∀ a w, R w0 w → Fr ops a0 a → (∀ j, useOk A kb Wr i j = true → Spm vs Spec j a w) → (preOk A Wr i = true → Pre w) →
      wpOp P ops Q i (fun a' w' => (if Wr.contains i = true then R w w' else S w w') ∧ ∃ v, a' = a.put o.dst v ∧ Spec i (newv o.dst v a (vs.getD i [])) w') a w)
    (fin : ∀ a w, R w0 w → Fr ops a0 a → (∀ i, i < ops.size → finOk A kb Wr i = true → Spm vs Spec i a w) → Q .normal a w) :
    ∀ (fuel : Nat) (listed : Array Bool) (a : Act) (w : World), listed.size = ops.size → (listed.toList.filter (!·)).length = fuel → R w0 w → Fr ops a0 a → DownK ops listed →
      (∀ i, listed.getD i false = true → (kb.getD i false = true → ∀ k ∈ Wr, listed.getD k false = true → k = i ∨ k ∈ A.getD i []) → Spm vs Spec i a w) →
      (∀ i, listed.getD i false = true → ∀ d, d ∈ vs.getD i [] → ∃ k o, ops[k]? = some o ∧ o.dst = some d ∧ listed.getD k false = true) →
      ((∀ k ∈ Wr, listed.getD k false = false) → Pre w) → wpAny P .any ops Q fuel listed a w := by
  have hready : ∀ (listed : Array Bool), listed.size = ops.size → 0 < (listed.toList.filter (!·)).length → Region.ready .any ops listed ≠ [] := by
    intro listed hs hp he
    obtain ⟨i, hi, hj⟩ := un_pos _ hp
    have hlt : i < listed.size := by
      have := (List.getElem?_eq_some_iff.1 hi).1
      simpa using this
    obtain ⟨o, ho⟩ : ∃ o, ops[i]? = some o := ⟨ops[i]'(by omega), by simp [hs ▸ hlt]⟩
    have hm : i ∈ Region.ready .any ops listed := mem_ready.2 ⟨by
      have hi' : listed[i]? = some false := by simpa using hi
      rw [Array.getD_eq_getD_getElem?, hi']; rfl, o, ho, fun e he' hbe => by
      have hlt' := rckb_after hck ho e he' hbe
      have hj' : listed[e.on]? = some true := by simpa using hj e.on hlt'
      rw [Array.getD_eq_getD_getElem?, hj']; rfl⟩
    rw [he] at hm
    cases hm
  intro fuel
  induction fuel with
  | zero =>
    intro listed a w hs hu hb hf hdn hsp hvs hpre
    have hall : ∀ i, i < ops.size → listed.getD i false = true := fun i hi => by
      have h := un_zero _ hu i (by simpa [hs] using hi)
      have h' : listed[i]? = some true := by simpa using h
      rw [Array.getD_eq_getD_getElem?, h']; rfl
    refine ⟨?_, fin a w hb hf fun i hi hfo => hsp i (hall i hi) fun hkb k hk _ => ?_⟩
    · apply List.eq_nil_iff_forall_not_mem.2
      intro j hj
      obtain ⟨h0, o, ho, _⟩ := mem_ready.1 hj
      have hlt : j < ops.size := (Array.getElem?_eq_some_iff.1 ho).1
      have h1 := hall j hlt
      have hlt' : j < listed.size := by omega
      simp only [Array.getD_eq_getD_getElem?, Array.getElem?_eq_getElem hlt', Option.getD_some] at h0 h1
      rw [h0] at h1
      cases h1
    · unfold finOk at hfo
      rw [hkb] at hfo
      have := List.all_eq_true.1 (by simpa using hfo : (Wr.all fun k => k == i || (A.getD i []).contains k) = true) k hk
      rw [Bool.or_eq_true] at this
      rcases this with h | h
      · exact .inl (by simpa using h)
      · exact .inr (by simpa [List.contains_iff_mem] using h)
  | succ fuel ih =>
    intro listed a w hs hu hb hf hdn hsp hvs hpre
    refine ⟨fun he => absurd he (hready listed hs (by omega)), fun i hi => ?_⟩
    obtain ⟨h0, o, ho, hdep⟩ := mem_ready.1 hi
    have hlt : i < ops.size := (Array.getElem?_eq_some_iff.1 ho).1
    have hlt' : i < listed.size := by omega
    have hif : listed.getD i false = false := by
      simp only [Array.getD_eq_getD_getElem?, Array.getElem?_eq_getElem hlt', Option.getD_some] at h0 ⊢
      exact h0
    have hdesc : ∀ k, i ∈ A.getD k [] → listed.getD k false = false := fun k hk => by
      cases hc : listed.getD k false
      · rfl
      · exfalso
        have hkl : k < ops.size := by
          by_cases h : k < ops.size
          · exact h
          · rw [Array.getD_eq_getD_getElem?, Array.getElem?_eq_none (by omega)] at hc
            cases hc
        have hko : ops[k]? = some ops[k] := Array.getElem?_eq_getElem hkl
        have := anc_listed hck hac hdn (k + 1) k i _ (by omega) hko (hdn k _ hko hc) hk
        rw [hif] at this
        cases this
    have huse : ∀ j, useOk A kb Wr i j = true → Spm vs Spec j a w := fun j hj => by
      unfold useOk at hj
      rw [Bool.and_eq_true] at hj
      have hjA : j ∈ A.getD i [] := by simpa [List.contains_iff_mem] using hj.1
      refine hsp j (anc_listed hck hac hdn (i + 1) i j o (by omega) ho hdep hjA) fun hkb k hk hkl => ?_
      rw [hkb] at hj
      have := List.all_eq_true.1 (by simpa using hj.2 : (Wr.all fun k => k == j || (A.getD j []).contains k || k == i || (A.getD k []).contains i) = true) k hk
      simp only [Bool.or_eq_true] at this
      rcases this with ((h | h) | h) | h
      · exact .inl (by simpa using h)
      · exact .inr (by simpa [List.contains_iff_mem] using h)
      · have : k = i := by simpa using h
        subst this
        rw [hif] at hkl
        cases hkl
      · have := hdesc k (by simpa [List.contains_iff_mem] using h)
        rw [this] at hkl
        cases hkl
    have hpr : preOk A Wr i = true → Pre w := fun hp => hpre fun k hk => by
      have := List.all_eq_true.1 hp k hk
      simp only [Bool.or_eq_true] at this
      rcases this with h | h
      · have : k = i := by simpa using h
        subst this
        exact hif
      · exact hdesc k (by simpa [List.contains_iff_mem] using h)
    refine wpOp_mono (fun a' w' ⟨hbw, v, hv, hspec⟩ => ?_) (ob i o ho a w hb hf huse hpr)
    subst hv
    have hi0 : listed.toList[i]? = some false := by
      simp only [Array.getD_eq_getD_getElem?, Array.getElem?_eq_getElem hlt', Option.getD_some] at h0
      simp [hlt', h0]
    have hRw : R w w' := by
      split at hbw
      · exact hbw
      · exact SR hbw
    have hgrow : ∀ k, listed.getD k false = true → (listed.setIfInBounds i true).getD k false = true := fun k hk => by
      by_cases hki : k = i
      · subst hki
        simp [Array.getD_eq_getD_getElem?, hlt']
      · rw [getD_set_ne false (Ne.symm hki)]
        exact hk
    have hself : (listed.setIfInBounds i true).getD i false = true := by simp [Array.getD_eq_getD_getElem?, hlt']
    have hv1 := List.all_eq_true.1 hvk i (List.mem_range.2 hlt)
    simp only [ho] at hv1
    refine ih _ _ _ (by simpa using hs) ?_ (Rtrans hb hRw) ?_ ?_ ?_ ?_ ?_
    · have := un_set _ i hi0
      simp only [Array.toList_setIfInBounds]
      omega
    · cases hd : o.dst with
      | none => simpa [Act.put] using hf
      | some d =>
        have hmem : (dsts ops).contains d = true := by
          unfold dsts
          simp only [List.contains_iff_mem, List.mem_filterMap]
          exact ⟨o, by simpa using Array.mem_of_getElem? ho, hd⟩
        refine ⟨by simpa [Act.put] using hf.defers, by simpa [Act.put] using hf.size, fun k hk => ?_⟩
        rw [← hf.keep k hk]
        have hne : d ≠ k := fun e => by rw [e] at hmem; rw [hmem] at hk; cases hk
        simp [Act.put, Array.getD_eq_getD_getElem?, Array.getElem?_setIfInBounds_ne hne]
    · intro j oj hoj hj e he hbd
      by_cases hji : j = i
      · subst hji
        rw [ho] at hoj
        injection hoj with hoj
        subst hoj
        exact hgrow _ (hdep e he hbd)
      · rw [getD_set_ne false (Ne.symm hji)] at hj
        exact hgrow _ (hdn j oj hoj hj e he hbd)
    · intro j hj hkj
      by_cases hji : j = i
      · subst hji
        unfold Spm
        rw [newv_put fun d hd => by rw [hf.size]; exact (rckb_dst hck ho hd).1]
        exact hspec
      · have hj' : listed.getD j false = true := by rw [getD_set_ne false (Ne.symm hji)] at hj; exact hj
        have h1 := hsp j hj' fun hkb k hk hkl => hkj hkb k hk (hgrow k hkl)
        have h2 := hvs j hj'
        unfold Spm at *
        have hkeep : Spec j (slt a (vs.getD j [])) w' := by
            cases hkb : kb.getD j false with
            | false => exact stR _ _ _ _ hkb h1 hRw
            | true =>
              by_cases hw : Wr.contains i = true
              · exfalso
                have hiW : i ∈ Wr := by simpa [List.contains_iff_mem] using hw
                rcases hkj hkb i hiW hself with h | h
                · exact hji h.symm
                · have hjl : j < ops.size := by
                    by_cases h : j < ops.size
                    · exact h
                    · rw [Array.getD_eq_getD_getElem?, Array.getElem?_eq_none (by omega)] at hj'
                      cases hj'
                  have hjo : ops[j]? = some ops[j] := Array.getElem?_eq_getElem hjl
                  have := anc_listed hck hac hdn (j + 1) j i _ (by omega) hjo (hdn j _ hjo hj') h
                  rw [hif] at this
                  cases this
              · rw [if_neg hw] at hbw
                exact stS _ _ _ _ h1 hbw
        rw [slt_congr (a := a) fun d' hvj => by
          cases hd : o.dst with
          | none => simp only [Act.put]
          | some d =>
            obtain ⟨k, o', g1, g2, g3⟩ := h2 d' hvj
            have hki : k ≠ i := fun e => by
              subst e
              rw [hif] at g3
              cases g3
            have hdd : d ≠ d' := fun e => by
              subst e
              have := (rckb_dst hck ho hd).2 k hki
              rw [g1] at this
              exact this g2
            simp [Act.put, Array.getD_eq_getD_getElem?, Array.getElem?_setIfInBounds_ne hdd]]
        exact hkeep
    · intro j hj d hdv
      by_cases hji : j = i
      · subst hji
        have hv2 := List.all_eq_true.1 hv1 d hdv
        rw [Bool.or_eq_true] at hv2
        rcases hv2 with hv2 | hv2
        · exact ⟨j, o, ho, by simpa using hv2, hself⟩
        · obtain ⟨e, he, heb⟩ := Array.any_iff_exists.1 hv2
          replace heb := heb.2.2
          rw [Bool.and_eq_true] at heb
          have hb3 : (ops[o.after[e].on]?).bind (·.dst) = some d := by simpa using heb.2
          obtain ⟨o', ho', hd'⟩ := Option.bind_eq_some_iff.1 hb3
          exact ⟨_, o', ho', hd', hgrow _ (hdep _ (Array.getElem_mem _) heb.1)⟩
      · rw [getD_set_ne false (Ne.symm hji)] at hj
        obtain ⟨k, o', g1, g2, g3⟩ := hvs j hj d hdv
        exact ⟨k, o', g1, g2, hgrow k g3⟩
    · intro hno
      have hiW : ¬ Wr.contains i = true := fun h => by
        have := hno i (by simpa [List.contains_iff_mem] using h)
        rw [hself] at this
        cases this
      rw [if_neg hiW] at hbw
      refine stP _ _ (hpre fun k hk => ?_) hbw
      cases hc : listed.getD k false
      · rfl
      · have := hno k hk
        rw [hgrow k hc] at this
        cases this
/-- the facts that an operation may lean on -/
def depsM (vs : List (List Nat)) (specs : List (Value → World → Prop)) (a : Act) (w : World) : List Nat → Prop
  | [] => True
  | j :: js => spec specs j (slt a (vs.getD j [])) w ∧ depsM vs specs a w js
theorem depsM_of {specs : List (Value → World → Prop)} {a : Act} {w : World} : ∀ (js : List Nat), (∀ j ∈ js, Spm vs (spec specs) j a w) → depsM vs specs a w js
  | [], _ => trivial
  | j :: js, h => ⟨h j (by simp), depsM_of js fun k hk => h k (by simp [hk])⟩
/-- what is to be shown of one operation -/
def ob1M (R S : World → World → Prop) (Pre : World → Prop) (P : Program) (vs : List (List Nat)) (dl : List (Option Nat)) (Wr : List Nat) (a0 : Act) (w0 : World) (specs : List (Value → World → Prop)) (i : Nat) (dp : List Nat × Bool) (o : Oper) : Prop :=
  ∀ a w, R w0 w → (∀ k, dl.contains (some k) = false → sl a k = sl a0 k) → depsM vs specs a w dp.1 → (if dp.2 = true then Pre w else True) →
    if wantL dl a o = true then o.wp P a w (fun a' w' => (if Wr.contains i = true then R w w' else S w w') ∧ ∃ v, a' = a.put o.dst v ∧ spec specs i (newv o.dst v a (vs.getD i [])) w') NoExit
    else spec specs i (newv o.dst undef a (vs.getD i [])) w
def obsM (R S : World → World → Prop) (Pre : World → Prop) (P : Program) (vs : List (List Nat)) (dl : List (Option Nat)) (Wr : List Nat) (a0 : Act) (w0 : World) (specs : List (Value → World → Prop)) : Nat → List (List Nat × Bool) → List Oper → Prop
  | _, _, [] => True
  | _, [], _ :: _ => False
  | i, dp :: dps, o :: rest => ob1M R S Pre P vs dl Wr a0 w0 specs i dp o ∧ obsM R S Pre P vs dl Wr a0 w0 specs (i + 1) dps rest
theorem obsM_get {dl : List (Option Nat)} {specs : List (Value → World → Prop)} : ∀ (l : List Oper) (dps : List (List Nat × Bool)) (k : Nat), obsM R S Pre P vs dl Wr a0 w0 specs k dps l → ∀ i o, l[i]? = some o → ob1M R S Pre P vs dl Wr a0 w0 specs (k + i) (dps.getD i ([], false)) o
  | [], _, _, _, i, o, h => by simp at h
  | o' :: l, [], k, h, _, _, _ => h.elim
  | o' :: l, dp :: dps, k, h, 0, o, hi => by simp at hi; subst hi; exact h.1
  | o' :: l, dp :: dps, k, h, i + 1, o, hi => by
    have := obsM_get l dps (k + 1) h.2 i o (by simpa using hi)
    rwa [show k + 1 + i = k + (i + 1) from by omega] at this
def dpkM (A : List (List Nat)) (kb : List Bool) (Wr : List Nat) (dps : List (List Nat × Bool)) : Bool :=
  (List.range dps.length).all fun i => (dps.getD i ([], false)).1.all (fun j => useOk A kb Wr i j) && (!(dps.getD i ([], false)).2 || preOk A Wr i)
def gl (G : Nat → Value) : List Nat → Value
  | [] => .tuple #[]
  | [d] => G d
  | d :: e :: l => .tuple ((d :: e :: l).map G).toArray
theorem gl_sl (a : Act) : ∀ l, gl (sl a) l = slt a l
  | [] => rfl
  | [d] => rfl
  | d :: e :: l => rfl
/-- what is known behind the region -/
def allM (vs : List (List Nat)) (specs : List (Value → World → Prop)) (G : Nat → Value) (w : World) : List Nat → Prop
  | [] => True
  | j :: js => spec specs j (gl G (vs.getD j [])) w ∧ allM vs specs G w js
theorem allM_of {specs : List (Value → World → Prop)} {a : Act} {w : World} : ∀ (js : List Nat), (∀ j ∈ js, Spm vs (spec specs) j a w) → allM vs specs (sl a) w js
  | [], _ => trivial
  | j :: js, h => ⟨by rw [gl_sl]; exact h j (by simp), allM_of js fun k hk => h k (by simp [hk])⟩
theorem wp_region_stM {id : Nat} (R S : World → World → Prop) (Pre : World → Prop) (Snew : ∀ w w', Below w.heap.size w w' → S w w') (SR : ∀ {x y : World}, S x y → R x y) (Rtrans : ∀ {x y z : World}, R x y → R y z → R x z) {l : List Oper}
    (vs : List (List Nat)) (dl : List (Option Nat)) (A : List (List Nat)) (kb : List Bool) (Wr : List Nat) (dps : List (List Nat × Bool)) (fs : List Nat) (specs : List (Value → World → Prop)) (hm : P.follows .mixedOrders = true) (hck : rckb l.toArray a0.tmps.size = true) (hvk : vckm l.toArray vs = true) (hac : ack l.toArray A = true)
    (hdp : dpkM A kb Wr dps = true) (hfs : fs.all (fun i => decide (i < l.length) && finOk A kb Wr i) = true) (hdl : l.map (·.dst) = dl) (hdl2 : dps.length = l.length) (hkl : kb.length = specs.length)
    (stR : ∀ p ∈ specs.zip kb, p.2 = false → ∀ v w w', p.1 v w → R w w' → p.1 v w')
    (stS : ∀ T ∈ specs, ∀ v w w', T v w → S w w' → T v w') (stP : ∀ w w', Pre w → S w w' → Pre w') (hPre : Pre w0)
    (ob : obsM R S Pre P vs dl Wr a0 w0 specs 0 dps l)
    (fin : ∀ (G : Nat → Value) w, R w0 w → (∀ k, dl.contains (some k) = false → G k = sl a0 k) → allM vs specs G w fs → Q .normal { tmps := ((List.range a0.tmps.size).map G).toArray, defers := a0.defers } w) : (Code.region id l.toArray true).wp P Q a0 w0 := by
  subst hdl
  have hget : ∀ j, (l.toArray[j]?).bind (·.dst) = (l.map (·.dst)).getD j none := fun j => by
    rw [List.getD_eq_getElem?_getD, List.getElem?_map]
    simp only [List.getElem?_toArray]
    cases l[j]? <;> rfl
  have hcon : ∀ k, (l.map (·.dst)).contains (some k) = false → (dsts l.toArray).contains k = false := fun k hk => by
    cases hc : (dsts l.toArray).contains k
    · rfl
    · exfalso
      unfold dsts at hc
      simp only [List.contains_iff_mem, List.mem_filterMap] at hc
      obtain ⟨o, ho, hd⟩ := hc
      have : (l.map (·.dst)).contains (some k) = true := by
        simp only [List.contains_iff_mem, List.mem_map]
        exact ⟨o, ho, hd⟩
      rw [this] at hk
      cases hk
  have hdr : Below w0.heap.size w0 w0.drew := (Below.refl _ _).drew
  have hR0 : R w0 w0.drew := SR (Snew _ _ hdr)
  have hP0 : Pre w0.drew := stP _ _ hPre (Snew _ _ hdr)
  refine wp_region_any hm (wpAny_stableM (R := R) (S := S) (Pre := Pre) (w0 := w0) (vs := vs) (A := A) (kb := kb) (Wr := Wr) (Spec := spec specs) SR Rtrans hck hvk hac ?_ ?_ stP ?_ ?_ _ _ _ _ (by simp) (by simp) hR0 ⟨rfl, rfl, fun _ _ => rfl⟩ ?_ ?_ ?_ (fun _ => hP0))
  · intro i v w w' hkb h hb
    unfold spec at *
    by_cases hi : i < specs.length
    · have hs : specs.getD i (fun _ _ => True) = specs[i] := by rw [List.getD_eq_getElem?_getD, List.getElem?_eq_getElem hi, Option.getD_some]
      have hk : kb.getD i false = kb[i]'(by omega) := by rw [List.getD_eq_getElem?_getD, List.getElem?_eq_getElem (by omega), Option.getD_some]
      rw [hk] at hkb
      rw [hs] at h ⊢
      refine stR (specs[i], kb[i]'(by omega)) ?_ hkb v w w' h hb
      rw [List.mem_iff_getElem?]
      exact ⟨i, by rw [List.getElem?_zip_eq_some]; exact ⟨List.getElem?_eq_getElem _, List.getElem?_eq_getElem _⟩⟩
    · rw [List.getD_eq_getElem?_getD, List.getElem?_eq_none (by omega)]
      trivial
  · intro i v w w' h hb
    unfold spec at *
    by_cases hi : i < specs.length
    · have hm : specs.getD i (fun _ _ => True) ∈ specs := by
        rw [List.getD_eq_getElem?_getD, List.getElem?_eq_getElem hi, Option.getD_some]
        exact List.getElem_mem hi
      exact stS _ hm v w w' h hb
    · rw [List.getD_eq_getElem?_getD, List.getElem?_eq_none (by omega)]
      trivial
  · intro i o ho a w hb hf hd hp
    have hil : i < l.length := by
      have := (List.getElem?_eq_some_iff.1 (by simpa using ho : l[i]? = some o)).1
      exact this
    have hdpi := List.all_eq_true.1 hdp i (List.mem_range.2 (by omega))
    rw [Bool.and_eq_true] at hdpi
    have h1 := obsM_get l dps 0 ob i o (by simpa using ho) a w hb (fun k hk => hf.keep k (hcon k hk)) (by
      refine depsM_of _ fun j hj => hd j (List.all_eq_true.1 hdpi.1 j hj)) (by
      split
      · rename_i h
        have h2 := hdpi.2
        rw [h] at h2
        exact hp (by simpa using h2)
      · trivial)
    rw [Nat.zero_add] at h1
    have hw : wantL (l.map (·.dst)) a o = Region.wanted o (yielded l.toArray a.tmps) := by
      unfold wantL Region.wanted
      cases hg : o.guard with
      | none => rfl
      | some g =>
        obtain ⟨j, want⟩ := g
        simp only [yielded]
        rw [hget]
        cases hd' : (l.map (·.dst)).getD j none with
        | none => rfl
        | some d =>
          simp only [Option.bind_some, sl, Array.getD_eq_getD_getElem?]
          cases a.tmps[d]? with
          | none => rfl
          | some x => cases x <;> simp
    rw [hw] at h1
    unfold wpOp
    rw [ho]
    simp only
    split
    · rename_i hw
      rw [if_pos hw] at h1
      exact .inl (Oper.wp_noExit h1)
    · rename_i hw
      rw [if_neg hw] at h1
      refine ⟨?_, undef, rfl, h1⟩
      split
      · exact SR (Snew _ _ (Below.refl _ _))
      · exact Snew _ _ (Below.refl _ _)
  · intro a w hb hf hs
    rw [act_eq hf.defers hf.size]
    refine fin (sl a) w hb (fun k hk => hf.keep k (hcon k hk)) (allM_of _ fun j hj => ?_)
    have := List.all_eq_true.1 hfs j hj
    rw [Bool.and_eq_true] at this
    exact hs j (by simpa using this.1) this.2
  · intro i o ho hi
    exfalso
    have hlt : i < l.length := (List.getElem?_eq_some_iff.1 (by simpa using ho : l[i]? = some o)).1
    simp [Array.getD_eq_getD_getElem?, hlt] at hi
  · intro i hi
    exfalso
    by_cases h : i < l.length
    · simp [Array.getD_eq_getD_getElem?, h] at hi
    · simp [Array.getD_eq_getD_getElem?, h] at hi
  · intro i hi
    exfalso
    by_cases h : i < l.length
    · simp [Array.getD_eq_getD_getElem?, h] at hi
    · simp [Array.getD_eq_getD_getElem?, h] at hi
end
end PM
end Go.Proofs.Ytphdadlpfjfeoaa
