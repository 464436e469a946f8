import Derived.WalkKit
import Derived.Orders
import Derived.RegionTactic
/-
  A REGION THAT DRAWS ITS ORDER, WALKED BY WHAT EACH OPERATION IS KNOWN TO YIELD: each operation has a property of the value that it leaves, which lasts when more memory is made; each is shown once, out of the properties of those that it waits for; then whatever order is drawn, all properties hold behind the region. Over any program.
-/
namespace Go.Proofs.YtnpbfjkfbobgaaaGreat
namespace PM
open Go.RowKit

def dsts (ops : Array Oper) : List Tmp := ops.toList.filterMap (·.dst)
/-- slots that the region does not write are as they were -/
structure Fr (ops : Array Oper) (a0 a : Act) : Prop where
  defers : a.defers = a0.defers
  size : a.tmps.size = a0.tmps.size
  keep : ∀ k, (dsts ops).contains k = false → a.tmps.getD k undef = a0.tmps.getD k undef
/-- the property of operation number i, of what stands in its slot -/
def Sp (ops : Array Oper) (Spec : Nat → Value → World → Prop) (i : Nat) (a : Act) (w : World) : Prop :=
  match (ops[i]?).bind (·.dst) with
  | some d => Spec i (a.tmps.getD d undef) w
  | none => True
/-- what the kernel checks of a region: who is waited for stands ahead; each writes a slot of its own -/
def rck (ops : Array Oper) (n : Nat) : Bool :=
  (List.range ops.size).all (fun i => match ops[i]? with
    | some o => o.after.all (fun e => decide (e.on < i)) && (match o.dst with
      | some d => decide (d < n) && (List.range ops.size).all (fun j => decide (j = i) || (((ops[j]?).bind (·.dst)) != some d))
      | none => true)
    | none => true)

theorem rck_after {ops : Array Oper} {n i : Nat} {o : Oper} (h : rck ops n = true) (hi : ops[i]? = some o) : ∀ e ∈ o.after, e.on < i := by
  have hlt : i < ops.size := (Array.getElem?_eq_some_iff.1 hi).1
  have h1 := List.all_eq_true.1 h i (List.mem_range.2 hlt)
  simp only [hi, Bool.and_eq_true] at h1
  intro e he
  have := Array.all_eq_true_iff_forall_mem.1 h1.1 e he
  simpa using this
theorem rck_dst {ops : Array Oper} {n i d : Nat} {o : Oper} (h : rck ops n = true) (hi : ops[i]? = some o) (hd : o.dst = some d) :
    d < n ∧ ∀ j, j ≠ i → (ops[j]?).bind (·.dst) ≠ some d := by
  have hlt : i < ops.size := (Array.getElem?_eq_some_iff.1 hi).1
  have h1 := List.all_eq_true.1 h i (List.mem_range.2 hlt)
  simp only [hi, hd, Bool.and_eq_true, decide_eq_true_eq] at h1
  refine ⟨h1.2.1, fun j hj => ?_⟩
  by_cases hjl : j < ops.size
  · have := List.all_eq_true.1 h1.2.2 j (List.mem_range.2 hjl)
    simp only [Bool.or_eq_true, decide_eq_true_eq, bne_iff_ne] at this
    exact this.resolve_left hj
  · rw [Array.getElem?_eq_none (by omega)]; simp
theorem un_set : ∀ (l : List Bool) (i : Nat), l[i]? = some false → ((l.set i true).filter (!·)).length + 1 = (l.filter (!·)).length
  | [], i, h => by simp at h
  | b :: l, 0, h => by
    simp at h
    subst h
    simp
  | b :: l, i + 1, h => by
    have h' := un_set l i (by simpa using h)
    cases b <;> simp at * <;> omega
theorem un_pos : ∀ (l : List Bool), 0 < (l.filter (!·)).length → ∃ i : Nat, l[i]? = some false ∧ ∀ j : Nat, j < i → l[j]? = some true
  | [], h => by simp at h
  | b :: l, h => by
    cases b
    · exact ⟨0, rfl, fun j hj => by omega⟩
    · obtain ⟨i, hi, hj⟩ := un_pos l (by simpa [List.filter_cons] using h)
      refine ⟨i + 1, by simpa using hi, fun j hji => ?_⟩
      cases j with
      | zero => rfl
      | succ j => simpa using hj j (by omega)
theorem un_zero : ∀ (l : List Bool), (l.filter (!·)).length = 0 → ∀ i : Nat, i < l.length → l[i]? = some true
  | [], _, i, hi => by simp at hi
  | b :: l, h, i, hi => by
    cases b
    · simp at h
    · cases i with
      | zero => rfl
      | succ i => simpa using un_zero l (by simpa [List.filter_cons] using h) i (by simpa using hi)

section
variable {P : Program} {ops : Array Oper} {Q : Exit → Act → World → Prop} {a0 : Act} {w0 : World} {Spec : Nat → Value → World → Prop}

theorem wpAny_stable (hck : rck ops a0.tmps.size = true) (stable : ∀ i v w w', Spec i v w → Below w.heap.size w w' → Spec i v w')
    (ob : ∀ i o, ops[i]? = some o → ∀ a w, Below w0.heap.size w0 w → Fr ops a0 a → (∀ e ∈ o.after, Region.binds .any e = true → Sp ops Spec e.on a w) →
      wpOp P ops Q i (fun a' w' => Below w.heap.size w w' ∧ ∃ v, a' = a.put o.dst v ∧ Spec i v w') a w)
    (fin : ∀ a w, Below w0.heap.size w0 w → Fr ops a0 a → (∀ i, i < ops.size → Sp ops Spec i a w) → Q .normal a w) :
    ∀ (fuel : Nat) (listed : Array Bool) (a : Act) (w : World), listed.size = ops.size → (listed.toList.filter (!·)).length = fuel → Below w0.heap.size w0 w → Fr ops a0 a →
      (∀ i, listed.getD i false = true → Sp ops Spec i a w) → wpAny P .any ops Q fuel listed a w := by
  have hready : ∀ (listed : Array Bool), listed.size = ops.size → 0 < (listed.toList.filter (!·)).length → Region.ready .any ops listed ≠ [] := by
    intro listed hs hp he
    obtain ⟨i, hi, hj⟩ := un_pos _ hp
    have hlt : i < listed.size := by
      have := (List.getElem?_eq_some_iff.1 hi).1
      simpa using this
    obtain ⟨o, ho⟩ : ∃ o, ops[i]? = some o := ⟨ops[i]'(by omega), by simp [hs ▸ hlt]⟩
    have hm : i ∈ Region.ready .any ops listed := mem_ready.2 ⟨by
      have hi' : listed[i]? = some false := by simpa using hi
      rw [Array.getD_eq_getD_getElem?, hi']; rfl, o, ho, fun e he' _ => by
      have hlt' := rck_after hck ho e he'
      have hj' : listed[e.on]? = some true := by simpa using hj e.on hlt'
      rw [Array.getD_eq_getD_getElem?, hj']; rfl⟩
    rw [he] at hm
    cases hm
  intro fuel
  induction fuel with
  | zero =>
    intro listed a w hs hu hb hf hsp
    have hall : ∀ i, i < ops.size → listed.getD i false = true := fun i hi => by
      have h := un_zero _ hu i (by simpa [hs] using hi)
      have h' : listed[i]? = some true := by simpa using h
      rw [Array.getD_eq_getD_getElem?, h']; rfl
    refine ⟨?_, fin a w hb hf fun i hi => hsp i (hall i hi)⟩
    apply List.eq_nil_iff_forall_not_mem.2
    intro j hj
    obtain ⟨h0, o, ho, _⟩ := mem_ready.1 hj
    have hlt : j < ops.size := (Array.getElem?_eq_some_iff.1 ho).1
    have h1 := hall j hlt
    have hlt' : j < listed.size := by omega
    simp only [Array.getD_eq_getD_getElem?, Array.getElem?_eq_getElem hlt', Option.getD_some] at h0 h1
    rw [h0] at h1
    cases h1
  | succ fuel ih =>
    intro listed a w hs hu hb hf hsp
    refine ⟨fun he => absurd he (hready listed hs (by omega)), fun i hi => ?_⟩
    obtain ⟨h0, o, ho, hdep⟩ := mem_ready.1 hi
    have hlt : i < ops.size := (Array.getElem?_eq_some_iff.1 ho).1
    have hlt' : i < listed.size := by omega
    refine wpOp_mono (fun a' w' ⟨hbw, v, hv, hspec⟩ => ?_) (ob i o ho a w hb hf fun e he hbd => hsp e.on (hdep e he hbd))
    subst hv
    have hi0 : listed.toList[i]? = some false := by
      simp only [Array.getD_eq_getD_getElem?, Array.getElem?_eq_getElem hlt', Option.getD_some] at h0
      simp [hlt', h0]
    refine ih _ _ _ (by simpa using hs) ?_ (hb.trans (hbw.mono hb.size)) ?_ ?_
    · have := un_set _ i hi0
      simp only [Array.toList_setIfInBounds]
      omega
    · cases hd : o.dst with
      | none => simpa [Act.put] using hf
      | some d =>
        have hmem : (dsts ops).contains d = true := by
          unfold dsts
          simp only [List.contains_iff_mem, List.mem_filterMap]
          exact ⟨o, by simpa using Array.mem_of_getElem? ho, hd⟩
        refine ⟨by simpa [Act.put] using hf.defers, by simpa [Act.put] using hf.size, fun k hk => ?_⟩
        rw [← hf.keep k hk]
        have hne : d ≠ k := fun e => by rw [e] at hmem; rw [hmem] at hk; cases hk
        simp [Act.put, Array.getD_eq_getD_getElem?, Array.getElem?_setIfInBounds_ne hne]
    · intro j hj
      by_cases hji : j = i
      · subst hji
        unfold Sp
        rw [ho]
        cases hd : o.dst with
        | none => simp [hd]
        | some d =>
          have hdl := (rck_dst hck ho hd).1
          simp only [Option.bind_some, hd]
          have hsz : d < a.tmps.size := by rw [hf.size]; exact hdl
          simpa [Act.put, Array.getD_eq_getD_getElem?, hsz] using hspec
      · have hj' : listed.getD j false = true := by rw [getD_set_ne false (Ne.symm hji)] at hj; exact hj
        have h1 := hsp j hj'
        unfold Sp at *
        cases hd : o.dst with
        | none =>
          simp only [Act.put]
          split
          · rename_i d' hd'
            rw [hd'] at h1
            exact stable _ _ _ _ h1 hbw
          · trivial
        | some d =>
          have hne := (rck_dst hck ho hd).2 j hji
          split
          · rename_i d' hd'
            rw [hd'] at h1
            have hdd : d ≠ d' := fun e => by subst e; exact hne hd'
            have e1 : (a.put (some d) v).tmps.getD d' undef = a.tmps.getD d' undef := by
              simp [Act.put, Array.getD_eq_getD_getElem?, Array.getElem?_setIfInBounds_ne hdd]
            rw [e1]
            exact stable _ _ _ _ h1 hbw
          · trivial

theorem wp_region_stable {id : Nat} (Spec : Nat → Value → World → Prop) (hm : P.follows .mixedOrders = true) (hck : rck ops a0.tmps.size = true) (stable : ∀ i v w w', Spec i v w → Below w.heap.size w w' → Spec i v w')
    (ob : ∀ i o, ops[i]? = some o → ∀ a w, Below w0.heap.size w0 w → Fr ops a0 a → (∀ e ∈ o.after, Region.binds .any e = true → Sp ops Spec e.on a w) →
      wpOp P ops Q i (fun a' w' => Below w.heap.size w w' ∧ ∃ v, a' = a.put o.dst v ∧ Spec i v w') a w)
    (fin : ∀ a w, Below w0.heap.size w0 w → Fr ops a0 a → (∀ i, i < ops.size → Sp ops Spec i a w) → Q .normal a w) : (Code.region id ops true).wp P Q a0 w0 := by
  refine wp_region_any hm (wpAny_stable hck stable ob fin _ _ _ _ (by simp) ?_ ⟨rfl, rfl, rfl, Nat.le_refl _, fun _ _ => rfl⟩ ⟨rfl, rfl, fun _ _ => rfl⟩ ?_)
  · simp
  · intro i hi
    exfalso
    by_cases h : i < ops.size
    · simp [Array.getD_eq_getD_getElem?, h] at hi
    · simp [Array.getD_eq_getD_getElem?, h] at hi

/-! ### the same, over lists that are written out -/
def spec (specs : List (Value → World → Prop)) (i : Nat) (v : Value) (w : World) : Prop := (specs.getD i (fun _ _ => True)) v w
/-- the value in a slot -/
def sl (a : Act) (k : Nat) : Value := a.tmps.getD k undef
def depsL (dl : List (Option Nat)) (specs : List (Value → World → Prop)) (a : Act) (w : World) : List Edge → Prop
  | [] => True
  | e :: es => (if Region.binds .any e then (match dl.getD e.on none with | some d => spec specs e.on (sl a d) w | none => True) else True) ∧ depsL dl specs a w es
/-- is the operation's guard met? -/
def wantL (dl : List (Option Nat)) (a : Act) (o : Oper) : Bool :=
  match o.guard with
  | none => true
  | some (j, want) => match dl.getD j none with | some d => (match sl a d with | .bool b => b == want | _ => false) | none => false
def NoExit : Exit → Act → World → Prop := fun _ _ _ => False
/-- what is to be shown of one operation -/
def ob1 (P : Program) (dl : List (Option Nat)) (a0 : Act) (w0 : World) (specs : List (Value → World → Prop)) (i : Nat) (o : Oper) : Prop :=
  ∀ a w, Below w0.heap.size w0 w → (∀ k, dl.contains (some k) = false → sl a k = sl a0 k) → depsL dl specs a w o.after.toList →
    if wantL dl a o = true then o.wp P a w (fun a' w' => Below w.heap.size w w' ∧ ∃ v, a' = a.put o.dst v ∧ spec specs i v w') NoExit else spec specs i undef w
def obs (P : Program) (dl : List (Option Nat)) (a0 : Act) (w0 : World) (specs : List (Value → World → Prop)) : Nat → List Oper → Prop
  | _, [] => True
  | i, o :: rest => ob1 P dl a0 w0 specs i o ∧ obs P dl a0 w0 specs (i + 1) rest
theorem obs_get {dl : List (Option Nat)} {specs : List (Value → World → Prop)} : ∀ (l : List Oper) (k : Nat), obs P dl a0 w0 specs k l → ∀ i o, l[i]? = some o → ob1 P dl a0 w0 specs (k + i) o
  | [], _, _, i, o, h => by simp at h
  | o' :: l, k, h, 0, o, hi => by simp at hi; subst hi; exact h.1
  | o' :: l, k, h, i + 1, o, hi => by
    have := obs_get l (k + 1) h.2 i o (by simpa using hi)
    rwa [show k + 1 + i = k + (i + 1) from by omega] at this
def allSp (specs : List (Value → World → Prop)) (G : Nat → Value) (w : World) : Nat → List (Option Nat) → Prop
  | _, [] => True
  | i, some d :: rest => spec specs i (G d) w ∧ allSp specs G w (i + 1) rest
  | i, none :: rest => allSp specs G w (i + 1) rest
theorem allSp_of {specs : List (Value → World → Prop)} {a : Act} {w : World} : ∀ (dl : List (Option Nat)) (k : Nat), (∀ i, i < dl.length → (ops[k + i]?).bind (·.dst) = dl.getD i none ∧ k + i < ops.size) → (∀ i, i < ops.size → Sp ops (spec specs) i a w) → allSp specs (sl a) w k dl
  | [], _, _, _ => trivial
  | some d :: dl, k, h, hs => by
      have h0 := h 0 (by simp)
      have h1 := hs k h0.2
      unfold Sp at h1
      rw [show (ops[k]?).bind (·.dst) = some d from h0.1] at h1
      exact ⟨h1, allSp_of dl (k + 1) (fun i hi => by have := h (i + 1) (by simpa using hi); rwa [show k + 1 + i = k + (i + 1) from by omega]) hs⟩
  | none :: dl, k, h, hs => allSp_of dl (k + 1) (fun i hi => by have := h (i + 1) (by simpa using hi); rwa [show k + 1 + i = k + (i + 1) from by omega]) hs
theorem Oper.wp_noExit {o : Oper} {a : Act} {w : World} {K : Act → World → Prop} (h : o.wp P a w K NoExit) : o.wp P a w K Q := by
  unfold Oper.wp at *
  generalize (execOp a.eval o).run P w = r at *
  cases r with
  | ok n w' =>
    cases n <;> simp only [Oper.upon] at h ⊢
    case value => exact h
    case skip => exact h
    case defer => exact h
    case row => exact h
    case enter f args =>
      refine Calls.mono h fun e w'' he => ?_
      cases e with
      | returned u => exact he
      | panicked c => exact he.elim
      | outgrown => obtain ⟨_, _, hf⟩ := he; exact hf.elim
  | halt x w' =>
    cases x <;> simp only [Oper.upon] at h ⊢
    case panic => exact h.elim
theorem act_eq {a a0 : Act} (hd : a.defers = a0.defers) (hs : a.tmps.size = a0.tmps.size) : a = { tmps := ((List.range a0.tmps.size).map (sl a)).toArray, defers := a0.defers } := by
  obtain ⟨t, d⟩ := a
  simp only at hd hs
  subst hd
  congr 1
  apply Array.ext
  · simp [hs]
  · intro i h1 h2
    simp [sl, Array.getElem?_eq_getElem h1]
theorem wp_region_st {id : Nat} {l : List Oper} (dl : List (Option Nat)) (specs : List (Value → World → Prop)) (hm : P.follows .mixedOrders = true) (hck : rck l.toArray a0.tmps.size = true) (hdl : l.map (·.dst) = dl)
    (stable : ∀ S ∈ specs, ∀ v w w', S v w → Below w.heap.size w w' → S v w')
    (ob : obs P dl a0 w0 specs 0 l)
    (fin : ∀ (G : Nat → Value) w, Below w0.heap.size w0 w → (∀ k, dl.contains (some k) = false → G k = sl a0 k) → allSp specs G w 0 dl → Q .normal { tmps := ((List.range a0.tmps.size).map G).toArray, defers := a0.defers } w) : (Code.region id l.toArray true).wp P Q a0 w0 := by
  subst hdl
  have hget : ∀ j, (l.toArray[j]?).bind (·.dst) = (l.map (·.dst)).getD j none := fun j => by
    rw [List.getD_eq_getElem?_getD, List.getElem?_map]
    simp only [List.getElem?_toArray]
    cases l[j]? <;> rfl
  have hcon : ∀ k, (l.map (·.dst)).contains (some k) = false → (dsts l.toArray).contains k = false := fun k hk => by
    cases hc : (dsts l.toArray).contains k
    · rfl
    · exfalso
      unfold dsts at hc
      simp only [List.contains_iff_mem, List.mem_filterMap] at hc
      obtain ⟨o, ho, hd⟩ := hc
      have : (l.map (·.dst)).contains (some k) = true := by
        simp only [List.contains_iff_mem, List.mem_map]
        exact ⟨o, ho, hd⟩
      rw [this] at hk
      cases hk
  refine wp_region_stable (spec specs) hm hck ?_ ?_ ?_
  · intro i v w w' h hb
    unfold spec at *
    by_cases hi : i < specs.length
    · have hm : specs.getD i (fun _ _ => True) ∈ specs := by
        rw [List.getD_eq_getElem?_getD, List.getElem?_eq_getElem hi, Option.getD_some]
        exact List.getElem_mem hi
      exact stable _ hm v w w' h hb
    · rw [List.getD_eq_getElem?_getD, List.getElem?_eq_none (by omega)]
      trivial
  · intro i o ho a w hb hf hd
    have hdeps : ∀ (es : List Edge), (∀ e ∈ es, Region.binds .any e = true → Sp l.toArray (spec specs) e.on a w) → depsL (l.map (·.dst)) specs a w es := by
      intro es
      induction es with
      | nil => intro _; trivial
      | cons e es ih =>
        intro h
        refine ⟨?_, ih fun e' he' => h e' (by simp [he'])⟩
        split
        · rename_i hb'
          have h1 := h e (by simp) hb'
          unfold Sp at h1
          rw [hget] at h1
          exact h1
        · trivial
    have h1 := obs_get l 0 ob i o (by simpa using ho) a w hb (fun k hk => hf.keep k (hcon k hk)) (hdeps _ fun e he => hd e (by simpa using he))
    rw [Nat.zero_add] at h1
    have hw : wantL (l.map (·.dst)) a o = Region.wanted o (yielded l.toArray a.tmps) := by
      unfold wantL Region.wanted
      cases hg : o.guard with
      | none => rfl
      | some g =>
        obtain ⟨j, want⟩ := g
        simp only [yielded]
        rw [hget]
        cases hd' : (l.map (·.dst)).getD j none with
        | none => rfl
        | some d =>
          simp only [Option.bind_some, sl, Array.getD_eq_getD_getElem?]
          cases a.tmps[d]? with
          | none => rfl
          | some x => cases x <;> simp
    rw [hw] at h1
    unfold wpOp
    rw [ho]
    simp only
    split
    · rename_i hw
      rw [if_pos hw] at h1
      exact .inl (Oper.wp_noExit h1)
    · rename_i hw
      rw [if_neg hw] at h1
      exact ⟨Below.refl _ _, undef, rfl, h1⟩
  · intro a w hb hf hs
    rw [act_eq hf.defers hf.size]
    exact fin (sl a) w hb (fun k hk => hf.keep k (hcon k hk)) (allSp_of _ 0 (fun i hi => ⟨by rw [Nat.zero_add]; exact hget i, by simpa using hi⟩) hs)
end
theorem act_lit {a : Act} (n : Nat) (hd : a.defers = []) (hs : a.tmps.size = n) : a = { tmps := ((List.range n).map (sl a)).toArray, defers := [] } := by
  subst hs
  have h := act_eq (a := a) (a0 := { tmps := a.tmps, defers := [] }) hd rfl
  exact h
theorem cellB {wa W : World} {p : Addr} {v : Value} (hB : Below wa.heap.size wa W) (h : wa.cell? p = some v) : W.cell? p = some v := by
  rw [hB.cell (World.block_lt_of_cell? wa _ h)]; exact h
end PM
end Go.Proofs.YtnpbfjkfbobgaaaGreat

/-
  A REGION THAT DRAWS ITS ORDER, IN TWO PARTS: the first operations in whatever order, each with a property that lasts when memory is made; then those that wait for all of them, in the one order that is left. Over any program.
-/
namespace Go.Proofs.YtnpbfjkfbobgaaaGreat
namespace PM
open Go.RowKit

/-- does operation i wait for operation j, over any number of others? -/
def clos (ops : Array Oper) : Nat → Nat → Nat → Bool
  | 0, _, _ => false
  | f + 1, i, j => match ops[i]? with
    | some o => o.after.any fun e => Region.binds .any e && (e.on == j || clos ops f e.on j)
    | none => false
def Down (ops : Array Oper) (listed : Array Bool) : Prop := ∀ i o, ops[i]? = some o → listed.getD i false = true → ∀ e ∈ o.after, Region.binds .any e = true → listed.getD e.on false = true
theorem clos_listed {ops : Array Oper} {listed : Array Bool} (hd : Down ops listed) : ∀ (f i j : Nat) (o : Oper), ops[i]? = some o → (∀ e ∈ o.after, Region.binds .any e = true → listed.getD e.on false = true) → clos ops f i j = true → listed.getD j false = true
  | 0, _, _, _, _, _, h => by simp [clos] at h
  | f + 1, i, j, o, ho, hdep, h => by
    unfold clos at h
    rw [ho] at h
    simp only [Array.any_eq_true] at h
    obtain ⟨k, hk, h⟩ := h
    simp only [Bool.and_eq_true, Bool.or_eq_true, beq_iff_eq] at h
    have hm : o.after[k] ∈ o.after := Array.getElem_mem hk
    have h1 := hdep _ hm h.1
    rcases h.2 with h2 | h2
    · rw [← h2]; exact h1
    · cases hf : ops[o.after[k].on]? with
      | none => cases f <;> simp [clos, hf] at h2
      | some o' => exact clos_listed hd f _ j o' hf (hd _ o' hf h1) h2
def firstN (n m : Nat) : Array Bool := ((List.range m).map fun i => decide (i < n)).toArray
theorem firstN_getD (n m i : Nat) (h : i < m) : (firstN n m).getD i false = decide (i < n) := by
  unfold firstN
  simp [Array.getD_eq_getD_getElem?, h]
def closck (ops : Array Oper) (n1 : Nat) : Bool := (List.range ops.size).all fun i => decide (i < n1) || (List.range n1).all fun j => clos ops ops.size i j

section
variable {P : Program} {ops : Array Oper} {Q : Exit → Act → World → Prop} {a0 : Act} {w0 : World} {Spec : Nat → Value → World → Prop}

theorem wpAny_two (n1 : Nat) (hn : n1 ≤ ops.size) (hck : rck ops a0.tmps.size = true) (hcl : closck ops n1 = true) (stable : ∀ i v w w', Spec i v w → Below w.heap.size w w' → Spec i v w')
    (ob : ∀ i o, i < n1 → ops[i]? = some o → ∀ a w, Below w0.heap.size w0 w → Fr ops a0 a → (∀ e ∈ o.after, Region.binds .any e = true → Sp ops Spec e.on a w) →
      wpOp P ops Q i (fun a' w' => Below w.heap.size w w' ∧ ∃ v, a' = a.put o.dst v ∧ Spec i v w') a w)
    (fin : ∀ a w, Below w0.heap.size w0 w → Fr ops a0 a → (∀ i, i < n1 → Sp ops Spec i a w) → wpAny P .any ops Q (ops.size - n1) (firstN n1 ops.size) a w) :
    ∀ (fuel : Nat) (listed : Array Bool) (a : Act) (w : World), listed.size = ops.size → ((listed.toList.take n1).filter (!·)).length = fuel → (∀ i, n1 ≤ i → listed.getD i false = false) → Down ops listed → Below w0.heap.size w0 w → Fr ops a0 a →
      (∀ i, listed.getD i false = true → Sp ops Spec i a w) → wpAny P .any ops Q (fuel + (ops.size - n1)) listed a w := by
  have hget : ∀ (listed : Array Bool) (i : Nat), i < n1 → (listed.toList.take n1)[i]? = listed[i]? := fun listed i hi => by rw [List.getElem?_take_of_lt hi]; simp
  intro fuel
  induction fuel with
  | zero =>
    intro listed a w hs hu hno hdn hb hf hsp
    have hall : ∀ i, i < n1 → listed.getD i false = true := fun i hi => by
      have h := un_zero _ hu i (by simp [hs]; omega)
      rw [hget listed i hi] at h
      rw [Array.getD_eq_getD_getElem?, h]; rfl
    have he : listed = firstN n1 ops.size := by
      apply Array.ext
      · simp [firstN, hs]
      · intro i h1 h2
        have e1 : listed.getD i false = listed[i] := by simp [Array.getD_eq_getD_getElem?, h1]
        have e2 : (firstN n1 ops.size).getD i false = (firstN n1 ops.size)[i] := by simp [Array.getD_eq_getD_getElem?, h2]
        rw [← e1, ← e2, firstN_getD _ _ _ (by omega)]
        by_cases hi : i < n1
        · rw [hall i hi]; simp [hi]
        · rw [hno i (by omega)]; simp [hi]
    rw [Nat.zero_add, he]
    exact fin a w hb hf fun i hi => hsp i (hall i hi)
  | succ fuel ih =>
    intro listed a w hs hu hno hdn hb hf hsp
    obtain ⟨i0, hi0, hj0⟩ := un_pos (listed.toList.take n1) (by omega)
    have hi0n : i0 < n1 := by
      have := (List.getElem?_eq_some_iff.1 hi0).1
      simp at this; omega
    rw [hget listed i0 hi0n] at hi0
    have hready : Region.ready .any ops listed ≠ [] := by
      intro he
      have hlt : i0 < ops.size := by omega
      obtain ⟨o, ho⟩ : ∃ o, ops[i0]? = some o := ⟨ops[i0], by simp⟩
      have hm : i0 ∈ Region.ready .any ops listed := mem_ready.2 ⟨by rw [Array.getD_eq_getD_getElem?, hi0]; rfl, o, ho, fun e he' _ => by
        have hlt' := rck_after hck ho e he'
        have hj' := hj0 e.on hlt'
        rw [hget listed e.on (by omega)] at hj'
        rw [Array.getD_eq_getD_getElem?, hj']; rfl⟩
      rw [he] at hm
      cases hm
    rw [show fuel + 1 + (ops.size - n1) = (fuel + (ops.size - n1)) + 1 from by omega]
    refine ⟨fun he => absurd he hready, fun i hi => ?_⟩
    obtain ⟨h0, o, ho, hdep⟩ := mem_ready.1 hi
    have hlt : i < ops.size := (Array.getElem?_eq_some_iff.1 ho).1
    have hlt' : i < listed.size := by omega
    have hin : i < n1 := by
      refine Nat.lt_of_not_le fun hge => ?_
      have h1 := List.all_eq_true.1 hcl i (List.mem_range.2 hlt)
      simp only [Bool.or_eq_true, decide_eq_true_eq] at h1
      have h2 := h1.resolve_left (by omega)
      have h3 := List.all_eq_true.1 h2 i0 (List.mem_range.2 hi0n)
      have h4 := clos_listed hdn _ i i0 o ho hdep h3
      rw [Array.getD_eq_getD_getElem?, hi0] at h4
      cases h4
    refine wpOp_mono (fun a' w' ⟨hbw, v, hv, hspec⟩ => ?_) (ob i o hin ho a w hb hf fun e he hbd => hsp e.on (hdep e he hbd))
    subst hv
    have hi1 : (listed.toList.take n1)[i]? = some false := by
      rw [hget listed i hin]
      simp only [Array.getD_eq_getD_getElem?, Array.getElem?_eq_getElem hlt', Option.getD_some] at h0
      simp [hlt', h0]
    refine ih _ _ _ (by simpa using hs) ?_ ?_ ?_ (hb.trans (hbw.mono hb.size)) ?_ ?_
    · have := un_set _ i hi1
      rw [Array.toList_setIfInBounds, List.take_set]
      omega
    · intro j hj
      rw [getD_set_ne false (by omega)]
      exact hno j hj
    · intro j o' ho' hj e he hbd
      by_cases hji : j = i
      · subst hji
        rw [ho] at ho'
        obtain rfl := Option.some.inj ho'
        exact getD_set_true (hdep e he hbd)
      · rw [getD_set_ne false (Ne.symm hji)] at hj
        exact getD_set_true (hdn j o' ho' hj e he hbd)
    · cases hd : o.dst with
      | none => simpa [Act.put] using hf
      | some d =>
        have hmem : (dsts ops).contains d = true := by
          unfold dsts
          simp only [List.contains_iff_mem, List.mem_filterMap]
          exact ⟨o, by simpa using Array.mem_of_getElem? ho, hd⟩
        refine ⟨by simpa [Act.put] using hf.defers, by simpa [Act.put] using hf.size, fun k hk => ?_⟩
        rw [← hf.keep k hk]
        have hne : d ≠ k := fun e => by rw [e] at hmem; rw [hmem] at hk; cases hk
        simp [Act.put, Array.getD_eq_getD_getElem?, Array.getElem?_setIfInBounds_ne hne]
    · intro j hj
      by_cases hji : j = i
      · subst hji
        unfold Sp
        rw [ho]
        cases hd : o.dst with
        | none => simp [hd]
        | some d =>
          have hdl := (rck_dst hck ho hd).1
          simp only [Option.bind_some, hd]
          have hsz : d < a.tmps.size := by rw [hf.size]; exact hdl
          simpa [Act.put, Array.getD_eq_getD_getElem?, hsz] using hspec
      · have hj' : listed.getD j false = true := by rw [getD_set_ne false (Ne.symm hji)] at hj; exact hj
        have h1 := hsp j hj'
        unfold Sp at *
        cases hd : o.dst with
        | none =>
          simp only [Act.put]
          split
          · rename_i d' hd'
            rw [hd'] at h1
            exact stable _ _ _ _ h1 hbw
          · trivial
        | some d =>
          have hne := (rck_dst hck ho hd).2 j hji
          split
          · rename_i d' hd'
            rw [hd'] at h1
            have hdd : d ≠ d' := fun e => by subst e; exact hne hd'
            have e1 : (a.put (some d) v).tmps.getD d' undef = a.tmps.getD d' undef := by
              simp [Act.put, Array.getD_eq_getD_getElem?, Array.getElem?_setIfInBounds_ne hdd]
            rw [e1]
            exact stable _ _ _ _ h1 hbw
          · trivial
/-- from where on each operation is the only one that is ready -/
def lastck (ops : Array Oper) (n1 : Nat) : Bool := (List.range (ops.size - n1)).all fun k => (Region.ready .any ops (firstN (n1 + k) ops.size) == [n1 + k]) && ((firstN (n1 + k) ops.size).setIfInBounds (n1 + k) true == firstN (n1 + k + 1) ops.size)
theorem wpAny_last : ∀ (l : List Oper) (n1 : Nat), ops.toList.drop n1 = l → lastck ops n1 = true → n1 ≤ ops.size → Region.ready .any ops (firstN ops.size ops.size) = [] → ∀ (a : Act) (w : World), wpList P ops Q l a w → wpAny P .any ops Q (ops.size - n1) (firstN n1 ops.size) a w
  | [], n1, hl, _, hn, hr, a, w, h => by
    have he : n1 = ops.size := by
      have := congrArg List.length hl
      simp at this; omega
    subst he
    rw [Nat.sub_self]
    exact ⟨hr, h⟩
  | o :: l, n1, hl, hck, hn, hr, a, w, h => by
    have hlt : n1 < ops.size := by
      have := congrArg List.length hl
      simp at this; omega
    have hl' : ops.toList.drop (n1 + 1) = l := by rw [← List.drop_drop, hl]; rfl
    have ho : ops[n1]? = some o := by
      have := congrArg (fun l => l[0]?) hl
      simpa using this
    have h0 := List.all_eq_true.1 hck 0 (List.mem_range.2 (by omega))
    simp only [Nat.add_zero, Bool.and_eq_true, beq_iff_eq] at h0
    have hck' : lastck ops (n1 + 1) = true := List.all_eq_true.2 fun k hk => by
      have := List.all_eq_true.1 hck (k + 1) (List.mem_range.2 (by have := List.mem_range.1 hk; omega))
      rwa [show n1 + (k + 1) = n1 + 1 + k from by omega] at this
    rw [show ops.size - n1 = (ops.size - (n1 + 1)) + 1 from by omega]
    show (_ → _) ∧ _
    refine ⟨fun he => by rw [h0.1] at he; simp at he, fun i hi => ?_⟩
    rw [h0.1] at hi
    obtain rfl : i = n1 := by simpa using hi
    have ih := wpAny_last l (i + 1) hl' hck' (by omega) hr
    rw [h0.2]
    unfold wpOp
    rw [ho]
    simp only
    unfold wpList at h
    split
    · rename_i hw
      rw [if_pos hw] at h
      exact h.imp (fun h => Oper.wp_mono (fun a w h => ih a w h) h) id
    · rename_i hw
      rw [if_neg hw] at h
      exact ih _ _ h
theorem wp_region_st2 {id : Nat} {l : List Oper} (n1 : Nat) (dl : List (Option Nat)) (specs : List (Value → World → Prop)) (hm : P.follows .mixedOrders = true) (hck : rck l.toArray a0.tmps.size = true) (hcl : closck l.toArray n1 = true) (hla : lastck l.toArray n1 = true)
    (hdone : Region.ready .any l.toArray (firstN l.toArray.size l.toArray.size) = []) (hn : n1 ≤ l.length) (hdl : l.map (·.dst) = dl)
    (stable : ∀ S ∈ specs, ∀ v w w', S v w → Below w.heap.size w w' → S v w')
    (ob : obs P dl a0 w0 specs 0 (l.take n1))
    (fin : ∀ (G : Nat → Value) w, Below w0.heap.size w0 w → (∀ k, dl.contains (some k) = false → G k = sl a0 k) → allSp specs G w 0 (dl.take n1) → wpList P l.toArray Q (l.drop n1) { tmps := ((List.range a0.tmps.size).map G).toArray, defers := a0.defers } w) : (Code.region id l.toArray true).wp P Q a0 w0 := by
  subst hdl
  have hget : ∀ j, (l.toArray[j]?).bind (·.dst) = (l.map (·.dst)).getD j none := fun j => by
    rw [List.getD_eq_getElem?_getD, List.getElem?_map]
    simp only [List.getElem?_toArray]
    cases l[j]? <;> rfl
  have hcon : ∀ k, (l.map (·.dst)).contains (some k) = false → (dsts l.toArray).contains k = false := fun k hk => by
    cases hc : (dsts l.toArray).contains k
    · rfl
    · exfalso
      unfold dsts at hc
      simp only [List.contains_iff_mem, List.mem_filterMap] at hc
      obtain ⟨o, ho, hd⟩ := hc
      have : (l.map (·.dst)).contains (some k) = true := by
        simp only [List.contains_iff_mem, List.mem_map]
        exact ⟨o, ho, hd⟩
      rw [this] at hk
      cases hk
  refine wp_region_any hm ?_
  have hmain := fun w1 (hb1 : Below w0.heap.size w0 w1) => wpAny_two (P := P) (Q := Q) (a0 := a0) (w0 := w0) (Spec := spec specs) n1 (by simpa using hn) hck hcl ?_ ?_ ?_ n1 (Array.replicate l.toArray.size false) a0 w1 (by simp) ?_ ?_ ?_ hb1 ⟨rfl, rfl, fun _ _ => rfl⟩ ?_
  · rw [show n1 + (l.toArray.size - n1) = l.toArray.size from by simp; omega] at hmain
    exact hmain _ ⟨rfl, rfl, rfl, Nat.le_refl _, fun _ _ => rfl⟩
  · intro i v w w' h hb
    unfold spec at *
    by_cases hi : i < specs.length
    · have hm : specs.getD i (fun _ _ => True) ∈ specs := by
        rw [List.getD_eq_getElem?_getD, List.getElem?_eq_getElem hi, Option.getD_some]
        exact List.getElem_mem hi
      exact stable _ hm v w w' h hb
    · rw [List.getD_eq_getElem?_getD, List.getElem?_eq_none (by omega)]
      trivial
  · intro i o hi ho a w hb hf hd
    have hdeps : ∀ (es : List Edge), (∀ e ∈ es, Region.binds .any e = true → Sp l.toArray (spec specs) e.on a w) → depsL (l.map (·.dst)) specs a w es := by
      intro es
      induction es with
      | nil => intro _; trivial
      | cons e es ih =>
        intro h
        refine ⟨?_, ih fun e' he' => h e' (by simp [he'])⟩
        split
        · rename_i hb'
          have h1 := h e (by simp) hb'
          unfold Sp at h1
          rw [hget] at h1
          exact h1
        · trivial
    have ho' : (l.take n1)[i]? = some o := by rw [List.getElem?_take_of_lt hi]; simpa using ho
    have h1 := obs_get (l.take n1) 0 ob i o ho' a w hb (fun k hk => hf.keep k (hcon k hk)) (hdeps _ fun e he => hd e (by simpa using he))
    rw [Nat.zero_add] at h1
    have hw : wantL (l.map (·.dst)) a o = Region.wanted o (yielded l.toArray a.tmps) := by
      unfold wantL Region.wanted
      cases hg : o.guard with
      | none => rfl
      | some g =>
        obtain ⟨j, want⟩ := g
        simp only [yielded]
        rw [hget]
        cases hd' : (l.map (·.dst)).getD j none with
        | none => rfl
        | some d =>
          simp only [Option.bind_some, sl, Array.getD_eq_getD_getElem?]
          cases a.tmps[d]? with
          | none => rfl
          | some x => cases x <;> simp
    rw [hw] at h1
    unfold wpOp
    rw [ho]
    simp only
    split
    · rename_i hw
      rw [if_pos hw] at h1
      exact .inl (Oper.wp_noExit h1)
    · rename_i hw
      rw [if_neg hw] at h1
      exact ⟨Below.refl _ _, undef, rfl, h1⟩
  · intro a w hb hf hs
    refine wpAny_last _ n1 rfl hla (by simpa using hn) hdone a w ?_
    rw [act_eq hf.defers hf.size]
    have h1 := fin (sl a) w hb (fun k hk => hf.keep k (hcon k hk)) ?_
    · simpa using h1
    · have hal : ∀ (dl' : List (Option Nat)) (k : Nat), (∀ i, i < dl'.length → (l.toArray[k + i]?).bind (·.dst) = dl'.getD i none ∧ k + i < n1) → allSp specs (sl a) w k dl' := by
        intro dl'
        induction dl' with
        | nil => intro _ _; trivial
        | cons d dl' ih =>
          intro k hk
          have h0 := hk 0 (by simp)
          have hr := ih (k + 1) fun i hi => by have := hk (i + 1) (by simpa using hi); rwa [show k + 1 + i = k + (i + 1) from by omega]
          cases d with
          | none => exact hr
          | some d =>
            have h1 := hs k h0.2
            unfold Sp at h1
            rw [show (l.toArray[k]?).bind (·.dst) = some d from h0.1] at h1
            exact ⟨h1, hr⟩
      refine hal _ 0 fun i hi => ?_
      have hi' : i < n1 := by simp at hi; omega
      refine ⟨?_, by omega⟩
      rw [Nat.zero_add, hget i, List.getD_eq_getElem?_getD, List.getD_eq_getElem?_getD, List.getElem?_take_of_lt hi']
  · have : ∀ m, ((List.replicate m false).filter (!·)).length = m := fun m => by induction m with
      | zero => rfl
      | succ m ih => simp [List.replicate_succ]
    rw [Array.toList_replicate, List.take_replicate, this]
    simp; omega
  · intro i hi
    by_cases h : i < l.length
    · simp [Array.getD_eq_getD_getElem?, h]
    · simp [Array.getD_eq_getD_getElem?, h]
  · intro i o ho h
    exfalso
    by_cases h' : i < l.length
    · simp [Array.getD_eq_getD_getElem?, h'] at h
    · simp [Array.getD_eq_getD_getElem?, h'] at h
  · intro i hi
    exfalso
    by_cases h : i < l.length
    · simp [Array.getD_eq_getD_getElem?, h] at hi
    · simp [Array.getD_eq_getD_getElem?, h] at hi
end
end PM
end Go.Proofs.YtnpbfjkfbobgaaaGreat

/-
  A REGION THAT DRAWS ITS ORDER, as in XRs, where operations may turn more than new memory: what each of them keeps is a relation of one's own. Over any program.
-/
namespace Go.Proofs.YtnpbfjkfbobgaaaGreat
namespace PM
open Go.RowKit
set_option linter.unusedVariables false
section
variable {P : Program} {ops : Array Oper} {Q : Exit → Act → World → Prop} {a0 : Act} {w0 : World} {Spec : Nat → Value → World → Prop} {R : World → World → Prop}

theorem wpAny_stableR (Rtrans : ∀ {x y z : World}, R x y → R y z → R x z) (hck : rck ops a0.tmps.size = true) (stable : ∀ i v w w', Spec i v w → R w w' → Spec i v w')
    (ob : ∀ i o, ops[i]? = some o → ∀ a w, R w0 w → Fr ops a0 a → (∀ e ∈ o.after, Region.binds .any e = true → Sp ops Spec e.on a w) →
      wpOp P ops Q i (fun a' w' => R w w' ∧ ∃ v, a' = a.put o.dst v ∧ Spec i v w') a w)
    (fin : ∀ a w, R w0 w → Fr ops a0 a → (∀ i, i < ops.size → Sp ops Spec i a w) → Q .normal a w) :
    ∀ (fuel : Nat) (listed : Array Bool) (a : Act) (w : World), listed.size = ops.size → (listed.toList.filter (!·)).length = fuel → R w0 w → Fr ops a0 a →
      (∀ i, listed.getD i false = true → Sp ops Spec i a w) → wpAny P .any ops Q fuel listed a w := by
  have hready : ∀ (listed : Array Bool), listed.size = ops.size → 0 < (listed.toList.filter (!·)).length → Region.ready .any ops listed ≠ [] := by
    intro listed hs hp he
    obtain ⟨i, hi, hj⟩ := un_pos _ hp
    have hlt : i < listed.size := by
      have := (List.getElem?_eq_some_iff.1 hi).1
      simpa using this
    obtain ⟨o, ho⟩ : ∃ o, ops[i]? = some o := ⟨ops[i]'(by omega), by simp [hs ▸ hlt]⟩
    have hm : i ∈ Region.ready .any ops listed := mem_ready.2 ⟨by
      have hi' : listed[i]? = some false := by simpa using hi
      rw [Array.getD_eq_getD_getElem?, hi']; rfl, o, ho, fun e he' _ => by
      have hlt' := rck_after hck ho e he'
      have hj' : listed[e.on]? = some true := by simpa using hj e.on hlt'
      rw [Array.getD_eq_getD_getElem?, hj']; rfl⟩
    rw [he] at hm
    cases hm
  intro fuel
  induction fuel with
  | zero =>
    intro listed a w hs hu hb hf hsp
    have hall : ∀ i, i < ops.size → listed.getD i false = true := fun i hi => by
      have h := un_zero _ hu i (by simpa [hs] using hi)
      have h' : listed[i]? = some true := by simpa using h
      rw [Array.getD_eq_getD_getElem?, h']; rfl
    refine ⟨?_, fin a w hb hf fun i hi => hsp i (hall i hi)⟩
    apply List.eq_nil_iff_forall_not_mem.2
    intro j hj
    obtain ⟨h0, o, ho, _⟩ := mem_ready.1 hj
    have hlt : j < ops.size := (Array.getElem?_eq_some_iff.1 ho).1
    have h1 := hall j hlt
    have hlt' : j < listed.size := by omega
    simp only [Array.getD_eq_getD_getElem?, Array.getElem?_eq_getElem hlt', Option.getD_some] at h0 h1
    rw [h0] at h1
    cases h1
  | succ fuel ih =>
    intro listed a w hs hu hb hf hsp
    refine ⟨fun he => absurd he (hready listed hs (by omega)), fun i hi => ?_⟩
    obtain ⟨h0, o, ho, hdep⟩ := mem_ready.1 hi
    have hlt : i < ops.size := (Array.getElem?_eq_some_iff.1 ho).1
    have hlt' : i < listed.size := by omega
    refine wpOp_mono (fun a' w' ⟨hbw, v, hv, hspec⟩ => ?_) (ob i o ho a w hb hf fun e he hbd => hsp e.on (hdep e he hbd))
    subst hv
    have hi0 : listed.toList[i]? = some false := by
      simp only [Array.getD_eq_getD_getElem?, Array.getElem?_eq_getElem hlt', Option.getD_some] at h0
      simp [hlt', h0]
    refine ih _ _ _ (by simpa using hs) ?_ (Rtrans hb hbw) ?_ ?_
    · have := un_set _ i hi0
      simp only [Array.toList_setIfInBounds]
      omega
    · cases hd : o.dst with
      | none => simpa [Act.put] using hf
      | some d =>
        have hmem : (dsts ops).contains d = true := by
          unfold dsts
          simp only [List.contains_iff_mem, List.mem_filterMap]
          exact ⟨o, by simpa using Array.mem_of_getElem? ho, hd⟩
        refine ⟨by simpa [Act.put] using hf.defers, by simpa [Act.put] using hf.size, fun k hk => ?_⟩
        rw [← hf.keep k hk]
        have hne : d ≠ k := fun e => by rw [e] at hmem; rw [hmem] at hk; cases hk
        simp [Act.put, Array.getD_eq_getD_getElem?, Array.getElem?_setIfInBounds_ne hne]
    · intro j hj
      by_cases hji : j = i
      · subst hji
        unfold Sp
        rw [ho]
        cases hd : o.dst with
        | none => simp [hd]
        | some d =>
          have hdl := (rck_dst hck ho hd).1
          simp only [Option.bind_some, hd]
          have hsz : d < a.tmps.size := by rw [hf.size]; exact hdl
          simpa [Act.put, Array.getD_eq_getD_getElem?, hsz] using hspec
      · have hj' : listed.getD j false = true := by rw [getD_set_ne false (Ne.symm hji)] at hj; exact hj
        have h1 := hsp j hj'
        unfold Sp at *
        cases hd : o.dst with
        | none =>
          simp only [Act.put]
          split
          · rename_i d' hd'
            rw [hd'] at h1
            exact stable _ _ _ _ h1 hbw
          · trivial
        | some d =>
          have hne := (rck_dst hck ho hd).2 j hji
          split
          · rename_i d' hd'
            rw [hd'] at h1
            have hdd : d ≠ d' := fun e => by subst e; exact hne hd'
            have e1 : (a.put (some d) v).tmps.getD d' undef = a.tmps.getD d' undef := by
              simp [Act.put, Array.getD_eq_getD_getElem?, Array.getElem?_setIfInBounds_ne hdd]
            rw [e1]
            exact stable _ _ _ _ h1 hbw
          · trivial

theorem wp_region_stableR {id : Nat} (Rnew : ∀ w w', Below w.heap.size w w' → R w w') (Rtrans : ∀ {x y z : World}, R x y → R y z → R x z) (Spec : Nat → Value → World → Prop) (hm : P.follows .mixedOrders = true) (hck : rck ops a0.tmps.size = true) (stable : ∀ i v w w', Spec i v w → R w w' → Spec i v w')
    (ob : ∀ i o, ops[i]? = some o → ∀ a w, R w0 w → Fr ops a0 a → (∀ e ∈ o.after, Region.binds .any e = true → Sp ops Spec e.on a w) →
      wpOp P ops Q i (fun a' w' => R w w' ∧ ∃ v, a' = a.put o.dst v ∧ Spec i v w') a w)
    (fin : ∀ a w, R w0 w → Fr ops a0 a → (∀ i, i < ops.size → Sp ops Spec i a w) → Q .normal a w) : (Code.region id ops true).wp P Q a0 w0 := by
  refine wp_region_any hm (wpAny_stableR (R := R) (w0 := w0) Rtrans hck stable ob fin _ _ _ _ (by simp) ?_ (Rnew _ _ ⟨rfl, rfl, rfl, Nat.le_refl _, fun _ _ => rfl⟩) ⟨rfl, rfl, fun _ _ => rfl⟩ ?_)
  · simp
  · intro i hi
    exfalso
    by_cases h : i < ops.size
    · simp [Array.getD_eq_getD_getElem?, h] at hi
    · simp [Array.getD_eq_getD_getElem?, h] at hi

def ob1R (R : World → World → Prop) (P : Program) (dl : List (Option Nat)) (a0 : Act) (w0 : World) (specs : List (Value → World → Prop)) (i : Nat) (o : Oper) : Prop :=
  ∀ a w, R w0 w → (∀ k, dl.contains (some k) = false → sl a k = sl a0 k) → depsL dl specs a w o.after.toList →
    if wantL dl a o = true then o.wp P a w (fun a' w' => R w w' ∧ ∃ v, a' = a.put o.dst v ∧ spec specs i v w') NoExit else spec specs i undef w
def obsR (R : World → World → Prop) (P : Program) (dl : List (Option Nat)) (a0 : Act) (w0 : World) (specs : List (Value → World → Prop)) : Nat → List Oper → Prop
  | _, [] => True
  | i, o :: rest => ob1R R P dl a0 w0 specs i o ∧ obsR R P dl a0 w0 specs (i + 1) rest
theorem obsR_get {dl : List (Option Nat)} {specs : List (Value → World → Prop)} : ∀ (l : List Oper) (k : Nat), obsR R P dl a0 w0 specs k l → ∀ i o, l[i]? = some o → ob1R R P dl a0 w0 specs (k + i) o
  | [], _, _, i, o, h => by simp at h
  | o' :: l, k, h, 0, o, hi => by simp at hi; subst hi; exact h.1
  | o' :: l, k, h, i + 1, o, hi => by
    have := obsR_get l (k + 1) h.2 i o (by simpa using hi)
    rwa [show k + 1 + i = k + (i + 1) from by omega] at this
theorem wp_region_stR {id : Nat} (R : World → World → Prop) (Rnew : ∀ w w', Below w.heap.size w w' → R w w') (Rtrans : ∀ {x y z : World}, R x y → R y z → R x z) {l : List Oper} (dl : List (Option Nat)) (specs : List (Value → World → Prop)) (hm : P.follows .mixedOrders = true) (hck : rck l.toArray a0.tmps.size = true) (hdl : l.map (·.dst) = dl)
    (stable : ∀ S ∈ specs, ∀ v w w', S v w → R w w' → S v w')
    (ob : obsR R P dl a0 w0 specs 0 l)
    (fin : ∀ (G : Nat → Value) w, R w0 w → (∀ k, dl.contains (some k) = false → G k = sl a0 k) → allSp specs G w 0 dl → Q .normal { tmps := ((List.range a0.tmps.size).map G).toArray, defers := a0.defers } w) : (Code.region id l.toArray true).wp P Q a0 w0 := by
  subst hdl
  have hget : ∀ j, (l.toArray[j]?).bind (·.dst) = (l.map (·.dst)).getD j none := fun j => by
    rw [List.getD_eq_getElem?_getD, List.getElem?_map]
    simp only [List.getElem?_toArray]
    cases l[j]? <;> rfl
  have hcon : ∀ k, (l.map (·.dst)).contains (some k) = false → (dsts l.toArray).contains k = false := fun k hk => by
    cases hc : (dsts l.toArray).contains k
    · rfl
    · exfalso
      unfold dsts at hc
      simp only [List.contains_iff_mem, List.mem_filterMap] at hc
      obtain ⟨o, ho, hd⟩ := hc
      have : (l.map (·.dst)).contains (some k) = true := by
        simp only [List.contains_iff_mem, List.mem_map]
        exact ⟨o, ho, hd⟩
      rw [this] at hk
      cases hk
  refine wp_region_stableR Rnew Rtrans (spec specs) hm hck ?_ ?_ ?_
  · intro i v w w' h hb
    unfold spec at *
    by_cases hi : i < specs.length
    · have hm : specs.getD i (fun _ _ => True) ∈ specs := by
        rw [List.getD_eq_getElem?_getD, List.getElem?_eq_getElem hi, Option.getD_some]
        exact List.getElem_mem hi
      exact stable _ hm v w w' h hb
    · rw [List.getD_eq_getElem?_getD, List.getElem?_eq_none (by omega)]
      trivial
  · intro i o ho a w hb hf hd
    have hdeps : ∀ (es : List Edge), (∀ e ∈ es, Region.binds .any e = true → Sp l.toArray (spec specs) e.on a w) → depsL (l.map (·.dst)) specs a w es := by
      intro es
      induction es with
      | nil => intro _; trivial
      | cons e es ih =>
        intro h
        refine ⟨?_, ih fun e' he' => h e' (by simp [he'])⟩
        split
        · rename_i hb'
          have h1 := h e (by simp) hb'
          unfold Sp at h1
          rw [hget] at h1
          exact h1
        · trivial
    have h1 := obsR_get l 0 ob i o (by simpa using ho) a w hb (fun k hk => hf.keep k (hcon k hk)) (hdeps _ fun e he => hd e (by simpa using he))
    rw [Nat.zero_add] at h1
    have hw : wantL (l.map (·.dst)) a o = Region.wanted o (yielded l.toArray a.tmps) := by
      unfold wantL Region.wanted
      cases hg : o.guard with
      | none => rfl
      | some g =>
        obtain ⟨j, want⟩ := g
        simp only [yielded]
        rw [hget]
        cases hd' : (l.map (·.dst)).getD j none with
        | none => rfl
        | some d =>
          simp only [Option.bind_some, sl, Array.getD_eq_getD_getElem?]
          cases a.tmps[d]? with
          | none => rfl
          | some x => cases x <;> simp
    rw [hw] at h1
    unfold wpOp
    rw [ho]
    simp only
    split
    · rename_i hw
      rw [if_pos hw] at h1
      exact .inl (Oper.wp_noExit h1)
    · rename_i hw
      rw [if_neg hw] at h1
      exact ⟨Rnew _ _ (Below.refl _ _), undef, rfl, h1⟩
  · intro a w hb hf hs
    rw [act_eq hf.defers hf.size]
    exact fin (sl a) w hb (fun k hk => hf.keep k (hcon k hk)) (allSp_of _ 0 (fun i hi => ⟨by rw [Nat.zero_add]; exact hget i, by simpa using hi⟩) hs)
end
end PM
end Go.Proofs.YtnpbfjkfbobgaaaGreat

/-
  A REGION THAT DRAWS ITS ORDER, IN TWO PARTS, as in XRt, where the operations of the first part may turn more than new memory (a relation of one's own, as in XRr). Over any program.
-/
namespace Go.Proofs.YtnpbfjkfbobgaaaGreat
namespace PM
open Go.RowKit
set_option linter.unusedVariables false
section
variable {P : Program} {ops : Array Oper} {Q : Exit → Act → World → Prop} {a0 : Act} {w0 : World} {Spec : Nat → Value → World → Prop} {R : World → World → Prop}
theorem wpAny_twoR (Rtrans : ∀ {x y z : World}, R x y → R y z → R x z) (n1 : Nat) (hn : n1 ≤ ops.size) (hck : rck ops a0.tmps.size = true) (hcl : closck ops n1 = true) (stable : ∀ i v w w', Spec i v w → R w w' → Spec i v w')
    (ob : ∀ i o, i < n1 → ops[i]? = some o → ∀ a w, R w0 w → Fr ops a0 a → (∀ e ∈ o.after, Region.binds .any e = true → Sp ops Spec e.on a w) →
      wpOp P ops Q i (fun a' w' => R w w' ∧ ∃ v, a' = a.put o.dst v ∧ Spec i v w') a w)
    (fin : ∀ a w, R w0 w → Fr ops a0 a → (∀ i, i < n1 → Sp ops Spec i a w) → wpAny P .any ops Q (ops.size - n1) (firstN n1 ops.size) a w) :
    ∀ (fuel : Nat) (listed : Array Bool) (a : Act) (w : World), listed.size = ops.size → ((listed.toList.take n1).filter (!·)).length = fuel → (∀ i, n1 ≤ i → listed.getD i false = false) → Down ops listed → R w0 w → Fr ops a0 a →
      (∀ i, listed.getD i false = true → Sp ops Spec i a w) → wpAny P .any ops Q (fuel + (ops.size - n1)) listed a w := by
  have hget : ∀ (listed : Array Bool) (i : Nat), i < n1 → (listed.toList.take n1)[i]? = listed[i]? := fun listed i hi => by rw [List.getElem?_take_of_lt hi]; simp
  intro fuel
  induction fuel with
  | zero =>
    intro listed a w hs hu hno hdn hb hf hsp
    have hall : ∀ i, i < n1 → listed.getD i false = true := fun i hi => by
      have h := un_zero _ hu i (by simp [hs]; omega)
      rw [hget listed i hi] at h
      rw [Array.getD_eq_getD_getElem?, h]; rfl
    have he : listed = firstN n1 ops.size := by
      apply Array.ext
      · simp [firstN, hs]
      · intro i h1 h2
        have e1 : listed.getD i false = listed[i] := by simp [Array.getD_eq_getD_getElem?, h1]
        have e2 : (firstN n1 ops.size).getD i false = (firstN n1 ops.size)[i] := by simp [Array.getD_eq_getD_getElem?, h2]
        rw [← e1, ← e2, firstN_getD _ _ _ (by omega)]
        by_cases hi : i < n1
        · rw [hall i hi]; simp [hi]
        · rw [hno i (by omega)]; simp [hi]
    rw [Nat.zero_add, he]
    exact fin a w hb hf fun i hi => hsp i (hall i hi)
  | succ fuel ih =>
    intro listed a w hs hu hno hdn hb hf hsp
    obtain ⟨i0, hi0, hj0⟩ := un_pos (listed.toList.take n1) (by omega)
    have hi0n : i0 < n1 := by
      have := (List.getElem?_eq_some_iff.1 hi0).1
      simp at this; omega
    rw [hget listed i0 hi0n] at hi0
    have hready : Region.ready .any ops listed ≠ [] := by
      intro he
      have hlt : i0 < ops.size := by omega
      obtain ⟨o, ho⟩ : ∃ o, ops[i0]? = some o := ⟨ops[i0], by simp⟩
      have hm : i0 ∈ Region.ready .any ops listed := mem_ready.2 ⟨by rw [Array.getD_eq_getD_getElem?, hi0]; rfl, o, ho, fun e he' _ => by
        have hlt' := rck_after hck ho e he'
        have hj' := hj0 e.on hlt'
        rw [hget listed e.on (by omega)] at hj'
        rw [Array.getD_eq_getD_getElem?, hj']; rfl⟩
      rw [he] at hm
      cases hm
    rw [show fuel + 1 + (ops.size - n1) = (fuel + (ops.size - n1)) + 1 from by omega]
    refine ⟨fun he => absurd he hready, fun i hi => ?_⟩
    obtain ⟨h0, o, ho, hdep⟩ := mem_ready.1 hi
    have hlt : i < ops.size := (Array.getElem?_eq_some_iff.1 ho).1
    have hlt' : i < listed.size := by omega
    have hin : i < n1 := by
      refine Nat.lt_of_not_le fun hge => ?_
      have h1 := List.all_eq_true.1 hcl i (List.mem_range.2 hlt)
      simp only [Bool.or_eq_true, decide_eq_true_eq] at h1
      have h2 := h1.resolve_left (by omega)
      have h3 := List.all_eq_true.1 h2 i0 (List.mem_range.2 hi0n)
      have h4 := clos_listed hdn _ i i0 o ho hdep h3
      rw [Array.getD_eq_getD_getElem?, hi0] at h4
      cases h4
    refine wpOp_mono (fun a' w' ⟨hbw, v, hv, hspec⟩ => ?_) (ob i o hin ho a w hb hf fun e he hbd => hsp e.on (hdep e he hbd))
    subst hv
    have hi1 : (listed.toList.take n1)[i]? = some false := by
      rw [hget listed i hin]
      simp only [Array.getD_eq_getD_getElem?, Array.getElem?_eq_getElem hlt', Option.getD_some] at h0
      simp [hlt', h0]
    refine ih _ _ _ (by simpa using hs) ?_ ?_ ?_ (Rtrans hb hbw) ?_ ?_
    · have := un_set _ i hi1
      rw [Array.toList_setIfInBounds, List.take_set]
      omega
    · intro j hj
      rw [getD_set_ne false (by omega)]
      exact hno j hj
    · intro j o' ho' hj e he hbd
      by_cases hji : j = i
      · subst hji
        rw [ho] at ho'
        obtain rfl := Option.some.inj ho'
        exact getD_set_true (hdep e he hbd)
      · rw [getD_set_ne false (Ne.symm hji)] at hj
        exact getD_set_true (hdn j o' ho' hj e he hbd)
    · cases hd : o.dst with
      | none => simpa [Act.put] using hf
      | some d =>
        have hmem : (dsts ops).contains d = true := by
          unfold dsts
          simp only [List.contains_iff_mem, List.mem_filterMap]
          exact ⟨o, by simpa using Array.mem_of_getElem? ho, hd⟩
        refine ⟨by simpa [Act.put] using hf.defers, by simpa [Act.put] using hf.size, fun k hk => ?_⟩
        rw [← hf.keep k hk]
        have hne : d ≠ k := fun e => by rw [e] at hmem; rw [hmem] at hk; cases hk
        simp [Act.put, Array.getD_eq_getD_getElem?, Array.getElem?_setIfInBounds_ne hne]
    · intro j hj
      by_cases hji : j = i
      · subst hji
        unfold Sp
        rw [ho]
        cases hd : o.dst with
        | none => simp [hd]
        | some d =>
          have hdl := (rck_dst hck ho hd).1
          simp only [Option.bind_some, hd]
          have hsz : d < a.tmps.size := by rw [hf.size]; exact hdl
          simpa [Act.put, Array.getD_eq_getD_getElem?, hsz] using hspec
      · have hj' : listed.getD j false = true := by rw [getD_set_ne false (Ne.symm hji)] at hj; exact hj
        have h1 := hsp j hj'
        unfold Sp at *
        cases hd : o.dst with
        | none =>
          simp only [Act.put]
          split
          · rename_i d' hd'
            rw [hd'] at h1
            exact stable _ _ _ _ h1 hbw
          · trivial
        | some d =>
          have hne := (rck_dst hck ho hd).2 j hji
          split
          · rename_i d' hd'
            rw [hd'] at h1
            have hdd : d ≠ d' := fun e => by subst e; exact hne hd'
            have e1 : (a.put (some d) v).tmps.getD d' undef = a.tmps.getD d' undef := by
              simp [Act.put, Array.getD_eq_getD_getElem?, Array.getElem?_setIfInBounds_ne hdd]
            rw [e1]
            exact stable _ _ _ _ h1 hbw
          · trivial
/-- from where on each operation is the only one that is ready -/
theorem wp_region_st2R {id : Nat} (R : World → World → Prop) (Rnew : ∀ w w', Below w.heap.size w w' → R w w') (Rtrans : ∀ {x y z : World}, R x y → R y z → R x z) {l : List Oper} (n1 : Nat) (dl : List (Option Nat)) (specs : List (Value → World → Prop)) (hm : P.follows .mixedOrders = true) (hck : rck l.toArray a0.tmps.size = true) (hcl : closck l.toArray n1 = true) (hla : lastck l.toArray n1 = true)
    (hdone : Region.ready .any l.toArray (firstN l.toArray.size l.toArray.size) = []) (hn : n1 ≤ l.length) (hdl : l.map (·.dst) = dl)
    (stable : ∀ S ∈ specs, ∀ v w w', S v w → R w w' → S v w')
    (ob : obsR R P dl a0 w0 specs 0 (l.take n1))
    (fin : ∀ (G : Nat → Value) w, R w0 w → (∀ k, dl.contains (some k) = false → G k = sl a0 k) → allSp specs G w 0 (dl.take n1) → wpList P l.toArray Q (l.drop n1) { tmps := ((List.range a0.tmps.size).map G).toArray, defers := a0.defers } w) : (Code.region id l.toArray true).wp P Q a0 w0 := by
  subst hdl
  have hget : ∀ j, (l.toArray[j]?).bind (·.dst) = (l.map (·.dst)).getD j none := fun j => by
    rw [List.getD_eq_getElem?_getD, List.getElem?_map]
    simp only [List.getElem?_toArray]
    cases l[j]? <;> rfl
  have hcon : ∀ k, (l.map (·.dst)).contains (some k) = false → (dsts l.toArray).contains k = false := fun k hk => by
    cases hc : (dsts l.toArray).contains k
    · rfl
    · exfalso
      unfold dsts at hc
      simp only [List.contains_iff_mem, List.mem_filterMap] at hc
      obtain ⟨o, ho, hd⟩ := hc
      have : (l.map (·.dst)).contains (some k) = true := by
        simp only [List.contains_iff_mem, List.mem_map]
        exact ⟨o, ho, hd⟩
      rw [this] at hk
      cases hk
  refine wp_region_any hm ?_
  have hmain := fun w1 (hb1 : R w0 w1) => wpAny_twoR (R := R) Rtrans (P := P) (Q := Q) (a0 := a0) (w0 := w0) (Spec := spec specs) n1 (by simpa using hn) hck hcl ?_ ?_ ?_ n1 (Array.replicate l.toArray.size false) a0 w1 (by simp) ?_ ?_ ?_ hb1 ⟨rfl, rfl, fun _ _ => rfl⟩ ?_
  · rw [show n1 + (l.toArray.size - n1) = l.toArray.size from by simp; omega] at hmain
    exact hmain _ (Rnew _ _ ⟨rfl, rfl, rfl, Nat.le_refl _, fun _ _ => rfl⟩)
  · intro i v w w' h hb
    unfold spec at *
    by_cases hi : i < specs.length
    · have hm : specs.getD i (fun _ _ => True) ∈ specs := by
        rw [List.getD_eq_getElem?_getD, List.getElem?_eq_getElem hi, Option.getD_some]
        exact List.getElem_mem hi
      exact stable _ hm v w w' h hb
    · rw [List.getD_eq_getElem?_getD, List.getElem?_eq_none (by omega)]
      trivial
  · intro i o hi ho a w hb hf hd
    have hdeps : ∀ (es : List Edge), (∀ e ∈ es, Region.binds .any e = true → Sp l.toArray (spec specs) e.on a w) → depsL (l.map (·.dst)) specs a w es := by
      intro es
      induction es with
      | nil => intro _; trivial
      | cons e es ih =>
        intro h
        refine ⟨?_, ih fun e' he' => h e' (by simp [he'])⟩
        split
        · rename_i hb'
          have h1 := h e (by simp) hb'
          unfold Sp at h1
          rw [hget] at h1
          exact h1
        · trivial
    have ho' : (l.take n1)[i]? = some o := by rw [List.getElem?_take_of_lt hi]; simpa using ho
    have h1 := obsR_get (l.take n1) 0 ob i o ho' a w hb (fun k hk => hf.keep k (hcon k hk)) (hdeps _ fun e he => hd e (by simpa using he))
    rw [Nat.zero_add] at h1
    have hw : wantL (l.map (·.dst)) a o = Region.wanted o (yielded l.toArray a.tmps) := by
      unfold wantL Region.wanted
      cases hg : o.guard with
      | none => rfl
      | some g =>
        obtain ⟨j, want⟩ := g
        simp only [yielded]
        rw [hget]
        cases hd' : (l.map (·.dst)).getD j none with
        | none => rfl
        | some d =>
          simp only [Option.bind_some, sl, Array.getD_eq_getD_getElem?]
          cases a.tmps[d]? with
          | none => rfl
          | some x => cases x <;> simp
    rw [hw] at h1
    unfold wpOp
    rw [ho]
    simp only
    split
    · rename_i hw
      rw [if_pos hw] at h1
      exact .inl (Oper.wp_noExit h1)
    · rename_i hw
      rw [if_neg hw] at h1
      exact ⟨Rnew _ _ (Below.refl _ _), undef, rfl, h1⟩
  · intro a w hb hf hs
    refine wpAny_last _ n1 rfl hla (by simpa using hn) hdone a w ?_
    rw [act_eq hf.defers hf.size]
    have h1 := fin (sl a) w hb (fun k hk => hf.keep k (hcon k hk)) ?_
    · simpa using h1
    · have hal : ∀ (dl' : List (Option Nat)) (k : Nat), (∀ i, i < dl'.length → (l.toArray[k + i]?).bind (·.dst) = dl'.getD i none ∧ k + i < n1) → allSp specs (sl a) w k dl' := by
        intro dl'
        induction dl' with
        | nil => intro _ _; trivial
        | cons d dl' ih =>
          intro k hk
          have h0 := hk 0 (by simp)
          have hr := ih (k + 1) fun i hi => by have := hk (i + 1) (by simpa using hi); rwa [show k + 1 + i = k + (i + 1) from by omega]
          cases d with
          | none => exact hr
          | some d =>
            have h1 := hs k h0.2
            unfold Sp at h1
            rw [show (l.toArray[k]?).bind (·.dst) = some d from h0.1] at h1
            exact ⟨h1, hr⟩
      refine hal _ 0 fun i hi => ?_
      have hi' : i < n1 := by simp at hi; omega
      refine ⟨?_, by omega⟩
      rw [Nat.zero_add, hget i, List.getD_eq_getElem?_getD, List.getD_eq_getElem?_getD, List.getElem?_take_of_lt hi']
  · have : ∀ m, ((List.replicate m false).filter (!·)).length = m := fun m => by induction m with
      | zero => rfl
      | succ m ih => simp [List.replicate_succ]
    rw [Array.toList_replicate, List.take_replicate, this]
    simp; omega
  · intro i hi
    by_cases h : i < l.length
    · simp [Array.getD_eq_getD_getElem?, h]
    · simp [Array.getD_eq_getD_getElem?, h]
  · intro i o ho h
    exfalso
    by_cases h' : i < l.length
    · simp [Array.getD_eq_getD_getElem?, h'] at h
    · simp [Array.getD_eq_getD_getElem?, h'] at h
  · intro i hi
    exfalso
    by_cases h : i < l.length
    · simp [Array.getD_eq_getD_getElem?, h] at hi
    · simp [Array.getD_eq_getD_getElem?, h] at hi
end
end PM
end Go.Proofs.YtnpbfjkfbobgaaaGreat

/-
  A REGION THAT DRAWS ITS ORDER, WALKED BY HAND: each operation that is ready is walked as a list of one (so that the laws of lists, 'append' too, serve). Over any program.
-/
namespace Go.Proofs.YtnpbfjkfbobgaaaGreat
namespace PM
open Go.RowKit
set_option linter.unusedVariables false
/-- to come to the end in the plain way, and K there -/
def QN (K : Act → World → Prop) : Exit → Act → World → Prop := fun ex a w => ex = .normal ∧ K a w
section
variable {P : Program} {md : Region.Mode} {ops : Array Oper} {Q : Exit → Act → World → Prop}
theorem wp_QN {o : Oper} {a : Act} {w : World} {K K' : Act → World → Prop} (h : o.wp P a w (fun a w => QN K' .normal a w) (QN K')) (hk : ∀ a w, K' a w → K a w) : o.wp P a w K Q := by
  unfold Oper.wp at *
  generalize (execOp a.eval o).run P w = r at *
  cases r with
  | ok n w' =>
    cases n <;> simp only [Oper.upon] at h ⊢
    case value => exact hk _ _ h.2
    case skip => exact hk _ _ h.2
    case defer => exact hk _ _ h.2
    case row =>
      intro c cs
      obtain ⟨v, w2, h1, h2⟩ := h c cs
      exact ⟨v, w2, hk _ _ h1.2, h2⟩
    case enter f args =>
      refine Calls.mono h fun e w'' he => ?_
      cases e with
      | returned u => exact hk _ _ he.2
      | panicked c => exact absurd he.1 (by simp)
      | outgrown => obtain ⟨_, _, hf⟩ := he; exact absurd hf.1 (by simp)
  | halt x w' =>
    cases x <;> simp only [Oper.upon] at h ⊢
    case panic => exact absurd h.1 (by simp)
theorem ready1 {fuel : Nat} {listed : Array Bool} {a : Act} {w : World} {i : Nat} {o : Oper} {rs : List Nat} (ho : ops[i]? = some o)
    (h : wpList P ops (QN (wpAny P md ops Q fuel (listed.setIfInBounds i true))) [o] a w)
    (hs : AllReady P md ops Q fuel listed a w rs) : AllReady P md ops Q fuel listed a w (i :: rs) := by
  refine AllReady.cons ho (fun K hK => ?_) hs
  unfold wpList at h
  split at h
  · rename_i hw
    rw [if_pos hw]
    rcases h with h | ⟨_, _, _, hf⟩
    · exact wp_QN h hK
    · exact absurd hf.1 (by simp)
  · rename_i hw
    rw [if_neg hw]
    exact hK _ _ h.2
end
end PM
end Go.Proofs.YtnpbfjkfbobgaaaGreat

/-
  A REGION THAT DRAWS ITS ORDER, IN TWO PARTS, as in XRt, where the second part may write slots that the first one reads. Over any program.
-/
namespace Go.Proofs.YtnpbfjkfbobgaaaGreat
namespace PM
open Go.RowKit
set_option linter.unusedVariables false
def dstsN (n1 : Nat) (ops : Array Oper) : List Tmp := (ops.toList.take n1).filterMap (·.dst)
/-- slots that the first operations do not write are as they were -/
structure FrN (n1 : Nat) (ops : Array Oper) (a0 a : Act) : Prop where
  defers : a.defers = a0.defers
  size : a.tmps.size = a0.tmps.size
  keep : ∀ k, (dstsN n1 ops).contains k = false → a.tmps.getD k undef = a0.tmps.getD k undef
section
variable {P : Program} {ops : Array Oper} {Q : Exit → Act → World → Prop} {a0 : Act} {w0 : World} {Spec : Nat → Value → World → Prop}
theorem wpAny_twoL (n1 : Nat) (hn : n1 ≤ ops.size) (hck : rck ops a0.tmps.size = true) (hcl : closck ops n1 = true) (stable : ∀ i v w w', Spec i v w → Below w.heap.size w w' → Spec i v w')
    (ob : ∀ i o, i < n1 → ops[i]? = some o → ∀ a w, Below w0.heap.size w0 w → FrN n1 ops a0 a → (∀ e ∈ o.after, Region.binds .any e = true → Sp ops Spec e.on a w) →
      wpOp P ops Q i (fun a' w' => Below w.heap.size w w' ∧ ∃ v, a' = a.put o.dst v ∧ Spec i v w') a w)
    (fin : ∀ a w, Below w0.heap.size w0 w → FrN n1 ops a0 a → (∀ i, i < n1 → Sp ops Spec i a w) → wpAny P .any ops Q (ops.size - n1) (firstN n1 ops.size) a w) :
    ∀ (fuel : Nat) (listed : Array Bool) (a : Act) (w : World), listed.size = ops.size → ((listed.toList.take n1).filter (!·)).length = fuel → (∀ i, n1 ≤ i → listed.getD i false = false) → Down ops listed → Below w0.heap.size w0 w → FrN n1 ops a0 a →
      (∀ i, listed.getD i false = true → Sp ops Spec i a w) → wpAny P .any ops Q (fuel + (ops.size - n1)) listed a w := by
  have hget : ∀ (listed : Array Bool) (i : Nat), i < n1 → (listed.toList.take n1)[i]? = listed[i]? := fun listed i hi => by rw [List.getElem?_take_of_lt hi]; simp
  intro fuel
  induction fuel with
  | zero =>
    intro listed a w hs hu hno hdn hb hf hsp
    have hall : ∀ i, i < n1 → listed.getD i false = true := fun i hi => by
      have h := un_zero _ hu i (by simp [hs]; omega)
      rw [hget listed i hi] at h
      rw [Array.getD_eq_getD_getElem?, h]; rfl
    have he : listed = firstN n1 ops.size := by
      apply Array.ext
      · simp [firstN, hs]
      · intro i h1 h2
        have e1 : listed.getD i false = listed[i] := by simp [Array.getD_eq_getD_getElem?, h1]
        have e2 : (firstN n1 ops.size).getD i false = (firstN n1 ops.size)[i] := by simp [Array.getD_eq_getD_getElem?, h2]
        rw [← e1, ← e2, firstN_getD _ _ _ (by omega)]
        by_cases hi : i < n1
        · rw [hall i hi]; simp [hi]
        · rw [hno i (by omega)]; simp [hi]
    rw [Nat.zero_add, he]
    exact fin a w hb hf fun i hi => hsp i (hall i hi)
  | succ fuel ih =>
    intro listed a w hs hu hno hdn hb hf hsp
    obtain ⟨i0, hi0, hj0⟩ := un_pos (listed.toList.take n1) (by omega)
    have hi0n : i0 < n1 := by
      have := (List.getElem?_eq_some_iff.1 hi0).1
      simp at this; omega
    rw [hget listed i0 hi0n] at hi0
    have hready : Region.ready .any ops listed ≠ [] := by
      intro he
      have hlt : i0 < ops.size := by omega
      obtain ⟨o, ho⟩ : ∃ o, ops[i0]? = some o := ⟨ops[i0], by simp⟩
      have hm : i0 ∈ Region.ready .any ops listed := mem_ready.2 ⟨by rw [Array.getD_eq_getD_getElem?, hi0]; rfl, o, ho, fun e he' _ => by
        have hlt' := rck_after hck ho e he'
        have hj' := hj0 e.on hlt'
        rw [hget listed e.on (by omega)] at hj'
        rw [Array.getD_eq_getD_getElem?, hj']; rfl⟩
      rw [he] at hm
      cases hm
    rw [show fuel + 1 + (ops.size - n1) = (fuel + (ops.size - n1)) + 1 from by omega]
    refine ⟨fun he => absurd he hready, fun i hi => ?_⟩
    obtain ⟨h0, o, ho, hdep⟩ := mem_ready.1 hi
    have hlt : i < ops.size := (Array.getElem?_eq_some_iff.1 ho).1
    have hlt' : i < listed.size := by omega
    have hin : i < n1 := by
      refine Nat.lt_of_not_le fun hge => ?_
      have h1 := List.all_eq_true.1 hcl i (List.mem_range.2 hlt)
      simp only [Bool.or_eq_true, decide_eq_true_eq] at h1
      have h2 := h1.resolve_left (by omega)
      have h3 := List.all_eq_true.1 h2 i0 (List.mem_range.2 hi0n)
      have h4 := clos_listed hdn _ i i0 o ho hdep h3
      rw [Array.getD_eq_getD_getElem?, hi0] at h4
      cases h4
    refine wpOp_mono (fun a' w' ⟨hbw, v, hv, hspec⟩ => ?_) (ob i o hin ho a w hb hf fun e he hbd => hsp e.on (hdep e he hbd))
    subst hv
    have hi1 : (listed.toList.take n1)[i]? = some false := by
      rw [hget listed i hin]
      simp only [Array.getD_eq_getD_getElem?, Array.getElem?_eq_getElem hlt', Option.getD_some] at h0
      simp [hlt', h0]
    refine ih _ _ _ (by simpa using hs) ?_ ?_ ?_ (hb.trans (hbw.mono hb.size)) ?_ ?_
    · have := un_set _ i hi1
      rw [Array.toList_setIfInBounds, List.take_set]
      omega
    · intro j hj
      rw [getD_set_ne false (by omega)]
      exact hno j hj
    · intro j o' ho' hj e he hbd
      by_cases hji : j = i
      · subst hji
        rw [ho] at ho'
        obtain rfl := Option.some.inj ho'
        exact getD_set_true (hdep e he hbd)
      · rw [getD_set_ne false (Ne.symm hji)] at hj
        exact getD_set_true (hdn j o' ho' hj e he hbd)
    · cases hd : o.dst with
      | none => simpa [Act.put] using hf
      | some d =>
        have hmem : (dstsN n1 ops).contains d = true := by
          unfold dstsN
          simp only [List.contains_iff_mem, List.mem_filterMap]
          exact ⟨o, List.mem_of_getElem? (i := i) (by rw [List.getElem?_take_of_lt hin]; simpa using ho), hd⟩
        refine ⟨by simpa [Act.put] using hf.defers, by simpa [Act.put] using hf.size, fun k hk => ?_⟩
        rw [← hf.keep k hk]
        have hne : d ≠ k := fun e => by rw [e] at hmem; rw [hmem] at hk; cases hk
        simp [Act.put, Array.getD_eq_getD_getElem?, Array.getElem?_setIfInBounds_ne hne]
    · intro j hj
      by_cases hji : j = i
      · subst hji
        unfold Sp
        rw [ho]
        cases hd : o.dst with
        | none => simp [hd]
        | some d =>
          have hdl := (rck_dst hck ho hd).1
          simp only [Option.bind_some, hd]
          have hsz : d < a.tmps.size := by rw [hf.size]; exact hdl
          simpa [Act.put, Array.getD_eq_getD_getElem?, hsz] using hspec
      · have hj' : listed.getD j false = true := by rw [getD_set_ne false (Ne.symm hji)] at hj; exact hj
        have h1 := hsp j hj'
        unfold Sp at *
        cases hd : o.dst with
        | none =>
          simp only [Act.put]
          split
          · rename_i d' hd'
            rw [hd'] at h1
            exact stable _ _ _ _ h1 hbw
          · trivial
        | some d =>
          have hne := (rck_dst hck ho hd).2 j hji
          split
          · rename_i d' hd'
            rw [hd'] at h1
            have hdd : d ≠ d' := fun e => by subst e; exact hne hd'
            have e1 : (a.put (some d) v).tmps.getD d' undef = a.tmps.getD d' undef := by
              simp [Act.put, Array.getD_eq_getD_getElem?, Array.getElem?_setIfInBounds_ne hdd]
            rw [e1]
            exact stable _ _ _ _ h1 hbw
          · trivial
/-- what is to be shown of one operation -/
def ob1L (P : Program) (fl dl : List (Option Nat)) (a0 : Act) (w0 : World) (specs : List (Value → World → Prop)) (i : Nat) (o : Oper) : Prop :=
  ∀ a w, Below w0.heap.size w0 w → (∀ k, fl.contains (some k) = false → sl a k = sl a0 k) → depsL dl specs a w o.after.toList →
    if wantL dl a o = true then o.wp P a w (fun a' w' => Below w.heap.size w w' ∧ ∃ v, a' = a.put o.dst v ∧ spec specs i v w') NoExit else spec specs i undef w
def obsL (P : Program) (fl dl : List (Option Nat)) (a0 : Act) (w0 : World) (specs : List (Value → World → Prop)) : Nat → List Oper → Prop
  | _, [] => True
  | i, o :: rest => ob1L P fl dl a0 w0 specs i o ∧ obsL P fl dl a0 w0 specs (i + 1) rest
theorem obsL_get {fl dl : List (Option Nat)} {specs : List (Value → World → Prop)} : ∀ (l : List Oper) (k : Nat), obsL P fl dl a0 w0 specs k l → ∀ i o, l[i]? = some o → ob1L P fl dl a0 w0 specs (k + i) o
  | [], _, _, i, o, h => by simp at h
  | o' :: l, k, h, 0, o, hi => by simp at hi; subst hi; exact h.1
  | o' :: l, k, h, i + 1, o, hi => by
    have := obsL_get l (k + 1) h.2 i o (by simpa using hi)
    rwa [show k + 1 + i = k + (i + 1) from by omega] at this
theorem wp_region_stL {id : Nat} {l : List Oper} (n1 : Nat) (dl : List (Option Nat)) (specs : List (Value → World → Prop)) (hm : P.follows .mixedOrders = true) (hck : rck l.toArray a0.tmps.size = true) (hcl : closck l.toArray n1 = true) (hla : lastck l.toArray n1 = true)
    (hdone : Region.ready .any l.toArray (firstN l.toArray.size l.toArray.size) = []) (hn : n1 ≤ l.length) (hdl : l.map (·.dst) = dl)
    (stable : ∀ S ∈ specs, ∀ v w w', S v w → Below w.heap.size w w' → S v w')
    (ob : obsL P (dl.take n1) dl a0 w0 specs 0 (l.take n1))
    (fin : ∀ (G : Nat → Value) w, Below w0.heap.size w0 w → (∀ k, (dl.take n1).contains (some k) = false → G k = sl a0 k) → allSp specs G w 0 (dl.take n1) → wpList P l.toArray Q (l.drop n1) { tmps := ((List.range a0.tmps.size).map G).toArray, defers := a0.defers } w) : (Code.region id l.toArray true).wp P Q a0 w0 := by
  subst hdl
  have hget : ∀ j, (l.toArray[j]?).bind (·.dst) = (l.map (·.dst)).getD j none := fun j => by
    rw [List.getD_eq_getElem?_getD, List.getElem?_map]
    simp only [List.getElem?_toArray]
    cases l[j]? <;> rfl
  have hcon : ∀ k, ((l.map (·.dst)).take n1).contains (some k) = false → (dstsN n1 l.toArray).contains k = false := fun k hk => by
    cases hc : (dstsN n1 l.toArray).contains k
    · rfl
    · exfalso
      unfold dstsN at hc
      simp only [List.contains_iff_mem, List.mem_filterMap] at hc
      obtain ⟨o, ho, hd⟩ := hc
      have : ((l.map (·.dst)).take n1).contains (some k) = true := by
        rw [← List.map_take]
        simp only [List.contains_iff_mem, List.mem_map]
        exact ⟨o, ho, hd⟩
      rw [this] at hk
      cases hk
  refine wp_region_any hm ?_
  have hmain := fun w1 (hb1 : Below w0.heap.size w0 w1) => wpAny_twoL (P := P) (Q := Q) (a0 := a0) (w0 := w0) (Spec := spec specs) n1 (by simpa using hn) hck hcl ?_ ?_ ?_ n1 (Array.replicate l.toArray.size false) a0 w1 (by simp) ?_ ?_ ?_ hb1 ⟨rfl, rfl, fun _ _ => rfl⟩ ?_
  · rw [show n1 + (l.toArray.size - n1) = l.toArray.size from by simp; omega] at hmain
    exact hmain _ ⟨rfl, rfl, rfl, Nat.le_refl _, fun _ _ => rfl⟩
  · intro i v w w' h hb
    unfold spec at *
    by_cases hi : i < specs.length
    · have hm : specs.getD i (fun _ _ => True) ∈ specs := by
        rw [List.getD_eq_getElem?_getD, List.getElem?_eq_getElem hi, Option.getD_some]
        exact List.getElem_mem hi
      exact stable _ hm v w w' h hb
    · rw [List.getD_eq_getElem?_getD, List.getElem?_eq_none (by omega)]
      trivial
  · intro i o hi ho a w hb hf hd
    have hdeps : ∀ (es : List Edge), (∀ e ∈ es, Region.binds .any e = true → Sp l.toArray (spec specs) e.on a w) → depsL (l.map (·.dst)) specs a w es := by
      intro es
      induction es with
      | nil => intro _; trivial
      | cons e es ih =>
        intro h
        refine ⟨?_, ih fun e' he' => h e' (by simp [he'])⟩
        split
        · rename_i hb'
          have h1 := h e (by simp) hb'
          unfold Sp at h1
          rw [hget] at h1
          exact h1
        · trivial
    have ho' : (l.take n1)[i]? = some o := by rw [List.getElem?_take_of_lt hi]; simpa using ho
    have h1 := obsL_get (l.take n1) 0 ob i o ho' a w hb (fun k hk => hf.keep k (hcon k hk)) (hdeps _ fun e he => hd e (by simpa using he))
    rw [Nat.zero_add] at h1
    have hw : wantL (l.map (·.dst)) a o = Region.wanted o (yielded l.toArray a.tmps) := by
      unfold wantL Region.wanted
      cases hg : o.guard with
      | none => rfl
      | some g =>
        obtain ⟨j, want⟩ := g
        simp only [yielded]
        rw [hget]
        cases hd' : (l.map (·.dst)).getD j none with
        | none => rfl
        | some d =>
          simp only [Option.bind_some, sl, Array.getD_eq_getD_getElem?]
          cases a.tmps[d]? with
          | none => rfl
          | some x => cases x <;> simp
    rw [hw] at h1
    unfold wpOp
    rw [ho]
    simp only
    split
    · rename_i hw
      rw [if_pos hw] at h1
      exact .inl (Oper.wp_noExit h1)
    · rename_i hw
      rw [if_neg hw] at h1
      exact ⟨Below.refl _ _, undef, rfl, h1⟩
  · intro a w hb hf hs
    refine wpAny_last _ n1 rfl hla (by simpa using hn) hdone a w ?_
    rw [act_eq hf.defers hf.size]
    have h1 := fin (sl a) w hb (fun k hk => hf.keep k (hcon k hk)) ?_
    · simpa using h1
    · have hal : ∀ (dl' : List (Option Nat)) (k : Nat), (∀ i, i < dl'.length → (l.toArray[k + i]?).bind (·.dst) = dl'.getD i none ∧ k + i < n1) → allSp specs (sl a) w k dl' := by
        intro dl'
        induction dl' with
        | nil => intro _ _; trivial
        | cons d dl' ih =>
          intro k hk
          have h0 := hk 0 (by simp)
          have hr := ih (k + 1) fun i hi => by have := hk (i + 1) (by simpa using hi); rwa [show k + 1 + i = k + (i + 1) from by omega]
          cases d with
          | none => exact hr
          | some d =>
            have h1 := hs k h0.2
            unfold Sp at h1
            rw [show (l.toArray[k]?).bind (·.dst) = some d from h0.1] at h1
            exact ⟨h1, hr⟩
      refine hal _ 0 fun i hi => ?_
      have hi' : i < n1 := by simp at hi; omega
      refine ⟨?_, by omega⟩
      rw [Nat.zero_add, hget i, List.getD_eq_getElem?_getD, List.getD_eq_getElem?_getD, List.getElem?_take_of_lt hi']
  · have : ∀ m, ((List.replicate m false).filter (!·)).length = m := fun m => by induction m with
      | zero => rfl
      | succ m ih => simp [List.replicate_succ]
    rw [Array.toList_replicate, List.take_replicate, this]
    simp; omega
  · intro i hi
    by_cases h : i < l.length
    · simp [Array.getD_eq_getD_getElem?, h]
    · simp [Array.getD_eq_getD_getElem?, h]
  · intro i o ho h
    exfalso
    by_cases h' : i < l.length
    · simp [Array.getD_eq_getD_getElem?, h'] at h
    · simp [Array.getD_eq_getD_getElem?, h'] at h
  · intro i hi
    exfalso
    by_cases h : i < l.length
    · simp [Array.getD_eq_getD_getElem?, h] at hi
    · simp [Array.getD_eq_getD_getElem?, h] at hi
end
end PM
end Go.Proofs.YtnpbfjkfbobgaaaGreat
