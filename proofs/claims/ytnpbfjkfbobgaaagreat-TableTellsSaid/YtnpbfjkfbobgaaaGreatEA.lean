import Derived.Test.YtnpbfjkfbobgaaaGreatChecked
import Derived.WalkKit
import Derived.WalkLawsBesides
import Derived.Handy
import Derived.Deep.QuietTactic
import Derived.BigQuiet
import Derived.Test.YtnpbfjkfbobgaaaGreatG0
import Derived.Test.YtnpbfjkfbobgaaaGreatP0
/-
  CONTRACTS OF package event, postilionref04: Name.
-/
namespace Go.Proofs.YtnpbfjkfbobgaaaGreat
open Go.RowKit
set_option linter.unusedVariables false
namespace PM
/-- a name's letter -/
def chr (c : UInt8) : Bool := decide (97 ≤ (c.toNat : Int) ∧ (c.toNat : Int) ≤ 122) || decide (48 ≤ (c.toNat : Int) ∧ (c.toNat : Int) ≤ 57)
/-- whether a name may be -/
def nameL (l : List UInt8) : Bool := decide (1 ≤ l.length ∧ l.length ≤ 16) && l.all chr
theorem take_snocB (s : ByteArray) (k : Nat) (h : k < s.size) : s.data.toList.take (k + 1) = s.data.toList.take k ++ [s[k]] := by
  rw [List.take_succ_eq_append_getElem (by simpa using h)]; rfl
theorem name_no {l : List UInt8} (h : l.length = 0 ∨ 16 < l.length) : nameL l = false := by
  unfold nameL
  rw [decide_eq_false (by omega)]; rfl
theorem all_bad (s : ByteArray) (k : Nat) (h : k < s.size) (hb : chr s[k] = false) : s.data.toList.all chr = false := by
  rw [List.all_eq_false]
  exact ⟨s[k], by rw [List.mem_iff_getElem]; exact ⟨k, by simpa using h, rfl⟩, by simp [hb]⟩
theorem all_take (s : ByteArray) (k : Nat) (h : k < s.size) (ha : (s.data.toList.take k).all chr = true) (hb : chr s[k] = true) : (s.data.toList.take (k + 1)).all chr = true := by
  rw [take_snocB s k h, List.all_append, ha]
  simp [hb]
theorem size_len' (s : ByteArray) : s.data.toList.length = s.size := Array.length_toList (xs := s.data)
end PM
set_option maxHeartbeats 1000000 in
theorem name_any (s : ByteArray) (w : World) :
    Calls Tryz.prog 72 #[.string s] w fun e w' => e = .returned (.bool (PM.nameL s.data.toList)) ∧ Below w.heap.size w w' := by
  have hlen := PM.size_len' s
  by_cases h0 : s.size = 0
  · have hno := PM.name_no (l := s.data.toList) (.inl (by omega))
    rw [hno]
    have hz : ((s.size : Int) == 0) = true := by simp [h0]
    clear hno hlen
    go_enter Tryz.func72, Tryz.ntmps72
    go_wp2
    go_ret
    exact ⟨rfl, Below.refl _ _⟩
  have hz : ((s.size : Int) == 0) = false := beq_eq_false_iff_ne.2 (by omega)
  by_cases h1 : 16 < s.size
  · have hno := PM.name_no (l := s.data.toList) (.inr (by omega))
    rw [hno]
    have hg : (16 : Int) < (s.size : Int) := by omega
    clear hno hlen
    go_enter Tryz.func72, Tryz.ntmps72
    go_wp2
    go_ret
    exact ⟨rfl, Below.refl _ _⟩
  have hg : ¬ (16 : Int) < (s.size : Int) := by omega
  have hyes : ∀ b, s.data.toList.all PM.chr = b → PM.nameL s.data.toList = b := fun b hb => by
    unfold PM.nameL
    rw [hb, decide_eq_true (by omega)]; rfl
  have hyh := PM.hid hyes
  clear hyes hlen
  go_enter Tryz.func72, Tryz.ntmps72
  go_wp2
  go_loopw [15] (fun i wr => ∃ k : Nat, k ≤ s.size ∧ i = .int .i64 k ∧ (s.data.toList.take k).all PM.chr = true ∧ Below w.heap.size w wr) (fun i _ => s.size - (intOf i).toNat)
  case atStart => exact ⟨0, Nat.zero_le _, rfl, by simp, by go_grown⟩
  case round =>
    obtain ⟨k, hk, rfl, hall, hB⟩ := hrel
    have hS := PM.hid (And.intro hall hB)
    clear hall hB
    by_cases hlt : k < s.size
    · go_wp2_with fail
      all_goals (try simp only [Bool.or_eq_true, Bool.or_eq_false_iff, decide_eq_true_eq, decide_eq_false_iff_not] at *)
      all_goals first
        | (refine ⟨⟨k + 1, by omega, by go_num, ?_, hS.out.2⟩, by simp only [intOf]; omega⟩
           exact PM.all_take s k hlt hS.out.1 (by simp only [PM.chr, Bool.or_eq_true, decide_eq_true_eq]; omega))
        | (go_ret
           exact ⟨PM.ret_b (by rw [hyh.out false (PM.all_bad s k hlt (by simp only [PM.chr, Bool.or_eq_false_iff, decide_eq_false_iff_not]; omega))]), hS.out.2⟩)
    · go_wp2
      go_ret
      refine ⟨PM.ret_b ?_, hS.out.2⟩
      rw [hyh.out true]
      have := hS.out.1
      rw [List.take_of_length_le (by rw [PM.size_len']; omega)] at this
      exact this
end Go.Proofs.YtnpbfjkfbobgaaaGreat

/-
  CONTRACTS OF package event, postilionref04: Check.
-/
namespace Go.Proofs.YtnpbfjkfbobgaaaGreat
open Go.RowKit
set_option linter.unusedVariables false
namespace PM
/-- whether an attribute may be -/
def atOk (x : At) : Bool := nameL x.name.data.toList && may x.k x.n x.s.data.toList
/-- whether an attribute may be where it stands -/
def okAt (es : List At) (i : Nat) : Prop := ∀ x, es[i]? = some x → atOk x = true ∧ ∀ y, 0 < i → es[i - 1]? = some y → y.name.data.toList < x.name.data.toList
/-- whether an event may be -/
def chkP (es : List At) : Prop := 1 ≤ es.length ∧ es.length ≤ 16 ∧ ∀ i, i < es.length → okAt es i
open Classical in
noncomputable def chk (es : List At) : Int := if chkP es then 0 else 40
theorem chk_yes {es : List At} (h : chkP es) : chk es = 0 := by unfold chk; rw [if_pos h]
theorem chk_no {es : List At} (h : ¬ chkP es) : chk es = 40 := by unfold chk; rw [if_neg h]
theorem leq_eq (a b : ByteArray) : (Op.bytesLess a.toList b.toList || a.toList == b.toList) = !decide (b.data.toList < a.data.toList) := by
  rw [bytesLess_eq, ByteArray.toList_eq, ByteArray.toList_eq, Bool.eq_iff_iff]
  simp only [Bool.or_eq_true, decide_eq_true_eq, beq_iff_eq, Bool.not_eq_true', decide_eq_false_iff_not]
  rw [List.not_lt, List.le_iff_lt_or_eq]
theorem dN' {B : Nat} {a w : World} (h : Below B a w) (n : Nat) : Below B a (w.drewN n) := h.trans ⟨rfl, rfl, rfl, Nat.le_refl _, fun _ _ => rfl⟩
end PM
theorem vcheck_any (k n : Int) (s : ByteArray) (w : World) :
    Calls Tryz.prog 73 #[.agg #[.int .i64 k, .int .i64 n, .string s]] w fun e w' =>
      e = .returned (.int .i64 (PM.mayE k n s.data.toList)) ∧ Below w.heap.size w w' := by
  go_enter Tryz.func73, Tryz.ntmps73
  go_wp2
  all_goals (go_ret; refine ⟨PM.ret_int ?_, by go_grown⟩)
  all_goals (simp only [PM.isEmpty_iff, PM.size_len, beq_iff_eq, beq_eq_false_iff_ne, Bool.not_eq_true', decide_eq_true_eq, decide_eq_false_iff_not, Bool.not_eq_false'] at *)
  all_goals (simp_all [PM.mayE, PM.may_one, PM.may_two, PM.may_three, PM.may_other])
  all_goals omega
set_option maxHeartbeats 2000000 in
theorem echeck_any (v : Value) (es : List PM.At) (w : World) (hv : PM.EV w v es) :
    Calls Tryz.prog 59 #[v] w fun e w' => e = .returned (.int .i64 (PM.chk es)) ∧ Below w.heap.size w w' := by
  obtain ⟨ad, cap, rfl, hcap, hmax, hel⟩ := hv
  unfold maxLen at hmax
  obtain ⟨L, hL⟩ : ∃ L, L = es.length := ⟨_, rfl⟩
  have hLh := PM.hid hL
  rw [← hL] at hcap ⊢
  have helh := PM.hid hel
  clear hel hL
  by_cases h0 : L = 0
  · have hno : PM.chk es = 40 := PM.chk_no fun h => by have := h.1; rw [← hLh.out] at this; omega
    rw [hno]
    have hz : ((L : Int) == 0) = true := by simp [h0]
    clear hno h0
    go_enter Tryz.func59, Tryz.ntmps59
    go_wp2_with fail
    go_step3
    go_wp2_with fail
    rw [Exit.noGoto_ret]
    go_ret
    exact ⟨rfl, Below.refl _ _⟩
  have hz : ((L : Int) == 0) = false := beq_eq_false_iff_ne.2 (by omega)
  by_cases h1 : 16 < L
  · have hno : PM.chk es = 40 := PM.chk_no fun h => by have := h.2.1; rw [← hLh.out] at this; omega
    rw [hno]
    have hg : (16 : Int) < (L : Int) := by omega
    clear hno
    go_enter Tryz.func59, Tryz.ntmps59
    go_wp2_with fail
    go_step3
    go_wp2_with fail
    rw [Exit.noGoto_ret]
    go_ret
    exact ⟨rfl, Below.refl _ _⟩
  have hg : ¬ (16 : Int) < (L : Int) := by omega
  obtain ⟨b, off, rfl, hce⟩ := helh.out (by rw [← hLh.out]; omega)
  have hceh := PM.hid hce
  clear hce helh
  go_enter Tryz.func59, Tryz.ntmps59
  go_wp2_with fail
  go_step3
  go_wp2_with fail
  go_step3
  go_wp2_with fail
  go_loopw [3, 16] (fun f i wr => ∃ k : Nat, i = .int .i64 k ∧ f = .int .i64 k ∧ k ≤ L ∧ (∀ j, j < k → PM.okAt es j) ∧ Below w.heap.size w wr) (fun _ i _ => L - (intOf i).toNat)
  case atStart => exact ⟨0, rfl, rfl, by omega, fun j hj => absurd hj (by omega), Below.refl _ _⟩
  case round =>
    obtain ⟨k, rfl, rfl, hk, hall, hB⟩ := hrel
    have hS := PM.hid (And.intro hall hB)
    by_cases hlt : k < L
    · obtain ⟨x, hx⟩ : ∃ x, es[k]? = some x := ⟨es[k]'(by rw [← hLh.out]; exact hlt), List.getElem?_eq_getElem _⟩
      obtain ⟨d0, d1, d2, d3⟩ := hceh.out k x hx
      replace d0 := PM.cellA hB d0
      replace d1 := PM.cellA hB d1
      replace d2 := PM.cellA hB d2
      replace d3 := PM.cellA hB d3
      have hxh := PM.hid hx
      clear hx hall hB
      go_wp2_with fail
      refine (name_any _ _).mono ?_
      rintro e w2 ⟨rfl, hB2⟩
      have hB3 : Below wr.heap.size wr w2 := PM.chain ((Below.refl wr.heap.size wr).alloc (Nat.le_refl _) _) hB2
      have hnewc := (PM.Blk.new wr #[Value.string x.name, Value.int IntKind.i64 x.k, Value.int IntKind.i64 x.n, Value.string x.s] 53 (0, 0)).keep hB2
      have n0 : w2.cell? ⟨wr.heap.size, 0, none⟩ = some (.string x.name) := hnewc.cell 0
      have n1 : w2.cell? ⟨wr.heap.size, 1, none⟩ = some (.int .i64 x.k) := hnewc.cell 1
      have n2 : w2.cell? ⟨wr.heap.size, 2, none⟩ = some (.int .i64 x.n) := hnewc.cell 2
      have n3 : w2.cell? ⟨wr.heap.size, 3, none⟩ = some (.string x.s) := hnewc.cell 3
      clear hnewc hB2 d0 d1 d2 d3
      have hB3h := PM.hid hB3
      clear hB3
      cases hnm : PM.nameL x.name.data.toList
      · have hnmh := PM.hid hnm
        clear hnm
        go_wp2_with fail
        rw [Exit.noGoto_ret]
        go_ret
        refine ⟨PM.ret_i (PM.chk_no fun h => ?_).symm, PM.chain hS.out.2 hB3h.out⟩
        have := (h.2.2 k (by rw [← hLh.out]; exact hlt) x hxh.out).1
        rw [PM.atOk, hnmh.out] at this
        simp at this
      · have hnmh := PM.hid hnm
        clear hnm
        go_wp2_with fail
        refine (vcheck_any _ _ _ _).mono ?_
        rintro e w4 ⟨rfl, hB4⟩
        have m0 := PM.cellA hB4 n0
        have hB5 := PM.chain hB3h.out hB4
        have hB5h := PM.hid hB5
        clear n0 n1 n2 n3 hB3h
        cases hmay : PM.may x.k x.n x.s.data.toList
        · have hmh := PM.hid hmay
          rw [show PM.mayE x.k x.n x.s.data.toList = 10 by unfold PM.mayE; rw [hmay]; rfl]
          clear hmay hB4 hB5
          go_wp2_with fail
          rw [Exit.noGoto_ret]
          go_ret
          refine ⟨PM.ret_i (PM.chk_no fun h => ?_).symm, PM.chain hS.out.2 hB5h.out⟩
          have := (h.2.2 k (by rw [← hLh.out]; exact hlt) x hxh.out).1
          rw [PM.atOk, hmh.out] at this
          simp at this
        · have hmh := PM.hid hmay
          rw [show PM.mayE x.k x.n x.s.data.toList = 0 by unfold PM.mayE; rw [hmay]; rfl]
          clear hmay hB4
          have hok : PM.atOk x = true := by rw [PM.atOk, hnmh.out, hmh.out]; rfl
          have hokh := PM.hid hok
          clear hok
          by_cases hk0 : k = 0
          · have hkd : decide (0 < k) = false := decide_eq_false (by omega)
            have hkh := PM.hid hk0
            clear hk0 hB5
            go_wp2_with fail
            go_quiet (fail)
            go_wp2_with fail
            refine ⟨⟨k + 1, by go_num, by go_num, by omega, fun j hj => ?_, PM.dN' (PM.chain hS.out.2 hB5h.out) _⟩, by simp only [intOf]; omega⟩
            by_cases hjk : j < k
            · exact hS.out.1 j hjk
            · obtain rfl : j = k := by omega
              intro x' hx'
              rw [hxh.out] at hx'
              cases hx'
              exact ⟨hokh.out, fun y h0 _ => absurd h0 (by have := hkh.out; omega)⟩
          · have hkd : decide (0 < k) = true := decide_eq_true (by omega)
            obtain ⟨y, hy⟩ : ∃ y, es[k - 1]? = some y := ⟨es[k - 1]'(by rw [← hLh.out]; omega), List.getElem?_eq_getElem _⟩
            obtain ⟨e0, -, -, -⟩ := hceh.out (k - 1) y hy
            replace e0 := PM.cellA (PM.chain hS.out.2 hB5) e0
            have hyh := PM.hid hy
            clear hy hB5
            by_cases hlt2 : y.name.data.toList < x.name.data.toList
            · have hleq : (Op.bytesLess x.name.toList y.name.toList || x.name.toList == y.name.toList) = false := by rw [PM.leq_eq, decide_eq_true hlt2]; rfl
              have hlth := PM.hid hlt2
              clear hlt2
              go_wp2_with fail
              go_quiet (fail)
              go_wp2_with fail
              refine ⟨⟨k + 1, by go_num, by go_num, by omega, fun j hj => ?_, PM.dN' (PM.chain hS.out.2 hB5h.out) _⟩, by simp only [intOf]; omega⟩
              by_cases hjk : j < k
              · exact hS.out.1 j hjk
              · obtain rfl : j = k := by omega
                intro x' hx'
                rw [hxh.out] at hx'
                cases hx'
                refine ⟨hokh.out, fun y' h0 hy' => ?_⟩
                rw [hyh.out] at hy'
                cases hy'
                exact hlth.out
            · have hleq : (Op.bytesLess x.name.toList y.name.toList || x.name.toList == y.name.toList) = true := by rw [PM.leq_eq, decide_eq_false hlt2]; rfl
              have hlth := PM.hid hlt2
              clear hlt2
              go_wp2_with fail
              go_quiet (fail)
              go_wp2_with fail
              rw [Exit.noGoto_ret]
              go_ret
              refine ⟨PM.ret_i (PM.chk_no fun h => ?_).symm, PM.dN' (PM.chain hS.out.2 hB5h.out) _⟩
              exact hlth.out ((h.2.2 k (by rw [← hLh.out]; exact hlt) x hxh.out).2 y (by omega) hyh.out)
    · have hkL : k = L := by omega
      subst hkL
      clear hall hB
      go_wp2_with fail
      rw [Exit.noGoto_ret]
      go_ret
      refine ⟨PM.ret_i (PM.chk_yes ⟨?_, ?_, ?_⟩).symm, hS.out.2⟩
      · rw [← hLh.out]; omega
      · rw [← hLh.out]; omega
      · rw [← hLh.out]; exact hS.out.1
end Go.Proofs.YtnpbfjkfbobgaaaGreat

/-
  CONTRACTS OF package event, postilionref04: Find.
-/
namespace Go.Proofs.YtnpbfjkfbobgaaaGreat
open Go.RowKit
set_option linter.unusedVariables false
namespace PM
/-- where a name is found: the first place that bears it, or none -/
def Found (nm : ByteArray) (es : List At) (i : Int) : Prop :=
  (i = -1 ∧ ∀ (j : Nat) (z : At), es[j]? = Option.some z → (z.name.toList == nm.toList) = false) ∨
  ∃ (k : Nat) (z : At), i = (k : Int) ∧ es[k]? = Option.some z ∧ (z.name.toList == nm.toList) = true ∧ ∀ (j : Nat) (y : At), j < k → es[j]? = Option.some y → (y.name.toList == nm.toList) = false
end PM
theorem find1_any (z : PM.At) (nm : ByteArray) (b : Nat) (w : World) (h : w.cell? ⟨b, 0, none⟩ = some (.string nm)) :
    Calls Tryz.prog 104 #[.agg #[.string z.name, .int .i64 z.k, .int .i64 z.n, .string z.s], .pointer (some ⟨b, 0, none⟩)] w fun e w' => e = .returned (.bool (z.name.toList == nm.toList)) ∧ Below w.heap.size w w' := by
  have hlt := World.block_lt_of_cell? w _ h
  have h' : ∀ o, (w.alloc o).cell? ⟨b, 0, none⟩ = some (.string nm) := fun o => PM.cellA ((Below.refl _ _).alloc (Nat.le_refl _) o) h
  go_enter Tryz.func104, Tryz.ntmps104
  go_wp2
  go_ret
  exact ⟨rfl, by go_grown⟩
set_option maxHeartbeats 1000000 in
theorem idx_any (v : Value) (nm : ByteArray) (bf : Nat) (es : List PM.At) (w : World) (hv : PM.EV w v es) (hf : w.cell? ⟨bf, 0, none⟩ = some (.string nm)) :
    Calls Tryz.prog 103 #[v, .func (.func 104) #[] #[.pointer (some ⟨bf, 0, none⟩)]] w fun e w' => ∃ i, e = .returned (.int .i64 i) ∧ PM.Found nm es i ∧ Below w.heap.size w w' := by
  obtain ⟨ad, cap, rfl, hcap, hmax, hel⟩ := hv
  unfold maxLen at hmax
  obtain ⟨L, hL⟩ : ∃ L, L = es.length := ⟨_, rfl⟩
  have hLh := PM.hid hL
  rw [← hL] at hcap ⊢
  have helh := PM.hid hel
  have hfh := PM.hid hf
  clear hel hL hf
  by_cases h0 : L = 0
  · have hno : PM.Found nm es (-1) := .inl ⟨rfl, fun j z hj => by have := (List.getElem?_eq_some_iff.1 hj).1; rw [← hLh.out] at this; omega⟩
    have hnh := PM.hid hno
    subst h0
    clear hno
    go_enter Tryz.func103, Tryz.ntmps103
    go_wp2
    go_loop [8] (fun i => i = .int .i64 0) (fun _ => 0)
    case atStart => rfl
    case round =>
      obtain rfl := hrel
      go_wp2
      go_ret
      exact ⟨_, rfl, hnh.out, Below.refl _ _⟩
  obtain ⟨b, off, rfl, hce⟩ := helh.out (by rw [← hLh.out]; omega)
  have hceh := PM.hid hce
  clear hce helh
  go_enter Tryz.func103, Tryz.ntmps103
  go_wp2
  go_loopw [8] (fun i wr => ∃ k : Nat, i = .int .i64 k ∧ k ≤ L ∧ (∀ j y, j < k → es[j]? = some y → (y.name.toList == nm.toList) = false) ∧ Below w.heap.size w wr) (fun i _ => L - (intOf i).toNat)
  case atStart => exact ⟨0, rfl, by omega, fun j y hj => absurd hj (by omega), Below.refl _ _⟩
  case round =>
    obtain ⟨k, rfl, hk, hall, hB⟩ := hrel
    have hS := PM.hid (And.intro hall hB)
    by_cases hlt : k < L
    · obtain ⟨z, hz⟩ : ∃ z, es[k]? = some z := ⟨es[k]'(by rw [← hLh.out]; exact hlt), List.getElem?_eq_getElem _⟩
      obtain ⟨d0, d1, d2, d3⟩ := hceh.out k z hz
      replace d0 := PM.cellA hB d0
      replace d1 := PM.cellA hB d1
      replace d2 := PM.cellA hB d2
      replace d3 := PM.cellA hB d3
      have hc := find1_any z nm bf wr (PM.cellA hB hfh.out)
      have hzh := PM.hid hz
      clear hz hall hB
      cases heq : (z.name.toList == nm.toList)
      · rw [heq] at hc
        have heqh := PM.hid heq
        clear heq
        go_wp2_with fail
        refine hc.mono ?_
        rintro e w2 ⟨rfl, hB2⟩
        go_wp2_with fail
        refine ⟨⟨k + 1, by go_num, by omega, fun j y hj hy => ?_, PM.chain hS.out.2 hB2⟩, by simp only [intOf]; omega⟩
        by_cases hjk : j < k
        · exact hS.out.1 j y hjk hy
        · obtain rfl : j = k := by omega
          rw [hzh.out] at hy
          cases hy
          exact heqh.out
      · rw [heq] at hc
        have heqh := PM.hid heq
        clear heq
        go_wp2_with fail
        refine hc.mono ?_
        rintro e w2 ⟨rfl, hB2⟩
        go_wp2_with fail
        go_ret
        exact ⟨_, rfl, .inr ⟨k, z, rfl, hzh.out, heqh.out, hS.out.1⟩, PM.chain hS.out.2 hB2⟩
    · have hkL : k = L := by omega
      subst hkL
      clear hall hB
      go_wp2_with fail
      go_ret
      refine ⟨_, rfl, .inl ⟨rfl, fun j z hj => hS.out.1 j z ?_ hj⟩, hS.out.2⟩
      rw [hLh.out]
      exact (List.getElem?_eq_some_iff.1 hj).1
end Go.Proofs.YtnpbfjkfbobgaaaGreat

/-
  CONTRACTS OF package event, postilionref04: Find.
-/
namespace Go.Proofs.YtnpbfjkfbobgaaaGreat
open Go.RowKit
set_option linter.unusedVariables false
namespace PM
/-- what Find gives -/
def FoundV (nm : ByteArray) (es : List At) (k n : Int) (s : ByteArray) (f : Bool) : Prop :=
  (f = false ∧ k = 0 ∧ n = 0 ∧ s = ⟨#[]⟩ ∧ Found nm es (-1)) ∨ ∃ (j : Nat) (z : At), f = true ∧ k = z.k ∧ n = z.n ∧ s = z.s ∧ es[j]? = Option.some z ∧ Found nm es (j : Int)
end PM
set_option maxHeartbeats 1000000 in
theorem efind_any (v : Value) (nm : ByteArray) (es : List PM.At) (w : World) (hv : PM.EV w v es) :
    Calls Tryz.prog 97 #[v, .string nm] w fun e w' => ∃ k n s f, e = .returned (.tuple #[.agg #[.int .i64 k, .int .i64 n, .string s], .bool f]) ∧ PM.FoundV nm es k n s f ∧ Below w.heap.size w w' := by
  obtain ⟨W, hW⟩ : ∃ W, W = ((w.alloc (.cells #[.string nm] 9)).alloc (.cells #[.int .i64 0, .int .i64 0, .string ⟨#[]⟩] 48)) := ⟨_, rfl⟩
  have hB0 : Below w.heap.size w W := by rw [hW]; exact ((Below.refl _ _).alloc (Nat.le_refl _) _).alloc (by rw [World.size_alloc]; omega) _
  have hb1 : PM.BK W w.heap.size #[.string nm] 9 := by
    have := PM.BK.new w #[.string nm] 9
    rw [hW]; exact PM.BK.keep ((Below.refl _ (w.alloc (.cells #[.string nm] 9))).alloc (Nat.le_refl _) _) this
  have hb2 : PM.BK W (w.heap.size + 1) #[.int .i64 0, .int .i64 0, .string ⟨#[]⟩] 48 := by
    have := PM.BK.new (w.alloc (.cells #[.string nm] 9)) #[.int .i64 0, .int .i64 0, .string ⟨#[]⟩] 48
    rw [World.size_alloc] at this
    rw [hW]; exact this
  have hc := idx_any v nm w.heap.size es W (hv.keep hB0) (hb1.cell 0)
  have hvh := PM.hid hv
  obtain ⟨ad, cap, rfl, hcap, hmax, hel⟩ := hv
  unfold maxLen at hmax
  obtain ⟨L, hL⟩ : ∃ L, L = es.length := ⟨_, rfl⟩
  have hLh := PM.hid hL
  rw [← hL] at hcap hc ⊢
  have helh := PM.hid hel
  have hWh := PM.hid (And.intro hB0 hb2)
  clear hel hL hB0 hb1 hb2
  go_enter Tryz.func97, Tryz.ntmps97
  go_wp2_with fail
  rw [← hW]
  clear hW
  refine hc.mono ?_
  rintro e w3 ⟨i, rfl, hF, hB3⟩
  have hb := hWh.out.2.keep hB3
  have hBs := PM.chain hWh.out.1 hB3
  have hBh := PM.hid hBs
  have c0 := hb.cell 0
  have c1 := hb.cell 1
  have c2 := hb.cell 2
  have f0 := hb.free 0
  have f1 := hb.free 1
  have f2 := hb.free 2
  simp only [List.getElem?_toArray, List.getElem?_cons_zero, List.getElem?_cons_succ] at c0 c1 c2
  have hbh := PM.hid hb
  clear hb hWh hc
  rcases hF with ⟨rfl, hF⟩ | ⟨k, z, rfl, hz, hzn, hall⟩
  · have hFh := PM.hid hF
    clear hF hBs
    go_wp2_with fail
    obtain ⟨W2, hW2⟩ : ∃ W2, W2 = ((w3.setCell ⟨w.heap.size + 1, 0, none⟩ (.int .i64 0)).setCell ⟨w.heap.size + 1, 1, none⟩ (.int .i64 0)).setCell ⟨w.heap.size + 1, 2, none⟩ (.string ⟨#[]⟩) := ⟨_, rfl⟩
    have hk2 := PM.BK.set3 hbh.out (.int .i64 0) (.int .i64 0) (.string ⟨#[]⟩)
    have hB2 : Below w.heap.size w W2 := by rw [hW2]; exact ((hBh.out.setCell (p := ⟨w.heap.size + 1, 0, none⟩) (by show w.heap.size ≤ w.heap.size + 1; omega) _).setCell (p := ⟨w.heap.size + 1, 1, none⟩) (by show w.heap.size ≤ w.heap.size + 1; omega) _).setCell (p := ⟨w.heap.size + 1, 2, none⟩) (by show w.heap.size ≤ w.heap.size + 1; omega) _
    rw [← hW2] at hk2 ⊢
    clear hW2
    have e0 := hk2.cell 0
    have e1 := hk2.cell 1
    have e2 := hk2.cell 2
    simp only [List.getElem?_toArray, List.getElem?_cons_zero, List.getElem?_cons_succ] at e0 e1 e2
    have hB2h := PM.hid hB2
    clear hk2 hB2
    refine bodyPost_ret (v := .tuple #[.agg #[.int .i64 0, .int .i64 0, .string ⟨#[]⟩], .bool false]) (by simp [results, Tryz.results97, go_sem, e0, e1, e2]; try rfl) rfl ?_
    exact ⟨_, _, _, _, rfl, .inl ⟨rfl, rfl, rfl, rfl, .inl ⟨rfl, hFh.out⟩⟩, hB2h.out⟩
  · obtain ⟨b, off, rfl, hce⟩ := helh.out (by have := (List.getElem?_eq_some_iff.1 hz).1; omega)
    obtain ⟨d0, d1, d2, d3⟩ := hce k z hz
    have hkL : k < L := by rw [hLh.out]; exact (List.getElem?_eq_some_iff.1 hz).1
    replace d1 := PM.cellA hBs d1
    replace d2 := PM.cellA hBs d2
    replace d3 := PM.cellA hBs d3
    have hFh := PM.hid (And.intro hz (And.intro hzn hall))
    clear hz hzn hall hBs hce d0
    go_wp2_with fail
    obtain ⟨W2, hW2⟩ : ∃ W2, W2 = ((w3.setCell ⟨w.heap.size + 1, 0, none⟩ (.int .i64 z.k)).setCell ⟨w.heap.size + 1, 1, none⟩ (.int .i64 z.n)).setCell ⟨w.heap.size + 1, 2, none⟩ (.string z.s) := ⟨_, rfl⟩
    have hk2 := PM.BK.set3 hbh.out (.int .i64 z.k) (.int .i64 z.n) (.string z.s)
    have hB2 : Below w.heap.size w W2 := by rw [hW2]; exact ((hBh.out.setCell (p := ⟨w.heap.size + 1, 0, none⟩) (by show w.heap.size ≤ w.heap.size + 1; omega) _).setCell (p := ⟨w.heap.size + 1, 1, none⟩) (by show w.heap.size ≤ w.heap.size + 1; omega) _).setCell (p := ⟨w.heap.size + 1, 2, none⟩) (by show w.heap.size ≤ w.heap.size + 1; omega) _
    rw [← hW2] at hk2 ⊢
    clear hW2
    have e0 := hk2.cell 0
    have e1 := hk2.cell 1
    have e2 := hk2.cell 2
    simp only [List.getElem?_toArray, List.getElem?_cons_zero, List.getElem?_cons_succ] at e0 e1 e2
    have hB2h := PM.hid hB2
    clear hk2 hB2
    refine bodyPost_ret (v := .tuple #[.agg #[.int .i64 z.k, .int .i64 z.n, .string z.s], .bool true]) (by simp [results, Tryz.results97, go_sem, e0, e1, e2]; try rfl) rfl ?_
    exact ⟨_, _, _, _, rfl, .inr ⟨k, z, rfl, rfl, rfl, rfl, hFh.out.1, .inr ⟨k, z, rfl, hFh.out⟩⟩, hB2h.out⟩
end Go.Proofs.YtnpbfjkfbobgaaaGreat

/-
  CONTRACTS OF postilionref04: Find; of the law's package: Few.
-/
namespace Go.Proofs.YtnpbfjkfbobgaaaGreat
open Go.RowKit
set_option linter.unusedVariables false
set_option maxHeartbeats 2000000 in
theorem refind_any (v : Value) (nm : ByteArray) (es : List PM.At) (w : World) (hv : PM.EV w v es) :
    Calls Tryz.prog 99 #[v, .string nm] w fun e w' => ∃ k n s f, e = .returned (.tuple #[.agg #[.int .i64 k, .int .i64 n, .string s], .bool f]) ∧ PM.FoundV nm es k n s f ∧ Below w.heap.size w w' := by
  obtain ⟨W, hW⟩ : ∃ W, W = w.alloc (.cells #[.int .i64 0, .int .i64 0, .string ⟨#[]⟩] 48) := ⟨_, rfl⟩
  have hB0 : Below w.heap.size w W := by rw [hW]; exact (Below.refl _ _).alloc (Nat.le_refl _) _
  have hb2 : PM.BK W w.heap.size #[.int .i64 0, .int .i64 0, .string ⟨#[]⟩] 48 := by
    rw [hW]; exact PM.BK.new w _ _
  have hvW := hv.keep hB0
  obtain ⟨ad, cap, rfl, hcap, hmax, hel⟩ := hvW
  unfold maxLen at hmax
  obtain ⟨L, hL⟩ : ∃ L, L = es.length := ⟨_, rfl⟩
  have hLh := PM.hid hL
  rw [← hL] at hcap ⊢
  have helh := PM.hid hel
  have hWh := PM.hid (And.intro hB0 hb2)
  clear hel hL hB0 hb2 hv
  go_enter Tryz.func99, Tryz.ntmps99
  go_wp2_with fail
  rw [← hW]
  clear hW
  go_loop [6] (fun i => ∃ k : Nat, i = .int .i64 k ∧ k ≤ L ∧ (∀ (j : Nat) (y : PM.At), j < k → es[j]? = some y → (y.name.toList == nm.toList) = false)) (fun i => L - (intOf i).toNat)
  case atStart => exact ⟨0, rfl, by omega, fun j y hj => absurd hj (by omega)⟩
  case round =>
    obtain ⟨k, rfl, hk, hall⟩ := hrel
    have hS := PM.hid hall
    clear hall
    have c0 := hWh.out.2.cell 0
    have c1 := hWh.out.2.cell 1
    have c2 := hWh.out.2.cell 2
    have f0 := hWh.out.2.free 0
    have f1 := hWh.out.2.free 1
    have f2 := hWh.out.2.free 2
    simp only [List.getElem?_toArray, List.getElem?_cons_zero, List.getElem?_cons_succ] at c0 c1 c2
    by_cases hlt : k < L
    · obtain ⟨z, hz⟩ : ∃ z, es[k]? = some z := ⟨es[k]'(by rw [← hLh.out]; exact hlt), List.getElem?_eq_getElem _⟩
      obtain ⟨b, off, rfl, hce⟩ := helh.out (by rw [← hLh.out]; omega)
      obtain ⟨d0, d1, d2, d3⟩ := hce k z hz
      have hzh := PM.hid hz
      clear hz hce
      cases heq : (z.name.toList == nm.toList)
      · have heqh := PM.hid heq
        go_wp2_with fail
        refine ⟨⟨k + 1, by go_num, by omega, fun j y hj hy => ?_⟩, by simp only [intOf]; omega⟩
        by_cases hjk : j < k
        · exact hS.out j y hjk hy
        · obtain rfl : j = k := by omega
          rw [hzh.out] at hy
          cases hy
          exact heqh.out
      · have heqh := PM.hid heq
        go_wp2_with fail
        obtain ⟨W2, hW2⟩ : ∃ W2, W2 = ((W.setCell ⟨w.heap.size, 0, none⟩ (.int .i64 z.k)).setCell ⟨w.heap.size, 1, none⟩ (.int .i64 z.n)).setCell ⟨w.heap.size, 2, none⟩ (.string z.s) := ⟨_, rfl⟩
        have hk2 := PM.BK.set3 hWh.out.2 (.int .i64 z.k) (.int .i64 z.n) (.string z.s)
        have hB2 : Below w.heap.size w W2 := by rw [hW2]; exact ((hWh.out.1.setCell (p := ⟨w.heap.size, 0, none⟩) (Nat.le_refl _) _).setCell (p := ⟨w.heap.size, 1, none⟩) (Nat.le_refl _) _).setCell (p := ⟨w.heap.size, 2, none⟩) (Nat.le_refl _) _
        rw [← hW2] at hk2 ⊢
        clear hW2
        have e0 := hk2.cell 0
        have e1 := hk2.cell 1
        have e2 := hk2.cell 2
        simp only [List.getElem?_toArray, List.getElem?_cons_zero, List.getElem?_cons_succ] at e0 e1 e2
        have hB2h := PM.hid hB2
        clear hk2 hB2
        refine bodyPost_ret (v := .tuple #[.agg #[.int .i64 z.k, .int .i64 z.n, .string z.s], .bool true]) (by simp [results, Tryz.results99, go_sem, e0, e1, e2]; try rfl) rfl ?_
        exact ⟨_, _, _, .inr ⟨rfl, .inr ⟨k, z, rfl, rfl, rfl, rfl, hzh.out, .inr ⟨k, z, rfl, hzh.out, heqh.out, hS.out⟩⟩, hB2h.out⟩⟩
    · have hkL : k = L := by omega
      subst hkL
      go_wp2_with fail
      obtain ⟨W2, hW2⟩ : ∃ W2, W2 = ((W.setCell ⟨w.heap.size, 0, none⟩ (.int .i64 0)).setCell ⟨w.heap.size, 1, none⟩ (.int .i64 0)).setCell ⟨w.heap.size, 2, none⟩ (.string ⟨#[]⟩) := ⟨_, rfl⟩
      have hk2 := PM.BK.set3 hWh.out.2 (.int .i64 0) (.int .i64 0) (.string ⟨#[]⟩)
      have hB2 : Below w.heap.size w W2 := by rw [hW2]; exact ((hWh.out.1.setCell (p := ⟨w.heap.size, 0, none⟩) (Nat.le_refl _) _).setCell (p := ⟨w.heap.size, 1, none⟩) (Nat.le_refl _) _).setCell (p := ⟨w.heap.size, 2, none⟩) (Nat.le_refl _) _
      rw [← hW2] at hk2 ⊢
      clear hW2
      have e0 := hk2.cell 0
      have e1 := hk2.cell 1
      have e2 := hk2.cell 2
      simp only [List.getElem?_toArray, List.getElem?_cons_zero, List.getElem?_cons_succ] at e0 e1 e2
      have hB2h := PM.hid hB2
      clear hk2 hB2
      refine bodyPost_ret (v := .tuple #[.agg #[.int .i64 0, .int .i64 0, .string ⟨#[]⟩], .bool false]) (by simp [results, Tryz.results99, go_sem, e0, e1, e2]; try rfl) rfl ?_
      refine ⟨_, _, _, .inl ⟨rfl, .inl ⟨rfl, rfl, rfl, rfl, .inl ⟨rfl, fun j z hj => hS.out j z ?_ hj⟩⟩, hB2h.out⟩⟩
      rw [hLh.out]
      exact (List.getElem?_eq_some_iff.1 hj).1
end Go.Proofs.YtnpbfjkfbobgaaaGreat

/-
  CONTRACTS OF the law's package: Few; postilionref04: Same.
-/
namespace Go.Proofs.YtnpbfjkfbobgaaaGreat
open Go.RowKit
set_option linter.unusedVariables false
namespace PM
def smallA (z : At) : Prop := z.name.size ≤ 100 ∧ z.s.size ≤ 100
/-- few attributes, of short texts -/
def Few (es : List At) : Prop := es.length ≤ 20 ∧ ∀ (j : Nat) (z : At), es[j]? = Option.some z → smallA z
theorem ba_ext {a b : ByteArray} (h : a.toList = b.toList) : a = b := by
  rw [ByteArray.toList_eq, ByteArray.toList_eq] at h
  cases a; cases b
  simp only [ByteArray.mk.injEq]
  exact Array.toList_inj.1 h
end PM
set_option maxHeartbeats 1000000 in
theorem few_any (v : Value) (es : List PM.At) (w : World) (hv : PM.EV w v es) :
    Calls Tryz.prog 20 #[v] w fun e w' => (e = .returned (.bool true) ∧ PM.Few es ∨ e = .returned (.bool false) ∧ ¬ PM.Few es) ∧ w' = w := by
  obtain ⟨ad, cap, rfl, hcap, hmax, hel⟩ := hv
  unfold maxLen at hmax
  obtain ⟨L, hL⟩ : ∃ L, L = es.length := ⟨_, rfl⟩
  have hLh := PM.hid hL
  rw [← hL] at hcap ⊢
  have helh := PM.hid hel
  clear hel hL
  by_cases hbig : 20 < L
  · have hb : (20 : Int) < (L : Int) := by omega
    go_enter Tryz.func20, Tryz.ntmps20
    go_wp2
    go_ret
    exact ⟨.inr ⟨rfl, fun h => by have := h.1; rw [← hLh.out] at this; omega⟩, rfl⟩
  have hb : ¬ (20 : Int) < (L : Int) := by omega
  go_enter Tryz.func20, Tryz.ntmps20
  go_wp2
  go_loop [3] (fun i => ∃ k : Nat, i = .int .i64 k ∧ k ≤ L ∧ (∀ (j : Nat) (z : PM.At), j < k → es[j]? = some z → PM.smallA z)) (fun i => L - (intOf i).toNat)
  case atStart => exact ⟨0, rfl, by omega, fun j y hj => absurd hj (by omega)⟩
  case round =>
    obtain ⟨k, rfl, hk, hall⟩ := hrel
    have hS := PM.hid hall
    clear hall
    by_cases hlt : k < L
    · obtain ⟨z, hz⟩ : ∃ z, es[k]? = some z := ⟨es[k]'(by rw [← hLh.out]; exact hlt), List.getElem?_eq_getElem _⟩
      obtain ⟨b, off, rfl, hce⟩ := helh.out (by rw [← hLh.out]; omega)
      obtain ⟨d0, d1, d2, d3⟩ := hce k z hz
      have hzh := PM.hid hz
      clear hz hce
      have hno : ¬ PM.smallA z → ¬ PM.Few es := fun h h' => h (h'.2 k z hzh.out)
      have hnh := PM.hid hno
      clear hno
      by_cases g1 : 100 < z.name.size
      · have g1' : (100 : Int) < (z.name.size : Int) := by omega
        go_wp2_with fail
        go_ret
        exact ⟨.inr ⟨rfl, hnh.out fun h => by have := h.1; omega⟩, rfl⟩
      · have g1' : ¬ (100 : Int) < (z.name.size : Int) := by omega
        by_cases g2 : 100 < z.s.size
        · have g2' : (100 : Int) < (z.s.size : Int) := by omega
          go_wp2_with fail
          go_ret
          exact ⟨.inr ⟨rfl, hnh.out fun h => by have := h.2; omega⟩, rfl⟩
        · have g2' : ¬ (100 : Int) < (z.s.size : Int) := by omega
          go_wp2_with fail
          refine ⟨⟨k + 1, by go_num, by omega, fun j y hj hy => ?_⟩, by simp only [intOf]; omega⟩
          by_cases hjk : j < k
          · exact hS.out j y hjk hy
          · obtain rfl : j = k := by omega
            rw [hzh.out] at hy
            cases hy
            exact ⟨by omega, by omega⟩
    · have hkL : k = L := by omega
      subst hkL
      go_wp2_with fail
      go_ret
      refine ⟨.inl ⟨rfl, by rw [← hLh.out]; omega, fun j z hj => hS.out j z ?_ hj⟩, rfl⟩
      rw [hLh.out]
      exact (List.getElem?_eq_some_iff.1 hj).1
set_option maxHeartbeats 1000000 in
theorem esame_any (v u : Value) (es fs : List PM.At) (w : World) (hv : PM.EV w v es) (hu : PM.EV w u fs) :
    Calls Tryz.prog 36 #[v, u] w fun e w' => (e = .returned (.bool true) ∧ es = fs ∨ e = .returned (.bool false) ∧ es ≠ fs) ∧ Below w.heap.size w w' := by
  obtain ⟨ad, cap, rfl, hcap, hmax, hel⟩ := hv
  obtain ⟨bd, cbp, rfl, hcbp, hmbx, hem⟩ := hu
  unfold maxLen at hmax hmbx
  by_cases hl : es.length = fs.length
  case neg =>
    have hne : es ≠ fs := fun h => hl (by rw [h])
    have hneh := PM.hid hne
    have g1 : ((es.length : Int) != fs.length) = true := by simp; omega
    clear hel hem hne
    go_enter Tryz.func36, Tryz.ntmps36
    go_wp2
    go_ret
    exact ⟨.inr ⟨rfl, hneh.out⟩, Below.refl _ _⟩
  obtain ⟨L, hL⟩ : ∃ L, L = es.length := ⟨_, rfl⟩
  have hLh := PM.hid hL
  have hMh := PM.hid (hL.trans hl)
  rw [← hl, ← hL] at hcbp ⊢
  rw [← hL] at hcap
  have helh := PM.hid hel
  have hemh := PM.hid hem
  clear hel hL hem hl
  go_enter Tryz.func36, Tryz.ntmps36
  go_wp2
  go_loopw [5] (fun i wr => ∃ k : Nat, i = .int .i64 k ∧ k ≤ L ∧ (∀ (j : Nat), j < k → es[j]? = fs[j]?) ∧ Below w.heap.size w wr) (fun i _ => L - (intOf i).toNat)
  case atStart => exact ⟨0, rfl, by omega, fun j hj => absurd hj (by omega), Below.refl _ _⟩
  case round =>
    obtain ⟨k, rfl, hk, hall, hB⟩ := hrel
    have hS := PM.hid (And.intro hall hB)
    by_cases hlt : k < L
    · obtain ⟨z, hz⟩ : ∃ z, es[k]? = some z := ⟨es[k]'(by rw [← hLh.out]; exact hlt), List.getElem?_eq_getElem _⟩
      obtain ⟨y, hy⟩ : ∃ y, fs[k]? = some y := ⟨fs[k]'(by rw [← hMh.out]; exact hlt), List.getElem?_eq_getElem _⟩
      obtain ⟨b, off, rfl, hce⟩ := helh.out (by rw [← hLh.out]; omega)
      obtain ⟨b', off', rfl, hcf⟩ := hemh.out (by rw [← hMh.out]; omega)
      obtain ⟨d0, d1, d2, d3⟩ := hce k z hz
      obtain ⟨e0, e1, e2, e3⟩ := hcf k y hy
      replace d0 := PM.cellA hB d0
      replace d1 := PM.cellA hB d1
      replace d2 := PM.cellA hB d2
      replace d3 := PM.cellA hB d3
      replace e0 := PM.cellA hB e0
      replace e1 := PM.cellA hB e1
      replace e2 := PM.cellA hB e2
      replace e3 := PM.cellA hB e3
      have hzh := PM.hid (And.intro hz hy)
      clear hz hy hce hcf hall hB
      have hne0 : z ≠ y → es ≠ fs := fun h e => h (by have h1 := hzh.out.1; rw [e, hzh.out.2] at h1; exact (Option.some.inj h1).symm)
      have hne := PM.hid hne0
      clear hne0
      by_cases q1 : z.name.toList = y.name.toList
      case neg =>
        have qh := PM.hid q1
        go_wp2_with fail
        go_quiet (fail)
        go_wp2_with fail
        go_ret
        exact ⟨.inr ⟨rfl, hne.out fun e => qh.out (by rw [e])⟩, PM.dN' hS.out.2 _⟩
      by_cases q2 : z.k = y.k
      case neg =>
        have qh := PM.hid q2
        go_wp2_with fail
        go_quiet (fail)
        go_wp2_with fail
        go_ret
        exact ⟨.inr ⟨rfl, hne.out fun e => qh.out (by rw [e])⟩, PM.dN' hS.out.2 _⟩
      by_cases q3 : z.n = y.n
      case neg =>
        have qh := PM.hid q3
        go_wp2_with fail
        go_quiet (fail)
        go_wp2_with fail
        go_ret
        exact ⟨.inr ⟨rfl, hne.out fun e => qh.out (by rw [e])⟩, PM.dN' hS.out.2 _⟩
      by_cases q4 : z.s.toList = y.s.toList
      case neg =>
        have qh := PM.hid q4
        go_wp2_with fail
        go_quiet (fail)
        go_wp2_with fail
        go_ret
        exact ⟨.inr ⟨rfl, hne.out fun e => qh.out (by rw [e])⟩, PM.dN' hS.out.2 _⟩
      have hzy : z = y := by
        cases z; cases y
        simp only at q1 q2 q3 q4
        rw [PM.ba_ext q1, q2, q3, PM.ba_ext q4]
      have hzyh := PM.hid hzy
      clear hzy
      go_wp2_with fail
      go_quiet (fail)
      go_wp2_with fail
      refine ⟨⟨k + 1, by go_num, by omega, fun j hj => ?_, PM.dN' hS.out.2 _⟩, by simp only [intOf]; omega⟩
      by_cases hjk : j < k
      · exact hS.out.1 j hjk
      · obtain rfl : j = k := by omega
        rw [hzh.out.1, hzh.out.2, hzyh.out]
    · have hkL : k = L := by omega
      subst hkL
      clear hall hB
      go_wp2_with fail
      go_ret
      refine ⟨.inl ⟨rfl, List.ext_getElem? fun j => ?_⟩, hS.out.2⟩
      by_cases hj : j < k
      · exact hS.out.1 j hj
      · rw [List.getElem?_eq_none (by rw [← hLh.out]; omega), List.getElem?_eq_none (by rw [← hMh.out]; omega)]
end Go.Proofs.YtnpbfjkfbobgaaaGreat
