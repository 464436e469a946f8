/-
  CONTRACTS OF package event, postilionref04: Check.
-/
import Derived.Test.YtklgibkdbdhaiaaEn
import Derived.Test.YtklgibkdbdhaiaaVp
namespace Go.Proofs.Ytklgibkdbdhaiaa
open Go.RowKit
set_option linter.unusedVariables false
namespace PM
/-- whether an attribute may be -/
def atOk (x : At) : Bool := nameL x.name.data.toList && may x.k x.n x.s.data.toList
/-- whether an attribute may be where it stands -/
def okAt (es : List At) (i : Nat) : Prop := ∀ x, es[i]? = some x → atOk x = true ∧ ∀ y, 0 < i → es[i - 1]? = some y → y.name.data.toList < x.name.data.toList
/-- whether an event may be -/
def chkP (es : List At) : Prop := 1 ≤ es.length ∧ es.length ≤ 16 ∧ ∀ i, i < es.length → okAt es i
open Classical in
noncomputable def chk (es : List At) : Int := if chkP es then 0 else 40
theorem chk_yes {es : List At} (h : chkP es) : chk es = 0 := by unfold chk; rw [if_pos h]
theorem chk_no {es : List At} (h : ¬ chkP es) : chk es = 40 := by unfold chk; rw [if_neg h]
theorem leq_eq (a b : ByteArray) : (Op.bytesLess a.toList b.toList || a.toList == b.toList) = !decide (b.data.toList < a.data.toList) := by
  rw [bytesLess_eq, ByteArray.toList_eq, ByteArray.toList_eq, Bool.eq_iff_iff]
  simp only [Bool.or_eq_true, decide_eq_true_eq, beq_iff_eq, Bool.not_eq_true', decide_eq_false_iff_not]
  rw [List.not_lt, List.le_iff_lt_or_eq]
theorem dN' {B : Nat} {a w : World} (h : Below B a w) (n : Nat) : Below B a (w.drewN n) := h.trans ⟨rfl, rfl, rfl, Nat.le_refl _, fun _ _ => rfl⟩
end PM
theorem vcheck_any (k n : Int) (s : ByteArray) (w : World) :
    Calls Try.prog 55 #[.agg #[.int .i64 k, .int .i64 n, .string s]] w fun e w' =>
      e = .returned (.int .i64 (PM.mayE k n s.data.toList)) ∧ Below w.heap.size w w' := by
  go_enter Try.func55, Try.ntmps55
  go_wp2
  all_goals (go_ret; refine ⟨PM.ret_int ?_, by go_grown⟩)
  all_goals (simp only [PM.isEmpty_iff, PM.size_len, beq_iff_eq, beq_eq_false_iff_ne, Bool.not_eq_true', decide_eq_true_eq, decide_eq_false_iff_not, Bool.not_eq_false'] at *)
  all_goals (simp_all [PM.mayE, PM.may_one, PM.may_two, PM.may_three, PM.may_other])
  all_goals omega
set_option maxHeartbeats 2000000 in
theorem echeck_any (v : Value) (es : List PM.At) (w : World) (hv : PM.EV w v es) :
    Calls Try.prog 50 #[v] w fun e w' => e = .returned (.int .i64 (PM.chk es)) ∧ Below w.heap.size w w' := by
  obtain ⟨ad, cap, rfl, hcap, hmax, hel⟩ := hv
  unfold maxLen at hmax
  obtain ⟨L, hL⟩ : ∃ L, L = es.length := ⟨_, rfl⟩
  have hLh := PM.hid hL
  rw [← hL] at hcap ⊢
  have helh := PM.hid hel
  clear hel hL
  by_cases h0 : L = 0
  · have hno : PM.chk es = 40 := PM.chk_no fun h => by have := h.1; rw [← hLh.out] at this; omega
    rw [hno]
    have hz : ((L : Int) == 0) = true := by simp [h0]
    clear hno h0
    go_enter Try.func50, Try.ntmps50
    go_wp2_with fail
    go_step3
    go_wp2_with fail
    rw [Exit.noGoto_ret]
    go_ret
    exact ⟨rfl, Below.refl _ _⟩
  have hz : ((L : Int) == 0) = false := beq_eq_false_iff_ne.2 (by omega)
  by_cases h1 : 16 < L
  · have hno : PM.chk es = 40 := PM.chk_no fun h => by have := h.2.1; rw [← hLh.out] at this; omega
    rw [hno]
    have hg : (16 : Int) < (L : Int) := by omega
    clear hno
    go_enter Try.func50, Try.ntmps50
    go_wp2_with fail
    go_step3
    go_wp2_with fail
    rw [Exit.noGoto_ret]
    go_ret
    exact ⟨rfl, Below.refl _ _⟩
  have hg : ¬ (16 : Int) < (L : Int) := by omega
  obtain ⟨b, off, rfl, hce⟩ := helh.out (by rw [← hLh.out]; omega)
  have hceh := PM.hid hce
  clear hce helh
  go_enter Try.func50, Try.ntmps50
  go_wp2_with fail
  go_step3
  go_wp2_with fail
  go_step3
  go_wp2_with fail
  go_loopw [3, 16] (fun f i wr => ∃ k : Nat, i = .int .i64 k ∧ f = .int .i64 k ∧ k ≤ L ∧ (∀ j, j < k → PM.okAt es j) ∧ Below w.heap.size w wr) (fun _ i _ => L - (intOf i).toNat)
  case atStart => exact ⟨0, rfl, rfl, by omega, fun j hj => absurd hj (by omega), Below.refl _ _⟩
  case round =>
    obtain ⟨k, rfl, rfl, hk, hall, hB⟩ := hrel
    have hS := PM.hid (And.intro hall hB)
    by_cases hlt : k < L
    · obtain ⟨x, hx⟩ : ∃ x, es[k]? = some x := ⟨es[k]'(by rw [← hLh.out]; exact hlt), List.getElem?_eq_getElem _⟩
      obtain ⟨d0, d1, d2, d3⟩ := hceh.out k x hx
      replace d0 := PM.cellA hB d0
      replace d1 := PM.cellA hB d1
      replace d2 := PM.cellA hB d2
      replace d3 := PM.cellA hB d3
      have hxh := PM.hid hx
      clear hx hall hB
      go_wp2_with fail
      refine (name_any _ _).mono ?_
      rintro e w2 ⟨rfl, hB2⟩
      have hB3 : Below wr.heap.size wr w2 := PM.chain ((Below.refl wr.heap.size wr).alloc (Nat.le_refl _) _) hB2
      have hnewc := (PM.Blk.new wr #[Value.string x.name, Value.int IntKind.i64 x.k, Value.int IntKind.i64 x.n, Value.string x.s] 79 (0, 0)).keep hB2
      have n0 : w2.cell? ⟨wr.heap.size, 0, none⟩ = some (.string x.name) := hnewc.cell 0
      have n1 : w2.cell? ⟨wr.heap.size, 1, none⟩ = some (.int .i64 x.k) := hnewc.cell 1
      have n2 : w2.cell? ⟨wr.heap.size, 2, none⟩ = some (.int .i64 x.n) := hnewc.cell 2
      have n3 : w2.cell? ⟨wr.heap.size, 3, none⟩ = some (.string x.s) := hnewc.cell 3
      clear hnewc hB2 d0 d1 d2 d3
      have hB3h := PM.hid hB3
      clear hB3
      cases hnm : PM.nameL x.name.data.toList
      · have hnmh := PM.hid hnm
        clear hnm
        go_wp2_with fail
        rw [Exit.noGoto_ret]
        go_ret
        refine ⟨PM.ret_i (PM.chk_no fun h => ?_).symm, PM.chain hS.out.2 hB3h.out⟩
        have := (h.2.2 k (by rw [← hLh.out]; exact hlt) x hxh.out).1
        rw [PM.atOk, hnmh.out] at this
        simp at this
      · have hnmh := PM.hid hnm
        clear hnm
        go_wp2_with fail
        refine (vcheck_any _ _ _ _).mono ?_
        rintro e w4 ⟨rfl, hB4⟩
        have m0 := PM.cellA hB4 n0
        have hB5 := PM.chain hB3h.out hB4
        have hB5h := PM.hid hB5
        clear n0 n1 n2 n3 hB3h
        cases hmay : PM.may x.k x.n x.s.data.toList
        · have hmh := PM.hid hmay
          rw [show PM.mayE x.k x.n x.s.data.toList = 10 by unfold PM.mayE; rw [hmay]; rfl]
          clear hmay hB4 hB5
          go_wp2_with fail
          rw [Exit.noGoto_ret]
          go_ret
          refine ⟨PM.ret_i (PM.chk_no fun h => ?_).symm, PM.chain hS.out.2 hB5h.out⟩
          have := (h.2.2 k (by rw [← hLh.out]; exact hlt) x hxh.out).1
          rw [PM.atOk, hmh.out] at this
          simp at this
        · have hmh := PM.hid hmay
          rw [show PM.mayE x.k x.n x.s.data.toList = 0 by unfold PM.mayE; rw [hmay]; rfl]
          clear hmay hB4
          have hok : PM.atOk x = true := by rw [PM.atOk, hnmh.out, hmh.out]; rfl
          have hokh := PM.hid hok
          clear hok
          by_cases hk0 : k = 0
          · have hkd : decide (0 < k) = false := decide_eq_false (by omega)
            have hkh := PM.hid hk0
            clear hk0 hB5
            go_wp2_with fail
            go_quiet (fail)
            go_wp2_with fail
            refine ⟨⟨k + 1, by go_num, by go_num, by omega, fun j hj => ?_, PM.dN' (PM.chain hS.out.2 hB5h.out) _⟩, by simp only [intOf]; omega⟩
            by_cases hjk : j < k
            · exact hS.out.1 j hjk
            · obtain rfl : j = k := by omega
              intro x' hx'
              rw [hxh.out] at hx'
              cases hx'
              exact ⟨hokh.out, fun y h0 _ => absurd h0 (by have := hkh.out; omega)⟩
          · have hkd : decide (0 < k) = true := decide_eq_true (by omega)
            obtain ⟨y, hy⟩ : ∃ y, es[k - 1]? = some y := ⟨es[k - 1]'(by rw [← hLh.out]; omega), List.getElem?_eq_getElem _⟩
            obtain ⟨e0, -, -, -⟩ := hceh.out (k - 1) y hy
            replace e0 := PM.cellA (PM.chain hS.out.2 hB5) e0
            have hyh := PM.hid hy
            clear hy hB5
            by_cases hlt2 : y.name.data.toList < x.name.data.toList
            · have hleq : (Op.bytesLess x.name.toList y.name.toList || x.name.toList == y.name.toList) = false := by rw [PM.leq_eq, decide_eq_true hlt2]; rfl
              have hlth := PM.hid hlt2
              clear hlt2
              go_wp2_with fail
              go_quiet (fail)
              go_wp2_with fail
              refine ⟨⟨k + 1, by go_num, by go_num, by omega, fun j hj => ?_, PM.dN' (PM.chain hS.out.2 hB5h.out) _⟩, by simp only [intOf]; omega⟩
              by_cases hjk : j < k
              · exact hS.out.1 j hjk
              · obtain rfl : j = k := by omega
                intro x' hx'
                rw [hxh.out] at hx'
                cases hx'
                refine ⟨hokh.out, fun y' h0 hy' => ?_⟩
                rw [hyh.out] at hy'
                cases hy'
                exact hlth.out
            · have hleq : (Op.bytesLess x.name.toList y.name.toList || x.name.toList == y.name.toList) = true := by rw [PM.leq_eq, decide_eq_false hlt2]; rfl
              have hlth := PM.hid hlt2
              clear hlt2
              go_wp2_with fail
              go_quiet (fail)
              go_wp2_with fail
              rw [Exit.noGoto_ret]
              go_ret
              refine ⟨PM.ret_i (PM.chk_no fun h => ?_).symm, PM.dN' (PM.chain hS.out.2 hB5h.out) _⟩
              exact hlth.out ((h.2.2 k (by rw [← hLh.out]; exact hlt) x hxh.out).2 y (by omega) hyh.out)
    · have hkL : k = L := by omega
      subst hkL
      clear hall hB
      go_wp2_with fail
      rw [Exit.noGoto_ret]
      go_ret
      refine ⟨PM.ret_i (PM.chk_yes ⟨?_, ?_, ?_⟩).symm, hS.out.2⟩
      · rw [← hLh.out]; omega
      · rw [← hLh.out]; omega
      · rw [← hLh.out]; exact hS.out.1
end Go.Proofs.Ytklgibkdbdhaiaa
