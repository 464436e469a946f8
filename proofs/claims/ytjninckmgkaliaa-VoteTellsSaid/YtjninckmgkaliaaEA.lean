import Derived.Test.YtjninckmgkaliaaChecked
import Derived.WalkKit
import Derived.WalkLawsBesides
import Derived.Handy
import Derived.Deep.QuietTactic
import Derived.BigQuiet
import Derived.Test.YtjninckmgkaliaaG0
import Derived.Test.YtjninckmgkaliaaP0
/-
  CONTRACTS OF package event, postilionref04: Name.
-/
namespace Go.Proofs.Ytjninckmgkaliaa
open Go.RowKit
set_option linter.unusedVariables false
namespace PM
/-- a name's letter -/
def chr (c : UInt8) : Bool := decide (97 ≤ (c.toNat : Int) ∧ (c.toNat : Int) ≤ 122) || decide (48 ≤ (c.toNat : Int) ∧ (c.toNat : Int) ≤ 57)
/-- whether a name may be -/
def nameL (l : List UInt8) : Bool := decide (1 ≤ l.length ∧ l.length ≤ 16) && l.all chr
theorem take_snocB (s : ByteArray) (k : Nat) (h : k < s.size) : s.data.toList.take (k + 1) = s.data.toList.take k ++ [s[k]] := by
  rw [List.take_succ_eq_append_getElem (by simpa using h)]; rfl
theorem name_no {l : List UInt8} (h : l.length = 0 ∨ 16 < l.length) : nameL l = false := by
  unfold nameL
  rw [decide_eq_false (by omega)]; rfl
theorem all_bad (s : ByteArray) (k : Nat) (h : k < s.size) (hb : chr s[k] = false) : s.data.toList.all chr = false := by
  rw [List.all_eq_false]
  exact ⟨s[k], by rw [List.mem_iff_getElem]; exact ⟨k, by simpa using h, rfl⟩, by simp [hb]⟩
theorem all_take (s : ByteArray) (k : Nat) (h : k < s.size) (ha : (s.data.toList.take k).all chr = true) (hb : chr s[k] = true) : (s.data.toList.take (k + 1)).all chr = true := by
  rw [take_snocB s k h, List.all_append, ha]
  simp [hb]
theorem size_len' (s : ByteArray) : s.data.toList.length = s.size := Array.length_toList (xs := s.data)
end PM
end Go.Proofs.Ytjninckmgkaliaa

/-
  CONTRACTS OF package event, postilionref04: Check.
-/
namespace Go.Proofs.Ytjninckmgkaliaa
open Go.RowKit
set_option linter.unusedVariables false
namespace PM
/-- whether an attribute may be -/
def atOk (x : At) : Bool := nameL x.name.data.toList && may x.k x.n x.s.data.toList
/-- whether an attribute may be where it stands -/
def okAt (es : List At) (i : Nat) : Prop := ∀ x, es[i]? = some x → atOk x = true ∧ ∀ y, 0 < i → es[i - 1]? = some y → y.name.data.toList < x.name.data.toList
/-- whether an event may be -/
def chkP (es : List At) : Prop := 1 ≤ es.length ∧ es.length ≤ 16 ∧ ∀ i, i < es.length → okAt es i
open Classical in
noncomputable def chk (es : List At) : Int := if chkP es then 0 else 40
theorem chk_yes {es : List At} (h : chkP es) : chk es = 0 := by unfold chk; rw [if_pos h]
theorem chk_no {es : List At} (h : ¬ chkP es) : chk es = 40 := by unfold chk; rw [if_neg h]
theorem leq_eq (a b : ByteArray) : (Op.bytesLess a.toList b.toList || a.toList == b.toList) = !decide (b.data.toList < a.data.toList) := by
  rw [bytesLess_eq, ByteArray.toList_eq, ByteArray.toList_eq, Bool.eq_iff_iff]
  simp only [Bool.or_eq_true, decide_eq_true_eq, beq_iff_eq, Bool.not_eq_true', decide_eq_false_iff_not]
  rw [List.not_lt, List.le_iff_lt_or_eq]
theorem dN' {B : Nat} {a w : World} (h : Below B a w) (n : Nat) : Below B a (w.drewN n) := h.trans ⟨rfl, rfl, rfl, Nat.le_refl _, fun _ _ => rfl⟩
end PM
end Go.Proofs.Ytjninckmgkaliaa

/-
  CONTRACTS OF package event, postilionref04: Find.
-/
namespace Go.Proofs.Ytjninckmgkaliaa
open Go.RowKit
set_option linter.unusedVariables false
namespace PM
/-- where a name is found: the first place that bears it, or none -/
def Found (nm : ByteArray) (es : List At) (i : Int) : Prop :=
  (i = -1 ∧ ∀ (j : Nat) (z : At), es[j]? = Option.some z → (z.name.toList == nm.toList) = false) ∨
  ∃ (k : Nat) (z : At), i = (k : Int) ∧ es[k]? = Option.some z ∧ (z.name.toList == nm.toList) = true ∧ ∀ (j : Nat) (y : At), j < k → es[j]? = Option.some y → (y.name.toList == nm.toList) = false
end PM
end Go.Proofs.Ytjninckmgkaliaa

/-
  CONTRACTS OF package event, postilionref04: Find.
-/
namespace Go.Proofs.Ytjninckmgkaliaa
open Go.RowKit
set_option linter.unusedVariables false
namespace PM
/-- what Find gives -/
def FoundV (nm : ByteArray) (es : List At) (k n : Int) (s : ByteArray) (f : Bool) : Prop :=
  (f = false ∧ k = 0 ∧ n = 0 ∧ s = ⟨#[]⟩ ∧ Found nm es (-1)) ∨ ∃ (j : Nat) (z : At), f = true ∧ k = z.k ∧ n = z.n ∧ s = z.s ∧ es[j]? = Option.some z ∧ Found nm es (j : Int)
end PM
end Go.Proofs.Ytjninckmgkaliaa

/-
  CONTRACTS OF postilionref04: Find; of the law's package: Few.
-/
namespace Go.Proofs.Ytjninckmgkaliaa
open Go.RowKit
set_option linter.unusedVariables false
end Go.Proofs.Ytjninckmgkaliaa

/-
  CONTRACTS OF the law's package: Few; postilionref04: Same.
-/
namespace Go.Proofs.Ytjninckmgkaliaa
open Go.RowKit
set_option linter.unusedVariables false
namespace PM
def smallA (z : At) : Prop := z.name.size ≤ 100 ∧ z.s.size ≤ 100
/-- few attributes, of short texts -/
def Few (es : List At) : Prop := es.length ≤ 20 ∧ ∀ (j : Nat) (z : At), es[j]? = Option.some z → smallA z
theorem ba_ext {a b : ByteArray} (h : a.toList = b.toList) : a = b := by
  rw [ByteArray.toList_eq, ByteArray.toList_eq] at h
  cases a; cases b
  simp only [ByteArray.mk.injEq]
  exact Array.toList_inj.1 h
end PM
set_option maxHeartbeats 1000000 in
theorem few_any (v : Value) (es : List PM.At) (w : World) (hv : PM.EV w v es) :
    Calls Try.prog 57 #[v] w fun e w' => (e = .returned (.bool true) ∧ PM.Few es ∨ e = .returned (.bool false) ∧ ¬ PM.Few es) ∧ w' = w := by
  obtain ⟨ad, cap, rfl, hcap, hmax, hel⟩ := hv
  unfold maxLen at hmax
  obtain ⟨L, hL⟩ : ∃ L, L = es.length := ⟨_, rfl⟩
  have hLh := PM.hid hL
  rw [← hL] at hcap ⊢
  have helh := PM.hid hel
  clear hel hL
  by_cases hbig : 20 < L
  · have hb : (20 : Int) < (L : Int) := by omega
    go_enter Try.func57, Try.ntmps57
    go_wp2
    go_ret
    exact ⟨.inr ⟨rfl, fun h => by have := h.1; rw [← hLh.out] at this; omega⟩, rfl⟩
  have hb : ¬ (20 : Int) < (L : Int) := by omega
  go_enter Try.func57, Try.ntmps57
  go_wp2
  go_loop [3] (fun i => ∃ k : Nat, i = .int .i64 k ∧ k ≤ L ∧ (∀ (j : Nat) (z : PM.At), j < k → es[j]? = some z → PM.smallA z)) (fun i => L - (intOf i).toNat)
  case atStart => exact ⟨0, rfl, by omega, fun j y hj => absurd hj (by omega)⟩
  case round =>
    obtain ⟨k, rfl, hk, hall⟩ := hrel
    have hS := PM.hid hall
    clear hall
    by_cases hlt : k < L
    · obtain ⟨z, hz⟩ : ∃ z, es[k]? = some z := ⟨es[k]'(by rw [← hLh.out]; exact hlt), List.getElem?_eq_getElem _⟩
      obtain ⟨b, off, rfl, hce⟩ := helh.out (by rw [← hLh.out]; omega)
      obtain ⟨d0, d1, d2, d3⟩ := hce k z hz
      have hzh := PM.hid hz
      clear hz hce
      have hno : ¬ PM.smallA z → ¬ PM.Few es := fun h h' => h (h'.2 k z hzh.out)
      have hnh := PM.hid hno
      clear hno
      by_cases g1 : 100 < z.name.size
      · have g1' : (100 : Int) < (z.name.size : Int) := by omega
        go_wp2_with fail
        go_ret
        exact ⟨.inr ⟨rfl, hnh.out fun h => by have := h.1; omega⟩, rfl⟩
      · have g1' : ¬ (100 : Int) < (z.name.size : Int) := by omega
        by_cases g2 : 100 < z.s.size
        · have g2' : (100 : Int) < (z.s.size : Int) := by omega
          go_wp2_with fail
          go_ret
          exact ⟨.inr ⟨rfl, hnh.out fun h => by have := h.2; omega⟩, rfl⟩
        · have g2' : ¬ (100 : Int) < (z.s.size : Int) := by omega
          go_wp2_with fail
          refine ⟨⟨k + 1, by go_num, by omega, fun j y hj hy => ?_⟩, by simp only [intOf]; omega⟩
          by_cases hjk : j < k
          · exact hS.out j y hjk hy
          · obtain rfl : j = k := by omega
            rw [hzh.out] at hy
            cases hy
            exact ⟨by omega, by omega⟩
    · have hkL : k = L := by omega
      subst hkL
      go_wp2_with fail
      go_ret
      refine ⟨.inl ⟨rfl, by rw [← hLh.out]; omega, fun j z hj => hS.out j z ?_ hj⟩, rfl⟩
      rw [hLh.out]
      exact (List.getElem?_eq_some_iff.1 hj).1
set_option maxHeartbeats 1000000 in
theorem esame_any (v u : Value) (es fs : List PM.At) (w : World) (hv : PM.EV w v es) (hu : PM.EV w u fs) :
    Calls Try.prog 49 #[v, u] w fun e w' => (e = .returned (.bool true) ∧ es = fs ∨ e = .returned (.bool false) ∧ es ≠ fs) ∧ Below w.heap.size w w' := by
  obtain ⟨ad, cap, rfl, hcap, hmax, hel⟩ := hv
  obtain ⟨bd, cbp, rfl, hcbp, hmbx, hem⟩ := hu
  unfold maxLen at hmax hmbx
  by_cases hl : es.length = fs.length
  case neg =>
    have hne : es ≠ fs := fun h => hl (by rw [h])
    have hneh := PM.hid hne
    have g1 : ((es.length : Int) != fs.length) = true := by simp; omega
    clear hel hem hne
    go_enter Try.func49, Try.ntmps49
    go_wp2
    go_ret
    exact ⟨.inr ⟨rfl, hneh.out⟩, Below.refl _ _⟩
  obtain ⟨L, hL⟩ : ∃ L, L = es.length := ⟨_, rfl⟩
  have hLh := PM.hid hL
  have hMh := PM.hid (hL.trans hl)
  rw [← hl, ← hL] at hcbp ⊢
  rw [← hL] at hcap
  have helh := PM.hid hel
  have hemh := PM.hid hem
  clear hel hL hem hl
  go_enter Try.func49, Try.ntmps49
  go_wp2
  go_loopw [5] (fun i wr => ∃ k : Nat, i = .int .i64 k ∧ k ≤ L ∧ (∀ (j : Nat), j < k → es[j]? = fs[j]?) ∧ Below w.heap.size w wr) (fun i _ => L - (intOf i).toNat)
  case atStart => exact ⟨0, rfl, by omega, fun j hj => absurd hj (by omega), Below.refl _ _⟩
  case round =>
    obtain ⟨k, rfl, hk, hall, hB⟩ := hrel
    have hS := PM.hid (And.intro hall hB)
    by_cases hlt : k < L
    · obtain ⟨z, hz⟩ : ∃ z, es[k]? = some z := ⟨es[k]'(by rw [← hLh.out]; exact hlt), List.getElem?_eq_getElem _⟩
      obtain ⟨y, hy⟩ : ∃ y, fs[k]? = some y := ⟨fs[k]'(by rw [← hMh.out]; exact hlt), List.getElem?_eq_getElem _⟩
      obtain ⟨b, off, rfl, hce⟩ := helh.out (by rw [← hLh.out]; omega)
      obtain ⟨b', off', rfl, hcf⟩ := hemh.out (by rw [← hMh.out]; omega)
      obtain ⟨d0, d1, d2, d3⟩ := hce k z hz
      obtain ⟨e0, e1, e2, e3⟩ := hcf k y hy
      replace d0 := PM.cellA hB d0
      replace d1 := PM.cellA hB d1
      replace d2 := PM.cellA hB d2
      replace d3 := PM.cellA hB d3
      replace e0 := PM.cellA hB e0
      replace e1 := PM.cellA hB e1
      replace e2 := PM.cellA hB e2
      replace e3 := PM.cellA hB e3
      have hzh := PM.hid (And.intro hz hy)
      clear hz hy hce hcf hall hB
      have hne0 : z ≠ y → es ≠ fs := fun h e => h (by have h1 := hzh.out.1; rw [e, hzh.out.2] at h1; exact (Option.some.inj h1).symm)
      have hne := PM.hid hne0
      clear hne0
      by_cases q1 : z.name.toList = y.name.toList
      case neg =>
        have qh := PM.hid q1
        go_wp2_with fail
        go_quiet (fail)
        go_wp2_with fail
        go_ret
        exact ⟨.inr ⟨rfl, hne.out fun e => qh.out (by rw [e])⟩, PM.dN' hS.out.2 _⟩
      by_cases q2 : z.k = y.k
      case neg =>
        have qh := PM.hid q2
        go_wp2_with fail
        go_quiet (fail)
        go_wp2_with fail
        go_ret
        exact ⟨.inr ⟨rfl, hne.out fun e => qh.out (by rw [e])⟩, PM.dN' hS.out.2 _⟩
      by_cases q3 : z.n = y.n
      case neg =>
        have qh := PM.hid q3
        go_wp2_with fail
        go_quiet (fail)
        go_wp2_with fail
        go_ret
        exact ⟨.inr ⟨rfl, hne.out fun e => qh.out (by rw [e])⟩, PM.dN' hS.out.2 _⟩
      by_cases q4 : z.s.toList = y.s.toList
      case neg =>
        have qh := PM.hid q4
        go_wp2_with fail
        go_quiet (fail)
        go_wp2_with fail
        go_ret
        exact ⟨.inr ⟨rfl, hne.out fun e => qh.out (by rw [e])⟩, PM.dN' hS.out.2 _⟩
      have hzy : z = y := by
        cases z; cases y
        simp only at q1 q2 q3 q4
        rw [PM.ba_ext q1, q2, q3, PM.ba_ext q4]
      have hzyh := PM.hid hzy
      clear hzy
      go_wp2_with fail
      go_quiet (fail)
      go_wp2_with fail
      refine ⟨⟨k + 1, by go_num, by omega, fun j hj => ?_, PM.dN' hS.out.2 _⟩, by simp only [intOf]; omega⟩
      by_cases hjk : j < k
      · exact hS.out.1 j hjk
      · obtain rfl : j = k := by omega
        rw [hzh.out.1, hzh.out.2, hzyh.out]
    · have hkL : k = L := by omega
      subst hkL
      clear hall hB
      go_wp2_with fail
      go_ret
      refine ⟨.inl ⟨rfl, List.ext_getElem? fun j => ?_⟩, hS.out.2⟩
      by_cases hj : j < k
      · exact hS.out.1 j hj
      · rw [List.getElem?_eq_none (by rw [← hLh.out]; omega), List.getElem?_eq_none (by rw [← hMh.out]; omega)]
end Go.Proofs.Ytjninckmgkaliaa
