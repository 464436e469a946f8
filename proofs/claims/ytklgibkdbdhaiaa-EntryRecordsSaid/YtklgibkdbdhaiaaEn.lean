/-
  CONTRACTS OF package event, postilionref04: Name.
-/
import Derived.Test.YtklgibkdbdhaiaaChecked
import Derived.WalkKit
import Derived.WalkLawsBesides
import Derived.Handy
import Derived.Deep.QuietTactic
import Derived.BigQuiet
import Derived.Test.YtklgibkdbdhaiaaGs
import Derived.Test.YtklgibkdbdhaiaaEv
namespace Go.Proofs.Ytklgibkdbdhaiaa
open Go.RowKit
set_option linter.unusedVariables false
namespace PM
/-- a name's letter -/
def chr (c : UInt8) : Bool := decide (97 ≤ (c.toNat : Int) ∧ (c.toNat : Int) ≤ 122) || decide (48 ≤ (c.toNat : Int) ∧ (c.toNat : Int) ≤ 57)
/-- whether a name may be -/
def nameL (l : List UInt8) : Bool := decide (1 ≤ l.length ∧ l.length ≤ 16) && l.all chr
theorem take_snocB (s : ByteArray) (k : Nat) (h : k < s.size) : s.data.toList.take (k + 1) = s.data.toList.take k ++ [s[k]] := by
  rw [List.take_succ_eq_append_getElem (by simpa using h)]; rfl
theorem name_no {l : List UInt8} (h : l.length = 0 ∨ 16 < l.length) : nameL l = false := by
  unfold nameL
  rw [decide_eq_false (by omega)]; rfl
theorem all_bad (s : ByteArray) (k : Nat) (h : k < s.size) (hb : chr s[k] = false) : s.data.toList.all chr = false := by
  rw [List.all_eq_false]
  exact ⟨s[k], by rw [List.mem_iff_getElem]; exact ⟨k, by simpa using h, rfl⟩, by simp [hb]⟩
theorem all_take (s : ByteArray) (k : Nat) (h : k < s.size) (ha : (s.data.toList.take k).all chr = true) (hb : chr s[k] = true) : (s.data.toList.take (k + 1)).all chr = true := by
  rw [take_snocB s k h, List.all_append, ha]
  simp [hb]
theorem size_len' (s : ByteArray) : s.data.toList.length = s.size := Array.length_toList (xs := s.data)
end PM
set_option maxHeartbeats 1000000 in
theorem name_any (s : ByteArray) (w : World) :
    Calls Try.prog 54 #[.string s] w fun e w' => e = .returned (.bool (PM.nameL s.data.toList)) ∧ Below w.heap.size w w' := by
  have hlen := PM.size_len' s
  by_cases h0 : s.size = 0
  · have hno := PM.name_no (l := s.data.toList) (.inl (by omega))
    rw [hno]
    have hz : ((s.size : Int) == 0) = true := by simp [h0]
    clear hno hlen
    go_enter Try.func54, Try.ntmps54
    go_wp2
    go_ret
    exact ⟨rfl, Below.refl _ _⟩
  have hz : ((s.size : Int) == 0) = false := beq_eq_false_iff_ne.2 (by omega)
  by_cases h1 : 16 < s.size
  · have hno := PM.name_no (l := s.data.toList) (.inr (by omega))
    rw [hno]
    have hg : (16 : Int) < (s.size : Int) := by omega
    clear hno hlen
    go_enter Try.func54, Try.ntmps54
    go_wp2
    go_ret
    exact ⟨rfl, Below.refl _ _⟩
  have hg : ¬ (16 : Int) < (s.size : Int) := by omega
  have hyes : ∀ b, s.data.toList.all PM.chr = b → PM.nameL s.data.toList = b := fun b hb => by
    unfold PM.nameL
    rw [hb, decide_eq_true (by omega)]; rfl
  have hyh := PM.hid hyes
  clear hyes hlen
  go_enter Try.func54, Try.ntmps54
  go_wp2
  go_loopw [15] (fun i wr => ∃ k : Nat, k ≤ s.size ∧ i = .int .i64 k ∧ (s.data.toList.take k).all PM.chr = true ∧ Below w.heap.size w wr) (fun i _ => s.size - (intOf i).toNat)
  case atStart => exact ⟨0, Nat.zero_le _, rfl, by simp, by go_grown⟩
  case round =>
    obtain ⟨k, hk, rfl, hall, hB⟩ := hrel
    have hS := PM.hid (And.intro hall hB)
    clear hall hB
    by_cases hlt : k < s.size
    · go_wp2_with fail
      all_goals (try simp only [Bool.or_eq_true, Bool.or_eq_false_iff, decide_eq_true_eq, decide_eq_false_iff_not] at *)
      all_goals first
        | (refine ⟨⟨k + 1, by omega, by go_num, ?_, hS.out.2⟩, by simp only [intOf]; omega⟩
           exact PM.all_take s k hlt hS.out.1 (by simp only [PM.chr, Bool.or_eq_true, decide_eq_true_eq]; omega))
        | (go_ret
           exact ⟨PM.ret_b (by rw [hyh.out false (PM.all_bad s k hlt (by simp only [PM.chr, Bool.or_eq_false_iff, decide_eq_false_iff_not]; omega))]), hS.out.2⟩)
    · go_wp2
      go_ret
      refine ⟨PM.ret_b ?_, hS.out.2⟩
      rw [hyh.out true]
      have := hS.out.1
      rw [List.take_of_length_le (by rw [PM.size_len']; omega)] at this
      exact this
end Go.Proofs.Ytklgibkdbdhaiaa
