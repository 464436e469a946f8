/-
  THE WALKS OF LAYER 3's STATEMENTS: turns.
-/
import Derived.Test.YtpilgbiedbhpeaaFo
namespace Go.Proofs.Ytpilgbiedbhpeaa
open Go.RowKit
set_option linter.unusedVariables false
namespace PM
theorem bval_be4 {n : Nat} (h : n < 4294967296) : bval (be n 4) = n := by
  have : be n 4 = [UInt8.ofNat (n / 16777216), UInt8.ofNat (n / 65536), UInt8.ofNat (n / 256), UInt8.ofNat n] := by
    simp [be, List.range_succ]
  rw [this]
  simp [bval]
  omega
/-- a frame with one byte of what it holds turned -/
theorem wrapL_set (b : List UInt8) (i : Nat) (c : UInt8) : (wrapL b).set (6 + i) c = be b.length 2 ++ be (crc b) 4 ++ b.set i c := by
  have hl : (be b.length 2 ++ be (crc b) 4).length = 6 := by simp [be_length]
  rw [wrapL, List.set_append_right _ _ (by rw [hl]; omega), hl]
  congr 1
  rw [Nat.add_sub_cancel_left]
theorem set_self (b : List UInt8) (i : Nat) (z : UInt8) (h : b[i]? = some z) : b.set i z = b := by
  apply List.ext_getElem?
  intro j
  rw [List.getElem?_set]
  by_cases hj : i = j
  · subst hj
    rw [if_pos rfl, if_pos (List.getElem?_eq_some_iff.1 h).1, h]
  · rw [if_neg hj]
theorem crc_turn (b : List UInt8) (i : Nat) (z c : UInt8) (h : b[i]? = some z) (hc : c ≠ z) : crc (b.set i c) ≠ crc b := by
  obtain ⟨hi, e⟩ := List.getElem?_eq_some_iff.1 h
  have e1 : b.set i c = b.take i ++ c :: b.drop (i + 1) := by
    rw [List.set_eq_take_append_cons_drop, if_pos hi]
  have e2 : b = b.take i ++ z :: b.drop (i + 1) := by
    conv => lhs; rw [← set_self b i z h, List.set_eq_take_append_cons_drop, if_pos hi]
  rw [e1]
  conv => rhs; rw [e2]
  exact crc_ne _ _ hc
theorem first_turn (b r : List UInt8) (i : Nat) (z c : UInt8) (h : b[i]? = some z) (hc : c ≠ z) (hl : b.length ≤ 4000) : firstL ((wrapL b).set (6 + i) c) = [] := by
  have hi := (List.getElem?_eq_some_iff.1 h).1
  rw [wrapL_set]
  have e1 : (be b.length 2 ++ be (crc b) 4 ++ b.set i c).take 2 = be b.length 2 := by
    rw [List.append_assoc]; exact List.take_left' (be_length _ _)
  have e2 : (be b.length 2 ++ be (crc b) 4 ++ b.set i c).drop 2 = be (crc b) 4 ++ b.set i c := by
    rw [List.append_assoc]; exact List.drop_left' (be_length _ _)
  have e3 : (be b.length 2 ++ be (crc b) 4 ++ b.set i c).drop 6 = b.set i c := by
    rw [show (6 : Nat) = 2 + 4 from rfl, ← List.drop_drop, e2]; exact List.drop_left' (be_length _ _)
  unfold firstL
  rw [e1, e2, e3, bval_be2 (by omega), List.take_left' (be_length _ _), List.take_of_length_le (by simp)]
  have hne : ¬ be (crc b) 4 = be (crc (b.set i c)) 4 := by
    intro e
    have := congrArg bval e
    rw [bval_be4 (crc_lt _), bval_be4 (crc_lt _)] at this
    exact crc_turn b i z c h hc this.symm
  rw [if_neg hne]
  split <;> (try split) <;> rfl
theorem scan_turn (a b : List UInt8) (i : Nat) (z by' : UInt8) (ha : 0 < a.length) (ha2 : a.length ≤ 4000) (h : b[i]? = some z) (hb2 : b.length ≤ 4000) :
    scanL (wrapL a ++ (wrapL b).set (6 + i) (z ^^^ by')) = if by' = 0 then [a, b] else [a] := by
  have hi := (List.getElem?_eq_some_iff.1 h).1
  rw [scan_wrap a _ ha ha2]
  by_cases hby : by' = 0
  · subst hby
    rw [if_pos rfl, UInt8.xor_zero, wrapL_set, set_self b i z h]
    have := scan_wrap b [] (by omega) hb2
    rw [List.append_nil] at this
    rw [show be b.length 2 ++ be (crc b) 4 ++ b = wrapL b from rfl, this]
    rfl
  · rw [if_neg hby, scan_nil (first_turn b [] i z _ h (fun e => hby ?_) hb2)]
    have := congrArg (z ^^^ ·) e
    simp only [← UInt8.xor_assoc, UInt8.xor_self, UInt8.zero_xor] at this
    exact this
end PM
end Go.Proofs.Ytpilgbiedbhpeaa
