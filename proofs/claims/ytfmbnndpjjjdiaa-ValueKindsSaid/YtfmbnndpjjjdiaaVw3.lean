/-
  THE WALKS OF LAYER 1's STATEMENTS ON VALUES THAT ARE MADE, AND ON KINDS.
-/
import Derived.Test.YtfmbnndpjjjdiaaVa
namespace Go.Proofs.Ytfmbnndpjjjdiaa
open Go.RowKit
set_option linter.unusedVariables false
theorem valueKinds_walk (n : Int) (s : ByteArray) (b : Bool) (_ : (Lit.int .i64 n).wf = true) (_ : s.size ≤ maxLen) (w : World) :
    Calls Try.prog 7 #[.int .i64 n, .string s, .bool b] w fun e w' => e = .returned (.bool true) ∧ Below w.heap.size w w' := by
  have h1 : PM.ord 1 n [] 2 0 s.data.toList = -1 := by simp [PM.ord, PM.plI]
  have h2 : PM.ord 2 0 s.data.toList 3 1 [] = -1 := by simp [PM.ord, PM.plI]
  have h3 : PM.ord 2 0 s.data.toList 3 0 [] = -1 := by simp [PM.ord, PM.plI]
  have h4 : PM.ord 1 n [] 3 1 [] = -1 := by simp [PM.ord, PM.plI]
  have h5 : PM.ord 1 n [] 3 0 [] = -1 := by simp [PM.ord, PM.plI]
  have h6 : PM.ord 1 n [] 1 n [] = 0 := PM.ord_self _ _ _
  cases b
  all_goals
    go_enter Try.func7, Try.ntmps7
    go_wp2_with (first | (go_at_call 15; refine (awake1 _).mono ?_; rintro e w1 ⟨rfl, hb⟩; have hB := PM.chain (w := w) (by go_grown) hb; clear hb) | (go_at_call 22; refine (int_any _ _ ).mono ?_; rintro e w1 ⟨rfl, hb⟩; have hB := PM.chain (w := w) (by go_grown) hb; clear hb) | (go_at_call 23; refine (text_any _ _ ).mono ?_; rintro e w1 ⟨rfl, hb⟩; have hB := PM.chain (w := w) (by go_grown) hb; clear hb) | (go_at_call 24; refine (bool_any _ _ ).mono ?_; rintro e w1 ⟨rfl, hb⟩; have hB := PM.chain (w := w) (by go_grown) hb; clear hb) | (go_at_call 18; refine (order_any _ _ _ _ _ _ _ ).mono ?_; rintro e w1 ⟨rfl, hb⟩; have hB := PM.chain (w := w) (by go_grown) hb; clear hb) | (go_at_call 16; refine (check_any _ _ _ _ ).mono ?_; rintro e w1 ⟨rfl, hb⟩; have hB := PM.chain (w := w) (by go_grown) hb; clear hb) | (go_at_call 20; refine (begins_any _ _ _ _ _ _ _ ).mono ?_; rintro e w1 ⟨rfl, hb⟩; have hB := PM.chain (w := w) (by go_grown) hb; clear hb))
    all_goals (go_ret; exact ⟨rfl, by assumption⟩)
theorem valueMakes_walk (n m : Int) (s t : ByteArray) (_ : (Lit.int .i64 n).wf = true) (_ : (Lit.int .i64 m).wf = true) (_ : s.size ≤ maxLen) (_ : t.size ≤ maxLen) (w : World) :
    Calls Try.prog 6 #[.int .i64 n, .int .i64 m, .string s, .string t] w fun e w' => e = .returned (.bool true) ∧ Below w.heap.size w w' := by
  have h1 : PM.mayE 1 n [] = 0 := by simp [PM.mayE, PM.may]
  have h2 : (PM.mayE 2 0 s.data.toList == 0) = decide ((s.size : Int) ≤ 40) := PM.mayE_text s
  have h3 : PM.mayE 3 (if m < n then 1 else 0) [] = 0 := PM.mayE_bool _
  have h4 : decide (PM.ord 1 n [] 1 m [] < 0) = decide (n < m) := PM.ord_ints n m
  have h5 : decide (PM.ord 2 0 s.data.toList 2 0 t.data.toList < 0) = Op.bytesLess s.toList t.toList := PM.ord_texts s t
  have h6 : PM.ord 3 0 [] 3 1 [] = -1 := by decide
  have h7 : PM.beg 2 (s.data.toList ++ t.data.toList) 2 s.data.toList = true := by have := PM.beg_append s t; simpa using this
  have h8 : PM.beg 2 s.data.toList 2 [] = true := PM.beg_none _
  go_enter Try.func6, Try.ntmps6
  go_wp2_with (first | (go_at_call 15; refine (awake1 _).mono ?_; rintro e w1 ⟨rfl, hb⟩; have hB := PM.chain (w := w) (by go_grown) hb; clear hb) | (go_at_call 22; refine (int_any _ _ ).mono ?_; rintro e w1 ⟨rfl, hb⟩; have hB := PM.chain (w := w) (by go_grown) hb; clear hb) | (go_at_call 23; refine (text_any _ _ ).mono ?_; rintro e w1 ⟨rfl, hb⟩; have hB := PM.chain (w := w) (by go_grown) hb; clear hb) | (go_at_call 24; refine (bool_any _ _ ).mono ?_; rintro e w1 ⟨rfl, hb⟩; have hB := PM.chain (w := w) (by go_grown) hb; clear hb) | (go_at_call 18; refine (order_any _ _ _ _ _ _ _ ).mono ?_; rintro e w1 ⟨rfl, hb⟩; have hB := PM.chain (w := w) (by go_grown) hb; clear hb) | (go_at_call 16; refine (check_any _ _ _ _ ).mono ?_; rintro e w1 ⟨rfl, hb⟩; have hB := PM.chain (w := w) (by go_grown) hb; clear hb) | (go_at_call 20; refine (begins_any _ _ _ _ _ _ _ ).mono ?_; rintro e w1 ⟨rfl, hb⟩; have hB := PM.chain (w := w) (by go_grown) hb; clear hb))
  all_goals try (go_ret; exact ⟨rfl, by assumption⟩)
end Go.Proofs.Ytfmbnndpjjjdiaa
