/-
  CONTRACTS OF package pack: a reader's value, and what it tells of itself.
-/
import Derived.Test.YtklgibkdbdhaiaaPq
namespace Go.Proofs.Ytklgibkdbdhaiaa
open Go.RowKit
set_option linter.unusedVariables false
theorem unfold_any (n : Nat) (hn : n < 2 ^ 64) (w : World) :
    Calls Try.prog 56 #[.int .u64 n] w fun e w' => e = .returned (.int .i64 (PM.unfoldZ n)) ∧ w = w' := by
  by_cases h : n % 2 = 1
  · have hb : ((((n : Int) % 2)) == 1) = true := by rw [beq_iff_eq]; omega
    go_enter Try.func56, Try.ntmps56
    go_wp2
    go_ret
    exact ⟨PM.ret_int (by unfold PM.unfoldZ; rw [if_pos h]; omega), rfl⟩
  · have hb : ((((n : Int) % 2)) == 1) = false := by rw [beq_eq_false_iff_ne]; omega
    go_enter Try.func56, Try.ntmps56
    go_wp2
    go_ret
    exact ⟨PM.ret_int (by unfold PM.unfoldZ; rw [if_neg h]; omega), rfl⟩
theorem done_any (b : Nat) (l : List UInt8) (wr : Bool) (w : World) (h : PM.RD 88 w b l wr) :
    Calls Try.prog 33 #[.pointer (some ⟨b, 0, none⟩)] w fun e w' => e = .returned (.bool (!wr && decide (l = []))) ∧ w = w' := by
  obtain ⟨v, hk, hs⟩ := h
  have c0 := hk.cell 0
  have c1 := hk.cell 1
  obtain ⟨a, cap, rfl⟩ := hs.len
  cases wr
  · go_enter Try.func33, Try.ntmps33
    go_wp2
    go_ret
    refine ⟨PM.ret_bool ?_, rfl⟩
    cases l <;> simp
    omega
  · go_enter Try.func33, Try.ntmps33
    go_wp2
    go_ret
    exact ⟨rfl, rfl⟩
theorem done_nil (w : World) : Calls Try.prog 33 #[.pointer none] w fun e w' => e = .returned (.bool false) ∧ w = w' := by
  go_enter Try.func33, Try.ntmps33
  go_wp2
  go_ret
  exact ⟨rfl, rfl⟩
end Go.Proofs.Ytklgibkdbdhaiaa
