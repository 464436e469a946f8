/-
  CONTRACTS OF package frame: digits, and what it hands back.
-/
import Derived.Test.YtpilgbiedbhpeaaFc
import Derived.Test.YtpilgbiedbhpeaaDk
namespace Go.Proofs.Ytpilgbiedbhpeaa
open Go.RowKit
set_option linter.unusedVariables false
theorem bty : PM.ByteTy Try.prog 23 5 := by
  have h : (Try.prog.info? 5).map (fun i => (i.zero, i.size, i.bytes)) = some (some (.int .u8 0), 1, 1) := by kernel_rfl
  obtain ⟨i, hi, hz, hs, hb⟩ := info_parts h
  exact ⟨Try.underlying23, Try.underlying5, i, _, hi, hz, hs, hb, rfl⟩
theorem bte : PM.ElTy Try.prog 23 5 1 := ⟨bty.sl, bty.row⟩
theorem digits_any (n s : Int) (w : World) :
    Calls Try.prog 17 #[.int .u32 n, .int .i64 s] w fun e w' => e = .returned (.func (.func 19) #[] #[.pointer (some ⟨w.heap.size + 1, 0, none⟩), .pointer (some ⟨w.heap.size, 0, none⟩)]) ∧
      w' = (w.alloc (.cells #[.int .u32 n] 31)).alloc (.cells #[.int .i64 s] 3) := by
  go_enter Try.func17, Try.ntmps17
  go_wp2
  go_ret
  exact ⟨rfl, rfl⟩
theorem digit_any (n s : Nat) (hn : n < 4294967296) (h0 : 0 < s) (h4 : s ≤ 4) (bs bn : Nat) (hne : bs ≠ bn) (w : World) (hs : w.cell? ⟨bs, 0, none⟩ = some (.int .i64 s)) (hf : w.frozen? ⟨bs, 0, none⟩ = false) (hb : w.cell? ⟨bn, 0, none⟩ = some (.int .u32 n)) :
    Calls Try.prog 19 #[.pointer (some ⟨bs, 0, none⟩), .pointer (some ⟨bn, 0, none⟩)] w fun e w' => e = .returned (.int .u8 ((UInt8.ofNat (n / 2 ^ (8 * (s - 1)))).toNat : Int)) ∧ w' = w.setCell ⟨bs, 0, none⟩ (.int .i64 ((s - 1 : Nat) : Int)) := by
  have hcase : s = 1 ∨ s = 2 ∨ s = 3 ∨ s = 4 := by omega
  have hb2 : (w.setCell ⟨bs, 0, none⟩ (.int .i64 ((s - 1 : Nat) : Int))).cell? ⟨bn, 0, none⟩ = some (.int .u32 n) := by
    rw [World.cell?_setCell_other _ _ _ _ (by intro e; simp at e)]; exact hb
  rcases hcase with rfl | rfl | rfl | rfl
  all_goals
    go_enter Try.func19, Try.ntmps19
    go_wp2
    go_ret
    refine ⟨PM.ret_i ?_, rfl⟩
    simp
    try omega
theorem digits_bk (n s : Int) (w : World) :
    Calls Try.prog 17 #[.int .u32 n, .int .i64 s] w fun e w' => ∃ bs bn, e = .returned (.func (.func 19) #[] #[.pointer (some ⟨bs, 0, none⟩), .pointer (some ⟨bn, 0, none⟩)]) ∧
      PM.BK w' bs #[.int .i64 s] 3 ∧ PM.BK w' bn #[.int .u32 n] 31 ∧ w.heap.size ≤ bs ∧ Below w.heap.size w w' := by
  refine (digits_any n s w).mono ?_
  rintro e w' ⟨rfl, rfl⟩
  have h1 := PM.BK.new w #[.int .u32 n] 31
  have h2 := PM.BK.new (w.alloc (.cells #[.int .u32 n] 31)) #[.int .i64 s] 3
  rw [World.size_alloc] at h2
  have hb : Below (w.alloc (.cells #[.int .u32 n] 31)).heap.size (w.alloc (.cells #[.int .u32 n] 31)) ((w.alloc (.cells #[.int .u32 n] 31)).alloc (.cells #[.int .i64 s] 3)) := (Below.refl _ _).alloc (Nat.le_refl _) _
  exact ⟨_, _, rfl, h2, h1.keep hb, by omega, ((Below.refl _ w).alloc (Nat.le_refl _) _).alloc (by simp) _⟩
/-- the same as digit_any, in these words -/
theorem digit_bk (n s : Nat) (hn : n < 4294967296) (h0 : 0 < s) (h4 : s ≤ 4) (bs bn : Nat) (w : World) (hs : PM.BK w bs #[.int .i64 s] 3) (hb : PM.BK w bn #[.int .u32 n] 31) :
    Calls Try.prog 19 #[.pointer (some ⟨bs, 0, none⟩), .pointer (some ⟨bn, 0, none⟩)] w fun e w' => e = .returned (.int .u8 ((UInt8.ofNat (n / 2 ^ (8 * (s - 1)))).toNat : Int)) ∧ w' = w.setCell ⟨bs, 0, none⟩ (.int .i64 ((s - 1 : Nat) : Int)) := by
  have hne : bs ≠ bn := by
    intro e
    subst e
    unfold PM.BK at hs hb
    rw [hs] at hb
    simp at hb
  exact digit_any n s hn h0 h4 bs bn hne w (hs.cell 0) (hs.free 0) (hb.cell 0)
/-- a box stays as it is while another one turns -/
theorem BK_set_other {w : World} {b c : Nat} {cs : Array Value} {T : TypeId} (h : PM.BK w b cs T) (hne : b ≠ c) (u : Value) : PM.BK (w.setCell ⟨c, 0, none⟩ u) b cs T := by
  unfold PM.BK at *
  rw [Below.heap_setCell _ _ _ _ hne]
  exact h
end Go.Proofs.Ytpilgbiedbhpeaa
