/-
  CONTRACT OF cmp.Or[int].
-/
import Derived.Test.YtbpajgejfnjaeaaNc
namespace Go.Proofs.Ytbpajgejfnjaeaa
open Go.RowKit
set_option linter.unusedVariables false
set_option linter.unusedSimpArgs false
namespace PM
/-- the first number that is not 0 -/
def orI : List Int → Int
  | [] => 0
  | z :: l => if z = 0 then orI l else z
theorem orI_all : ∀ (l : List Int), (∀ (j : Nat) (z : Int), l[j]? = some z → z = 0) → orI l = 0
  | [], _ => rfl
  | z :: l, h => by
    have h0 := h 0 z rfl
    unfold orI
    rw [if_pos h0]
    exact orI_all l (fun j x hj => h (j + 1) x (by simpa using hj))
theorem orI_first : ∀ (l : List Int) (k : Nat) (x : Int), l[k]? = some x → x ≠ 0 → (∀ (j : Nat) (z : Int), j < k → l[j]? = some z → z = 0) → orI l = x
  | [], k, x, h, _, _ => by simp at h
  | z :: l, 0, x, h, hx, _ => by
    simp at h
    subst h
    unfold orI
    rw [if_neg hx]
  | z :: l, k + 1, x, h, hx, hall => by
    have h0 := hall 0 z (by omega) rfl
    unfold orI
    rw [if_pos h0]
    exact orI_first l k x (by simpa using h) hx (fun j y hj hy => hall (j + 1) y (by omega) (by simpa using hy))
end PM
set_option maxHeartbeats 1000000 in
theorem or_int (g cap : Nat) (l : List Int) (w : World) (hl : l.length ≤ 100) (hv : ∀ (i : Nat) (z : Int), l[i]? = some z → w.cell? ⟨g, i, none⟩ = some (.int .i64 z)) :
    Calls Try.prog 31 #[.slice (some ⟨g, 0, none⟩) l.length cap] w fun e w' => e = .returned (.int .i64 (PM.orI l)) ∧ w = w' := by
  obtain ⟨L, hL⟩ : ∃ L, L = l.length := ⟨_, rfl⟩
  have hLh := PM.hid hL
  rw [← hL] at hl ⊢
  have hvh := PM.hid hv
  clear hL hv
  go_enter Try.func31, Try.ntmps31
  go_wp2_with fail
  go_loopw [8] (fun i wr => w = wr ∧ ∃ k : Nat, i = .int .i64 k ∧ k ≤ L ∧ (∀ (j : Nat) (z : Int), j < k → l[j]? = some z → z = 0)) (fun i _ => L - (intOf i).toNat)
  case atStart => exact ⟨rfl, 0, rfl, by omega, fun j z hj => absurd hj (by omega)⟩
  case round =>
    obtain ⟨rfl, k, rfl, hk, hall⟩ := hrel
    by_cases hlt : k < L
    · obtain ⟨z, hz⟩ : ∃ z, l[k]? = some z := ⟨l[k]'(by rw [← hLh.out]; exact hlt), List.getElem?_eq_getElem _⟩
      have c0 := hvh.out k z hz
      have hin := PM.hid (And.intro hz hall)
      clear hz hall
      by_cases h0 : z = 0
      · subst h0
        go_wp2_with fail
        refine ⟨⟨by first | trivial | rfl, k + 1, by go_num, by omega, fun j x hj hx => ?_⟩, by simp only [intOf]; omega⟩
        by_cases hjk : j < k
        · exact hin.out.2 j x hjk hx
        · obtain rfl : j = k := by omega
          rw [hin.out.1] at hx
          injection hx with hx
          exact hx.symm
      · have e0 : (z != 0) = true := by simpa using h0
        have hR := PM.hid (PM.orI_first l k z hin.out.1 h0 hin.out.2)
        clear h0
        go_wp2_with fail
        try rw [Exit.noGoto_ret]
        go_ret
        exact ⟨by rw [hR.out]; rfl, rfl⟩
    · have hkL : k = L := by omega
      subst hkL
      have hR := PM.hid (PM.orI_all l (fun j z hj => hall j z (by have := (List.getElem?_eq_some_iff.1 hj).1; rw [← hLh.out] at this; exact this) hj))
      clear hall
      go_wp2_with fail
      try rw [Exit.noGoto_ret]
      go_ret
      exact ⟨by rw [hR.out]; rfl, rfl⟩
end Go.Proofs.Ytbpajgejfnjaeaa
