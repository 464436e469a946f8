/-
  CONTRACT of postilionlaw19.few.
-/
import Derived.Test.YtlijmmldfdmajaaOf
import Derived.Test.YtlijmmldfdmajaaWd
namespace Go.Proofs.Ytlijmmldfdmajaa
open Go.RowKit
set_option linter.unusedVariables false
set_option linter.unusedSimpArgs false
set_option maxRecDepth 100000 in
set_option maxHeartbeats 8000000 in
theorem few19_any (lf : Nat) (a0 : Option Addr) (n0 c0 : Nat) (a1 : Option Addr) (n1 c1 : Nat) (a2 : Option Addr) (n2 c2 : Nat) (av : Option Addr) (an ac : Nat) (mv : Option Addr) (mn mc : Nat) (v : Value) (ls l m : List PM.En) (ks : List PM.Ms) (w : World) (h0 : PM.EnL w (.slice a0 n0 c0) ls) (h1 : PM.EnL w (.slice av an ac) l) (h3 : PM.EnL w (.slice mv mn mc) m) (h2 : PM.MsL w v ks) :
    Calls Try.prog 9 #[.agg #[.int .u64 (lf : Int), .slice a0 n0 c0, .slice a1 n1 c1, .slice a2 n2 c2], .slice av an ac, .slice mv mn mc, v] w fun e w' => (e = .returned (.bool true) ∧ (PM.FewL l ∧ PM.FewL ls ∧ PM.FewL m ∧ ks.length ≤ 6 ∧ n2 ≤ 50 ∧ n1 ≤ 20 ∧ ∀ e ∈ ks, e.votes.length ≤ 50) ∨ e = .returned (.bool false)) ∧ Below w.heap.size w w' := by
  have hmax := h2.bound
  unfold maxLen at hmax
  obtain ⟨va, vc, rfl⟩ := h2.len
  obtain ⟨N, hN⟩ : ∃ N, N = ks.length := ⟨_, rfl⟩
  have hNh := PM.hid hN
  rw [← hN] at h2 hmax ⊢
  obtain ⟨g, hg⟩ : ∃ g, g = w.heap.size := ⟨_, rfl⟩
  obtain ⟨w1, hw1⟩ : ∃ W, W = w.alloc (.cells #[.int .u64 (lf : Int), .slice a0 n0 c0, .slice a1 n1 c1, .slice a2 n2 c2] 27) := ⟨_, rfl⟩
  have hal : Below w.heap.size w w1 := by rw [hw1]; exact (Below.refl _ _).alloc (Nat.le_refl _) _
  have kg : PM.BK w1 g #[.int .u64 (lf : Int), .slice a0 n0 c0, .slice a1 n1 c1, .slice a2 n2 c2] 27 := by rw [hw1, hg]; exact PM.BK.new _ _ _
  have hfm := fewM_any 0 0 none 0 0 av an ac a0 n0 c0 mv mn mc none 0 0 none 0 0 l ls m w1 (PM.EnL.keep h1 hal) (PM.EnL.keep h0 hal) (PM.EnL.keep h3 hal)
  have hvh := PM.hid h2
  have hBB := PM.hid hal
  clear hal h0 h1 h2 h3 hN
  go_enter Try.func9, Try.ntmps9
  go_upto_region 1 with fail
  rw [← hw1, ← hg]
  clear hw1 hg
  have s0 : w1.cell? ⟨g, 0, none⟩ = some (.int .u64 (lf : Int)) := kg.cell 0
  have s1 : w1.cell? ⟨g, 1, none⟩ = some (.slice a0 n0 c0) := kg.cell 1
  have s2 : w1.cell? ⟨g, 2, none⟩ = some (.slice a1 n1 c1) := kg.cell 2
  have s3 : w1.cell? ⟨g, 3, none⟩ = some (.slice a2 n2 c2) := kg.cell 3
  go_wp2_with fail
  refine hfm.mono ?_
  rintro e w2 ⟨hF, hBn⟩
  clear hfm s0 s1 s2 s3
  replace kg := kg.keep hBn
  replace hBB := PM.hid (PM.chain hBB.out hBn)
  clear hBn
  rcases hF with ⟨rfl, hF1, hF2, hF3, -⟩ | rfl
  case inr =>
    clear kg
    go_wp2_with fail
    go_ret
    exact ⟨.inr rfl, hBB.out⟩
  replace hF1 := PM.hid hF1
  replace hF2 := PM.hid hF2
  replace hF3 := PM.hid hF3
  have s0 : w2.cell? ⟨g, 0, none⟩ = some (.int .u64 (lf : Int)) := kg.cell 0
  have s1 : w2.cell? ⟨g, 1, none⟩ = some (.slice a0 n0 c0) := kg.cell 1
  have s2 : w2.cell? ⟨g, 2, none⟩ = some (.slice a1 n1 c1) := kg.cell 2
  have s3 : w2.cell? ⟨g, 3, none⟩ = some (.slice a2 n2 c2) := kg.cell 3
  clear kg
  by_cases hk6 : N ≤ 6
  case neg =>
    have q : decide ((6 : Int) < (N : Int)) = true := by simp; omega
    have q' : (6 : Int) < (N : Int) := by omega
    go_wp2_with fail
    go_ret
    exact ⟨.inr rfl, hBB.out⟩
  have qN : decide ((6 : Int) < (N : Int)) = false := by simp; omega
  have qN' : ¬ (6 : Int) < (N : Int) := by omega
  by_cases hk5 : n2 ≤ 50
  case neg =>
    have q : decide ((50 : Int) < (n2 : Int)) = true := by simp; omega
    have q' : (50 : Int) < (n2 : Int) := by omega
    go_wp2_with fail
    go_ret
    exact ⟨.inr rfl, hBB.out⟩
  have qn2 : decide ((50 : Int) < (n2 : Int)) = false := by simp; omega
  have qn2' : ¬ (50 : Int) < (n2 : Int) := by omega
  by_cases hk2 : n1 ≤ 20
  case neg =>
    have q : decide ((20 : Int) < (n1 : Int)) = true := by simp; omega
    have q' : (20 : Int) < (n1 : Int) := by omega
    go_wp2_with fail
    go_ret
    exact ⟨.inr rfl, hBB.out⟩
  have qn1 : decide ((20 : Int) < (n1 : Int)) = false := by simp; omega
  have qn1' : ¬ (20 : Int) < (n1 : Int) := by omega
  replace hk5 := PM.hid hk5
  replace hk2 := PM.hid hk2
  go_wp2_with fail
  clear qN qN' qn2 qn2' qn1 qn1' s0 s1 s2 s3
  go_loopw [10] (fun i wr => ∃ k : Nat, i = .int .i64 k ∧ k ≤ N ∧ Hid (∀ j e, j < k → ks[j]? = some e → e.votes.length ≤ 50) ∧ wr = w2) (fun i _ => N - (intOf i).toNat)
  case atStart => exact ⟨0, rfl, by omega, PM.hid (fun j e h => absurd h (Nat.not_lt_zero _)), rfl⟩
  case round =>
    obtain ⟨k, rfl, hk, hin, rfl⟩ := hrel
    by_cases hlt : k < N
    · obtain ⟨z, hz⟩ : ∃ z, ks[k]? = some z := ⟨ks[k]'(by rw [← hNh.out]; exact hlt), List.getElem?_eq_getElem _⟩
      obtain ⟨b, off, rfl, hce⟩ := PM.RR.opn hvh.out (by rw [← hNh.out]; omega)
      obtain ⟨cs, hl0, hR⟩ := hce k z hz
      obtain ⟨b0, e0, b1, e1, b2, e2, b3, e3, b4, e4, b5, e5, hcs, -⟩ := PM.msR_open hR
      replace hl0 := hl0.keep hBB.out
      rw [hcs] at hl0
      have d2 : wr.cell? ⟨b, off + k * 8 + 2, none⟩ = some (.slice b0 z.votes.length e0) := hl0 2 _ rfl
      have hzh := PM.hid hz
      obtain ⟨zV, hzV⟩ : ∃ P, P = z.votes.length := ⟨_, rfl⟩
      rw [← hzV] at d2
      have hzVh := PM.hid hzV
      clear hz hce hl0 hR hcs cs hzV
      by_cases h50 : zV ≤ 50
      case neg =>
        have q : decide ((50 : Int) < (zV : Int)) = true := by simp; omega
        have q' : (50 : Int) < (zV : Int) := by omega
        go_wp2_with fail
        go_ret
        exact ⟨.inr rfl, hBB.out⟩
      have q : decide ((50 : Int) < (zV : Int)) = false := by simp; omega
      have q' : ¬ (50 : Int) < (zV : Int) := by omega
      go_wp2_with fail
      refine ⟨⟨k + 1, by go_num, by omega, PM.hid (fun j e hj hje => ?_), by first | rfl | trivial⟩, by simp only [intOf]; omega⟩
      by_cases hjk : j < k
      · exact hin.out j e hjk hje
      · obtain rfl : j = k := by omega
        rw [hzh.out] at hje
        cases hje
        rw [← hzVh.out]
        exact h50
    · obtain rfl : k = N := by omega
      go_wp2_with fail
      go_ret
      refine ⟨.inl ⟨rfl, hF1.out, hF2.out, hF3.out, hk6, hk5.out, hk2.out, fun e he => ?_⟩, hBB.out⟩
      obtain ⟨j, hj⟩ := List.mem_iff_getElem?.1 he
      exact hin.out j e (by rw [hNh.out]; exact (List.getElem?_eq_some_iff.1 hj).1) hj
end Go.Proofs.Ytlijmmldfdmajaa
