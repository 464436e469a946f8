/-
  CONTRACT OF norm.Order.
-/
import Derived.Test.YtbpajgejfnjaeaaNd
import Derived.Test.YtbpajgejfnjaeaaRt
namespace Go.Proofs.Ytbpajgejfnjaeaa
open Go.RowKit
set_option linter.unusedVariables false
set_option linter.unusedSimpArgs false
/-- which of two tests comes first -/
def PM.tord (a b : PM.Te) : Int := PM.orI [PM.plS a.name.data.toList b.name.data.toList, PM.plI a.op b.op, PM.vo a b]
set_option maxRecDepth 100000 in
set_option maxHeartbeats 4000000 in
theorem torder_any (za zb : PM.Te) (w : World) : Calls Try.prog 21 #[.agg #[.string za.name, .int .i64 za.op, .int .i64 za.k, .int .i64 za.n, .string za.s], .agg #[.string zb.name, .int .i64 zb.op, .int .i64 zb.k, .int .i64 zb.n, .string zb.s]] w fun e w' => e = .returned (.int .i64 (PM.tord za zb)) ∧ Below w.heap.size w w' := by
  obtain ⟨ga, hga⟩ : ∃ g, g = w.heap.size := ⟨_, rfl⟩
  obtain ⟨wa, hwa⟩ : ∃ W, W = w.alloc (.cells #[.string za.name, .int .i64 za.op, .int .i64 za.k, .int .i64 za.n, .string za.s] 25) := ⟨_, rfl⟩
  obtain ⟨gb, hgb⟩ : ∃ g, g = w.heap.size + 1 := ⟨_, rfl⟩
  obtain ⟨wb, hwb⟩ : ∃ W, W = wa.alloc (.cells #[.string zb.name, .int .i64 zb.op, .int .i64 zb.k, .int .i64 zb.n, .string zb.s] 25) := ⟨_, rfl⟩
  have hBa : Below w.heap.size w wa := by rw [hwa]; exact (Below.refl _ _).alloc (Nat.le_refl _) _
  have hBb : Below wa.heap.size wa wb := by rw [hwb]; exact (Below.refl _ _).alloc (Nat.le_refl _) _
  have hsa : wa.heap.size = w.heap.size + 1 := by rw [hwa]; simp
  have ka : PM.BK wb ga #[.string za.name, .int .i64 za.op, .int .i64 za.k, .int .i64 za.n, .string za.s] 25 := by
    have : PM.BK wa ga #[.string za.name, .int .i64 za.op, .int .i64 za.k, .int .i64 za.n, .string za.s] 25 := by rw [hwa, hga]; exact PM.BK.new _ _ _
    exact this.keep hBb
  have kb : PM.BK wb gb #[.string zb.name, .int .i64 zb.op, .int .i64 zb.k, .int .i64 zb.n, .string zb.s] 25 := by rw [hwb, hgb, ← hsa]; exact PM.BK.new _ _ _
  have hBh := PM.hid (PM.chain hBa hBb)
  go_enter Try.func21, Try.ntmps21
  go_upto_region 1 with fail
  rw [← hwa, ← hwb, ← hgb, ← hga]
  clear hwa hwb hgb hga hsa hBa hBb
  have hkk := PM.hid (And.intro ka kb)
  clear ka kb
  refine PM.wp_region_st2 15 [some 5, some 6, some 7, some 8, some 9, some 10, some 11, some 12, some 13, some 14, some 15, some 16, some 17, some 18, some 19, some 20, some 21, some 4] [fun x _ => x = .pointer (some ⟨ga, 0, none⟩), fun x _ => x = .string za.name, fun x _ => x = .pointer (some ⟨gb, 0, none⟩), fun x _ => x = .string zb.name, fun x _ => x = .int .i64 (PM.plS za.name.data.toList zb.name.data.toList), fun x _ => x = .pointer (some ⟨ga, 1, none⟩), fun x _ => x = .int .i64 za.op, fun x _ => x = .pointer (some ⟨gb, 1, none⟩), fun x _ => x = .int .i64 zb.op, fun x _ => x = .int .i64 (PM.plI za.op zb.op), fun x _ => x = .pointer (some ⟨ga, 2, none⟩), fun x _ => x = .agg #[.int .i64 za.k, .int .i64 za.n, .string za.s], fun x _ => x = .pointer (some ⟨gb, 2, none⟩), fun x _ => x = .agg #[.int .i64 zb.k, .int .i64 zb.n, .string zb.s], fun x _ => x = .int .i64 (PM.vo za zb)] (by kernel_rfl) (by kernel_rfl) (by kernel_rfl) (by kernel_rfl) (by kernel_rfl) (of_decide_eq_true (by kernel_rfl)) (by kernel_rfl) ?_ ?_ ?_
  · simp only [List.forall_mem_cons]
    refine ⟨?_, ?_, ?_, ?_, ?_, ?_, ?_, ?_, ?_, ?_, ?_, ?_, ?_, ?_, ?_, by simp⟩
    all_goals (intro x W W' h hb; first | exact h | exact PM.BS.keep hb h | exact PM.OW.keep hb h)
  · refine ⟨?_, ?_, ?_, ?_, ?_, ?_, ?_, ?_, ?_, ?_, ?_, ?_, ?_, ?_, ?_, trivial⟩
    all_goals
      intro a W hB hF hd
      have k2 := hF 2 rfl
      have k3 := hF 3 rfl
      have ka' := hkk.out.1.keep hB
      have kb' := hkk.out.2.keep hB
      have c0 : W.cell? ⟨ga, 0, none⟩ = some (.string za.name) := ka'.cell 0
      have c1 : W.cell? ⟨ga, 1, none⟩ = some (.int .i64 za.op) := ka'.cell 1
      have c2 : W.cell? ⟨ga, 2, none⟩ = some (.int .i64 za.k) := ka'.cell 2
      have c3 : W.cell? ⟨ga, 3, none⟩ = some (.int .i64 za.n) := ka'.cell 3
      have c4 : W.cell? ⟨ga, 4, none⟩ = some (.string za.s) := ka'.cell 4
      have d0 : W.cell? ⟨gb, 0, none⟩ = some (.string zb.name) := kb'.cell 0
      have d1 : W.cell? ⟨gb, 1, none⟩ = some (.int .i64 zb.op) := kb'.cell 1
      have d2 : W.cell? ⟨gb, 2, none⟩ = some (.int .i64 zb.k) := kb'.cell 2
      have d3 : W.cell? ⟨gb, 3, none⟩ = some (.int .i64 zb.n) := kb'.cell 3
      have d4 : W.cell? ⟨gb, 4, none⟩ = some (.string zb.s) := kb'.cell 4
      clear hF
      simp [PM.depsL, PM.spec, PM.sl, Region.binds] at hd k2 k3
      simp only [PM.wantL, PM.spec]
      try simp only [PM.sl]
      go_simp
    all_goals try exact Below.refl _ _
    · refine (compare_string za.name zb.name W).mono ?_
      rintro e w' ⟨rfl, rfl⟩
      exact ⟨Below.refl _ _, rfl⟩
    · refine (compare_int za.op zb.op W).mono ?_
      rintro e w' ⟨rfl, rfl⟩
      exact ⟨Below.refl _ _, rfl⟩
    · refine (order_any za.k za.n za.s zb.k zb.n zb.s W).mono ?_
      rintro e w' ⟨rfl, hb⟩
      exact ⟨hb, rfl⟩
  · intro G W hB hF hS
    simp [PM.allSp, PM.spec] at hS
    have h9 : G 9 = .int .i64 (PM.plS za.name.data.toList zb.name.data.toList) := by simp [hS]
    have h14 : G 14 = .int .i64 (PM.plI za.op zb.op) := by simp [hS]
    have h19 : G 19 = .int .i64 (PM.vo za zb) := by simp [hS]
    rw [show ((List.range (Array.size _)).map G).toArray = #[G 0, G 1, G 2, G 3, G 4, G 5, G 6, G 7, G 8, G 9, G 10, G 11, G 12, G 13, G 14, G 15, G 16, G 17, G 18, G 19, G 20, G 21] from rfl]
    clear hF hS
    rw [h9, h14, h19]
    clear h9 h14 h19
    go_wp2_with fail
    obtain ⟨g, hg⟩ : ∃ g, g = W.heap.size := ⟨_, rfl⟩
    obtain ⟨W2, hW2⟩ : ∃ x, x = W.alloc (.cells #[.int .i64 (PM.plS za.name.data.toList zb.name.data.toList), .int .i64 (PM.plI za.op zb.op), .int .i64 (PM.vo za zb)] 3) := ⟨_, rfl⟩
    have hal : Below W.heap.size W W2 := by rw [hW2]; exact (Below.refl _ _).alloc (Nat.le_refl _) _
    have hk3 : PM.BK W2 g #[.int .i64 (PM.plS za.name.data.toList zb.name.data.toList), .int .i64 (PM.plI za.op zb.op), .int .i64 (PM.vo za zb)] 3 := by rw [hW2, hg]; exact PM.BK.new _ _ _
    have hv : ∀ (i : Nat) (z : Int), [PM.plS za.name.data.toList zb.name.data.toList, PM.plI za.op zb.op, PM.vo za zb][i]? = some z → W2.cell? ⟨g, i, none⟩ = some (.int .i64 z) := by
      intro i z hi
      match i, hi with
      | 0, hi => simp at hi; subst hi; exact hk3.cell 0
      | 1, hi => simp at hi; subst hi; exact hk3.cell 1
      | 2, hi => simp at hi; subst hi; exact hk3.cell 2
      | n + 3, hi => simp at hi
    have hB9 := PM.hid (PM.chain hBh.out (PM.chain hB hal))
    have hor := or_int g 3 [PM.plS za.name.data.toList zb.name.data.toList, PM.plI za.op zb.op, PM.vo za zb] W2 (by simp) hv
    rw [← hW2, ← hg]
    clear hW2 hg hal hk3 hv hB
    refine hor.mono ?_
    clear hor
    rintro e w9 ⟨rfl, rfl⟩
    go_wp2_with fail
    go_ret
    exact ⟨rfl, hB9.out⟩
end Go.Proofs.Ytbpajgejfnjaeaa
