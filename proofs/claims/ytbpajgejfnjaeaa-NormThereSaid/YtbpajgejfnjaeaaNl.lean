/-
  THE WALKS OF LAYER 6's STATEMENTS: there.
-/
import Derived.Test.YtbpajgejfnjaeaaNk
namespace Go.Proofs.Ytbpajgejfnjaeaa
open Go.RowKit
set_option linter.unusedVariables false
set_option linter.unusedSimpArgs false
theorem PM.toList_inj {a b : ByteArray} (h : a.toList = b.toList) : a = b := by
  rw [ByteArray.toList_eq, ByteArray.toList_eq] at h
  exact PM.bytes_ext h
set_option maxRecDepth 100000 in
set_option maxHeartbeats 4000000 in
theorem normThere_walk (za zb : PM.Te) (hza : za.wf) (hzb : zb.wf) (w : World) :
    Calls Try.prog 8 #[.agg #[.string za.name, .int .i64 za.op, .int .i64 za.k, .int .i64 za.n, .string za.s], .agg #[.string zb.name, .int .i64 zb.op, .int .i64 zb.k, .int .i64 zb.n, .string zb.s]] w fun e w' => e = .returned (.bool true) ∧ Below w.heap.size w w' := by
  clear hza hzb
  obtain ⟨ga, hga⟩ : ∃ g, g = w.heap.size := ⟨_, rfl⟩
  obtain ⟨wb0, hwb0⟩ : ∃ W, W = w.alloc (.cells #[.string za.name, .int .i64 za.op, .int .i64 za.k, .int .i64 za.n, .string za.s] 25) := ⟨_, rfl⟩
  have swb0 : wb0.heap.size = w.heap.size + 1 := by rw [hwb0]; simp
  have kga : PM.BK wb0 ga #[.string za.name, .int .i64 za.op, .int .i64 za.k, .int .i64 za.n, .string za.s] 25 := by rw [hwb0, hga]; exact PM.BK.new _ _ _
  have aga : Below w.heap.size w wb0 := by rw [hwb0]; exact (Below.refl _ _).alloc (Nat.le_refl _) _
  obtain ⟨gb, hgb⟩ : ∃ g, g = w.heap.size + 1 := ⟨_, rfl⟩
  obtain ⟨wb1, hwb1⟩ : ∃ W, W = wb0.alloc (.cells #[.string zb.name, .int .i64 zb.op, .int .i64 zb.k, .int .i64 zb.n, .string zb.s] 25) := ⟨_, rfl⟩
  have swb1 : wb1.heap.size = w.heap.size + 2 := by rw [hwb1]; simp; rw [swb0]
  have kgb : PM.BK wb1 gb #[.string zb.name, .int .i64 zb.op, .int .i64 zb.k, .int .i64 zb.n, .string zb.s] 25 := by rw [hwb1, hgb, ← swb0]; exact PM.BK.new _ _ _
  have agb : Below wb0.heap.size wb0 wb1 := by rw [hwb1]; exact (Below.refl _ _).alloc (Nat.le_refl _) _
  replace kga := kga.keep agb
  have hBB := PM.hid (PM.chain aga agb)
  clear swb0 aga swb1 agb
  go_enter Try.func8, Try.ntmps8
  go_upto_region 1 with fail
  rw [← hwb0, ← hwb1, ← hgb, ← hga]
  clear hwb0 hwb1 hga hgb
  go_wp2_with fail
  refine (awake6 _).mono ?_
  rintro e w1 ⟨rfl, hB1⟩
  replace kga := kga.keep hB1
  replace kgb := kgb.keep hB1
  replace hBB := PM.hid (PM.chain hBB.out hB1)
  clear hB1
  have a0 : w1.cell? ⟨ga, 0, none⟩ = some (.string za.name) := kga.cell 0
  have a1 : w1.cell? ⟨ga, 1, none⟩ = some (.int .i64 za.op) := kga.cell 1
  have a2 : w1.cell? ⟨ga, 2, none⟩ = some (.int .i64 za.k) := kga.cell 2
  have a3 : w1.cell? ⟨ga, 3, none⟩ = some (.int .i64 za.n) := kga.cell 3
  have a4 : w1.cell? ⟨ga, 4, none⟩ = some (.string za.s) := kga.cell 4
  have b0 : w1.cell? ⟨gb, 0, none⟩ = some (.string zb.name) := kgb.cell 0
  have b1 : w1.cell? ⟨gb, 1, none⟩ = some (.int .i64 zb.op) := kgb.cell 1
  have b2 : w1.cell? ⟨gb, 2, none⟩ = some (.int .i64 zb.k) := kgb.cell 2
  have b3 : w1.cell? ⟨gb, 3, none⟩ = some (.int .i64 zb.n) := kgb.cell 3
  have b4 : w1.cell? ⟨gb, 4, none⟩ = some (.string zb.s) := kgb.cell 4
  go_wp2_with fail
  refine (ffew_any _ [za, zb] _ (PM.EM.lits' PM.teL_len w1 25 [za, zb] 2 rfl (by simp [maxLen]) #[.string za.name, .int .i64 za.op, .int .i64 za.k, .int .i64 za.n, .string za.s, .string zb.name, .int .i64 zb.op, .int .i64 zb.k, .int .i64 zb.n, .string zb.s] rfl)).mono ?_
  rintro e wf ⟨hF, rfl⟩
  obtain ⟨wc, hwc⟩ : ∃ W, W = w1.alloc (.cells #[.string za.name, .int .i64 za.op, .int .i64 za.k, .int .i64 za.n, .string za.s, .string zb.name, .int .i64 zb.op, .int .i64 zb.k, .int .i64 zb.n, .string zb.s] 25) := ⟨_, rfl⟩
  have hal : Below w1.heap.size w1 wc := by rw [hwc]; exact (Below.refl _ _).alloc (Nat.le_refl _) _
  rw [← hwc]
  replace kga := kga.keep hal
  replace kgb := kgb.keep hal
  replace hBB := PM.hid (PM.chain hBB.out hal)
  clear hwc hal
  rcases hF with ⟨rfl, hF⟩ | ⟨rfl, hF⟩
  case inr =>
    clear hF kga kgb
    go_wp2_with fail
    go_ret
    exact ⟨rfl, hBB.out⟩
  clear a0 a1 a2 a3 a4 b0 b1 b2 b3 b4
  have a0 : wc.cell? ⟨ga, 0, none⟩ = some (.string za.name) := kga.cell 0
  have a1 : wc.cell? ⟨ga, 1, none⟩ = some (.int .i64 za.op) := kga.cell 1
  have a2 : wc.cell? ⟨ga, 2, none⟩ = some (.int .i64 za.k) := kga.cell 2
  have a3 : wc.cell? ⟨ga, 3, none⟩ = some (.int .i64 za.n) := kga.cell 3
  have a4 : wc.cell? ⟨ga, 4, none⟩ = some (.string za.s) := kga.cell 4
  have b0 : wc.cell? ⟨gb, 0, none⟩ = some (.string zb.name) := kgb.cell 0
  have b1 : wc.cell? ⟨gb, 1, none⟩ = some (.int .i64 zb.op) := kgb.cell 1
  have b2 : wc.cell? ⟨gb, 2, none⟩ = some (.int .i64 zb.k) := kgb.cell 2
  have b3 : wc.cell? ⟨gb, 3, none⟩ = some (.int .i64 zb.n) := kgb.cell 3
  have b4 : wc.cell? ⟨gb, 4, none⟩ = some (.string zb.s) := kgb.cell 4
  by_cases hch : PM.filP [za, zb]
  case neg =>
    go_wp2_with fail
    refine (fcheck_any _ [za, zb] _ (PM.EM.lits' PM.teL_len wc 25 [za, zb] 2 rfl (by simp [maxLen]) #[.string za.name, .int .i64 za.op, .int .i64 za.k, .int .i64 za.n, .string za.s, .string zb.name, .int .i64 zb.op, .int .i64 zb.k, .int .i64 zb.n, .string zb.s] rfl)).mono ?_
    rintro e wd ⟨rfl, hBd⟩
    rw [PM.filE_no hch]
    replace hBB := PM.hid (PM.chain hBB.out (PM.chain ((Below.refl _ wc).alloc (Nat.le_refl _) _) hBd))
    clear hch hBd kga kgb a0 a1 a2 a3 a4 b0 b1 b2 b3 b4
    go_wp2_with fail
    go_ret
    exact ⟨rfl, hBB.out⟩
  go_wp2_with fail
  refine (fcheck_any _ [za, zb] _ (PM.EM.lits' PM.teL_len wc 25 [za, zb] 2 rfl (by simp [maxLen]) #[.string za.name, .int .i64 za.op, .int .i64 za.k, .int .i64 za.n, .string za.s, .string zb.name, .int .i64 zb.op, .int .i64 zb.k, .int .i64 zb.n, .string zb.s] rfl)).mono ?_
  rintro e wd ⟨rfl, hBd⟩
  rw [PM.filE_yes hch]
  have hal : Below wc.heap.size wc wd := PM.chain ((Below.refl _ wc).alloc (Nat.le_refl _) _) hBd
  clear a0 a1 a2 a3 a4 b0 b1 b2 b3 b4
  replace kga := kga.keep hal
  replace kgb := kgb.keep hal
  replace hBB := PM.hid (PM.chain hBB.out hal)
  have hOk := PM.hid (And.intro (hch.2 za (by simp)) (hch.2 zb (by simp)))
  clear hF hch hBd hal
  have a0 : wd.cell? ⟨ga, 0, none⟩ = some (.string za.name) := kga.cell 0
  have a1 : wd.cell? ⟨ga, 1, none⟩ = some (.int .i64 za.op) := kga.cell 1
  have a2 : wd.cell? ⟨ga, 2, none⟩ = some (.int .i64 za.k) := kga.cell 2
  have a3 : wd.cell? ⟨ga, 3, none⟩ = some (.int .i64 za.n) := kga.cell 3
  have a4 : wd.cell? ⟨ga, 4, none⟩ = some (.string za.s) := kga.cell 4
  have b0 : wd.cell? ⟨gb, 0, none⟩ = some (.string zb.name) := kgb.cell 0
  have b1 : wd.cell? ⟨gb, 1, none⟩ = some (.int .i64 zb.op) := kgb.cell 1
  have b2 : wd.cell? ⟨gb, 2, none⟩ = some (.int .i64 zb.k) := kgb.cell 2
  have b3 : wd.cell? ⟨gb, 3, none⟩ = some (.int .i64 zb.n) := kgb.cell 3
  have b4 : wd.cell? ⟨gb, 4, none⟩ = some (.string zb.s) := kgb.cell 4
  go_upto_region 5 with fail
  obtain ⟨gi, hgi⟩ : ∃ g, g = wd.heap.size := ⟨_, rfl⟩
  obtain ⟨we, hwe⟩ : ∃ W, W = wd.alloc (.cells #[.string za.name, .int .i64 8, .int .i64 0, .int .i64 0, .string ⟨#[]⟩] 25) := ⟨_, rfl⟩
  have kgi : PM.BK we gi #[.string za.name, .int .i64 8, .int .i64 0, .int .i64 0, .string ⟨#[]⟩] 25 := by rw [hwe, hgi]; exact PM.BK.new _ _ _
  have hal : Below wd.heap.size wd we := by rw [hwe]; exact (Below.refl _ _).alloc (Nat.le_refl _) _
  replace kga := kga.keep hal
  replace kgb := kgb.keep hal
  replace hBB := PM.hid (PM.chain hBB.out hal)
  rw [← hwe, ← hgi]
  clear a0 a1 a2 a3 a4 b0 b1 b2 b3 b4
  clear hwe hgi hal
  have kgah := PM.hid kga
  have kgbh := PM.hid kgb
  have kgih := PM.hid kgi
  clear kga kgb kgi
  have hi1 : Hid (PM.impB za ⟨za.name, 8, 0, 0, ⟨#[]⟩⟩ = true) := PM.hid (decide_eq_true (PM.impP_there hOk.out.1 _ rfl rfl))
  have hi2 : Hid (PM.impB ⟨za.name, 8, 0, 0, ⟨#[]⟩⟩ za = (za.op == 8)) := PM.hid (by
    rw [Bool.eq_iff_iff, beq_iff_eq]
    exact decide_eq_true_iff.trans (PM.impP_is hOk.out.1 rfl rfl rfl rfl rfl))
  by_cases hne : za.name = zb.name
  · have hn0 : Hid ((za.name.toList == zb.name.toList) = true) := PM.hid (by rw [hne]; simp)
    clear hne
    refine PM.wp_region_st [some 24, some 25, some 26, some 27, some 28, some 29, some 30, some 31, some 32, some 33, some 34, some 35, some 36, some 37, some 38, some 39, some 40, some 41, some 42, some 43, some 44, some 45, some 46, some 47, some 48, some 49, some 50, some 51, some 4] [fun x _ => x = .bool true, fun x _ => x = .bool true, fun x _ => x = .agg #[.string za.name, .int .i64 za.op, .int .i64 za.k, .int .i64 za.n, .string za.s], fun x _ => x = .agg #[.string za.name, .int .i64 8, .int .i64 0, .int .i64 0, .string ⟨#[]⟩], fun x _ => x = .bool true, fun x _ => x = .bool true, fun x _ => x = .bool true, fun x _ => x = .pointer (some ⟨ga, 0, none⟩), fun x _ => x = .string za.name, fun x _ => x = .pointer (some ⟨gb, 0, none⟩), fun x _ => x = .string zb.name, fun x _ => x = .bool true, fun x _ => x = .bool true, fun _ _ => True, fun _ _ => True, fun _ _ => True, fun _ _ => True, fun x _ => x = .bool true, fun x _ => x = .bool true, fun x _ => x = .bool true, fun x _ => x = .agg #[.string za.name, .int .i64 8, .int .i64 0, .int .i64 0, .string ⟨#[]⟩], fun x _ => x = .agg #[.string za.name, .int .i64 za.op, .int .i64 za.k, .int .i64 za.n, .string za.s], fun x _ => x = .bool (za.op == 8), fun x _ => x = .pointer (some ⟨ga, 1, none⟩), fun x _ => x = .int .i64 za.op, fun x _ => x = .bool (za.op == 8), fun x _ => x = .bool true, fun x _ => x = .bool true, fun x _ => x = .bool true] (by kernel_rfl) (by kernel_rfl) (by kernel_rfl) ?_ ?_ ?_
    · simp only [List.forall_mem_cons]
      refine ⟨?_, ?_, ?_, ?_, ?_, ?_, ?_, ?_, ?_, ?_, ?_, ?_, ?_, ?_, ?_, ?_, ?_, ?_, ?_, ?_, ?_, ?_, ?_, ?_, ?_, ?_, ?_, ?_, ?_, by simp⟩
      all_goals (intro x W W' h hb; first | exact h | exact PM.BS.keep hb h | exact PM.OW.keep hb h)
    · refine ⟨?_, ?_, ?_, ?_, ?_, ?_, ?_, ?_, ?_, ?_, ?_, ?_, ?_, ?_, ?_, ?_, ?_, ?_, ?_, ?_, ?_, ?_, ?_, ?_, ?_, ?_, ?_, ?_, ?_, trivial⟩
      all_goals
        intro a W hB hF hd
        have k2 := hF 2 rfl
        have k3 := hF 3 rfl
        have k5 := hF 5 rfl
        have k6 := hF 6 rfl
        have kga' := kgah.out.keep hB
        have a0 : W.cell? ⟨ga, 0, none⟩ = some (.string za.name) := kga'.cell 0
        have a1 : W.cell? ⟨ga, 1, none⟩ = some (.int .i64 za.op) := kga'.cell 1
        have a2 : W.cell? ⟨ga, 2, none⟩ = some (.int .i64 za.k) := kga'.cell 2
        have a3 : W.cell? ⟨ga, 3, none⟩ = some (.int .i64 za.n) := kga'.cell 3
        have a4 : W.cell? ⟨ga, 4, none⟩ = some (.string za.s) := kga'.cell 4
        have kgb' := kgbh.out.keep hB
        have b0 : W.cell? ⟨gb, 0, none⟩ = some (.string zb.name) := kgb'.cell 0
        have b1 : W.cell? ⟨gb, 1, none⟩ = some (.int .i64 zb.op) := kgb'.cell 1
        have b2 : W.cell? ⟨gb, 2, none⟩ = some (.int .i64 zb.k) := kgb'.cell 2
        have b3 : W.cell? ⟨gb, 3, none⟩ = some (.int .i64 zb.n) := kgb'.cell 3
        have b4 : W.cell? ⟨gb, 4, none⟩ = some (.string zb.s) := kgb'.cell 4
        have kgi' := kgih.out.keep hB
        have c0 : W.cell? ⟨gi, 0, none⟩ = some (.string za.name) := kgi'.cell 0
        have c1 : W.cell? ⟨gi, 1, none⟩ = some (.int .i64 8) := kgi'.cell 1
        have c2 : W.cell? ⟨gi, 2, none⟩ = some (.int .i64 0) := kgi'.cell 2
        have c3 : W.cell? ⟨gi, 3, none⟩ = some (.int .i64 0) := kgi'.cell 3
        have c4 : W.cell? ⟨gi, 4, none⟩ = some (.string ⟨#[]⟩) := kgi'.cell 4
        have hn := hn0.out
        clear hF
        simp [PM.depsL, PM.spec, PM.sl, Region.binds] at hd k2 k3 k5 k6
        simp only [PM.wantL, PM.spec]
        try simp only [PM.sl]
        go_simp
      all_goals try exact Below.refl _ _
      · refine (implies_any za ⟨za.name, 8, 0, 0, ⟨#[]⟩⟩ W).mono ?_
        rw [hi1.out]
        rintro e w' ⟨rfl, hb⟩
        exact ⟨hb, rfl⟩
      · refine (implies_any ⟨za.name, 8, 0, 0, ⟨#[]⟩⟩ za W).mono ?_
        rw [hi2.out]
        rintro e w' ⟨rfl, hb⟩
        exact ⟨hb, rfl⟩
    · intro G W hB hF hS
      have h4 : G 4 = .bool true := by simp [PM.allSp, PM.spec] at hS; simp [hS]
      rw [show ((List.range (Array.size _)).map G).toArray = #[G 0, G 1, G 2, G 3, G 4, G 5, G 6, G 7, G 8, G 9, G 10, G 11, G 12, G 13, G 14, G 15, G 16, G 17, G 18, G 19, G 20, G 21, G 22, G 23, G 24, G 25, G 26, G 27, G 28, G 29, G 30, G 31, G 32, G 33, G 34, G 35, G 36, G 37, G 38, G 39, G 40, G 41, G 42, G 43, G 44, G 45, G 46, G 47, G 48, G 49, G 50, G 51] from rfl]
      clear hF hS
      go_wp2
      go_ret
      exact ⟨by simp [h4], PM.chain hBB.out hB⟩
  · have hn0 : Hid ((za.name.toList == zb.name.toList) = false) := PM.hid (by simpa using fun h => hne (PM.toList_inj h))
    have hi3 : Hid (PM.impB za zb = false) := PM.hid (decide_eq_false fun h => hne (PM.impP_name h))
    clear hne
    refine PM.wp_region_st [some 24, some 25, some 26, some 27, some 28, some 29, some 30, some 31, some 32, some 33, some 34, some 35, some 36, some 37, some 38, some 39, some 40, some 41, some 42, some 43, some 44, some 45, some 46, some 47, some 48, some 49, some 50, some 51, some 4] [fun x _ => x = .bool true, fun x _ => x = .bool true, fun x _ => x = .agg #[.string za.name, .int .i64 za.op, .int .i64 za.k, .int .i64 za.n, .string za.s], fun x _ => x = .agg #[.string za.name, .int .i64 8, .int .i64 0, .int .i64 0, .string ⟨#[]⟩], fun x _ => x = .bool true, fun x _ => x = .bool true, fun x _ => x = .bool true, fun x _ => x = .pointer (some ⟨ga, 0, none⟩), fun x _ => x = .string za.name, fun x _ => x = .pointer (some ⟨gb, 0, none⟩), fun x _ => x = .string zb.name, fun x _ => x = .bool false, fun x _ => x = .bool false, fun x _ => x = .agg #[.string za.name, .int .i64 za.op, .int .i64 za.k, .int .i64 za.n, .string za.s], fun x _ => x = .agg #[.string zb.name, .int .i64 zb.op, .int .i64 zb.k, .int .i64 zb.n, .string zb.s], fun x _ => x = .bool false, fun x _ => x = .bool true, fun x _ => x = .bool true, fun x _ => x = .bool true, fun x _ => x = .bool true, fun x _ => x = .agg #[.string za.name, .int .i64 8, .int .i64 0, .int .i64 0, .string ⟨#[]⟩], fun x _ => x = .agg #[.string za.name, .int .i64 za.op, .int .i64 za.k, .int .i64 za.n, .string za.s], fun x _ => x = .bool (za.op == 8), fun x _ => x = .pointer (some ⟨ga, 1, none⟩), fun x _ => x = .int .i64 za.op, fun x _ => x = .bool (za.op == 8), fun x _ => x = .bool true, fun x _ => x = .bool true, fun x _ => x = .bool true] (by kernel_rfl) (by kernel_rfl) (by kernel_rfl) ?_ ?_ ?_
    · simp only [List.forall_mem_cons]
      refine ⟨?_, ?_, ?_, ?_, ?_, ?_, ?_, ?_, ?_, ?_, ?_, ?_, ?_, ?_, ?_, ?_, ?_, ?_, ?_, ?_, ?_, ?_, ?_, ?_, ?_, ?_, ?_, ?_, ?_, by simp⟩
      all_goals (intro x W W' h hb; first | exact h | exact PM.BS.keep hb h | exact PM.OW.keep hb h)
    · refine ⟨?_, ?_, ?_, ?_, ?_, ?_, ?_, ?_, ?_, ?_, ?_, ?_, ?_, ?_, ?_, ?_, ?_, ?_, ?_, ?_, ?_, ?_, ?_, ?_, ?_, ?_, ?_, ?_, ?_, trivial⟩
      all_goals
        intro a W hB hF hd
        have k2 := hF 2 rfl
        have k3 := hF 3 rfl
        have k5 := hF 5 rfl
        have k6 := hF 6 rfl
        have kga' := kgah.out.keep hB
        have a0 : W.cell? ⟨ga, 0, none⟩ = some (.string za.name) := kga'.cell 0
        have a1 : W.cell? ⟨ga, 1, none⟩ = some (.int .i64 za.op) := kga'.cell 1
        have a2 : W.cell? ⟨ga, 2, none⟩ = some (.int .i64 za.k) := kga'.cell 2
        have a3 : W.cell? ⟨ga, 3, none⟩ = some (.int .i64 za.n) := kga'.cell 3
        have a4 : W.cell? ⟨ga, 4, none⟩ = some (.string za.s) := kga'.cell 4
        have kgb' := kgbh.out.keep hB
        have b0 : W.cell? ⟨gb, 0, none⟩ = some (.string zb.name) := kgb'.cell 0
        have b1 : W.cell? ⟨gb, 1, none⟩ = some (.int .i64 zb.op) := kgb'.cell 1
        have b2 : W.cell? ⟨gb, 2, none⟩ = some (.int .i64 zb.k) := kgb'.cell 2
        have b3 : W.cell? ⟨gb, 3, none⟩ = some (.int .i64 zb.n) := kgb'.cell 3
        have b4 : W.cell? ⟨gb, 4, none⟩ = some (.string zb.s) := kgb'.cell 4
        have kgi' := kgih.out.keep hB
        have c0 : W.cell? ⟨gi, 0, none⟩ = some (.string za.name) := kgi'.cell 0
        have c1 : W.cell? ⟨gi, 1, none⟩ = some (.int .i64 8) := kgi'.cell 1
        have c2 : W.cell? ⟨gi, 2, none⟩ = some (.int .i64 0) := kgi'.cell 2
        have c3 : W.cell? ⟨gi, 3, none⟩ = some (.int .i64 0) := kgi'.cell 3
        have c4 : W.cell? ⟨gi, 4, none⟩ = some (.string ⟨#[]⟩) := kgi'.cell 4
        have hn := hn0.out
        clear hF
        simp [PM.depsL, PM.spec, PM.sl, Region.binds] at hd k2 k3 k5 k6
        simp only [PM.wantL, PM.spec]
        try simp only [PM.sl]
        go_simp
      all_goals try exact Below.refl _ _
      · refine (implies_any za ⟨za.name, 8, 0, 0, ⟨#[]⟩⟩ W).mono ?_
        rw [hi1.out]
        rintro e w' ⟨rfl, hb⟩
        exact ⟨hb, rfl⟩
      · refine (implies_any za zb W).mono ?_
        rw [hi3.out]
        rintro e w' ⟨rfl, hb⟩
        exact ⟨hb, rfl⟩
      · refine (implies_any ⟨za.name, 8, 0, 0, ⟨#[]⟩⟩ za W).mono ?_
        rw [hi2.out]
        rintro e w' ⟨rfl, hb⟩
        exact ⟨hb, rfl⟩
    · intro G W hB hF hS
      have h4 : G 4 = .bool true := by simp [PM.allSp, PM.spec] at hS; simp [hS]
      rw [show ((List.range (Array.size _)).map G).toArray = #[G 0, G 1, G 2, G 3, G 4, G 5, G 6, G 7, G 8, G 9, G 10, G 11, G 12, G 13, G 14, G 15, G 16, G 17, G 18, G 19, G 20, G 21, G 22, G 23, G 24, G 25, G 26, G 27, G 28, G 29, G 30, G 31, G 32, G 33, G 34, G 35, G 36, G 37, G 38, G 39, G 40, G 41, G 42, G 43, G 44, G 45, G 46, G 47, G 48, G 49, G 50, G 51] from rfl]
      clear hF hS
      go_wp2
      go_ret
      exact ⟨by simp [h4], PM.chain hBB.out hB⟩
end Go.Proofs.Ytbpajgejfnjaeaa
