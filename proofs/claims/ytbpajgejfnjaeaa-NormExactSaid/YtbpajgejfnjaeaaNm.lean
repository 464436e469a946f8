/-
  THE WALKS OF LAYER 6's STATEMENTS: exact, sound, chain.
-/
import Derived.Test.YtbpajgejfnjaeaaNl
import Derived.Test.YtbpajgejfnjaeaaIe
namespace Go.Proofs.Ytbpajgejfnjaeaa
open Go.RowKit
set_option linter.unusedVariables false
set_option linter.unusedSimpArgs false
namespace PM
theorem chkP_may {es : List At} (h : chkP es) {x : At} (hx : x ∈ es) : may x.k x.n x.s.data.toList = true := by
  obtain ⟨i, hi⟩ := List.mem_iff_getElem?.1 hx
  have := (h.2.2 i (List.getElem?_eq_some_iff.1 hi).1 x hi).1
  unfold atOk at this
  simp only [Bool.and_eq_true] at this
  exact this.2
theorem impP_holds {a b : Te} (ha : teOk a = true) (hb : teOk b = true) {es : List At} (he : ∀ x ∈ es, may x.k x.n x.s.data.toList = true) (hi : impP a b) (h : holdsB a es = true) : holdsB b es = true := by
  unfold holdsB at *
  rw [← impP_name hi]
  cases hf : es.find? (fun x => x.name.toList == a.name.toList) with
  | none => rw [hf] at h; exact h
  | some x =>
    rw [hf] at h
    exact impP_sound ha hb (he x (List.mem_of_find?_eq_some hf)) hi h
end PM
set_option maxRecDepth 100000 in
set_option maxHeartbeats 4000000 in
theorem normExact_walk (k n : Int) (s : ByteArray) (z : PM.Te) (wf0 : (Lit.int .i64 k).wf = true) (wf1 : (Lit.int .i64 n).wf = true) (wf2 : s.size ≤ maxLen) (hz : z.wf) (w : World) :
    Calls Try.prog 7 #[.agg #[.int .i64 k, .int .i64 n, .string s], .agg #[.string z.name, .int .i64 z.op, .int .i64 z.k, .int .i64 z.n, .string z.s]] w fun e w' => e = .returned (.bool true) ∧ Below w.heap.size w w' := by
  clear wf0 wf1 wf2 hz
  obtain ⟨ga, hga⟩ : ∃ g, g = w.heap.size := ⟨_, rfl⟩
  obtain ⟨wb0, hwb0⟩ : ∃ W, W = w.alloc (.cells #[.int .i64 k, .int .i64 n, .string s] 23) := ⟨_, rfl⟩
  have swb0 : wb0.heap.size = w.heap.size + 1 := by rw [hwb0]; simp
  have kga : PM.BK wb0 ga #[.int .i64 k, .int .i64 n, .string s] 23 := by rw [hwb0, hga]; exact PM.BK.new _ _ _
  have aga : Below w.heap.size w wb0 := by rw [hwb0]; exact (Below.refl _ _).alloc (Nat.le_refl _) _
  obtain ⟨gb, hgb⟩ : ∃ g, g = w.heap.size + 1 := ⟨_, rfl⟩
  obtain ⟨wb1, hwb1⟩ : ∃ W, W = wb0.alloc (.cells #[.string z.name, .int .i64 z.op, .int .i64 z.k, .int .i64 z.n, .string z.s] 25) := ⟨_, rfl⟩
  have swb1 : wb1.heap.size = w.heap.size + 2 := by rw [hwb1]; simp; rw [swb0]
  have kgb : PM.BK wb1 gb #[.string z.name, .int .i64 z.op, .int .i64 z.k, .int .i64 z.n, .string z.s] 25 := by rw [hwb1, hgb, ← swb0]; exact PM.BK.new _ _ _
  have agb : Below wb0.heap.size wb0 wb1 := by rw [hwb1]; exact (Below.refl _ _).alloc (Nat.le_refl _) _
  replace kga := kga.keep agb
  have hBB := PM.hid (PM.chain aga agb)
  clear swb0 aga swb1 agb
  go_enter Try.func7, Try.ntmps7
  go_upto_region 1 with fail
  rw [← hwb0, ← hwb1, ← hgb, ← hga]
  clear hwb0 hga hwb1 hgb
  have ga_0 : wb1.cell? ⟨ga, 0, none⟩ = some (.int .i64 k) := kga.cell 0
  have ga_1 : wb1.cell? ⟨ga, 1, none⟩ = some (.int .i64 n) := kga.cell 1
  have ga_2 : wb1.cell? ⟨ga, 2, none⟩ = some (.string s) := kga.cell 2
  have gb_0 : wb1.cell? ⟨gb, 0, none⟩ = some (.string z.name) := kgb.cell 0
  have gb_1 : wb1.cell? ⟨gb, 1, none⟩ = some (.int .i64 z.op) := kgb.cell 1
  have gb_2 : wb1.cell? ⟨gb, 2, none⟩ = some (.int .i64 z.k) := kgb.cell 2
  have gb_3 : wb1.cell? ⟨gb, 3, none⟩ = some (.int .i64 z.n) := kgb.cell 3
  have gb_4 : wb1.cell? ⟨gb, 4, none⟩ = some (.string z.s) := kgb.cell 4
  go_wp2_with fail
  refine (awake6 _).mono ?_
  rintro e wn1 ⟨rfl, hBn⟩
  clear ga_0 ga_1 ga_2 gb_0 gb_1 gb_2 gb_3 gb_4
  replace kga := kga.keep hBn
  replace kgb := kgb.keep hBn
  replace hBB := PM.hid (PM.chain hBB.out hBn)
  clear hBn
  have ga_0 : wn1.cell? ⟨ga, 0, none⟩ = some (.int .i64 k) := kga.cell 0
  have ga_1 : wn1.cell? ⟨ga, 1, none⟩ = some (.int .i64 n) := kga.cell 1
  have ga_2 : wn1.cell? ⟨ga, 2, none⟩ = some (.string s) := kga.cell 2
  have gb_0 : wn1.cell? ⟨gb, 0, none⟩ = some (.string z.name) := kgb.cell 0
  have gb_1 : wn1.cell? ⟨gb, 1, none⟩ = some (.int .i64 z.op) := kgb.cell 1
  have gb_2 : wn1.cell? ⟨gb, 2, none⟩ = some (.int .i64 z.k) := kgb.cell 2
  have gb_3 : wn1.cell? ⟨gb, 3, none⟩ = some (.int .i64 z.n) := kgb.cell 3
  have gb_4 : wn1.cell? ⟨gb, 4, none⟩ = some (.string z.s) := kgb.cell 4
  go_wp2_with fail
  refine (ffew_any _ [z] _ (PM.EM.lits' PM.teL_len wn1 25 [z] 1 rfl (by simp [maxLen]) #[.string z.name, .int .i64 z.op, .int .i64 z.k, .int .i64 z.n, .string z.s] rfl)).mono ?_
  rintro e wf ⟨hF, rfl⟩
  obtain ⟨wc2, hwc⟩ : ∃ W, W = wn1.alloc (.cells #[.string z.name, .int .i64 z.op, .int .i64 z.k, .int .i64 z.n, .string z.s] 25) := ⟨_, rfl⟩
  have hal : Below wn1.heap.size wn1 wc2 := by rw [hwc]; exact (Below.refl _ _).alloc (Nat.le_refl _) _
  rw [← hwc]
  clear ga_0 ga_1 ga_2 gb_0 gb_1 gb_2 gb_3 gb_4
  replace kga := kga.keep hal
  replace kgb := kgb.keep hal
  replace hBB := PM.hid (PM.chain hBB.out hal)
  clear hwc hal
  rcases hF with ⟨rfl, hF⟩ | ⟨rfl, hF⟩
  case inr =>
    clear kga kgb hF
    go_wp2_with fail
    go_ret
    exact ⟨by first | rfl | simp, hBB.out⟩
  clear hF
  by_cases h100 : 100 < s.size
  case pos =>
    have hd : decide ((100 : Int) < (s.size : Int)) = true := by simp; omega
    have ga_0 : wc2.cell? ⟨ga, 0, none⟩ = some (.int .i64 k) := kga.cell 0
    have ga_1 : wc2.cell? ⟨ga, 1, none⟩ = some (.int .i64 n) := kga.cell 1
    have ga_2 : wc2.cell? ⟨ga, 2, none⟩ = some (.string s) := kga.cell 2
    have gb_0 : wc2.cell? ⟨gb, 0, none⟩ = some (.string z.name) := kgb.cell 0
    have gb_1 : wc2.cell? ⟨gb, 1, none⟩ = some (.int .i64 z.op) := kgb.cell 1
    have gb_2 : wc2.cell? ⟨gb, 2, none⟩ = some (.int .i64 z.k) := kgb.cell 2
    have gb_3 : wc2.cell? ⟨gb, 3, none⟩ = some (.int .i64 z.n) := kgb.cell 3
    have gb_4 : wc2.cell? ⟨gb, 4, none⟩ = some (.string z.s) := kgb.cell 4
    clear kga kgb h100
    go_wp2_with fail
    go_ret
    exact ⟨by first | rfl | simp, hBB.out⟩
  have hd : decide ((100 : Int) < (s.size : Int)) = false := by simp; omega
  cases hm : PM.may k n s.data.toList
  case false =>
    have ga_0 : wc2.cell? ⟨ga, 0, none⟩ = some (.int .i64 k) := kga.cell 0
    have ga_1 : wc2.cell? ⟨ga, 1, none⟩ = some (.int .i64 n) := kga.cell 1
    have ga_2 : wc2.cell? ⟨ga, 2, none⟩ = some (.string s) := kga.cell 2
    have gb_0 : wc2.cell? ⟨gb, 0, none⟩ = some (.string z.name) := kgb.cell 0
    have gb_1 : wc2.cell? ⟨gb, 1, none⟩ = some (.int .i64 z.op) := kgb.cell 1
    have gb_2 : wc2.cell? ⟨gb, 2, none⟩ = some (.int .i64 z.k) := kgb.cell 2
    have gb_3 : wc2.cell? ⟨gb, 3, none⟩ = some (.int .i64 z.n) := kgb.cell 3
    have gb_4 : wc2.cell? ⟨gb, 4, none⟩ = some (.string z.s) := kgb.cell 4
    go_wp2_with fail
    refine (vcheck_any k n s _).mono ?_
    rintro e wn3 ⟨rfl, hBn⟩
    rw [PM.mayE_no hm]
    clear ga_0 ga_1 ga_2 gb_0 gb_1 gb_2 gb_3 gb_4
    replace kga := kga.keep hBn
    replace kgb := kgb.keep hBn
    replace hBB := PM.hid (PM.chain hBB.out hBn)
    clear hBn
    clear kga kgb hm hd
    go_wp2_with fail
    go_ret
    exact ⟨by first | rfl | simp, hBB.out⟩
  have ga_0 : wc2.cell? ⟨ga, 0, none⟩ = some (.int .i64 k) := kga.cell 0
  have ga_1 : wc2.cell? ⟨ga, 1, none⟩ = some (.int .i64 n) := kga.cell 1
  have ga_2 : wc2.cell? ⟨ga, 2, none⟩ = some (.string s) := kga.cell 2
  have gb_0 : wc2.cell? ⟨gb, 0, none⟩ = some (.string z.name) := kgb.cell 0
  have gb_1 : wc2.cell? ⟨gb, 1, none⟩ = some (.int .i64 z.op) := kgb.cell 1
  have gb_2 : wc2.cell? ⟨gb, 2, none⟩ = some (.int .i64 z.k) := kgb.cell 2
  have gb_3 : wc2.cell? ⟨gb, 3, none⟩ = some (.int .i64 z.n) := kgb.cell 3
  have gb_4 : wc2.cell? ⟨gb, 4, none⟩ = some (.string z.s) := kgb.cell 4
  go_wp2_with fail
  refine (vcheck_any k n s _).mono ?_
  rintro e wn4 ⟨rfl, hBn⟩
  rw [PM.mayE_yes hm]
  clear ga_0 ga_1 ga_2 gb_0 gb_1 gb_2 gb_3 gb_4
  replace kga := kga.keep hBn
  replace kgb := kgb.keep hBn
  replace hBB := PM.hid (PM.chain hBB.out hBn)
  clear hBn
  cases hz1 : PM.teOk z
  case false =>
    have ga_0 : wn4.cell? ⟨ga, 0, none⟩ = some (.int .i64 k) := kga.cell 0
    have ga_1 : wn4.cell? ⟨ga, 1, none⟩ = some (.int .i64 n) := kga.cell 1
    have ga_2 : wn4.cell? ⟨ga, 2, none⟩ = some (.string s) := kga.cell 2
    have gb_0 : wn4.cell? ⟨gb, 0, none⟩ = some (.string z.name) := kgb.cell 0
    have gb_1 : wn4.cell? ⟨gb, 1, none⟩ = some (.int .i64 z.op) := kgb.cell 1
    have gb_2 : wn4.cell? ⟨gb, 2, none⟩ = some (.int .i64 z.k) := kgb.cell 2
    have gb_3 : wn4.cell? ⟨gb, 3, none⟩ = some (.int .i64 z.n) := kgb.cell 3
    have gb_4 : wn4.cell? ⟨gb, 4, none⟩ = some (.string z.s) := kgb.cell 4
    go_wp2_with fail
    refine (one_any z _).mono ?_
    rintro e wn5 ⟨rfl, hBn⟩
    rw [PM.teE_no hz1]
    clear ga_0 ga_1 ga_2 gb_0 gb_1 gb_2 gb_3 gb_4
    replace kga := kga.keep hBn
    replace kgb := kgb.keep hBn
    replace hBB := PM.hid (PM.chain hBB.out hBn)
    clear hBn
    clear kga kgb hm hd hz1
    go_wp2_with fail
    go_ret
    exact ⟨by first | rfl | simp, hBB.out⟩
  have ga_0 : wn4.cell? ⟨ga, 0, none⟩ = some (.int .i64 k) := kga.cell 0
  have ga_1 : wn4.cell? ⟨ga, 1, none⟩ = some (.int .i64 n) := kga.cell 1
  have ga_2 : wn4.cell? ⟨ga, 2, none⟩ = some (.string s) := kga.cell 2
  have gb_0 : wn4.cell? ⟨gb, 0, none⟩ = some (.string z.name) := kgb.cell 0
  have gb_1 : wn4.cell? ⟨gb, 1, none⟩ = some (.int .i64 z.op) := kgb.cell 1
  have gb_2 : wn4.cell? ⟨gb, 2, none⟩ = some (.int .i64 z.k) := kgb.cell 2
  have gb_3 : wn4.cell? ⟨gb, 3, none⟩ = some (.int .i64 z.n) := kgb.cell 3
  have gb_4 : wn4.cell? ⟨gb, 4, none⟩ = some (.string z.s) := kgb.cell 4
  go_wp2_with fail
  refine (one_any z _).mono ?_
  rintro e wn6 ⟨rfl, hBn⟩
  rw [PM.teE_yes hz1]
  clear ga_0 ga_1 ga_2 gb_0 gb_1 gb_2 gb_3 gb_4
  replace kga := kga.keep hBn
  replace kgb := kgb.keep hBn
  replace hBB := PM.hid (PM.chain hBB.out hBn)
  clear hBn
  have ga_0 : wn6.cell? ⟨ga, 0, none⟩ = some (.int .i64 k) := kga.cell 0
  have ga_1 : wn6.cell? ⟨ga, 1, none⟩ = some (.int .i64 n) := kga.cell 1
  have ga_2 : wn6.cell? ⟨ga, 2, none⟩ = some (.string s) := kga.cell 2
  have gb_0 : wn6.cell? ⟨gb, 0, none⟩ = some (.string z.name) := kgb.cell 0
  have gb_1 : wn6.cell? ⟨gb, 1, none⟩ = some (.int .i64 z.op) := kgb.cell 1
  have gb_2 : wn6.cell? ⟨gb, 2, none⟩ = some (.int .i64 z.k) := kgb.cell 2
  have gb_3 : wn6.cell? ⟨gb, 3, none⟩ = some (.int .i64 z.n) := kgb.cell 3
  have gb_4 : wn6.cell? ⟨gb, 4, none⟩ = some (.string z.s) := kgb.cell 4
  go_upto_region 5 with fail
  obtain ⟨gi, hgi⟩ : ∃ g, g = wn6.heap.size := ⟨_, rfl⟩
  obtain ⟨we, hwe⟩ : ∃ W, W = wn6.alloc (.cells #[.string z.name, .int .i64 1, .int .i64 k, .int .i64 n, .string s] 25) := ⟨_, rfl⟩
  have kgi : PM.BK we gi #[.string z.name, .int .i64 1, .int .i64 k, .int .i64 n, .string s] 25 := by rw [hwe, hgi]; exact PM.BK.new _ _ _
  have hal : Below wn6.heap.size wn6 we := by rw [hwe]; exact (Below.refl _ _).alloc (Nat.le_refl _) _
  rw [← hwe, ← hgi]
  clear ga_0 ga_1 ga_2 gb_0 gb_1 gb_2 gb_3 gb_4
  replace kga := kga.keep hal
  replace kgb := kgb.keep hal
  replace hBB := PM.hid (PM.chain hBB.out hal)
  clear hwe hgi hal
  have kk := PM.hid (And.intro kga (And.intro kgb kgi))
  clear kga kgb kgi
  have hI : Hid (PM.impB ⟨z.name, 1, k, n, s⟩ z = PM.isB z k n s) := PM.hid (by
    rw [Bool.eq_iff_iff]
    exact decide_eq_true_iff.trans (PM.impP_exact hz1 k n s hm))
  clear hz1 hm hd
  refine PM.wp_region_st [some 33, some 34, some 35, some 36, some 37, some 38, some 39, some 40, some 41, some 42, some 4] [fun x _ => x = .bool true, fun x _ => x = .bool true, fun x _ => x = .agg #[.string z.name, .int .i64 1, .int .i64 k, .int .i64 n, .string s], fun x _ => x = .agg #[.string z.name, .int .i64 z.op, .int .i64 z.k, .int .i64 z.n, .string z.s], fun x _ => x = .bool (PM.isB z k n s), fun x _ => x = .agg #[.string z.name, .int .i64 z.op, .int .i64 z.k, .int .i64 z.n, .string z.s], fun x _ => x = .agg #[.int .i64 k, .int .i64 n, .string s], fun x _ => x = .bool (PM.isB z k n s), fun x _ => x = .bool true, fun x _ => x = .bool true, fun x _ => x = .bool true] (by kernel_rfl) (by kernel_rfl) (by kernel_rfl) ?_ ?_ ?_
  · simp only [List.forall_mem_cons]
    refine ⟨?_, ?_, ?_, ?_, ?_, ?_, ?_, ?_, ?_, ?_, ?_, by simp⟩
    all_goals (intro x W W' h hb; first | exact h | exact PM.BS.keep hb h | exact PM.OW.keep hb h)
  · refine ⟨?_, ?_, ?_, ?_, ?_, ?_, ?_, ?_, ?_, ?_, ?_, trivial⟩
    all_goals
      intro a W hB hF hd
      have k2 := hF 2 rfl
      have k3 := hF 3 rfl
      have k5 := hF 5 rfl
      have k6 := hF 6 rfl
      have ga_0 : W.cell? ⟨ga, 0, none⟩ = some (.int .i64 k) := (kk.out.1.keep hB).cell 0
      have ga_1 : W.cell? ⟨ga, 1, none⟩ = some (.int .i64 n) := (kk.out.1.keep hB).cell 1
      have ga_2 : W.cell? ⟨ga, 2, none⟩ = some (.string s) := (kk.out.1.keep hB).cell 2
      have gb_0 : W.cell? ⟨gb, 0, none⟩ = some (.string z.name) := (kk.out.2.1.keep hB).cell 0
      have gb_1 : W.cell? ⟨gb, 1, none⟩ = some (.int .i64 z.op) := (kk.out.2.1.keep hB).cell 1
      have gb_2 : W.cell? ⟨gb, 2, none⟩ = some (.int .i64 z.k) := (kk.out.2.1.keep hB).cell 2
      have gb_3 : W.cell? ⟨gb, 3, none⟩ = some (.int .i64 z.n) := (kk.out.2.1.keep hB).cell 3
      have gb_4 : W.cell? ⟨gb, 4, none⟩ = some (.string z.s) := (kk.out.2.1.keep hB).cell 4
      have gi_0 : W.cell? ⟨gi, 0, none⟩ = some (.string z.name) := (kk.out.2.2.keep hB).cell 0
      have gi_1 : W.cell? ⟨gi, 1, none⟩ = some (.int .i64 1) := (kk.out.2.2.keep hB).cell 1
      have gi_2 : W.cell? ⟨gi, 2, none⟩ = some (.int .i64 k) := (kk.out.2.2.keep hB).cell 2
      have gi_3 : W.cell? ⟨gi, 3, none⟩ = some (.int .i64 n) := (kk.out.2.2.keep hB).cell 3
      have gi_4 : W.cell? ⟨gi, 4, none⟩ = some (.string s) := (kk.out.2.2.keep hB).cell 4
      clear hF
      simp [PM.depsL, PM.spec, PM.sl, Region.binds] at hd k2 k3 k5 k6
      simp only [PM.wantL, PM.spec]
      try simp only [PM.sl]
      go_simp
    all_goals try exact Below.refl _ _
    · refine (implies_any ⟨z.name, 1, k, n, s⟩ z W).mono ?_
      rw [hI.out]
      rintro e w' ⟨rfl, hb⟩
      exact ⟨hb, rfl⟩
    · refine (is_any z k n s W).mono ?_
      rintro e w' ⟨rfl, hb⟩
      exact ⟨hb, rfl⟩
  · intro G W hB hF hS
    have h4 : G 4 = .bool true := by simp [PM.allSp, PM.spec] at hS; simp [hS]
    rw [show ((List.range (Array.size _)).map G).toArray = #[G 0, G 1, G 2, G 3, G 4, G 5, G 6, G 7, G 8, G 9, G 10, G 11, G 12, G 13, G 14, G 15, G 16, G 17, G 18, G 19, G 20, G 21, G 22, G 23, G 24, G 25, G 26, G 27, G 28, G 29, G 30, G 31, G 32, G 33, G 34, G 35, G 36, G 37, G 38, G 39, G 40, G 41, G 42] from rfl]
    clear hF hS
    go_wp2
    go_ret
    exact ⟨by simp [h4], PM.chain hBB.out hB⟩
set_option maxRecDepth 100000 in
set_option maxHeartbeats 4000000 in
theorem normSound_walk (za zb : PM.Te) (k n : Int) (s : ByteArray) (v : Value) (es : List PM.At) (hza : za.wf) (hzb : zb.wf) (wf0 : (Lit.int .i64 k).wf = true) (wf1 : (Lit.int .i64 n).wf = true) (wf2 : s.size ≤ maxLen) (w : World) (hv : PM.EV w v es) (hws : ∀ x ∈ es, x.wf) :
    Calls Try.prog 3 #[.agg #[.string za.name, .int .i64 za.op, .int .i64 za.k, .int .i64 za.n, .string za.s], .agg #[.string zb.name, .int .i64 zb.op, .int .i64 zb.k, .int .i64 zb.n, .string zb.s], .agg #[.int .i64 k, .int .i64 n, .string s], v] w fun e w' => e = .returned (.bool true) ∧ Below w.heap.size w w' := by
  clear wf0 wf1 wf2 hza hzb hws
  obtain ⟨ga, hga⟩ : ∃ g, g = w.heap.size := ⟨_, rfl⟩
  obtain ⟨wb0, hwb0⟩ : ∃ W, W = w.alloc (.cells #[.string za.name, .int .i64 za.op, .int .i64 za.k, .int .i64 za.n, .string za.s] 25) := ⟨_, rfl⟩
  have swb0 : wb0.heap.size = w.heap.size + 1 := by rw [hwb0]; simp
  have kga : PM.BK wb0 ga #[.string za.name, .int .i64 za.op, .int .i64 za.k, .int .i64 za.n, .string za.s] 25 := by rw [hwb0, hga]; exact PM.BK.new _ _ _
  have aga : Below w.heap.size w wb0 := by rw [hwb0]; exact (Below.refl _ _).alloc (Nat.le_refl _) _
  obtain ⟨gb, hgb⟩ : ∃ g, g = w.heap.size + 1 := ⟨_, rfl⟩
  obtain ⟨wb1, hwb1⟩ : ∃ W, W = wb0.alloc (.cells #[.string zb.name, .int .i64 zb.op, .int .i64 zb.k, .int .i64 zb.n, .string zb.s] 25) := ⟨_, rfl⟩
  have swb1 : wb1.heap.size = w.heap.size + 2 := by rw [hwb1]; simp; rw [swb0]
  have kgb : PM.BK wb1 gb #[.string zb.name, .int .i64 zb.op, .int .i64 zb.k, .int .i64 zb.n, .string zb.s] 25 := by rw [hwb1, hgb, ← swb0]; exact PM.BK.new _ _ _
  have agb : Below wb0.heap.size wb0 wb1 := by rw [hwb1]; exact (Below.refl _ _).alloc (Nat.le_refl _) _
  replace kga := kga.keep agb
  obtain ⟨gc, hgc⟩ : ∃ g, g = w.heap.size + 2 := ⟨_, rfl⟩
  obtain ⟨wb2, hwb2⟩ : ∃ W, W = wb1.alloc (.cells #[.int .i64 k, .int .i64 n, .string s] 23) := ⟨_, rfl⟩
  have swb2 : wb2.heap.size = w.heap.size + 3 := by rw [hwb2]; simp; rw [swb1]
  have kgc : PM.BK wb2 gc #[.int .i64 k, .int .i64 n, .string s] 23 := by rw [hwb2, hgc, ← swb1]; exact PM.BK.new _ _ _
  have agc : Below wb1.heap.size wb1 wb2 := by rw [hwb2]; exact (Below.refl _ _).alloc (Nat.le_refl _) _
  replace kga := kga.keep agc
  replace kgb := kgb.keep agc
  have hBB := PM.hid (PM.chain (PM.chain aga agb) agc)
  clear swb0 aga swb1 agb swb2 agc
  replace hv := hv.keep hBB.out
  go_enter Try.func3, Try.ntmps3
  go_upto_region 1 with fail
  rw [← hwb0, ← hwb1, ← hwb2, ← hgc, ← hgb, ← hga]
  clear hwb0 hga hwb1 hgb hwb2 hgc
  have ga_0 : wb2.cell? ⟨ga, 0, none⟩ = some (.string za.name) := kga.cell 0
  have ga_1 : wb2.cell? ⟨ga, 1, none⟩ = some (.int .i64 za.op) := kga.cell 1
  have ga_2 : wb2.cell? ⟨ga, 2, none⟩ = some (.int .i64 za.k) := kga.cell 2
  have ga_3 : wb2.cell? ⟨ga, 3, none⟩ = some (.int .i64 za.n) := kga.cell 3
  have ga_4 : wb2.cell? ⟨ga, 4, none⟩ = some (.string za.s) := kga.cell 4
  have gb_0 : wb2.cell? ⟨gb, 0, none⟩ = some (.string zb.name) := kgb.cell 0
  have gb_1 : wb2.cell? ⟨gb, 1, none⟩ = some (.int .i64 zb.op) := kgb.cell 1
  have gb_2 : wb2.cell? ⟨gb, 2, none⟩ = some (.int .i64 zb.k) := kgb.cell 2
  have gb_3 : wb2.cell? ⟨gb, 3, none⟩ = some (.int .i64 zb.n) := kgb.cell 3
  have gb_4 : wb2.cell? ⟨gb, 4, none⟩ = some (.string zb.s) := kgb.cell 4
  have gc_0 : wb2.cell? ⟨gc, 0, none⟩ = some (.int .i64 k) := kgc.cell 0
  have gc_1 : wb2.cell? ⟨gc, 1, none⟩ = some (.int .i64 n) := kgc.cell 1
  have gc_2 : wb2.cell? ⟨gc, 2, none⟩ = some (.string s) := kgc.cell 2
  go_wp2_with fail
  refine (awake6 _).mono ?_
  rintro e wn1 ⟨rfl, hBn⟩
  clear ga_0 ga_1 ga_2 ga_3 ga_4 gb_0 gb_1 gb_2 gb_3 gb_4 gc_0 gc_1 gc_2
  replace kga := kga.keep hBn
  replace kgb := kgb.keep hBn
  replace kgc := kgc.keep hBn
  replace hv := hv.keep hBn
  replace hBB := PM.hid (PM.chain hBB.out hBn)
  clear hBn
  have ga_0 : wn1.cell? ⟨ga, 0, none⟩ = some (.string za.name) := kga.cell 0
  have ga_1 : wn1.cell? ⟨ga, 1, none⟩ = some (.int .i64 za.op) := kga.cell 1
  have ga_2 : wn1.cell? ⟨ga, 2, none⟩ = some (.int .i64 za.k) := kga.cell 2
  have ga_3 : wn1.cell? ⟨ga, 3, none⟩ = some (.int .i64 za.n) := kga.cell 3
  have ga_4 : wn1.cell? ⟨ga, 4, none⟩ = some (.string za.s) := kga.cell 4
  have gb_0 : wn1.cell? ⟨gb, 0, none⟩ = some (.string zb.name) := kgb.cell 0
  have gb_1 : wn1.cell? ⟨gb, 1, none⟩ = some (.int .i64 zb.op) := kgb.cell 1
  have gb_2 : wn1.cell? ⟨gb, 2, none⟩ = some (.int .i64 zb.k) := kgb.cell 2
  have gb_3 : wn1.cell? ⟨gb, 3, none⟩ = some (.int .i64 zb.n) := kgb.cell 3
  have gb_4 : wn1.cell? ⟨gb, 4, none⟩ = some (.string zb.s) := kgb.cell 4
  have gc_0 : wn1.cell? ⟨gc, 0, none⟩ = some (.int .i64 k) := kgc.cell 0
  have gc_1 : wn1.cell? ⟨gc, 1, none⟩ = some (.int .i64 n) := kgc.cell 1
  have gc_2 : wn1.cell? ⟨gc, 2, none⟩ = some (.string s) := kgc.cell 2
  go_wp2_with fail
  refine (ffew_any _ [za, zb] _ (PM.EM.lits' PM.teL_len wn1 25 [za, zb] 2 rfl (by simp [maxLen]) #[.string za.name, .int .i64 za.op, .int .i64 za.k, .int .i64 za.n, .string za.s, .string zb.name, .int .i64 zb.op, .int .i64 zb.k, .int .i64 zb.n, .string zb.s] rfl)).mono ?_
  rintro e wf ⟨hF, rfl⟩
  obtain ⟨wc2, hwc⟩ : ∃ W, W = wn1.alloc (.cells #[.string za.name, .int .i64 za.op, .int .i64 za.k, .int .i64 za.n, .string za.s, .string zb.name, .int .i64 zb.op, .int .i64 zb.k, .int .i64 zb.n, .string zb.s] 25) := ⟨_, rfl⟩
  have hal : Below wn1.heap.size wn1 wc2 := by rw [hwc]; exact (Below.refl _ _).alloc (Nat.le_refl _) _
  rw [← hwc]
  clear ga_0 ga_1 ga_2 ga_3 ga_4 gb_0 gb_1 gb_2 gb_3 gb_4 gc_0 gc_1 gc_2
  replace kga := kga.keep hal
  replace kgb := kgb.keep hal
  replace kgc := kgc.keep hal
  replace hv := hv.keep hal
  replace hBB := PM.hid (PM.chain hBB.out hal)
  clear hwc hal
  rcases hF with ⟨rfl, hF⟩ | ⟨rfl, hF⟩
  case inr =>
    clear kga kgb kgc hv hF
    go_wp2_with fail
    go_ret
    exact ⟨by first | rfl | simp, hBB.out⟩
  clear hF
  have ga_0 : wc2.cell? ⟨ga, 0, none⟩ = some (.string za.name) := kga.cell 0
  have ga_1 : wc2.cell? ⟨ga, 1, none⟩ = some (.int .i64 za.op) := kga.cell 1
  have ga_2 : wc2.cell? ⟨ga, 2, none⟩ = some (.int .i64 za.k) := kga.cell 2
  have ga_3 : wc2.cell? ⟨ga, 3, none⟩ = some (.int .i64 za.n) := kga.cell 3
  have ga_4 : wc2.cell? ⟨ga, 4, none⟩ = some (.string za.s) := kga.cell 4
  have gb_0 : wc2.cell? ⟨gb, 0, none⟩ = some (.string zb.name) := kgb.cell 0
  have gb_1 : wc2.cell? ⟨gb, 1, none⟩ = some (.int .i64 zb.op) := kgb.cell 1
  have gb_2 : wc2.cell? ⟨gb, 2, none⟩ = some (.int .i64 zb.k) := kgb.cell 2
  have gb_3 : wc2.cell? ⟨gb, 3, none⟩ = some (.int .i64 zb.n) := kgb.cell 3
  have gb_4 : wc2.cell? ⟨gb, 4, none⟩ = some (.string zb.s) := kgb.cell 4
  have gc_0 : wc2.cell? ⟨gc, 0, none⟩ = some (.int .i64 k) := kgc.cell 0
  have gc_1 : wc2.cell? ⟨gc, 1, none⟩ = some (.int .i64 n) := kgc.cell 1
  have gc_2 : wc2.cell? ⟨gc, 2, none⟩ = some (.string s) := kgc.cell 2
  go_wp2_with fail
  refine (few_any _ es _ hv).mono ?_
  rintro e wf ⟨hF, rfl⟩
  rcases hF with ⟨rfl, hF⟩ | ⟨rfl, hF⟩
  case inr =>
    clear ga_0 ga_1 ga_2 ga_3 ga_4 gb_0 gb_1 gb_2 gb_3 gb_4 gc_0 gc_1 gc_2 kga kgb kgc hv hF
    go_wp2_with fail
    go_ret
    exact ⟨by first | rfl | simp, hBB.out⟩
  clear hF
  by_cases h100 : 100 < s.size
  case pos =>
    have hd : decide ((100 : Int) < (s.size : Int)) = true := by simp; omega
    clear kga kgb kgc hv h100
    go_wp2_with fail
    go_ret
    exact ⟨by first | rfl | simp, hBB.out⟩
  have hd : decide ((100 : Int) < (s.size : Int)) = false := by simp; omega
  by_cases hch : PM.filP [za, zb]
  case neg =>
    go_wp2_with fail
    refine (fcheck_any _ [za, zb] _ (PM.EM.lits' PM.teL_len wf 25 [za, zb] 2 rfl (by simp [maxLen]) #[.string za.name, .int .i64 za.op, .int .i64 za.k, .int .i64 za.n, .string za.s, .string zb.name, .int .i64 zb.op, .int .i64 zb.k, .int .i64 zb.n, .string zb.s] rfl)).mono ?_
    rintro e wn3 ⟨rfl, hBn⟩
    rw [PM.filE_no hch]
    have hal : Below wf.heap.size wf wn3 := PM.chain ((Below.refl _ wf).alloc (Nat.le_refl _) _) hBn
    clear ga_0 ga_1 ga_2 ga_3 ga_4 gb_0 gb_1 gb_2 gb_3 gb_4 gc_0 gc_1 gc_2
    replace kga := kga.keep hal
    replace kgb := kgb.keep hal
    replace kgc := kgc.keep hal
    replace hv := hv.keep hal
    replace hBB := PM.hid (PM.chain hBB.out hal)
    clear kga kgb kgc hv hch hBn hal
    go_wp2_with fail
    go_ret
    exact ⟨by first | rfl | simp, hBB.out⟩
  go_wp2_with fail
  refine (fcheck_any _ [za, zb] _ (PM.EM.lits' PM.teL_len wf 25 [za, zb] 2 rfl (by simp [maxLen]) #[.string za.name, .int .i64 za.op, .int .i64 za.k, .int .i64 za.n, .string za.s, .string zb.name, .int .i64 zb.op, .int .i64 zb.k, .int .i64 zb.n, .string zb.s] rfl)).mono ?_
  rintro e wn3 ⟨rfl, hBn⟩
  rw [PM.filE_yes hch]
  have hal : Below wf.heap.size wf wn3 := PM.chain ((Below.refl _ wf).alloc (Nat.le_refl _) _) hBn
  clear ga_0 ga_1 ga_2 ga_3 ga_4 gb_0 gb_1 gb_2 gb_3 gb_4 gc_0 gc_1 gc_2
  replace kga := kga.keep hal
  replace kgb := kgb.keep hal
  replace kgc := kgc.keep hal
  replace hv := hv.keep hal
  replace hBB := PM.hid (PM.chain hBB.out hal)
  clear hBn hal
  have hab := PM.hid (And.intro (hch.2 za (by simp)) (hch.2 zb (by simp)))
  clear hch
  cases hm : PM.may k n s.data.toList
  case false =>
    have ga_0 : wn3.cell? ⟨ga, 0, none⟩ = some (.string za.name) := kga.cell 0
    have ga_1 : wn3.cell? ⟨ga, 1, none⟩ = some (.int .i64 za.op) := kga.cell 1
    have ga_2 : wn3.cell? ⟨ga, 2, none⟩ = some (.int .i64 za.k) := kga.cell 2
    have ga_3 : wn3.cell? ⟨ga, 3, none⟩ = some (.int .i64 za.n) := kga.cell 3
    have ga_4 : wn3.cell? ⟨ga, 4, none⟩ = some (.string za.s) := kga.cell 4
    have gb_0 : wn3.cell? ⟨gb, 0, none⟩ = some (.string zb.name) := kgb.cell 0
    have gb_1 : wn3.cell? ⟨gb, 1, none⟩ = some (.int .i64 zb.op) := kgb.cell 1
    have gb_2 : wn3.cell? ⟨gb, 2, none⟩ = some (.int .i64 zb.k) := kgb.cell 2
    have gb_3 : wn3.cell? ⟨gb, 3, none⟩ = some (.int .i64 zb.n) := kgb.cell 3
    have gb_4 : wn3.cell? ⟨gb, 4, none⟩ = some (.string zb.s) := kgb.cell 4
    have gc_0 : wn3.cell? ⟨gc, 0, none⟩ = some (.int .i64 k) := kgc.cell 0
    have gc_1 : wn3.cell? ⟨gc, 1, none⟩ = some (.int .i64 n) := kgc.cell 1
    have gc_2 : wn3.cell? ⟨gc, 2, none⟩ = some (.string s) := kgc.cell 2
    go_wp2_with fail
    refine (vcheck_any k n s _).mono ?_
    rintro e wn4 ⟨rfl, hBn⟩
    rw [PM.mayE_no hm]
    clear ga_0 ga_1 ga_2 ga_3 ga_4 gb_0 gb_1 gb_2 gb_3 gb_4 gc_0 gc_1 gc_2
    replace kga := kga.keep hBn
    replace kgb := kgb.keep hBn
    replace kgc := kgc.keep hBn
    replace hv := hv.keep hBn
    replace hBB := PM.hid (PM.chain hBB.out hBn)
    clear hBn
    clear kga kgb kgc hv hm hd
    go_wp2_with fail
    go_ret
    exact ⟨by first | rfl | simp, hBB.out⟩
  have ga_0 : wn3.cell? ⟨ga, 0, none⟩ = some (.string za.name) := kga.cell 0
  have ga_1 : wn3.cell? ⟨ga, 1, none⟩ = some (.int .i64 za.op) := kga.cell 1
  have ga_2 : wn3.cell? ⟨ga, 2, none⟩ = some (.int .i64 za.k) := kga.cell 2
  have ga_3 : wn3.cell? ⟨ga, 3, none⟩ = some (.int .i64 za.n) := kga.cell 3
  have ga_4 : wn3.cell? ⟨ga, 4, none⟩ = some (.string za.s) := kga.cell 4
  have gb_0 : wn3.cell? ⟨gb, 0, none⟩ = some (.string zb.name) := kgb.cell 0
  have gb_1 : wn3.cell? ⟨gb, 1, none⟩ = some (.int .i64 zb.op) := kgb.cell 1
  have gb_2 : wn3.cell? ⟨gb, 2, none⟩ = some (.int .i64 zb.k) := kgb.cell 2
  have gb_3 : wn3.cell? ⟨gb, 3, none⟩ = some (.int .i64 zb.n) := kgb.cell 3
  have gb_4 : wn3.cell? ⟨gb, 4, none⟩ = some (.string zb.s) := kgb.cell 4
  have gc_0 : wn3.cell? ⟨gc, 0, none⟩ = some (.int .i64 k) := kgc.cell 0
  have gc_1 : wn3.cell? ⟨gc, 1, none⟩ = some (.int .i64 n) := kgc.cell 1
  have gc_2 : wn3.cell? ⟨gc, 2, none⟩ = some (.string s) := kgc.cell 2
  go_wp2_with fail
  refine (vcheck_any k n s _).mono ?_
  rintro e wn5 ⟨rfl, hBn⟩
  rw [PM.mayE_yes hm]
  clear ga_0 ga_1 ga_2 ga_3 ga_4 gb_0 gb_1 gb_2 gb_3 gb_4 gc_0 gc_1 gc_2
  replace kga := kga.keep hBn
  replace kgb := kgb.keep hBn
  replace kgc := kgc.keep hBn
  replace hv := hv.keep hBn
  replace hBB := PM.hid (PM.chain hBB.out hBn)
  clear hBn
  have hmh := PM.hid hm
  clear hm
  by_cases he : PM.chkP es
  case neg =>
    have ga_0 : wn5.cell? ⟨ga, 0, none⟩ = some (.string za.name) := kga.cell 0
    have ga_1 : wn5.cell? ⟨ga, 1, none⟩ = some (.int .i64 za.op) := kga.cell 1
    have ga_2 : wn5.cell? ⟨ga, 2, none⟩ = some (.int .i64 za.k) := kga.cell 2
    have ga_3 : wn5.cell? ⟨ga, 3, none⟩ = some (.int .i64 za.n) := kga.cell 3
    have ga_4 : wn5.cell? ⟨ga, 4, none⟩ = some (.string za.s) := kga.cell 4
    have gb_0 : wn5.cell? ⟨gb, 0, none⟩ = some (.string zb.name) := kgb.cell 0
    have gb_1 : wn5.cell? ⟨gb, 1, none⟩ = some (.int .i64 zb.op) := kgb.cell 1
    have gb_2 : wn5.cell? ⟨gb, 2, none⟩ = some (.int .i64 zb.k) := kgb.cell 2
    have gb_3 : wn5.cell? ⟨gb, 3, none⟩ = some (.int .i64 zb.n) := kgb.cell 3
    have gb_4 : wn5.cell? ⟨gb, 4, none⟩ = some (.string zb.s) := kgb.cell 4
    have gc_0 : wn5.cell? ⟨gc, 0, none⟩ = some (.int .i64 k) := kgc.cell 0
    have gc_1 : wn5.cell? ⟨gc, 1, none⟩ = some (.int .i64 n) := kgc.cell 1
    have gc_2 : wn5.cell? ⟨gc, 2, none⟩ = some (.string s) := kgc.cell 2
    go_wp2_with fail
    refine (echeck_any _ es _ hv).mono ?_
    rintro e wn6 ⟨rfl, hBn⟩
    rw [PM.chk_no he]
    clear ga_0 ga_1 ga_2 ga_3 ga_4 gb_0 gb_1 gb_2 gb_3 gb_4 gc_0 gc_1 gc_2
    replace kga := kga.keep hBn
    replace kgb := kgb.keep hBn
    replace kgc := kgc.keep hBn
    replace hv := hv.keep hBn
    replace hBB := PM.hid (PM.chain hBB.out hBn)
    clear hBn
    clear kga kgb kgc hv he hd
    go_wp2_with fail
    go_ret
    exact ⟨by first | rfl | simp, hBB.out⟩
  have ga_0 : wn5.cell? ⟨ga, 0, none⟩ = some (.string za.name) := kga.cell 0
  have ga_1 : wn5.cell? ⟨ga, 1, none⟩ = some (.int .i64 za.op) := kga.cell 1
  have ga_2 : wn5.cell? ⟨ga, 2, none⟩ = some (.int .i64 za.k) := kga.cell 2
  have ga_3 : wn5.cell? ⟨ga, 3, none⟩ = some (.int .i64 za.n) := kga.cell 3
  have ga_4 : wn5.cell? ⟨ga, 4, none⟩ = some (.string za.s) := kga.cell 4
  have gb_0 : wn5.cell? ⟨gb, 0, none⟩ = some (.string zb.name) := kgb.cell 0
  have gb_1 : wn5.cell? ⟨gb, 1, none⟩ = some (.int .i64 zb.op) := kgb.cell 1
  have gb_2 : wn5.cell? ⟨gb, 2, none⟩ = some (.int .i64 zb.k) := kgb.cell 2
  have gb_3 : wn5.cell? ⟨gb, 3, none⟩ = some (.int .i64 zb.n) := kgb.cell 3
  have gb_4 : wn5.cell? ⟨gb, 4, none⟩ = some (.string zb.s) := kgb.cell 4
  have gc_0 : wn5.cell? ⟨gc, 0, none⟩ = some (.int .i64 k) := kgc.cell 0
  have gc_1 : wn5.cell? ⟨gc, 1, none⟩ = some (.int .i64 n) := kgc.cell 1
  have gc_2 : wn5.cell? ⟨gc, 2, none⟩ = some (.string s) := kgc.cell 2
  go_wp2_with fail
  refine (echeck_any _ es _ hv).mono ?_
  rintro e wn7 ⟨rfl, hBn⟩
  rw [PM.chk_yes he]
  clear ga_0 ga_1 ga_2 ga_3 ga_4 gb_0 gb_1 gb_2 gb_3 gb_4 gc_0 gc_1 gc_2
  replace kga := kga.keep hBn
  replace kgb := kgb.keep hBn
  replace kgc := kgc.keep hBn
  replace hv := hv.keep hBn
  replace hBB := PM.hid (PM.chain hBB.out hBn)
  clear hBn
  have heh := PM.hid he
  clear he
  cases hi : PM.impB za zb
  case false =>
    have ga_0 : wn7.cell? ⟨ga, 0, none⟩ = some (.string za.name) := kga.cell 0
    have ga_1 : wn7.cell? ⟨ga, 1, none⟩ = some (.int .i64 za.op) := kga.cell 1
    have ga_2 : wn7.cell? ⟨ga, 2, none⟩ = some (.int .i64 za.k) := kga.cell 2
    have ga_3 : wn7.cell? ⟨ga, 3, none⟩ = some (.int .i64 za.n) := kga.cell 3
    have ga_4 : wn7.cell? ⟨ga, 4, none⟩ = some (.string za.s) := kga.cell 4
    have gb_0 : wn7.cell? ⟨gb, 0, none⟩ = some (.string zb.name) := kgb.cell 0
    have gb_1 : wn7.cell? ⟨gb, 1, none⟩ = some (.int .i64 zb.op) := kgb.cell 1
    have gb_2 : wn7.cell? ⟨gb, 2, none⟩ = some (.int .i64 zb.k) := kgb.cell 2
    have gb_3 : wn7.cell? ⟨gb, 3, none⟩ = some (.int .i64 zb.n) := kgb.cell 3
    have gb_4 : wn7.cell? ⟨gb, 4, none⟩ = some (.string zb.s) := kgb.cell 4
    have gc_0 : wn7.cell? ⟨gc, 0, none⟩ = some (.int .i64 k) := kgc.cell 0
    have gc_1 : wn7.cell? ⟨gc, 1, none⟩ = some (.int .i64 n) := kgc.cell 1
    have gc_2 : wn7.cell? ⟨gc, 2, none⟩ = some (.string s) := kgc.cell 2
    go_wp2_with fail
    refine (implies_any za zb _).mono ?_
    rintro e wn8 ⟨rfl, hBn⟩
    rw [hi]
    clear ga_0 ga_1 ga_2 ga_3 ga_4 gb_0 gb_1 gb_2 gb_3 gb_4 gc_0 gc_1 gc_2
    replace kga := kga.keep hBn
    replace kgb := kgb.keep hBn
    replace kgc := kgc.keep hBn
    replace hv := hv.keep hBn
    replace hBB := PM.hid (PM.chain hBB.out hBn)
    clear hBn
    clear kga kgb kgc hv hi hd
    go_wp2_with fail
    go_ret
    exact ⟨by first | rfl | simp, hBB.out⟩
  have ga_0 : wn7.cell? ⟨ga, 0, none⟩ = some (.string za.name) := kga.cell 0
  have ga_1 : wn7.cell? ⟨ga, 1, none⟩ = some (.int .i64 za.op) := kga.cell 1
  have ga_2 : wn7.cell? ⟨ga, 2, none⟩ = some (.int .i64 za.k) := kga.cell 2
  have ga_3 : wn7.cell? ⟨ga, 3, none⟩ = some (.int .i64 za.n) := kga.cell 3
  have ga_4 : wn7.cell? ⟨ga, 4, none⟩ = some (.string za.s) := kga.cell 4
  have gb_0 : wn7.cell? ⟨gb, 0, none⟩ = some (.string zb.name) := kgb.cell 0
  have gb_1 : wn7.cell? ⟨gb, 1, none⟩ = some (.int .i64 zb.op) := kgb.cell 1
  have gb_2 : wn7.cell? ⟨gb, 2, none⟩ = some (.int .i64 zb.k) := kgb.cell 2
  have gb_3 : wn7.cell? ⟨gb, 3, none⟩ = some (.int .i64 zb.n) := kgb.cell 3
  have gb_4 : wn7.cell? ⟨gb, 4, none⟩ = some (.string zb.s) := kgb.cell 4
  have gc_0 : wn7.cell? ⟨gc, 0, none⟩ = some (.int .i64 k) := kgc.cell 0
  have gc_1 : wn7.cell? ⟨gc, 1, none⟩ = some (.int .i64 n) := kgc.cell 1
  have gc_2 : wn7.cell? ⟨gc, 2, none⟩ = some (.string s) := kgc.cell 2
  go_wp2_with fail
  refine (implies_any za zb _).mono ?_
  rintro e wn9 ⟨rfl, hBn⟩
  rw [hi]
  clear ga_0 ga_1 ga_2 ga_3 ga_4 gb_0 gb_1 gb_2 gb_3 gb_4 gc_0 gc_1 gc_2
  replace kga := kga.keep hBn
  replace kgb := kgb.keep hBn
  replace kgc := kgc.keep hBn
  replace hv := hv.keep hBn
  replace hBB := PM.hid (PM.chain hBB.out hBn)
  clear hBn
  have h1 : PM.isB za k n s = true → PM.isB zb k n s = true := PM.impP_sound hab.out.1 hab.out.2 hmh.out (of_decide_eq_true hi)
  have h2 : PM.holdsB za es = true → PM.holdsB zb es = true := PM.impP_holds hab.out.1 hab.out.2 (fun x hx => PM.chkP_may heh.out hx) (of_decide_eq_true hi)
  clear hi
  cases q1 : PM.isB za k n s
  case false =>
    have ga_0 : wn9.cell? ⟨ga, 0, none⟩ = some (.string za.name) := kga.cell 0
    have ga_1 : wn9.cell? ⟨ga, 1, none⟩ = some (.int .i64 za.op) := kga.cell 1
    have ga_2 : wn9.cell? ⟨ga, 2, none⟩ = some (.int .i64 za.k) := kga.cell 2
    have ga_3 : wn9.cell? ⟨ga, 3, none⟩ = some (.int .i64 za.n) := kga.cell 3
    have ga_4 : wn9.cell? ⟨ga, 4, none⟩ = some (.string za.s) := kga.cell 4
    have gb_0 : wn9.cell? ⟨gb, 0, none⟩ = some (.string zb.name) := kgb.cell 0
    have gb_1 : wn9.cell? ⟨gb, 1, none⟩ = some (.int .i64 zb.op) := kgb.cell 1
    have gb_2 : wn9.cell? ⟨gb, 2, none⟩ = some (.int .i64 zb.k) := kgb.cell 2
    have gb_3 : wn9.cell? ⟨gb, 3, none⟩ = some (.int .i64 zb.n) := kgb.cell 3
    have gb_4 : wn9.cell? ⟨gb, 4, none⟩ = some (.string zb.s) := kgb.cell 4
    have gc_0 : wn9.cell? ⟨gc, 0, none⟩ = some (.int .i64 k) := kgc.cell 0
    have gc_1 : wn9.cell? ⟨gc, 1, none⟩ = some (.int .i64 n) := kgc.cell 1
    have gc_2 : wn9.cell? ⟨gc, 2, none⟩ = some (.string s) := kgc.cell 2
    go_wp2_with fail
    refine (is_any za k n s _).mono ?_
    rintro e wn10 ⟨rfl, hBn⟩
    rw [q1]
    clear ga_0 ga_1 ga_2 ga_3 ga_4 gb_0 gb_1 gb_2 gb_3 gb_4 gc_0 gc_1 gc_2
    replace kga := kga.keep hBn
    replace kgb := kgb.keep hBn
    replace kgc := kgc.keep hBn
    replace hv := hv.keep hBn
    replace hBB := PM.hid (PM.chain hBB.out hBn)
    clear hBn
    cases q2 : PM.holdsB za es
    case false =>
      have ga_0 : wn10.cell? ⟨ga, 0, none⟩ = some (.string za.name) := kga.cell 0
      have ga_1 : wn10.cell? ⟨ga, 1, none⟩ = some (.int .i64 za.op) := kga.cell 1
      have ga_2 : wn10.cell? ⟨ga, 2, none⟩ = some (.int .i64 za.k) := kga.cell 2
      have ga_3 : wn10.cell? ⟨ga, 3, none⟩ = some (.int .i64 za.n) := kga.cell 3
      have ga_4 : wn10.cell? ⟨ga, 4, none⟩ = some (.string za.s) := kga.cell 4
      have gb_0 : wn10.cell? ⟨gb, 0, none⟩ = some (.string zb.name) := kgb.cell 0
      have gb_1 : wn10.cell? ⟨gb, 1, none⟩ = some (.int .i64 zb.op) := kgb.cell 1
      have gb_2 : wn10.cell? ⟨gb, 2, none⟩ = some (.int .i64 zb.k) := kgb.cell 2
      have gb_3 : wn10.cell? ⟨gb, 3, none⟩ = some (.int .i64 zb.n) := kgb.cell 3
      have gb_4 : wn10.cell? ⟨gb, 4, none⟩ = some (.string zb.s) := kgb.cell 4
      have gc_0 : wn10.cell? ⟨gc, 0, none⟩ = some (.int .i64 k) := kgc.cell 0
      have gc_1 : wn10.cell? ⟨gc, 1, none⟩ = some (.int .i64 n) := kgc.cell 1
      have gc_2 : wn10.cell? ⟨gc, 2, none⟩ = some (.string s) := kgc.cell 2
      go_wp2_with fail
      refine (holds_any za _ es _ hv).mono ?_
      rintro e wn11 ⟨rfl, hBn⟩
      rw [q2]
      clear ga_0 ga_1 ga_2 ga_3 ga_4 gb_0 gb_1 gb_2 gb_3 gb_4 gc_0 gc_1 gc_2
      replace kga := kga.keep hBn
      replace kgb := kgb.keep hBn
      replace kgc := kgc.keep hBn
      replace hv := hv.keep hBn
      replace hBB := PM.hid (PM.chain hBB.out hBn)
      clear hBn
      clear kga kgb kgc hv q2 hd h1 h2 q1
      go_wp2_with fail
      go_ret
      exact ⟨by first | rfl | simp, hBB.out⟩
    case true =>
      have ga_0 : wn10.cell? ⟨ga, 0, none⟩ = some (.string za.name) := kga.cell 0
      have ga_1 : wn10.cell? ⟨ga, 1, none⟩ = some (.int .i64 za.op) := kga.cell 1
      have ga_2 : wn10.cell? ⟨ga, 2, none⟩ = some (.int .i64 za.k) := kga.cell 2
      have ga_3 : wn10.cell? ⟨ga, 3, none⟩ = some (.int .i64 za.n) := kga.cell 3
      have ga_4 : wn10.cell? ⟨ga, 4, none⟩ = some (.string za.s) := kga.cell 4
      have gb_0 : wn10.cell? ⟨gb, 0, none⟩ = some (.string zb.name) := kgb.cell 0
      have gb_1 : wn10.cell? ⟨gb, 1, none⟩ = some (.int .i64 zb.op) := kgb.cell 1
      have gb_2 : wn10.cell? ⟨gb, 2, none⟩ = some (.int .i64 zb.k) := kgb.cell 2
      have gb_3 : wn10.cell? ⟨gb, 3, none⟩ = some (.int .i64 zb.n) := kgb.cell 3
      have gb_4 : wn10.cell? ⟨gb, 4, none⟩ = some (.string zb.s) := kgb.cell 4
      have gc_0 : wn10.cell? ⟨gc, 0, none⟩ = some (.int .i64 k) := kgc.cell 0
      have gc_1 : wn10.cell? ⟨gc, 1, none⟩ = some (.int .i64 n) := kgc.cell 1
      have gc_2 : wn10.cell? ⟨gc, 2, none⟩ = some (.string s) := kgc.cell 2
      go_wp2_with fail
      refine (holds_any za _ es _ hv).mono ?_
      rintro e wn12 ⟨rfl, hBn⟩
      rw [q2]
      clear ga_0 ga_1 ga_2 ga_3 ga_4 gb_0 gb_1 gb_2 gb_3 gb_4 gc_0 gc_1 gc_2
      replace kga := kga.keep hBn
      replace kgb := kgb.keep hBn
      replace kgc := kgc.keep hBn
      replace hv := hv.keep hBn
      replace hBB := PM.hid (PM.chain hBB.out hBn)
      clear hBn
      have ga_0 : wn12.cell? ⟨ga, 0, none⟩ = some (.string za.name) := kga.cell 0
      have ga_1 : wn12.cell? ⟨ga, 1, none⟩ = some (.int .i64 za.op) := kga.cell 1
      have ga_2 : wn12.cell? ⟨ga, 2, none⟩ = some (.int .i64 za.k) := kga.cell 2
      have ga_3 : wn12.cell? ⟨ga, 3, none⟩ = some (.int .i64 za.n) := kga.cell 3
      have ga_4 : wn12.cell? ⟨ga, 4, none⟩ = some (.string za.s) := kga.cell 4
      have gb_0 : wn12.cell? ⟨gb, 0, none⟩ = some (.string zb.name) := kgb.cell 0
      have gb_1 : wn12.cell? ⟨gb, 1, none⟩ = some (.int .i64 zb.op) := kgb.cell 1
      have gb_2 : wn12.cell? ⟨gb, 2, none⟩ = some (.int .i64 zb.k) := kgb.cell 2
      have gb_3 : wn12.cell? ⟨gb, 3, none⟩ = some (.int .i64 zb.n) := kgb.cell 3
      have gb_4 : wn12.cell? ⟨gb, 4, none⟩ = some (.string zb.s) := kgb.cell 4
      have gc_0 : wn12.cell? ⟨gc, 0, none⟩ = some (.int .i64 k) := kgc.cell 0
      have gc_1 : wn12.cell? ⟨gc, 1, none⟩ = some (.int .i64 n) := kgc.cell 1
      have gc_2 : wn12.cell? ⟨gc, 2, none⟩ = some (.string s) := kgc.cell 2
      go_wp2_with fail
      refine (holds_any zb _ es _ hv).mono ?_
      rintro e wn13 ⟨rfl, hBn⟩
      rw [h2 q2]
      clear ga_0 ga_1 ga_2 ga_3 ga_4 gb_0 gb_1 gb_2 gb_3 gb_4 gc_0 gc_1 gc_2
      replace kga := kga.keep hBn
      replace kgb := kgb.keep hBn
      replace kgc := kgc.keep hBn
      replace hv := hv.keep hBn
      replace hBB := PM.hid (PM.chain hBB.out hBn)
      clear hBn
      clear kga kgb kgc hv q2 hd h1 h2 q1
      go_wp2_with fail
      go_ret
      exact ⟨by first | rfl | simp, hBB.out⟩
  case true =>
    have ga_0 : wn9.cell? ⟨ga, 0, none⟩ = some (.string za.name) := kga.cell 0
    have ga_1 : wn9.cell? ⟨ga, 1, none⟩ = some (.int .i64 za.op) := kga.cell 1
    have ga_2 : wn9.cell? ⟨ga, 2, none⟩ = some (.int .i64 za.k) := kga.cell 2
    have ga_3 : wn9.cell? ⟨ga, 3, none⟩ = some (.int .i64 za.n) := kga.cell 3
    have ga_4 : wn9.cell? ⟨ga, 4, none⟩ = some (.string za.s) := kga.cell 4
    have gb_0 : wn9.cell? ⟨gb, 0, none⟩ = some (.string zb.name) := kgb.cell 0
    have gb_1 : wn9.cell? ⟨gb, 1, none⟩ = some (.int .i64 zb.op) := kgb.cell 1
    have gb_2 : wn9.cell? ⟨gb, 2, none⟩ = some (.int .i64 zb.k) := kgb.cell 2
    have gb_3 : wn9.cell? ⟨gb, 3, none⟩ = some (.int .i64 zb.n) := kgb.cell 3
    have gb_4 : wn9.cell? ⟨gb, 4, none⟩ = some (.string zb.s) := kgb.cell 4
    have gc_0 : wn9.cell? ⟨gc, 0, none⟩ = some (.int .i64 k) := kgc.cell 0
    have gc_1 : wn9.cell? ⟨gc, 1, none⟩ = some (.int .i64 n) := kgc.cell 1
    have gc_2 : wn9.cell? ⟨gc, 2, none⟩ = some (.string s) := kgc.cell 2
    go_wp2_with fail
    refine (is_any za k n s _).mono ?_
    rintro e wn14 ⟨rfl, hBn⟩
    rw [q1]
    clear ga_0 ga_1 ga_2 ga_3 ga_4 gb_0 gb_1 gb_2 gb_3 gb_4 gc_0 gc_1 gc_2
    replace kga := kga.keep hBn
    replace kgb := kgb.keep hBn
    replace kgc := kgc.keep hBn
    replace hv := hv.keep hBn
    replace hBB := PM.hid (PM.chain hBB.out hBn)
    clear hBn
    have ga_0 : wn14.cell? ⟨ga, 0, none⟩ = some (.string za.name) := kga.cell 0
    have ga_1 : wn14.cell? ⟨ga, 1, none⟩ = some (.int .i64 za.op) := kga.cell 1
    have ga_2 : wn14.cell? ⟨ga, 2, none⟩ = some (.int .i64 za.k) := kga.cell 2
    have ga_3 : wn14.cell? ⟨ga, 3, none⟩ = some (.int .i64 za.n) := kga.cell 3
    have ga_4 : wn14.cell? ⟨ga, 4, none⟩ = some (.string za.s) := kga.cell 4
    have gb_0 : wn14.cell? ⟨gb, 0, none⟩ = some (.string zb.name) := kgb.cell 0
    have gb_1 : wn14.cell? ⟨gb, 1, none⟩ = some (.int .i64 zb.op) := kgb.cell 1
    have gb_2 : wn14.cell? ⟨gb, 2, none⟩ = some (.int .i64 zb.k) := kgb.cell 2
    have gb_3 : wn14.cell? ⟨gb, 3, none⟩ = some (.int .i64 zb.n) := kgb.cell 3
    have gb_4 : wn14.cell? ⟨gb, 4, none⟩ = some (.string zb.s) := kgb.cell 4
    have gc_0 : wn14.cell? ⟨gc, 0, none⟩ = some (.int .i64 k) := kgc.cell 0
    have gc_1 : wn14.cell? ⟨gc, 1, none⟩ = some (.int .i64 n) := kgc.cell 1
    have gc_2 : wn14.cell? ⟨gc, 2, none⟩ = some (.string s) := kgc.cell 2
    go_wp2_with fail
    refine (is_any zb k n s _).mono ?_
    rintro e wn15 ⟨rfl, hBn⟩
    rw [h1 q1]
    clear ga_0 ga_1 ga_2 ga_3 ga_4 gb_0 gb_1 gb_2 gb_3 gb_4 gc_0 gc_1 gc_2
    replace kga := kga.keep hBn
    replace kgb := kgb.keep hBn
    replace kgc := kgc.keep hBn
    replace hv := hv.keep hBn
    replace hBB := PM.hid (PM.chain hBB.out hBn)
    clear hBn
    cases q2 : PM.holdsB za es
    case false =>
      have ga_0 : wn15.cell? ⟨ga, 0, none⟩ = some (.string za.name) := kga.cell 0
      have ga_1 : wn15.cell? ⟨ga, 1, none⟩ = some (.int .i64 za.op) := kga.cell 1
      have ga_2 : wn15.cell? ⟨ga, 2, none⟩ = some (.int .i64 za.k) := kga.cell 2
      have ga_3 : wn15.cell? ⟨ga, 3, none⟩ = some (.int .i64 za.n) := kga.cell 3
      have ga_4 : wn15.cell? ⟨ga, 4, none⟩ = some (.string za.s) := kga.cell 4
      have gb_0 : wn15.cell? ⟨gb, 0, none⟩ = some (.string zb.name) := kgb.cell 0
      have gb_1 : wn15.cell? ⟨gb, 1, none⟩ = some (.int .i64 zb.op) := kgb.cell 1
      have gb_2 : wn15.cell? ⟨gb, 2, none⟩ = some (.int .i64 zb.k) := kgb.cell 2
      have gb_3 : wn15.cell? ⟨gb, 3, none⟩ = some (.int .i64 zb.n) := kgb.cell 3
      have gb_4 : wn15.cell? ⟨gb, 4, none⟩ = some (.string zb.s) := kgb.cell 4
      have gc_0 : wn15.cell? ⟨gc, 0, none⟩ = some (.int .i64 k) := kgc.cell 0
      have gc_1 : wn15.cell? ⟨gc, 1, none⟩ = some (.int .i64 n) := kgc.cell 1
      have gc_2 : wn15.cell? ⟨gc, 2, none⟩ = some (.string s) := kgc.cell 2
      go_wp2_with fail
      refine (holds_any za _ es _ hv).mono ?_
      rintro e wn16 ⟨rfl, hBn⟩
      rw [q2]
      clear ga_0 ga_1 ga_2 ga_3 ga_4 gb_0 gb_1 gb_2 gb_3 gb_4 gc_0 gc_1 gc_2
      replace kga := kga.keep hBn
      replace kgb := kgb.keep hBn
      replace kgc := kgc.keep hBn
      replace hv := hv.keep hBn
      replace hBB := PM.hid (PM.chain hBB.out hBn)
      clear hBn
      clear kga kgb kgc hv q2 hd h1 h2 q1
      go_wp2_with fail
      go_ret
      exact ⟨by first | rfl | simp, hBB.out⟩
    case true =>
      have ga_0 : wn15.cell? ⟨ga, 0, none⟩ = some (.string za.name) := kga.cell 0
      have ga_1 : wn15.cell? ⟨ga, 1, none⟩ = some (.int .i64 za.op) := kga.cell 1
      have ga_2 : wn15.cell? ⟨ga, 2, none⟩ = some (.int .i64 za.k) := kga.cell 2
      have ga_3 : wn15.cell? ⟨ga, 3, none⟩ = some (.int .i64 za.n) := kga.cell 3
      have ga_4 : wn15.cell? ⟨ga, 4, none⟩ = some (.string za.s) := kga.cell 4
      have gb_0 : wn15.cell? ⟨gb, 0, none⟩ = some (.string zb.name) := kgb.cell 0
      have gb_1 : wn15.cell? ⟨gb, 1, none⟩ = some (.int .i64 zb.op) := kgb.cell 1
      have gb_2 : wn15.cell? ⟨gb, 2, none⟩ = some (.int .i64 zb.k) := kgb.cell 2
      have gb_3 : wn15.cell? ⟨gb, 3, none⟩ = some (.int .i64 zb.n) := kgb.cell 3
      have gb_4 : wn15.cell? ⟨gb, 4, none⟩ = some (.string zb.s) := kgb.cell 4
      have gc_0 : wn15.cell? ⟨gc, 0, none⟩ = some (.int .i64 k) := kgc.cell 0
      have gc_1 : wn15.cell? ⟨gc, 1, none⟩ = some (.int .i64 n) := kgc.cell 1
      have gc_2 : wn15.cell? ⟨gc, 2, none⟩ = some (.string s) := kgc.cell 2
      go_wp2_with fail
      refine (holds_any za _ es _ hv).mono ?_
      rintro e wn17 ⟨rfl, hBn⟩
      rw [q2]
      clear ga_0 ga_1 ga_2 ga_3 ga_4 gb_0 gb_1 gb_2 gb_3 gb_4 gc_0 gc_1 gc_2
      replace kga := kga.keep hBn
      replace kgb := kgb.keep hBn
      replace kgc := kgc.keep hBn
      replace hv := hv.keep hBn
      replace hBB := PM.hid (PM.chain hBB.out hBn)
      clear hBn
      have ga_0 : wn17.cell? ⟨ga, 0, none⟩ = some (.string za.name) := kga.cell 0
      have ga_1 : wn17.cell? ⟨ga, 1, none⟩ = some (.int .i64 za.op) := kga.cell 1
      have ga_2 : wn17.cell? ⟨ga, 2, none⟩ = some (.int .i64 za.k) := kga.cell 2
      have ga_3 : wn17.cell? ⟨ga, 3, none⟩ = some (.int .i64 za.n) := kga.cell 3
      have ga_4 : wn17.cell? ⟨ga, 4, none⟩ = some (.string za.s) := kga.cell 4
      have gb_0 : wn17.cell? ⟨gb, 0, none⟩ = some (.string zb.name) := kgb.cell 0
      have gb_1 : wn17.cell? ⟨gb, 1, none⟩ = some (.int .i64 zb.op) := kgb.cell 1
      have gb_2 : wn17.cell? ⟨gb, 2, none⟩ = some (.int .i64 zb.k) := kgb.cell 2
      have gb_3 : wn17.cell? ⟨gb, 3, none⟩ = some (.int .i64 zb.n) := kgb.cell 3
      have gb_4 : wn17.cell? ⟨gb, 4, none⟩ = some (.string zb.s) := kgb.cell 4
      have gc_0 : wn17.cell? ⟨gc, 0, none⟩ = some (.int .i64 k) := kgc.cell 0
      have gc_1 : wn17.cell? ⟨gc, 1, none⟩ = some (.int .i64 n) := kgc.cell 1
      have gc_2 : wn17.cell? ⟨gc, 2, none⟩ = some (.string s) := kgc.cell 2
      go_wp2_with fail
      refine (holds_any zb _ es _ hv).mono ?_
      rintro e wn18 ⟨rfl, hBn⟩
      rw [h2 q2]
      clear ga_0 ga_1 ga_2 ga_3 ga_4 gb_0 gb_1 gb_2 gb_3 gb_4 gc_0 gc_1 gc_2
      replace kga := kga.keep hBn
      replace kgb := kgb.keep hBn
      replace kgc := kgc.keep hBn
      replace hv := hv.keep hBn
      replace hBB := PM.hid (PM.chain hBB.out hBn)
      clear hBn
      clear kga kgb kgc hv q2 hd h1 h2 q1
      go_wp2_with fail
      go_ret
      exact ⟨by first | rfl | simp, hBB.out⟩
end Go.Proofs.Ytbpajgejfnjaeaa
