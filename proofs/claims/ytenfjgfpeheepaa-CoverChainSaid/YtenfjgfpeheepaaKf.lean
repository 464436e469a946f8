/-
  THE WALKS OF LAYER 7's STATEMENTS: chain.
-/
import Derived.Test.YtenfjgfpeheepaaKe
import Derived.Test.YtenfjgfpeheepaaRx
import Derived.Deep.Cut
import Derived.Deep.CutRange
namespace Go.Proofs.Ytenfjgfpeheepaa
open Go.RowKit
set_option linter.unusedVariables false
set_option linter.unusedSimpArgs false
set_option maxRecDepth 100000 in
set_option maxHeartbeats 8000000 in
theorem coverChain_walk (v : Value) (f : List PM.Te) (u : Value) (g : List PM.Te) (x : Value) (h : List PM.Te) (z : PM.Te) (hz : z.wf) (w : World) (hf : PM.TV w v f) (wf : ∀ x ∈ f, x.wf) (hg : PM.TV w u g) (wg : ∀ x ∈ g, x.wf) (hh : PM.TV w x h) (wh_ : ∀ x ∈ h, x.wf) :
    Calls Try.prog 6 #[v, u, x, .agg #[.string z.name, .int .i64 z.op, .int .i64 z.k, .int .i64 z.n, .string z.s]] w fun e w' => e = .returned (.bool true) ∧ Below w.heap.size w w' := by
  clear wf wg wh_ hz
  obtain ⟨fa, fc, fe⟩ := hf.len
  subst fe
  obtain ⟨fN, fh⟩ : ∃ N, N = f.length := ⟨_, rfl⟩
  have fH := PM.hid fh
  rw [← fh] at hf ⊢
  clear fh
  obtain ⟨ga, gc, ge⟩ := hg.len
  subst ge
  obtain ⟨gN, gh⟩ : ∃ N, N = g.length := ⟨_, rfl⟩
  have gH := PM.hid gh
  rw [← gh] at hg ⊢
  clear gh
  obtain ⟨ja, jc, je⟩ := hh.len
  subst je
  obtain ⟨jN, jh⟩ : ∃ N, N = h.length := ⟨_, rfl⟩
  have jH := PM.hid jh
  rw [← jh] at hh ⊢
  clear jh
  obtain ⟨gt, hgt⟩ : ∃ g, g = w.heap.size := ⟨_, rfl⟩
  obtain ⟨wb0, hwb0⟩ : ∃ W, W = w.alloc (.cells #[.string z.name, .int .i64 z.op, .int .i64 z.k, .int .i64 z.n, .string z.s] 42) := ⟨_, rfl⟩
  have swb0 : wb0.heap.size = w.heap.size + 1 := by rw [hwb0]; simp
  have kgt : PM.BK wb0 gt #[.string z.name, .int .i64 z.op, .int .i64 z.k, .int .i64 z.n, .string z.s] 42 := by rw [hwb0, hgt]; exact PM.BK.new _ _ _
  have agt : Below w.heap.size w wb0 := by rw [hwb0]; exact (Below.refl _ _).alloc (Nat.le_refl _) _
  have hBB := PM.hid agt
  clear swb0 agt
  replace hf := hf.keep hBB.out
  replace hg := hg.keep hBB.out
  replace hh := hh.keep hBB.out
  go_enter Try.func6, Try.ntmps6
  go_upto_region 1 with fail
  rw [← hwb0, ← hgt]
  clear hwb0 hgt
  have gt_0 : wb0.cell? ⟨gt, 0, none⟩ = some (.string z.name) := kgt.cell 0
  have gt_1 : wb0.cell? ⟨gt, 1, none⟩ = some (.int .i64 z.op) := kgt.cell 1
  have gt_2 : wb0.cell? ⟨gt, 2, none⟩ = some (.int .i64 z.k) := kgt.cell 2
  have gt_3 : wb0.cell? ⟨gt, 3, none⟩ = some (.int .i64 z.n) := kgt.cell 3
  have gt_4 : wb0.cell? ⟨gt, 4, none⟩ = some (.string z.s) := kgt.cell 4
  go_wp2_with fail
  refine (awake7 _).mono ?_
  rintro e wn1 ⟨rfl, hBn⟩
  clear gt_0 gt_1 gt_2 gt_3 gt_4
  replace kgt := kgt.keep hBn
  replace hf := hf.keep hBn
  replace hg := hg.keep hBn
  replace hh := hh.keep hBn
  replace hBB := PM.hid (PM.chain hBB.out hBn)
  clear hBn
  have gt_0 : wn1.cell? ⟨gt, 0, none⟩ = some (.string z.name) := kgt.cell 0
  have gt_1 : wn1.cell? ⟨gt, 1, none⟩ = some (.int .i64 z.op) := kgt.cell 1
  have gt_2 : wn1.cell? ⟨gt, 2, none⟩ = some (.int .i64 z.k) := kgt.cell 2
  have gt_3 : wn1.cell? ⟨gt, 3, none⟩ = some (.int .i64 z.n) := kgt.cell 3
  have gt_4 : wn1.cell? ⟨gt, 4, none⟩ = some (.string z.s) := kgt.cell 4
  have hal0 : ∀ (o : Obj), Below wn1.heap.size wn1 (wn1.alloc o) := fun o => (Below.refl _ _).alloc (Nat.le_refl _) _
  have hL4 := PM.FL.lit4 (W := wn1.alloc (.cells #[.string z.name, .int .i64 z.op, .int .i64 z.k, .int .i64 z.n, .string z.s] 42)) (E := 23) (hf.keep (hal0 _)) (hg.keep (hal0 _)) (hh.keep (hal0 _)) (PM.EM.lits7 PM.teL_len wn1 42 [z] 1 rfl (by simp [maxLen]) #[.string z.name, .int .i64 z.op, .int .i64 z.k, .int .i64 z.n, .string z.s] rfl)
  rw [show (wn1.alloc (.cells #[.string z.name, .int .i64 z.op, .int .i64 z.k, .int .i64 z.n, .string z.s] 42)).heap.size = wn1.heap.size + 1 by simp] at hL4
  have hL4h := PM.hid (few7_any _ [f, g, h, [z]] _ hL4)
  clear hL4
  go_wp2_with fail
  refine hL4h.out.mono ?_
  rintro e wf ⟨hF, rfl⟩
  obtain ⟨wc, hwc⟩ : ∃ W, W = (wn1.alloc (.cells #[.string z.name, .int .i64 z.op, .int .i64 z.k, .int .i64 z.n, .string z.s] 42)).alloc (.cells #[.slice fa fN fc, .slice ga gN gc, .slice ja jN jc, .slice (some ⟨wn1.heap.size, 0, none⟩) 1 1] 23) := ⟨_, rfl⟩
  have hal : Below wn1.heap.size wn1 wc := by rw [hwc]; exact PM.chain (hal0 _) ((Below.refl _ _).alloc (Nat.le_refl _) _)
  rw [← hwc]
  clear gt_0 gt_1 gt_2 gt_3 gt_4
  replace kgt := kgt.keep hal
  replace hf := hf.keep hal
  replace hg := hg.keep hal
  replace hh := hh.keep hal
  replace hBB := PM.hid (PM.chain hBB.out hal)
  clear hwc hal hal0
  rcases hF with ⟨rfl, hF⟩ | ⟨rfl, hF⟩
  case inr =>
    clear kgt hf hg hh hF
    go_wp2_with fail
    go_ret
    exact ⟨by first | rfl | simp, hBB.out⟩
  have hFF := PM.hid hF
  clear hF
  have gt_0 : wc.cell? ⟨gt, 0, none⟩ = some (.string z.name) := kgt.cell 0
  have gt_1 : wc.cell? ⟨gt, 1, none⟩ = some (.int .i64 z.op) := kgt.cell 1
  have gt_2 : wc.cell? ⟨gt, 2, none⟩ = some (.int .i64 z.k) := kgt.cell 2
  have gt_3 : wc.cell? ⟨gt, 3, none⟩ = some (.int .i64 z.n) := kgt.cell 3
  have gt_4 : wc.cell? ⟨gt, 4, none⟩ = some (.string z.s) := kgt.cell 4
  go_wp2_with fail
  refine (may7_any _ [f, g, h] _ (PM.FL.lit3 hf hg hh)).mono ?_
  rintro e wc2 ⟨hF, hBn⟩
  have hal : Below wc.heap.size wc wc2 := PM.chain ((Below.refl _ wc).alloc (Nat.le_refl _) _) hBn
  clear gt_0 gt_1 gt_2 gt_3 gt_4
  replace kgt := kgt.keep hal
  replace hf := hf.keep hal
  replace hg := hg.keep hal
  replace hh := hh.keep hal
  replace hBB := PM.hid (PM.chain hBB.out hal)
  clear hal hBn
  rcases hF with ⟨rfl, hF⟩ | ⟨rfl, hF⟩
  case inr =>
    clear kgt hf hg hh hF
    go_wp2_with fail
    go_ret
    exact ⟨by first | rfl | simp, hBB.out⟩
  have hm := PM.hid (And.intro (hF f (by simp)) (And.intro (hF g (by simp)) (hF h (by simp))))
  clear hF
  cases q0 : PM.teOk z
  case false =>
    have gt_0 : wc2.cell? ⟨gt, 0, none⟩ = some (.string z.name) := kgt.cell 0
    have gt_1 : wc2.cell? ⟨gt, 1, none⟩ = some (.int .i64 z.op) := kgt.cell 1
    have gt_2 : wc2.cell? ⟨gt, 2, none⟩ = some (.int .i64 z.k) := kgt.cell 2
    have gt_3 : wc2.cell? ⟨gt, 3, none⟩ = some (.int .i64 z.n) := kgt.cell 3
    have gt_4 : wc2.cell? ⟨gt, 4, none⟩ = some (.string z.s) := kgt.cell 4
    go_wp2_with fail
    refine (one_any z _).mono ?_
    rintro e wn3 ⟨rfl, hBn⟩
    rw [PM.teE_no q0]
    clear gt_0 gt_1 gt_2 gt_3 gt_4
    replace kgt := kgt.keep hBn
    replace hf := hf.keep hBn
    replace hg := hg.keep hBn
    replace hh := hh.keep hBn
    replace hBB := PM.hid (PM.chain hBB.out hBn)
    clear hBn
    clear kgt hf hg hh q0
    go_wp2_with fail
    go_ret
    exact ⟨by first | rfl | simp, hBB.out⟩
  have gt_0 : wc2.cell? ⟨gt, 0, none⟩ = some (.string z.name) := kgt.cell 0
  have gt_1 : wc2.cell? ⟨gt, 1, none⟩ = some (.int .i64 z.op) := kgt.cell 1
  have gt_2 : wc2.cell? ⟨gt, 2, none⟩ = some (.int .i64 z.k) := kgt.cell 2
  have gt_3 : wc2.cell? ⟨gt, 3, none⟩ = some (.int .i64 z.n) := kgt.cell 3
  have gt_4 : wc2.cell? ⟨gt, 4, none⟩ = some (.string z.s) := kgt.cell 4
  go_wp2_with fail
  refine (one_any z _).mono ?_
  rintro e wn4 ⟨rfl, hBn⟩
  rw [PM.teE_yes q0]
  clear gt_0 gt_1 gt_2 gt_3 gt_4
  replace kgt := kgt.keep hBn
  replace hf := hf.keep hBn
  replace hg := hg.keep hBn
  replace hh := hh.keep hBn
  replace hBB := PM.hid (PM.chain hBB.out hBn)
  clear hBn
  clear q0
  obtain ⟨w5, rfl⟩ : ∃ x : World, x = wn4 := ⟨_, rfl⟩
  have hf5 := hf
  have e0 := PM.hid (kgt.cell 0)
  have e1 := PM.hid (kgt.cell 1)
  have e2 := PM.hid (kgt.cell 2)
  have e3 := PM.hid (kgt.cell 3)
  have e4 := PM.hid (kgt.cell 4)
  have hfN : f.length ≤ 10 := (hFF.out.2 f (by simp)).1
  go_upto_region 4 with fail
  go_cut [10] from 35 to 40 (fun s wx => PM.OM PM.teL 5 42 w5.heap.size wx s (f ++ [z]) ∧ Below w5.heap.size w5 wx)
  case first =>
    refine wp_region_any (by kernel_rfl) ?_
    change wpAny _ _ _ _ _ _ _ (World.drew w5)
    obtain ⟨wd, hwd⟩ : ∃ x, x = World.drew w5 := ⟨_, rfl⟩
    have hBd : Below w5.heap.size w5 wd := by rw [hwd]; exact (Below.refl _ _).drew
    rw [← hwd]
    clear hwd
    refine wpAny_take (i := 1) (v := ?_) rfl (by kernel_rfl) (by kernel_rfl) (by kernel_rfl) (fun _ _ _ h => h) (Or.inl ⟨by rfl, ?_⟩) ?_
    rotate_left
    · intro W
      go_simp
      try with_reducible rfl
    refine wpAny_ready (rs := [0, 3]) (by kernel_rfl) (by simp) ?_
    refine PM.ready1 rfl ?_ ?_
    · go_wp2_with fail
      obtain ⟨g2, hg2⟩ : ∃ g, g = wd.heap.size := ⟨_, rfl⟩
      obtain ⟨W1, hW1⟩ : ∃ x, x = wd.alloc (.cells #[] 42) := ⟨_, rfl⟩
      have hal4 : Below wd.heap.size wd W1 := by rw [hW1]; exact (Below.refl _ _).alloc (Nat.le_refl _) _
      have hO3 : PM.OM PM.teL 5 42 w5.heap.size W1 (.slice (some ⟨g2, 0, none⟩) 0 0) [] := by rw [hW1, hg2]; exact PM.OM.made wd #[] 0 (by decide) rfl hBd.size
      have hB5 := PM.chain hBd hal4
      rw [← hW1, ← hg2]
      clear hW1 hg2
      refine ⟨rfl, ?_⟩
      refine wpAny_ready (rs := [2, 3]) (by kernel_rfl) (by simp) ?_
      refine PM.ready1 rfl ?_ ?_
      · have hs13 := hf5.keep hB5
        have hz14 := hB5.size
        have hn15 : (([] : List PM.Te).length + (f : List PM.Te).length) * 56 ≤ 140737488355328 ∧ ([] : List PM.Te).length + (f : List PM.Te).length ≤ maxLen := by
          unfold maxLen
          simp
          omega
        refine PM.wpList_em (e := PM.teL) teTyF PM.teL_len PM.teL_one w5.heap.size rfl _ _ rfl (.slice (some ⟨g2, 0, none⟩) 0 0) _ ([]) (f) rfl rfl hO3 hs13 hn15.1 hn15.2 hz14 ?_
        intro v6 W7 q8 q9 q10 q11
        go_wp2_with fail
        have hB12 := hB5.trans q9
        refine ⟨rfl, ?_⟩
        refine wpAny_ready (rs := [3]) (by kernel_rfl) (by simp) ?_
        refine PM.ready1 rfl ?_ ?_
        · have d0 := PM.cellA hB12 e0.out
          have d1 := PM.cellA hB12 e1.out
          have d2 := PM.cellA hB12 e2.out
          have d3 := PM.cellA hB12 e3.out
          have d4 := PM.cellA hB12 e4.out
          go_wp2_with fail
          clear d0 d1 d2 d3 d4
          refine ⟨rfl, ?_⟩
          refine wpAny_ready (rs := [4]) (by kernel_rfl) (by simp) ?_
          refine PM.ready1 rfl ?_ ?_
          · go_wp2_with fail
            obtain ⟨g17, hg17⟩ : ∃ g, g = W7.heap.size := ⟨_, rfl⟩
            obtain ⟨W16, hW16⟩ : ∃ x, x = W7.alloc (.cells #[.string z.name, .int .i64 z.op, .int .i64 z.k, .int .i64 z.n, .string z.s] 42) := ⟨_, rfl⟩
            have hal19 : Below W7.heap.size W7 W16 := by rw [hW16]; exact (Below.refl _ _).alloc (Nat.le_refl _) _
            have hL18 : PM.EM PM.teL 5 W16 (.slice (some ⟨g17, 0, none⟩) 1 1) [z] := by rw [hW16, hg17]; exact PM.EM.lit PM.teL_len W7 42 z
            have hlt21 : g17 < W16.heap.size := by rw [hW16, hg17]; simp
            have hB20 := PM.chain hB12 hal19
            have hap23 : ∀ k, (v6 : Value).ownBlock = some k → k ≠ g17 := by intro k hk; have := (q8.lt k hk).2; omega
            have hO22 := q8.keep hal19
            rw [← hW16, ← hg17]
            clear hW16 hg17
            refine ⟨rfl, ?_⟩
            refine wpAny_ready (rs := [5]) (by kernel_rfl) (by simp) ?_
            refine PM.ready1 rfl ?_ ?_
            · have hs31 := hL18
              have hz32 := hB20.size
              have hn33 : (([] ++ f : List PM.Te).length + ([z] : List PM.Te).length) * 56 ≤ 140737488355328 ∧ ([] ++ f : List PM.Te).length + ([z] : List PM.Te).length ≤ maxLen := by
                unfold maxLen
                simp
                omega
              refine PM.wpList_em (e := PM.teL) teTyF PM.teL_len PM.teL_one w5.heap.size rfl _ _ rfl (v6) _ ([] ++ f) ([z]) rfl rfl hO22 hs31 hn33.1 hn33.2 hz32 ?_
              intro v24 W25 q26 q27 q28 q29
              go_wp2_with fail
              have hB30 := hB20.trans q27
              refine ⟨rfl, ?_⟩
              refine wpAny_ready (rs := [6]) (by kernel_rfl) (by simp) ?_
              refine PM.ready1 rfl ?_ ?_
              · go_wp2_with fail
                refine ⟨rfl, ?_⟩
                refine wpAny_done (by kernel_rfl) ?_ _
                go_wp2_with fail
                go_meet
                exact ⟨(by simpa using q26), hB30⟩
              exact AllReady.nil
            exact AllReady.nil
          exact AllReady.nil
        exact AllReady.nil
      refine PM.ready1 rfl ?_ ?_
      · have d0 := PM.cellA hB5 e0.out
        have d1 := PM.cellA hB5 e1.out
        have d2 := PM.cellA hB5 e2.out
        have d3 := PM.cellA hB5 e3.out
        have d4 := PM.cellA hB5 e4.out
        go_wp2_with fail
        clear d0 d1 d2 d3 d4
        refine ⟨rfl, ?_⟩
        refine wpAny_ready (rs := [2, 4]) (by kernel_rfl) (by simp) ?_
        refine PM.ready1 rfl ?_ ?_
        · have hs41 := hf5.keep hB5
          have hz42 := hB5.size
          have hn43 : (([] : List PM.Te).length + (f : List PM.Te).length) * 56 ≤ 140737488355328 ∧ ([] : List PM.Te).length + (f : List PM.Te).length ≤ maxLen := by
            unfold maxLen
            simp
            omega
          refine PM.wpList_em (e := PM.teL) teTyF PM.teL_len PM.teL_one w5.heap.size rfl _ _ rfl (.slice (some ⟨g2, 0, none⟩) 0 0) _ ([]) (f) rfl rfl hO3 hs41 hn43.1 hn43.2 hz42 ?_
          intro v34 W35 q36 q37 q38 q39
          go_wp2_with fail
          have hB40 := hB5.trans q37
          refine ⟨rfl, ?_⟩
          refine wpAny_ready (rs := [4]) (by kernel_rfl) (by simp) ?_
          refine PM.ready1 rfl ?_ ?_
          · go_wp2_with fail
            obtain ⟨g45, hg45⟩ : ∃ g, g = W35.heap.size := ⟨_, rfl⟩
            obtain ⟨W44, hW44⟩ : ∃ x, x = W35.alloc (.cells #[.string z.name, .int .i64 z.op, .int .i64 z.k, .int .i64 z.n, .string z.s] 42) := ⟨_, rfl⟩
            have hal47 : Below W35.heap.size W35 W44 := by rw [hW44]; exact (Below.refl _ _).alloc (Nat.le_refl _) _
            have hL46 : PM.EM PM.teL 5 W44 (.slice (some ⟨g45, 0, none⟩) 1 1) [z] := by rw [hW44, hg45]; exact PM.EM.lit PM.teL_len W35 42 z
            have hlt49 : g45 < W44.heap.size := by rw [hW44, hg45]; simp
            have hB48 := PM.chain hB40 hal47
            have hap51 : ∀ k, (v34 : Value).ownBlock = some k → k ≠ g45 := by intro k hk; have := (q36.lt k hk).2; omega
            have hO50 := q36.keep hal47
            rw [← hW44, ← hg45]
            clear hW44 hg45
            refine ⟨rfl, ?_⟩
            refine wpAny_ready (rs := [5]) (by kernel_rfl) (by simp) ?_
            refine PM.ready1 rfl ?_ ?_
            · have hs59 := hL46
              have hz60 := hB48.size
              have hn61 : (([] ++ f : List PM.Te).length + ([z] : List PM.Te).length) * 56 ≤ 140737488355328 ∧ ([] ++ f : List PM.Te).length + ([z] : List PM.Te).length ≤ maxLen := by
                unfold maxLen
                simp
                omega
              refine PM.wpList_em (e := PM.teL) teTyF PM.teL_len PM.teL_one w5.heap.size rfl _ _ rfl (v34) _ ([] ++ f) ([z]) rfl rfl hO50 hs59 hn61.1 hn61.2 hz60 ?_
              intro v52 W53 q54 q55 q56 q57
              go_wp2_with fail
              have hB58 := hB48.trans q55
              refine ⟨rfl, ?_⟩
              refine wpAny_ready (rs := [6]) (by kernel_rfl) (by simp) ?_
              refine PM.ready1 rfl ?_ ?_
              · go_wp2_with fail
                refine ⟨rfl, ?_⟩
                refine wpAny_done (by kernel_rfl) ?_ _
                go_wp2_with fail
                go_meet
                exact ⟨(by simpa using q54), hB58⟩
              exact AllReady.nil
            exact AllReady.nil
          exact AllReady.nil
        refine PM.ready1 rfl ?_ ?_
        · go_wp2_with fail
          obtain ⟨g63, hg63⟩ : ∃ g, g = W1.heap.size := ⟨_, rfl⟩
          obtain ⟨W62, hW62⟩ : ∃ x, x = W1.alloc (.cells #[.string z.name, .int .i64 z.op, .int .i64 z.k, .int .i64 z.n, .string z.s] 42) := ⟨_, rfl⟩
          have hal65 : Below W1.heap.size W1 W62 := by rw [hW62]; exact (Below.refl _ _).alloc (Nat.le_refl _) _
          have hL64 : PM.EM PM.teL 5 W62 (.slice (some ⟨g63, 0, none⟩) 1 1) [z] := by rw [hW62, hg63]; exact PM.EM.lit PM.teL_len W1 42 z
          have hlt67 : g63 < W62.heap.size := by rw [hW62, hg63]; simp
          have hB66 := PM.chain hB5 hal65
          have hap69 : ∀ k, (.slice (some ⟨g2, 0, none⟩) 0 0 : Value).ownBlock = some k → k ≠ g63 := by intro k hk; have := (hO3.lt k hk).2; omega
          have hO68 := hO3.keep hal65
          rw [← hW62, ← hg63]
          clear hW62 hg63
          refine ⟨rfl, ?_⟩
          refine wpAny_ready (rs := [2]) (by kernel_rfl) (by simp) ?_
          refine PM.ready1 rfl ?_ ?_
          · have hs77 := hf5.keep hB66
            have hz78 := hB66.size
            have hn79 : (([] : List PM.Te).length + (f : List PM.Te).length) * 56 ≤ 140737488355328 ∧ ([] : List PM.Te).length + (f : List PM.Te).length ≤ maxLen := by
              unfold maxLen
              simp
              omega
            refine PM.wpList_em (e := PM.teL) teTyF PM.teL_len PM.teL_one w5.heap.size rfl _ _ rfl (.slice (some ⟨g2, 0, none⟩) 0 0) _ ([]) (f) rfl rfl hO68 hs77 hn79.1 hn79.2 hz78 ?_
            intro v70 W71 q72 q73 q74 q75
            go_wp2_with fail
            have hB76 := hB66.trans q73
            have hL80 := hL64.kept q74 (by intro k hk he; simp [Value.ownBlock] at hk; exact hap69 k he hk.symm)
            have hap81 : ∀ k, (v70 : Value).ownBlock = some k → k ≠ g63 := by
              intro k hk
              rcases q75 with h | h
              · exact hap69 k (h ▸ hk)
              · have := h k hk; omega
            have hlt82 : g63 < W71.heap.size := Nat.lt_of_lt_of_le hlt67 q74.size
            refine ⟨rfl, ?_⟩
            refine wpAny_ready (rs := [5]) (by kernel_rfl) (by simp) ?_
            refine PM.ready1 rfl ?_ ?_
            · have hs90 := hL80
              have hz91 := hB76.size
              have hn92 : (([] ++ f : List PM.Te).length + ([z] : List PM.Te).length) * 56 ≤ 140737488355328 ∧ ([] ++ f : List PM.Te).length + ([z] : List PM.Te).length ≤ maxLen := by
                unfold maxLen
                simp
                omega
              refine PM.wpList_em (e := PM.teL) teTyF PM.teL_len PM.teL_one w5.heap.size rfl _ _ rfl (v70) _ ([] ++ f) ([z]) rfl rfl q72 hs90 hn92.1 hn92.2 hz91 ?_
              intro v83 W84 q85 q86 q87 q88
              go_wp2_with fail
              have hB89 := hB76.trans q86
              refine ⟨rfl, ?_⟩
              refine wpAny_ready (rs := [6]) (by kernel_rfl) (by simp) ?_
              refine PM.ready1 rfl ?_ ?_
              · go_wp2_with fail
                refine ⟨rfl, ?_⟩
                refine wpAny_done (by kernel_rfl) ?_ _
                go_wp2_with fail
                go_meet
                exact ⟨(by simpa using q85), hB89⟩
              exact AllReady.nil
            exact AllReady.nil
          exact AllReady.nil
        exact AllReady.nil
      exact AllReady.nil
    refine PM.ready1 rfl ?_ ?_
    · have d0 := PM.cellA hBd e0.out
      have d1 := PM.cellA hBd e1.out
      have d2 := PM.cellA hBd e2.out
      have d3 := PM.cellA hBd e3.out
      have d4 := PM.cellA hBd e4.out
      go_wp2_with fail
      clear d0 d1 d2 d3 d4
      refine ⟨rfl, ?_⟩
      refine wpAny_ready (rs := [0, 4]) (by kernel_rfl) (by simp) ?_
      refine PM.ready1 rfl ?_ ?_
      · go_wp2_with fail
        obtain ⟨g94, hg94⟩ : ∃ g, g = wd.heap.size := ⟨_, rfl⟩
        obtain ⟨W93, hW93⟩ : ∃ x, x = wd.alloc (.cells #[] 42) := ⟨_, rfl⟩
        have hal96 : Below wd.heap.size wd W93 := by rw [hW93]; exact (Below.refl _ _).alloc (Nat.le_refl _) _
        have hO95 : PM.OM PM.teL 5 42 w5.heap.size W93 (.slice (some ⟨g94, 0, none⟩) 0 0) [] := by rw [hW93, hg94]; exact PM.OM.made wd #[] 0 (by decide) rfl hBd.size
        have hB97 := PM.chain hBd hal96
        rw [← hW93, ← hg94]
        clear hW93 hg94
        refine ⟨rfl, ?_⟩
        refine wpAny_ready (rs := [2, 4]) (by kernel_rfl) (by simp) ?_
        refine PM.ready1 rfl ?_ ?_
        · have hs105 := hf5.keep hB97
          have hz106 := hB97.size
          have hn107 : (([] : List PM.Te).length + (f : List PM.Te).length) * 56 ≤ 140737488355328 ∧ ([] : List PM.Te).length + (f : List PM.Te).length ≤ maxLen := by
            unfold maxLen
            simp
            omega
          refine PM.wpList_em (e := PM.teL) teTyF PM.teL_len PM.teL_one w5.heap.size rfl _ _ rfl (.slice (some ⟨g94, 0, none⟩) 0 0) _ ([]) (f) rfl rfl hO95 hs105 hn107.1 hn107.2 hz106 ?_
          intro v98 W99 q100 q101 q102 q103
          go_wp2_with fail
          have hB104 := hB97.trans q101
          refine ⟨rfl, ?_⟩
          refine wpAny_ready (rs := [4]) (by kernel_rfl) (by simp) ?_
          refine PM.ready1 rfl ?_ ?_
          · go_wp2_with fail
            obtain ⟨g109, hg109⟩ : ∃ g, g = W99.heap.size := ⟨_, rfl⟩
            obtain ⟨W108, hW108⟩ : ∃ x, x = W99.alloc (.cells #[.string z.name, .int .i64 z.op, .int .i64 z.k, .int .i64 z.n, .string z.s] 42) := ⟨_, rfl⟩
            have hal111 : Below W99.heap.size W99 W108 := by rw [hW108]; exact (Below.refl _ _).alloc (Nat.le_refl _) _
            have hL110 : PM.EM PM.teL 5 W108 (.slice (some ⟨g109, 0, none⟩) 1 1) [z] := by rw [hW108, hg109]; exact PM.EM.lit PM.teL_len W99 42 z
            have hlt113 : g109 < W108.heap.size := by rw [hW108, hg109]; simp
            have hB112 := PM.chain hB104 hal111
            have hap115 : ∀ k, (v98 : Value).ownBlock = some k → k ≠ g109 := by intro k hk; have := (q100.lt k hk).2; omega
            have hO114 := q100.keep hal111
            rw [← hW108, ← hg109]
            clear hW108 hg109
            refine ⟨rfl, ?_⟩
            refine wpAny_ready (rs := [5]) (by kernel_rfl) (by simp) ?_
            refine PM.ready1 rfl ?_ ?_
            · have hs123 := hL110
              have hz124 := hB112.size
              have hn125 : (([] ++ f : List PM.Te).length + ([z] : List PM.Te).length) * 56 ≤ 140737488355328 ∧ ([] ++ f : List PM.Te).length + ([z] : List PM.Te).length ≤ maxLen := by
                unfold maxLen
                simp
                omega
              refine PM.wpList_em (e := PM.teL) teTyF PM.teL_len PM.teL_one w5.heap.size rfl _ _ rfl (v98) _ ([] ++ f) ([z]) rfl rfl hO114 hs123 hn125.1 hn125.2 hz124 ?_
              intro v116 W117 q118 q119 q120 q121
              go_wp2_with fail
              have hB122 := hB112.trans q119
              refine ⟨rfl, ?_⟩
              refine wpAny_ready (rs := [6]) (by kernel_rfl) (by simp) ?_
              refine PM.ready1 rfl ?_ ?_
              · go_wp2_with fail
                refine ⟨rfl, ?_⟩
                refine wpAny_done (by kernel_rfl) ?_ _
                go_wp2_with fail
                go_meet
                exact ⟨(by simpa using q118), hB122⟩
              exact AllReady.nil
            exact AllReady.nil
          exact AllReady.nil
        refine PM.ready1 rfl ?_ ?_
        · go_wp2_with fail
          obtain ⟨g127, hg127⟩ : ∃ g, g = W93.heap.size := ⟨_, rfl⟩
          obtain ⟨W126, hW126⟩ : ∃ x, x = W93.alloc (.cells #[.string z.name, .int .i64 z.op, .int .i64 z.k, .int .i64 z.n, .string z.s] 42) := ⟨_, rfl⟩
          have hal129 : Below W93.heap.size W93 W126 := by rw [hW126]; exact (Below.refl _ _).alloc (Nat.le_refl _) _
          have hL128 : PM.EM PM.teL 5 W126 (.slice (some ⟨g127, 0, none⟩) 1 1) [z] := by rw [hW126, hg127]; exact PM.EM.lit PM.teL_len W93 42 z
          have hlt131 : g127 < W126.heap.size := by rw [hW126, hg127]; simp
          have hB130 := PM.chain hB97 hal129
          have hap133 : ∀ k, (.slice (some ⟨g94, 0, none⟩) 0 0 : Value).ownBlock = some k → k ≠ g127 := by intro k hk; have := (hO95.lt k hk).2; omega
          have hO132 := hO95.keep hal129
          rw [← hW126, ← hg127]
          clear hW126 hg127
          refine ⟨rfl, ?_⟩
          refine wpAny_ready (rs := [2]) (by kernel_rfl) (by simp) ?_
          refine PM.ready1 rfl ?_ ?_
          · have hs141 := hf5.keep hB130
            have hz142 := hB130.size
            have hn143 : (([] : List PM.Te).length + (f : List PM.Te).length) * 56 ≤ 140737488355328 ∧ ([] : List PM.Te).length + (f : List PM.Te).length ≤ maxLen := by
              unfold maxLen
              simp
              omega
            refine PM.wpList_em (e := PM.teL) teTyF PM.teL_len PM.teL_one w5.heap.size rfl _ _ rfl (.slice (some ⟨g94, 0, none⟩) 0 0) _ ([]) (f) rfl rfl hO132 hs141 hn143.1 hn143.2 hz142 ?_
            intro v134 W135 q136 q137 q138 q139
            go_wp2_with fail
            have hB140 := hB130.trans q137
            have hL144 := hL128.kept q138 (by intro k hk he; simp [Value.ownBlock] at hk; exact hap133 k he hk.symm)
            have hap145 : ∀ k, (v134 : Value).ownBlock = some k → k ≠ g127 := by
              intro k hk
              rcases q139 with h | h
              · exact hap133 k (h ▸ hk)
              · have := h k hk; omega
            have hlt146 : g127 < W135.heap.size := Nat.lt_of_lt_of_le hlt131 q138.size
            refine ⟨rfl, ?_⟩
            refine wpAny_ready (rs := [5]) (by kernel_rfl) (by simp) ?_
            refine PM.ready1 rfl ?_ ?_
            · have hs154 := hL144
              have hz155 := hB140.size
              have hn156 : (([] ++ f : List PM.Te).length + ([z] : List PM.Te).length) * 56 ≤ 140737488355328 ∧ ([] ++ f : List PM.Te).length + ([z] : List PM.Te).length ≤ maxLen := by
                unfold maxLen
                simp
                omega
              refine PM.wpList_em (e := PM.teL) teTyF PM.teL_len PM.teL_one w5.heap.size rfl _ _ rfl (v134) _ ([] ++ f) ([z]) rfl rfl q136 hs154 hn156.1 hn156.2 hz155 ?_
              intro v147 W148 q149 q150 q151 q152
              go_wp2_with fail
              have hB153 := hB140.trans q150
              refine ⟨rfl, ?_⟩
              refine wpAny_ready (rs := [6]) (by kernel_rfl) (by simp) ?_
              refine PM.ready1 rfl ?_ ?_
              · go_wp2_with fail
                refine ⟨rfl, ?_⟩
                refine wpAny_done (by kernel_rfl) ?_ _
                go_wp2_with fail
                go_meet
                exact ⟨(by simpa using q149), hB153⟩
              exact AllReady.nil
            exact AllReady.nil
          exact AllReady.nil
        exact AllReady.nil
      refine PM.ready1 rfl ?_ ?_
      · go_wp2_with fail
        obtain ⟨g158, hg158⟩ : ∃ g, g = wd.heap.size := ⟨_, rfl⟩
        obtain ⟨W157, hW157⟩ : ∃ x, x = wd.alloc (.cells #[.string z.name, .int .i64 z.op, .int .i64 z.k, .int .i64 z.n, .string z.s] 42) := ⟨_, rfl⟩
        have hal160 : Below wd.heap.size wd W157 := by rw [hW157]; exact (Below.refl _ _).alloc (Nat.le_refl _) _
        have hL159 : PM.EM PM.teL 5 W157 (.slice (some ⟨g158, 0, none⟩) 1 1) [z] := by rw [hW157, hg158]; exact PM.EM.lit PM.teL_len wd 42 z
        have hlt162 : g158 < W157.heap.size := by rw [hW157, hg158]; simp
        have hB161 := PM.chain hBd hal160
        rw [← hW157, ← hg158]
        clear hW157 hg158
        refine ⟨rfl, ?_⟩
        refine wpAny_ready (rs := [0]) (by kernel_rfl) (by simp) ?_
        refine PM.ready1 rfl ?_ ?_
        · go_wp2_with fail
          obtain ⟨g164, hg164⟩ : ∃ g, g = W157.heap.size := ⟨_, rfl⟩
          obtain ⟨W163, hW163⟩ : ∃ x, x = W157.alloc (.cells #[] 42) := ⟨_, rfl⟩
          have hal166 : Below W157.heap.size W157 W163 := by rw [hW163]; exact (Below.refl _ _).alloc (Nat.le_refl _) _
          have hO165 : PM.OM PM.teL 5 42 w5.heap.size W163 (.slice (some ⟨g164, 0, none⟩) 0 0) [] := by rw [hW163, hg164]; exact PM.OM.made W157 #[] 0 (by decide) rfl hB161.size
          have hB167 := PM.chain hB161 hal166
          have hL168 := hL159.keep hal166
          have hap169 : ∀ k, (.slice (some ⟨g164, 0, none⟩) 0 0 : Value).ownBlock = some k → k ≠ g158 := by intro k hk; simp [Value.ownBlock] at hk; omega
          have hlt170 : g158 < W163.heap.size := Nat.lt_of_lt_of_le hlt162 hal166.size
          rw [← hW163, ← hg164]
          clear hW163 hg164
          refine ⟨rfl, ?_⟩
          refine wpAny_ready (rs := [2]) (by kernel_rfl) (by simp) ?_
          refine PM.ready1 rfl ?_ ?_
          · have hs178 := hf5.keep hB167
            have hz179 := hB167.size
            have hn180 : (([] : List PM.Te).length + (f : List PM.Te).length) * 56 ≤ 140737488355328 ∧ ([] : List PM.Te).length + (f : List PM.Te).length ≤ maxLen := by
              unfold maxLen
              simp
              omega
            refine PM.wpList_em (e := PM.teL) teTyF PM.teL_len PM.teL_one w5.heap.size rfl _ _ rfl (.slice (some ⟨g164, 0, none⟩) 0 0) _ ([]) (f) rfl rfl hO165 hs178 hn180.1 hn180.2 hz179 ?_
            intro v171 W172 q173 q174 q175 q176
            go_wp2_with fail
            have hB177 := hB167.trans q174
            have hL181 := hL168.kept q175 (by intro k hk he; simp [Value.ownBlock] at hk; exact hap169 k he hk.symm)
            have hap182 : ∀ k, (v171 : Value).ownBlock = some k → k ≠ g158 := by
              intro k hk
              rcases q176 with h | h
              · exact hap169 k (h ▸ hk)
              · have := h k hk; omega
            have hlt183 : g158 < W172.heap.size := Nat.lt_of_lt_of_le hlt170 q175.size
            refine ⟨rfl, ?_⟩
            refine wpAny_ready (rs := [5]) (by kernel_rfl) (by simp) ?_
            refine PM.ready1 rfl ?_ ?_
            · have hs191 := hL181
              have hz192 := hB177.size
              have hn193 : (([] ++ f : List PM.Te).length + ([z] : List PM.Te).length) * 56 ≤ 140737488355328 ∧ ([] ++ f : List PM.Te).length + ([z] : List PM.Te).length ≤ maxLen := by
                unfold maxLen
                simp
                omega
              refine PM.wpList_em (e := PM.teL) teTyF PM.teL_len PM.teL_one w5.heap.size rfl _ _ rfl (v171) _ ([] ++ f) ([z]) rfl rfl q173 hs191 hn193.1 hn193.2 hz192 ?_
              intro v184 W185 q186 q187 q188 q189
              go_wp2_with fail
              have hB190 := hB177.trans q187
              refine ⟨rfl, ?_⟩
              refine wpAny_ready (rs := [6]) (by kernel_rfl) (by simp) ?_
              refine PM.ready1 rfl ?_ ?_
              · go_wp2_with fail
                refine ⟨rfl, ?_⟩
                refine wpAny_done (by kernel_rfl) ?_ _
                go_wp2_with fail
                go_meet
                exact ⟨(by simpa using q186), hB190⟩
              exact AllReady.nil
            exact AllReady.nil
          exact AllReady.nil
        exact AllReady.nil
      exact AllReady.nil
    exact AllReady.nil

  case rest =>
  obtain ⟨hO6, hB6⟩ := hcut
  obtain ⟨w7, rfl⟩ : ∃ x, x = wc := ⟨_, rfl⟩
  have hM := hO6.em PM.teL_len
  replace hf := hf.keep hB6
  replace hg := hg.keep hB6
  replace hh := hh.keep hB6
  replace hBB := PM.hid (PM.chain hBB.out hB6)
  clear hO6 hB6 hf5 e0 e1 e2 e3 e4 hfN kgt
  have m1 := PM.hid (PM.covB_refl hm.out.1)
  have m2 := PM.hid (PM.covB_more hm.out.1 [z])
  have m3 := PM.hid (PM.covB_nil f)
  cases q1 : PM.covB f g
  case false =>
    go_wp2_with fail
    refine (covers_any _ _ f g _ hf hg).mono ?_
    rintro e wn5 ⟨rfl, hBn⟩
    rw [q1]
    replace hf := hf.keep hBn
    replace hg := hg.keep hBn
    replace hh := hh.keep hBn
    replace hM := hM.keep hBn
    replace hBB := PM.hid (PM.chain hBB.out hBn)
    clear hBn
    go_wp2_with fail
    refine (covers_any _ _ f f _ hf hf).mono ?_
    rintro e wn6 ⟨rfl, hBn⟩
    rw [m1.out]
    replace hf := hf.keep hBn
    replace hg := hg.keep hBn
    replace hh := hh.keep hBn
    replace hM := hM.keep hBn
    replace hBB := PM.hid (PM.chain hBB.out hBn)
    clear hBn
    go_wp2_with fail
    refine (covers_any _ _ f (f ++ [z]) _ hf hM).mono ?_
    rintro e wn7 ⟨rfl, hBn⟩
    rw [m2.out]
    replace hf := hf.keep hBn
    replace hg := hg.keep hBn
    replace hh := hh.keep hBn
    replace hM := hM.keep hBn
    replace hBB := PM.hid (PM.chain hBB.out hBn)
    clear hBn
    go_wp2_with fail
    refine (covers_any _ _ [] f _ (PM.EM.nil _) hf).mono ?_
    rintro e wn8 ⟨rfl, hBn⟩
    rw [m3.out]
    replace hf := hf.keep hBn
    replace hg := hg.keep hBn
    replace hh := hh.keep hBn
    replace hM := hM.keep hBn
    replace hBB := PM.hid (PM.chain hBB.out hBn)
    clear hBn
    clear hf hg hh hM q1
    go_wp2_with fail
    go_ret
    exact ⟨by first | rfl | simp, hBB.out⟩
  go_wp2_with fail
  refine (covers_any _ _ f g _ hf hg).mono ?_
  rintro e wn9 ⟨rfl, hBn⟩
  rw [q1]
  replace hf := hf.keep hBn
  replace hg := hg.keep hBn
  replace hh := hh.keep hBn
  replace hM := hM.keep hBn
  replace hBB := PM.hid (PM.chain hBB.out hBn)
  clear hBn
  cases q2 : PM.covB g h
  case false =>
    go_wp2_with fail
    refine (covers_any _ _ g h _ hg hh).mono ?_
    rintro e wn10 ⟨rfl, hBn⟩
    rw [q2]
    replace hf := hf.keep hBn
    replace hg := hg.keep hBn
    replace hh := hh.keep hBn
    replace hM := hM.keep hBn
    replace hBB := PM.hid (PM.chain hBB.out hBn)
    clear hBn
    go_wp2_with fail
    refine (covers_any _ _ f f _ hf hf).mono ?_
    rintro e wn11 ⟨rfl, hBn⟩
    rw [m1.out]
    replace hf := hf.keep hBn
    replace hg := hg.keep hBn
    replace hh := hh.keep hBn
    replace hM := hM.keep hBn
    replace hBB := PM.hid (PM.chain hBB.out hBn)
    clear hBn
    go_wp2_with fail
    refine (covers_any _ _ f (f ++ [z]) _ hf hM).mono ?_
    rintro e wn12 ⟨rfl, hBn⟩
    rw [m2.out]
    replace hf := hf.keep hBn
    replace hg := hg.keep hBn
    replace hh := hh.keep hBn
    replace hM := hM.keep hBn
    replace hBB := PM.hid (PM.chain hBB.out hBn)
    clear hBn
    go_wp2_with fail
    refine (covers_any _ _ [] f _ (PM.EM.nil _) hf).mono ?_
    rintro e wn13 ⟨rfl, hBn⟩
    rw [m3.out]
    replace hf := hf.keep hBn
    replace hg := hg.keep hBn
    replace hh := hh.keep hBn
    replace hM := hM.keep hBn
    replace hBB := PM.hid (PM.chain hBB.out hBn)
    clear hBn
    clear hf hg hh hM q1 q2
    go_wp2_with fail
    go_ret
    exact ⟨by first | rfl | simp, hBB.out⟩
  go_wp2_with fail
  refine (covers_any _ _ g h _ hg hh).mono ?_
  rintro e wn14 ⟨rfl, hBn⟩
  rw [q2]
  replace hf := hf.keep hBn
  replace hg := hg.keep hBn
  replace hh := hh.keep hBn
  replace hM := hM.keep hBn
  replace hBB := PM.hid (PM.chain hBB.out hBn)
  clear hBn
  have q3 := PM.covB_trans hm.out.1 hm.out.2.1 hm.out.2.2 q1 q2
  go_wp2_with fail
  refine (covers_any _ _ f h _ hf hh).mono ?_
  rintro e wn15 ⟨rfl, hBn⟩
  rw [q3]
  replace hf := hf.keep hBn
  replace hg := hg.keep hBn
  replace hh := hh.keep hBn
  replace hM := hM.keep hBn
  replace hBB := PM.hid (PM.chain hBB.out hBn)
  clear hBn
  go_wp2_with fail
  refine (covers_any _ _ f f _ hf hf).mono ?_
  rintro e wn16 ⟨rfl, hBn⟩
  rw [m1.out]
  replace hf := hf.keep hBn
  replace hg := hg.keep hBn
  replace hh := hh.keep hBn
  replace hM := hM.keep hBn
  replace hBB := PM.hid (PM.chain hBB.out hBn)
  clear hBn
  go_wp2_with fail
  refine (covers_any _ _ f (f ++ [z]) _ hf hM).mono ?_
  rintro e wn17 ⟨rfl, hBn⟩
  rw [m2.out]
  replace hf := hf.keep hBn
  replace hg := hg.keep hBn
  replace hh := hh.keep hBn
  replace hM := hM.keep hBn
  replace hBB := PM.hid (PM.chain hBB.out hBn)
  clear hBn
  go_wp2_with fail
  refine (covers_any _ _ [] f _ (PM.EM.nil _) hf).mono ?_
  rintro e wn18 ⟨rfl, hBn⟩
  rw [m3.out]
  replace hf := hf.keep hBn
  replace hg := hg.keep hBn
  replace hh := hh.keep hBn
  replace hM := hM.keep hBn
  replace hBB := PM.hid (PM.chain hBB.out hBn)
  clear hBn
  clear hf hg hh hM q1 q2 q3
  go_wp2_with fail
  go_ret
  exact ⟨by first | rfl | simp, hBB.out⟩
end Go.Proofs.Ytenfjgfpeheepaa
