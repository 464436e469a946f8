import Derived.Test.YtnpbfjkfbobgaaaGreatJA
import Derived.Test.YtnpbfjkfbobgaaaGreatEA
import Derived.Test.YtnpbfjkfbobgaaaGreatIC
import Derived.Test.YtnpbfjkfbobgaaaGreatR0
/-
  CONTRACTS OF postilionref11.Same, SameRecord.
-/
namespace Go.Proofs.YtnpbfjkfbobgaaaGreat
open Go.RowKit
set_option linter.unusedVariables false
set_option linter.unusedSimpArgs false
set_option maxRecDepth 100000 in
set_option maxHeartbeats 8000000 in
theorem same11_any (x y : PM.En) (fx ex fy ey : Value) (w : World) (hx : x.wf) (hy : y.wf) (hfx : PM.TV w fx x.fil) (hex : PM.EVL w ex x.evs) (hfy : PM.TV w fy y.fil) (hey : PM.EVL w ey y.evs) :
    Calls Tryz.prog 13 #[.agg (PM.enC x fx ex).toArray, .agg (PM.enC y fy ey).toArray] w fun e w' => (e = .returned (.bool true) ∧ x = y ∨ e = .returned (.bool false) ∧ ¬ x = y) ∧ Below w.heap.size w w' := by
  obtain ⟨hx1, hx2, hx3, hx4, -, -⟩ := hx
  obtain ⟨hy1, hy2, hy3, hy4, -, -⟩ := hy
  obtain ⟨ak, ⟨ab, al, ar⟩, ac, au, af, ae⟩ := x
  obtain ⟨bk, ⟨bb, bl, br⟩, bc, bu, bf, be⟩ := y
  obtain ⟨hi1, hi2, hi3⟩ := hx2
  obtain ⟨hj1, hj2, hj3⟩ := hy2
  simp only at hx1 hx3 hx4 hy1 hy3 hy4 hi1 hi2 hi3 hj1 hj2 hj3 hfx hex hfy hey
  suffices h : ∀ Q : Prop, Hid (Q ↔ (ak = bk ∧ (⟨ab, al, ar⟩ : PM.Id) = ⟨bb, bl, br⟩ ∧ ac = bc ∧ au = bu ∧ af = bf ∧ ae = be)) → Calls Tryz.prog 13 #[.agg (PM.enC ⟨ak, ⟨ab, al, ar⟩, ac, au, af, ae⟩ fx ex).toArray, .agg (PM.enC ⟨bk, ⟨bb, bl, br⟩, bc, bu, bf, be⟩ fy ey).toArray] w fun e w' => (e = .returned (.bool true) ∧ Q ∨ e = .returned (.bool false) ∧ ¬ Q) ∧ Below w.heap.size w w' by
    exact h _ (Lib.hid (by simp only [PM.En.mk.injEq]))
  intro Q hEQ
  unfold PM.enC
  simp only
  obtain ⟨afa, afc, h⟩ := hfx.len; subst h
  obtain ⟨aea, aec, h⟩ := hex.len; subst h
  obtain ⟨bfa, bfc, h⟩ := hfy.len; subst h
  obtain ⟨bea, bec, h⟩ := hey.len; subst h
  have hbx := hex.bound
  have hby := hey.bound
  unfold maxLen at hbx hby
  have hLx : Hid (ae = be → ae.length = be.length) := PM.hid fun h => by rw [h]
  obtain ⟨F, hF⟩ : ∃ F, F = af.length := ⟨_, rfl⟩
  obtain ⟨G, hG⟩ : ∃ F, F = bf.length := ⟨_, rfl⟩
  obtain ⟨L, hL⟩ : ∃ F, F = ae.length := ⟨_, rfl⟩
  obtain ⟨M, hM⟩ : ∃ F, F = be.length := ⟨_, rfl⟩
  rw [← hF] at hfx ⊢
  rw [← hG] at hfy ⊢
  rw [← hL] at hbx hex hLx ⊢
  rw [← hM] at hby hey hLx ⊢
  have hLh := PM.hid hL
  have hMh := PM.hid hM
  clear hF hG hL hM
  obtain ⟨ga, hga⟩ : ∃ g, g = w.heap.size := ⟨_, rfl⟩
  obtain ⟨gb, hgb⟩ : ∃ g, g = w.heap.size + 1 := ⟨_, rfl⟩
  obtain ⟨w1, hw1⟩ : ∃ W, W = w.alloc (.cells #[.int .i64 ak, .int .i64 ab, .int .u64 (al : Int), .int .u64 (ar : Int), .int .i64 ac, .int .u64 (au : Int), .slice afa F afc, .slice aea L aec] 31) := ⟨_, rfl⟩
  obtain ⟨w2, hw2⟩ : ∃ W, W = w1.alloc (.cells #[.int .i64 bk, .int .i64 bb, .int .u64 (bl : Int), .int .u64 (br : Int), .int .i64 bc, .int .u64 (bu : Int), .slice bfa G bfc, .slice bea M bec] 31) := ⟨_, rfl⟩
  have hs1 : w1.heap.size = w.heap.size + 1 := by rw [hw1]; simp
  have hal : Below w.heap.size w w1 := by rw [hw1]; exact (Below.refl _ _).alloc (Nat.le_refl _) _
  have hal2 : Below w1.heap.size w1 w2 := by rw [hw2]; exact (Below.refl _ _).alloc (Nat.le_refl _) _
  have ka : PM.BK w1 ga #[.int .i64 ak, .int .i64 ab, .int .u64 (al : Int), .int .u64 (ar : Int), .int .i64 ac, .int .u64 (au : Int), .slice afa F afc, .slice aea L aec] 31 := by rw [hw1, hga]; exact PM.BK.new _ _ _
  replace ka := ka.keep hal2
  have kb : PM.BK w2 gb #[.int .i64 bk, .int .i64 bb, .int .u64 (bl : Int), .int .u64 (br : Int), .int .i64 bc, .int .u64 (bu : Int), .slice bfa G bfc, .slice bea M bec] 31 := by rw [hw2, hgb, ← hs1]; exact PM.BK.new _ _ _
  have hB := PM.hid (PM.chain hal hal2)
  replace hfx := PM.hid (hfx.keep hB.out)
  replace hex := PM.hid (hex.keep hB.out)
  replace hfy := PM.hid (hfy.keep hB.out)
  replace hey := PM.hid (hey.keep hB.out)
  clear hal hal2 hs1
  have hq := ideq_run ⟨ab, al, ar⟩ ⟨bb, bl, br⟩
  simp only at hq
  go_enter Tryz.func13, Tryz.ntmps13
  go_upto_region 1 with fail
  rw [← hw1, ← hw2, ← hgb, ← hga]
  clear hw1 hw2 hga hgb
  have c0 : w2.cell? ⟨ga, 0, none⟩ = some (.int .i64 ak) := ka.cell 0
  have c1 : w2.cell? ⟨ga, 1, none⟩ = some (.int .i64 ab) := ka.cell 1
  have c2 : w2.cell? ⟨ga, 2, none⟩ = some (.int .u64 (al : Int)) := ka.cell 2
  have c3 : w2.cell? ⟨ga, 3, none⟩ = some (.int .u64 (ar : Int)) := ka.cell 3
  have c4 : w2.cell? ⟨ga, 4, none⟩ = some (.int .i64 ac) := ka.cell 4
  have c5 : w2.cell? ⟨ga, 5, none⟩ = some (.int .u64 (au : Int)) := ka.cell 5
  have c6 : w2.cell? ⟨ga, 6, none⟩ = some (.slice afa F afc) := ka.cell 6
  have c7 : w2.cell? ⟨ga, 7, none⟩ = some (.slice aea L aec) := ka.cell 7
  have d0 : w2.cell? ⟨gb, 0, none⟩ = some (.int .i64 bk) := kb.cell 0
  have d1 : w2.cell? ⟨gb, 1, none⟩ = some (.int .i64 bb) := kb.cell 1
  have d2 : w2.cell? ⟨gb, 2, none⟩ = some (.int .u64 (bl : Int)) := kb.cell 2
  have d3 : w2.cell? ⟨gb, 3, none⟩ = some (.int .u64 (br : Int)) := kb.cell 3
  have d4 : w2.cell? ⟨gb, 4, none⟩ = some (.int .i64 bc) := kb.cell 4
  have d5 : w2.cell? ⟨gb, 5, none⟩ = some (.int .u64 (bu : Int)) := kb.cell 5
  have d6 : w2.cell? ⟨gb, 6, none⟩ = some (.slice bfa G bfc) := kb.cell 6
  have d7 : w2.cell? ⟨gb, 7, none⟩ = some (.slice bea M bec) := kb.cell 7
  go_wp2_with fail
  refine (fsame_any _ _ af bf w2 hfx.out hfy.out).mono ?_
  rintro e w3 ⟨hr, hB3⟩
  replace ka := ka.keep hB3
  replace kb := kb.keep hB3
  replace hex := PM.hid (hex.out.keep hB3)
  replace hey := PM.hid (hey.out.keep hB3)
  replace hB := PM.hid (PM.chain hB.out hB3)
  clear hB3 c0 c1 c2 c3 c4 c5 c6 c7 d0 d1 d2 d3 d4 d5 d6 d7
  rcases hr with ⟨rfl, hf⟩ | ⟨rfl, hf⟩
  case inr =>
    replace hf := PM.hid hf
    clear ka kb
    go_wp2_with fail
    go_ret
    exact ⟨.inr ⟨rfl, fun h => hf.out (hEQ.out.1 h).2.2.2.2.1⟩, hB.out⟩
  replace hf := PM.hid hf
  by_cases hlm : L = M
  case neg =>
    have hlm' : ((L : Int) == (M : Int)) = false := by simp; omega
    have hlmh := PM.hid hlm
    have c0 : w3.cell? ⟨ga, 0, none⟩ = some (.int .i64 ak) := ka.cell 0
    have c1 : w3.cell? ⟨ga, 1, none⟩ = some (.int .i64 ab) := ka.cell 1
    have c2 : w3.cell? ⟨ga, 2, none⟩ = some (.int .u64 (al : Int)) := ka.cell 2
    have c3 : w3.cell? ⟨ga, 3, none⟩ = some (.int .u64 (ar : Int)) := ka.cell 3
    have c4 : w3.cell? ⟨ga, 4, none⟩ = some (.int .i64 ac) := ka.cell 4
    have c5 : w3.cell? ⟨ga, 5, none⟩ = some (.int .u64 (au : Int)) := ka.cell 5
    have c6 : w3.cell? ⟨ga, 6, none⟩ = some (.slice afa F afc) := ka.cell 6
    have c7 : w3.cell? ⟨ga, 7, none⟩ = some (.slice aea L aec) := ka.cell 7
    have d0 : w3.cell? ⟨gb, 0, none⟩ = some (.int .i64 bk) := kb.cell 0
    have d1 : w3.cell? ⟨gb, 1, none⟩ = some (.int .i64 bb) := kb.cell 1
    have d2 : w3.cell? ⟨gb, 2, none⟩ = some (.int .u64 (bl : Int)) := kb.cell 2
    have d3 : w3.cell? ⟨gb, 3, none⟩ = some (.int .u64 (br : Int)) := kb.cell 3
    have d4 : w3.cell? ⟨gb, 4, none⟩ = some (.int .i64 bc) := kb.cell 4
    have d5 : w3.cell? ⟨gb, 5, none⟩ = some (.int .u64 (bu : Int)) := kb.cell 5
    have d6 : w3.cell? ⟨gb, 6, none⟩ = some (.slice bfa G bfc) := kb.cell 6
    have d7 : w3.cell? ⟨gb, 7, none⟩ = some (.slice bea M bec) := kb.cell 7
    go_wp2_with fail
    go_ret
    exact ⟨.inr ⟨rfl, fun h => hlmh.out (hLx.out (hEQ.out.1 h).2.2.2.2.2)⟩, hB.out⟩
  subst hlm
  have c0 : w3.cell? ⟨ga, 0, none⟩ = some (.int .i64 ak) := ka.cell 0
  have c1 : w3.cell? ⟨ga, 1, none⟩ = some (.int .i64 ab) := ka.cell 1
  have c2 : w3.cell? ⟨ga, 2, none⟩ = some (.int .u64 (al : Int)) := ka.cell 2
  have c3 : w3.cell? ⟨ga, 3, none⟩ = some (.int .u64 (ar : Int)) := ka.cell 3
  have c4 : w3.cell? ⟨ga, 4, none⟩ = some (.int .i64 ac) := ka.cell 4
  have c5 : w3.cell? ⟨ga, 5, none⟩ = some (.int .u64 (au : Int)) := ka.cell 5
  have c6 : w3.cell? ⟨ga, 6, none⟩ = some (.slice afa F afc) := ka.cell 6
  have c7 : w3.cell? ⟨ga, 7, none⟩ = some (.slice aea L aec) := ka.cell 7
  have d0 : w3.cell? ⟨gb, 0, none⟩ = some (.int .i64 bk) := kb.cell 0
  have d1 : w3.cell? ⟨gb, 1, none⟩ = some (.int .i64 bb) := kb.cell 1
  have d2 : w3.cell? ⟨gb, 2, none⟩ = some (.int .u64 (bl : Int)) := kb.cell 2
  have d3 : w3.cell? ⟨gb, 3, none⟩ = some (.int .u64 (br : Int)) := kb.cell 3
  have d4 : w3.cell? ⟨gb, 4, none⟩ = some (.int .i64 bc) := kb.cell 4
  have d5 : w3.cell? ⟨gb, 5, none⟩ = some (.int .u64 (bu : Int)) := kb.cell 5
  have d6 : w3.cell? ⟨gb, 6, none⟩ = some (.slice bfa G bfc) := kb.cell 6
  have d7 : w3.cell? ⟨gb, 7, none⟩ = some (.slice bea L bec) := kb.cell 7
  go_wp2_with fail
  clear c0 c1 c2 c3 c4 c5 c6 c7 d0 d1 d2 d3 d4 d5 d6 d7
  have hBk := PM.hid (And.intro ka kb)
  clear ka kb
  go_loopw [6] (fun i wr => ∃ k : Nat, i = .int .i64 k ∧ k ≤ L ∧ Below w3.heap.size w3 wr ∧ Hid (∀ j, j < k → ae[j]? = be[j]?)) (fun i _ => L - (intOf i).toNat)
  case atStart => exact ⟨0, rfl, by omega, Below.refl _ _, PM.hid fun j hj => absurd hj (by omega)⟩
  case round =>
    obtain ⟨k, rfl, hk, hBw, hin⟩ := hrel
    have ka := hBk.out.1.keep hBw
    have kb := hBk.out.2.keep hBw
    have hBr := PM.hid (PM.chain hB.out hBw)
    have hBwh := PM.hid hBw
    by_cases hlt : k < L
    · obtain ⟨px, hxx⟩ : ∃ x, ae[k]? = some x := ⟨ae[k]'(by rw [← hLh.out]; exact hlt), List.getElem?_eq_getElem _⟩
      obtain ⟨py, hyy⟩ : ∃ x, be[k]? = some x := ⟨be[k]'(by rw [← hMh.out]; exact hlt), List.getElem?_eq_getElem _⟩
      obtain ⟨ba, oa, rfl, hce⟩ := PM.RR.opn hex.out (by rw [← hLh.out]; omega)
      obtain ⟨bo, ob, rfl, hcf⟩ := PM.RR.opn hey.out (by rw [← hMh.out]; omega)
      obtain ⟨cs, hl0, xv, hcs, hxv⟩ := hce k px hxx
      obtain ⟨ds, hl1, yv, hds, hyv⟩ := hcf k py hyy
      have e1 := PM.cellA hBw (hl0 0 xv (by rw [hcs]; rfl))
      have e2 := PM.cellA hBw (hl1 0 yv (by rw [hds]; rfl))
      rw [Nat.mul_one, Nat.add_zero] at e1 e2
      replace hxv := hxv.keep hBw
      replace hyv := hyv.keep hBw
      have hxh := PM.hid hxx
      obtain ⟨qb, hqb⟩ : ∃ q : Bool, (q = true ↔ px = py) := by classical exact ⟨decide (px = py), by simp⟩
      have hyh := PM.hid hyy
      clear hxx hyy hce hcf hl0 hl1 hcs hds cs ds hBw
      have c7 : wr.cell? ⟨ga, 7, none⟩ = some (.slice (some ⟨ba, oa, none⟩) L aec) := ka.cell 7
      go_upto_region 7 with fail
      clear c7
      refine PM.wp_region_st [some 31, some 32, some 33, some 34, some 35, some 36, some 37, some 38, some 39, some 40, some 41, some 7] [fun x _ => x = .pointer (some ⟨ga, 7, none⟩), fun x _ => x = .slice (some ⟨ba, oa, none⟩) L aec, fun x _ => x = .int .i64 (k : Int), fun x _ => x = .pointer (some ⟨ba, oa + k, none⟩), fun x _ => x = xv, fun x _ => x = .pointer (some ⟨gb, 7, none⟩), fun x _ => x = .slice (some ⟨bo, ob, none⟩) L bec, fun x _ => x = .int .i64 (k : Int), fun x _ => x = .pointer (some ⟨bo, ob + k, none⟩), fun x _ => x = yv, fun x _ => x = .bool qb, fun x _ => x = .bool qb] (by kernel_rfl) (by kernel_rfl) (by kernel_rfl) ?_ ?_ ?_
      · simp only [List.forall_mem_cons]
        refine ⟨?_, ?_, ?_, ?_, ?_, ?_, ?_, ?_, ?_, ?_, ?_, ?_, by simp⟩
        all_goals (intro x W W' h hb; first | exact h | exact PM.BS.keep hb h | exact PM.OW.keep hb h)
      · refine ⟨?_, ?_, ?_, ?_, ?_, ?_, ?_, ?_, ?_, ?_, ?_, ?_, trivial⟩
        all_goals
          intro a W hB hF hd
          have k2 := hF 2 rfl
          have k3 := hF 3 rfl
          have k6 := hF 6 rfl
          have kaW := ka.keep hB
          have kbW := kb.keep hB
          have c7 : W.cell? ⟨ga, 7, none⟩ = some (.slice (some ⟨ba, oa, none⟩) L aec) := kaW.cell 7
          have d7 : W.cell? ⟨gb, 7, none⟩ = some (.slice (some ⟨bo, ob, none⟩) L bec) := kbW.cell 7
          have e0 := PM.cellA hB e1
          have e0' := PM.cellA hB e2
          clear hF
          simp [PM.depsL, PM.spec, PM.sl, Region.binds] at hd k2 k3 k6
          simp only [PM.wantL, PM.spec]
          try simp only [PM.sl]
          go_simp
        all_goals try exact Below.refl _ _
        · refine (esame_any xv yv px py W (hxv.keep hB) (hyv.keep hB)).mono ?_
          rintro e w' ⟨⟨rfl, h⟩ | ⟨rfl, h⟩, hb⟩
          · exact ⟨hb, by rw [hqb.2 h]⟩
          · exact ⟨hb, by rw [show qb = false from by cases hq : qb; rfl; exact absurd (hqb.1 hq) h]⟩
      · intro G W hB hF hS
        simp [PM.allSp, PM.spec] at hS
        have h7 : G 7 = .bool qb := by simp [hS]
        rw [show ((List.range (Array.size _)).map G).toArray = #[G 0, G 1, G 2, G 3, G 4, G 5, G 6, G 7, G 8, G 9, G 10, G 11, G 12, G 13, G 14, G 15, G 16, G 17, G 18, G 19, G 20, G 21, G 22, G 23, G 24, G 25, G 26, G 27, G 28, G 29, G 30, G 31, G 32, G 33, G 34, G 35, G 36, G 37, G 38, G 39, G 40, G 41, G 42, G 43, G 44, G 45, G 46, G 47, G 48, G 49, G 50, G 51, G 52, G 53, G 54, G 55, G 56, G 57, G 58, G 59, G 60, G 61, G 62, G 63, G 64, G 65, G 66, G 67, G 68, G 69] from rfl]
        have k0 := hF 0 rfl
        have k1 := hF 1 rfl
        have k2 := hF 2 rfl
        have k3 := hF 3 rfl
        have k4 := hF 4 rfl
        have k5 := hF 5 rfl
        have k6 := hF 6 rfl
        have k8 := hF 8 rfl
        have k9 := hF 9 rfl
        have k10 := hF 10 rfl
        have k11 := hF 11 rfl
        have k12 := hF 12 rfl
        have k13 := hF 13 rfl
        have k14 := hF 14 rfl
        have k15 := hF 15 rfl
        have k16 := hF 16 rfl
        have k17 := hF 17 rfl
        have k18 := hF 18 rfl
        have k19 := hF 19 rfl
        have k20 := hF 20 rfl
        have k21 := hF 21 rfl
        have k22 := hF 22 rfl
        have k23 := hF 23 rfl
        have k24 := hF 24 rfl
        have k25 := hF 25 rfl
        have k26 := hF 26 rfl
        have k27 := hF 27 rfl
        have k28 := hF 28 rfl
        have k29 := hF 29 rfl
        have k30 := hF 30 rfl
        have k42 := hF 42 rfl
        have k43 := hF 43 rfl
        have k44 := hF 44 rfl
        have k45 := hF 45 rfl
        have k46 := hF 46 rfl
        have k47 := hF 47 rfl
        have k48 := hF 48 rfl
        have k49 := hF 49 rfl
        have k50 := hF 50 rfl
        have k51 := hF 51 rfl
        have k52 := hF 52 rfl
        have k53 := hF 53 rfl
        have k54 := hF 54 rfl
        have k55 := hF 55 rfl
        have k56 := hF 56 rfl
        have k57 := hF 57 rfl
        have k58 := hF 58 rfl
        have k59 := hF 59 rfl
        have k60 := hF 60 rfl
        have k61 := hF 61 rfl
        have k62 := hF 62 rfl
        have k63 := hF 63 rfl
        have k64 := hF 64 rfl
        have k65 := hF 65 rfl
        have k66 := hF 66 rfl
        have k67 := hF 67 rfl
        have k68 := hF 68 rfl
        have k69 := hF 69 rfl
        simp [PM.sl] at k0 k1 k2 k3 k4 k5 k6 k8 k9 k10 k11 k12 k13 k14 k15 k16 k17 k18 k19 k20 k21 k22 k23 k24 k25 k26 k27 k28 k29 k30 k42 k43 k44 k45 k46 k47 k48 k49 k50 k51 k52 k53 k54 k55 k56 k57 k58 k59 k60 k61 k62 k63 k64 k65 k66 k67 k68 k69
        clear hF hS
        rw [h7, k0, k1, k2, k3, k4, k5, k6, k8, k9, k10, k11, k12, k13, k14, k15, k16, k17, k18, k19, k20, k21, k22, k23, k24, k25, k26, k27, k28, k29, k30, k42, k43, k44, k45, k46, k47, k48, k49, k50, k51, k52, k53, k54, k55, k56, k57, k58, k59, k60, k61, k62, k63, k64, k65, k66, k67, k68, k69]
        clear h7 k0 k1 k2 k3 k4 k5 k6 k8 k9 k10 k11 k12 k13 k14 k15 k16 k17 k18 k19 k20 k21 k22 k23 k24 k25 k26 k27 k28 k29 k30 k42 k43 k44 k45 k46 k47 k48 k49 k50 k51 k52 k53 k54 k55 k56 k57 k58 k59 k60 k61 k62 k63 k64 k65 k66 k67 k68 k69
        have hB7 := PM.hid (PM.chain hBr.out hB)
        have hB8 := PM.hid (PM.chain hBwh.out hB)
        clear hB hxv hyv e1 e2 ka kb
        by_cases hxy : px = py
        · rw [hqb.2 hxy]
          replace hxy := PM.hid hxy
          go_wp2_with fail
          refine ⟨⟨k + 1, by go_num, by omega, hB8.out, PM.hid fun j hj => ?_⟩, by simp only [intOf]; omega⟩
          by_cases hjk : j < k
          · exact hin.out j hjk
          · obtain rfl : j = k := by omega
            rw [hxh.out, hyh.out, hxy.out]
        · rw [show qb = false from by cases hq : qb; rfl; exact absurd (hqb.1 hq) hxy]
          replace hxy := PM.hid hxy
          go_wp2_with fail
          go_ret
          exact ⟨.inr ⟨rfl, fun h => hxy.out (by have h1 := hEQ.out.1 h; obtain ⟨_, _, _, _, _, h2⟩ := h1; rw [h2] at hxh; have := hxh.out.symm.trans hyh.out; injection this)⟩, hB7.out⟩
    · obtain rfl : k = L := by omega
      have hae : Hid (ae = be) := PM.hid (List.ext_getElem? fun j => by
        by_cases hj : j < k
        · exact hin.out j hj
        · rw [List.getElem?_eq_none (by rw [← hLh.out]; omega), List.getElem?_eq_none (by rw [← hMh.out]; omega)])
      clear hBw
      have c0 : wr.cell? ⟨ga, 0, none⟩ = some (.int .i64 ak) := ka.cell 0
      have c1 : wr.cell? ⟨ga, 1, none⟩ = some (.int .i64 ab) := ka.cell 1
      have c2 : wr.cell? ⟨ga, 2, none⟩ = some (.int .u64 (al : Int)) := ka.cell 2
      have c3 : wr.cell? ⟨ga, 3, none⟩ = some (.int .u64 (ar : Int)) := ka.cell 3
      have c4 : wr.cell? ⟨ga, 4, none⟩ = some (.int .i64 ac) := ka.cell 4
      have c5 : wr.cell? ⟨ga, 5, none⟩ = some (.int .u64 (au : Int)) := ka.cell 5
      have c6 : wr.cell? ⟨ga, 6, none⟩ = some (.slice afa F afc) := ka.cell 6
      have c7 : wr.cell? ⟨ga, 7, none⟩ = some (.slice aea k aec) := ka.cell 7
      have d0 : wr.cell? ⟨gb, 0, none⟩ = some (.int .i64 bk) := kb.cell 0
      have d1 : wr.cell? ⟨gb, 1, none⟩ = some (.int .i64 bb) := kb.cell 1
      have d2 : wr.cell? ⟨gb, 2, none⟩ = some (.int .u64 (bl : Int)) := kb.cell 2
      have d3 : wr.cell? ⟨gb, 3, none⟩ = some (.int .u64 (br : Int)) := kb.cell 3
      have d4 : wr.cell? ⟨gb, 4, none⟩ = some (.int .i64 bc) := kb.cell 4
      have d5 : wr.cell? ⟨gb, 5, none⟩ = some (.int .u64 (bu : Int)) := kb.cell 5
      have d6 : wr.cell? ⟨gb, 6, none⟩ = some (.slice bfa G bfc) := kb.cell 6
      have d7 : wr.cell? ⟨gb, 7, none⟩ = some (.slice bea k bec) := kb.cell 7
      by_cases h1 : ak = bk
      case neg =>
        replace hB := hBr
        have h1h := PM.hid h1
        have h1' : (ak == bk) = false := by simpa using h1
        clear h1
        go_wp2_with fail
        go_ret
        exact ⟨.inr ⟨rfl, fun h => h1h.out (hEQ.out.1 h).1⟩, hB.out⟩
      subst h1
      by_cases h2 : (⟨ab, al, ar⟩ : PM.Id) = ⟨bb, bl, br⟩
      case neg =>
        rw [decide_eq_false h2] at hq
        replace h2 := PM.hid h2
        go_wp2_with fail
        go_ret
        exact ⟨.inr ⟨rfl, fun h => h2.out (hEQ.out.1 h).2.1⟩, hBr.out⟩
      rw [decide_eq_true h2] at hq
      replace h2 := PM.hid h2
      by_cases h3 : ac = bc
      case neg =>
        have h3h := PM.hid h3
        go_wp2_with fail
        go_ret
        exact ⟨.inr ⟨rfl, fun h => h3h.out (hEQ.out.1 h).2.2.1⟩, hBr.out⟩
      subst h3
      by_cases h4 : au = bu
      case neg =>
        have h4h := PM.hid h4
        have h4' : ((au : Int) == (bu : Int)) = false := by simp; omega
        go_wp2_with fail
        go_ret
        exact ⟨.inr ⟨rfl, fun h => h4h.out (hEQ.out.1 h).2.2.2.1⟩, hBr.out⟩
      subst h4
      have yes := PM.hid (hEQ.out.2 ⟨rfl, h2.out, rfl, rfl, hf.out, hae.out⟩)
      clear hEQ
      go_wp2_with fail
      go_ret
      exact ⟨.inl ⟨rfl, yes.out⟩, hBr.out⟩
end Go.Proofs.YtnpbfjkfbobgaaaGreat

/-
  CONTRACT OF postilionref11.SameRecord.
-/
namespace Go.Proofs.YtnpbfjkfbobgaaaGreat
open Go.RowKit
set_option linter.unusedVariables false
set_option linter.unusedSimpArgs false
end Go.Proofs.YtnpbfjkfbobgaaaGreat
