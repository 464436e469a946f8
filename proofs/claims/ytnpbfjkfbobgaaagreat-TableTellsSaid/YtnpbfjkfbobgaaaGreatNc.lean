/-
  CONTRACTS OF norm.rules, norm.Implies.
-/
import Derived.Test.YtnpbfjkfbobgaaaGreatNb
import Derived.Test.YtnpbfjkfbobgaaaGreatR0
import Derived.Test.YtnpbfjkfbobgaaaGreatEA
import Derived.Deep.CutRange
namespace Go.Proofs.YtnpbfjkfbobgaaaGreat
open Go.RowKit
set_option linter.unusedVariables false
set_option linter.unusedSimpArgs false
set_option maxRecDepth 100000 in
set_option maxHeartbeats 1000000 in
theorem rules_any (w : World) : Calls Tryz.prog 76 #[] w fun e w' => e = .returned (.agg #[.nilFunc, .func (.func 82) #[] #[], .func (.func 83) #[] #[], .func (.func 84) #[] #[], .func (.func 85) #[] #[], .func (.func 86) #[] #[], .func (.func 87) #[] #[], .func (.func 88) #[] #[]]) ∧ Below w.heap.size w w' := by
  obtain ⟨g, hg⟩ : ∃ g, g = w.heap.size := ⟨_, rfl⟩
  obtain ⟨w1, hw1⟩ : ∃ W, W = w.alloc (.cells #[.nilFunc, .nilFunc, .nilFunc, .nilFunc, .nilFunc, .nilFunc, .nilFunc, .nilFunc] 97) := ⟨_, rfl⟩
  have hB : Below w.heap.size w w1 := by rw [hw1]; exact (Below.refl _ _).alloc (Nat.le_refl _) _
  have hk : PM.BK w1 g #[.nilFunc, .nilFunc, .nilFunc, .nilFunc, .nilFunc, .nilFunc, .nilFunc, .nilFunc] 97 := by rw [hw1, hg]; exact PM.BK.new _ _ _
  have hgw : w.heap.size ≤ g := by omega
  have c0 : w1.cell? ⟨g, 0, none⟩ = some .nilFunc := hk.cell 0
  have f0 : w1.frozen? ⟨g, 0, none⟩ = false := hk.free 0
  have c1 : w1.cell? ⟨g, 1, none⟩ = some .nilFunc := hk.cell 1
  have f1 : w1.frozen? ⟨g, 1, none⟩ = false := hk.free 1
  have c2 : w1.cell? ⟨g, 2, none⟩ = some .nilFunc := hk.cell 2
  have f2 : w1.frozen? ⟨g, 2, none⟩ = false := hk.free 2
  have c3 : w1.cell? ⟨g, 3, none⟩ = some .nilFunc := hk.cell 3
  have f3 : w1.frozen? ⟨g, 3, none⟩ = false := hk.free 3
  have c4 : w1.cell? ⟨g, 4, none⟩ = some .nilFunc := hk.cell 4
  have f4 : w1.frozen? ⟨g, 4, none⟩ = false := hk.free 4
  have c5 : w1.cell? ⟨g, 5, none⟩ = some .nilFunc := hk.cell 5
  have f5 : w1.frozen? ⟨g, 5, none⟩ = false := hk.free 5
  have c6 : w1.cell? ⟨g, 6, none⟩ = some .nilFunc := hk.cell 6
  have f6 : w1.frozen? ⟨g, 6, none⟩ = false := hk.free 6
  have c7 : w1.cell? ⟨g, 7, none⟩ = some .nilFunc := hk.cell 7
  have f7 : w1.frozen? ⟨g, 7, none⟩ = false := hk.free 7
  go_enter Tryz.func76, Tryz.ntmps76
  go_upto_region 1 with fail
  rw [← hw1, ← hg]
  clear hw1 hg
  have rsf : ∀ (ad : Addr) (f : Fn) (W : World), (store ad (.func f #[] #[])).run Tryz.prog W = stored Tryz.prog W ad (.func f #[] #[]) .plain := fun ad f W => run_store _ W ad _ _ rfl
  have rsn : ∀ (ad : Addr) (W : World), (store ad .nilFunc).run Tryz.prog W = stored Tryz.prog W ad .nilFunc .plain := fun ad W => run_store _ W ad _ _ rfl
  go_wp2
  have ZF := ((((((((hk.set 0 (.nilFunc)).set 1 (.func (.func 82) #[] #[])).set 2 (.func (.func 83) #[] #[])).set 3 (.func (.func 84) #[] #[])).set 4 (.func (.func 85) #[] #[])).set 5 (.func (.func 86) #[] #[])).set 6 (.func (.func 87) #[] #[])).set 7 (.func (.func 88) #[] #[]))
  have hxf : PM.Bx g w1 ((((((((w1.setCell ⟨g, 0, none⟩ (.nilFunc)).setCell ⟨g, 1, none⟩ (.func (.func 82) #[] #[])).setCell ⟨g, 2, none⟩ (.func (.func 83) #[] #[])).setCell ⟨g, 3, none⟩ (.func (.func 84) #[] #[])).setCell ⟨g, 4, none⟩ (.func (.func 85) #[] #[])).setCell ⟨g, 5, none⟩ (.func (.func 86) #[] #[])).setCell ⟨g, 6, none⟩ (.func (.func 87) #[] #[])).setCell ⟨g, 7, none⟩ (.func (.func 88) #[] #[])) := (((((((PM.Bx.set g 0 w1 _).trans (PM.Bx.set g 1 _ _)).trans (PM.Bx.set g 2 _ _)).trans (PM.Bx.set g 3 _ _)).trans (PM.Bx.set g 4 _ _)).trans (PM.Bx.set g 5 _ _)).trans (PM.Bx.set g 6 _ _)).trans (PM.Bx.set g 7 _ _)
  generalize ((((((((w1.setCell ⟨g, 0, none⟩ (.nilFunc)).setCell ⟨g, 1, none⟩ (.func (.func 82) #[] #[])).setCell ⟨g, 2, none⟩ (.func (.func 83) #[] #[])).setCell ⟨g, 3, none⟩ (.func (.func 84) #[] #[])).setCell ⟨g, 4, none⟩ (.func (.func 85) #[] #[])).setCell ⟨g, 5, none⟩ (.func (.func 86) #[] #[])).setCell ⟨g, 6, none⟩ (.func (.func 87) #[] #[])).setCell ⟨g, 7, none⟩ (.func (.func 88) #[] #[])) = wf at *
  have ZG : PM.BK wf g #[.nilFunc, .func (.func 82) #[] #[], .func (.func 83) #[] #[], .func (.func 84) #[] #[], .func (.func 85) #[] #[], .func (.func 86) #[] #[], .func (.func 87) #[] #[], .func (.func 88) #[] #[]] 97 := by simpa using ZF
  have q0 : wf.cell? ⟨g, 0, none⟩ = some (.nilFunc) := ZG.cell 0
  have q1 : wf.cell? ⟨g, 1, none⟩ = some (.func (.func 82) #[] #[]) := ZG.cell 1
  have q2 : wf.cell? ⟨g, 2, none⟩ = some (.func (.func 83) #[] #[]) := ZG.cell 2
  have q3 : wf.cell? ⟨g, 3, none⟩ = some (.func (.func 84) #[] #[]) := ZG.cell 3
  have q4 : wf.cell? ⟨g, 4, none⟩ = some (.func (.func 85) #[] #[]) := ZG.cell 4
  have q5 : wf.cell? ⟨g, 5, none⟩ = some (.func (.func 86) #[] #[]) := ZG.cell 5
  have q6 : wf.cell? ⟨g, 6, none⟩ = some (.func (.func 87) #[] #[]) := ZG.cell 6
  have q7 : wf.cell? ⟨g, 7, none⟩ = some (.func (.func 88) #[] #[]) := ZG.cell 7
  refine bodyPost_ret (v := .agg #[.nilFunc, .func (.func 82) #[] #[], .func (.func 83) #[] #[], .func (.func 84) #[] #[], .func (.func 85) #[] #[], .func (.func 86) #[] #[], .func (.func 87) #[] #[], .func (.func 88) #[] #[]]) (by simp [results, Tryz.results76, go_sem, q0, q1, q2, q3, q4, q5, q6, q7]) rfl ?_
  exact ⟨rfl, hxf.below hB hgw hB.size⟩
theorem ruleAt1 (W : World) : (Instr.index 97 (.agg #[.nilFunc, .func (.func 82) #[] #[], .func (.func 83) #[] #[], .func (.func 84) #[] #[], .func (.func 85) #[] #[], .func (.func 86) #[] #[], .func (.func 87) #[] #[], .func (.func 88) #[] #[]]) (.int .i64 1)).run Tryz.prog W = .ok (.func (.func 82) #[] #[]) W := by kernel_rfl
theorem ruleAt2 (W : World) : (Instr.index 97 (.agg #[.nilFunc, .func (.func 82) #[] #[], .func (.func 83) #[] #[], .func (.func 84) #[] #[], .func (.func 85) #[] #[], .func (.func 86) #[] #[], .func (.func 87) #[] #[], .func (.func 88) #[] #[]]) (.int .i64 2)).run Tryz.prog W = .ok (.func (.func 83) #[] #[]) W := by kernel_rfl
theorem ruleAt3 (W : World) : (Instr.index 97 (.agg #[.nilFunc, .func (.func 82) #[] #[], .func (.func 83) #[] #[], .func (.func 84) #[] #[], .func (.func 85) #[] #[], .func (.func 86) #[] #[], .func (.func 87) #[] #[], .func (.func 88) #[] #[]]) (.int .i64 3)).run Tryz.prog W = .ok (.func (.func 84) #[] #[]) W := by kernel_rfl
theorem ruleAt4 (W : World) : (Instr.index 97 (.agg #[.nilFunc, .func (.func 82) #[] #[], .func (.func 83) #[] #[], .func (.func 84) #[] #[], .func (.func 85) #[] #[], .func (.func 86) #[] #[], .func (.func 87) #[] #[], .func (.func 88) #[] #[]]) (.int .i64 4)).run Tryz.prog W = .ok (.func (.func 85) #[] #[]) W := by kernel_rfl
theorem ruleAt5 (W : World) : (Instr.index 97 (.agg #[.nilFunc, .func (.func 82) #[] #[], .func (.func 83) #[] #[], .func (.func 84) #[] #[], .func (.func 85) #[] #[], .func (.func 86) #[] #[], .func (.func 87) #[] #[], .func (.func 88) #[] #[]]) (.int .i64 5)).run Tryz.prog W = .ok (.func (.func 86) #[] #[]) W := by kernel_rfl
theorem ruleAt6 (W : World) : (Instr.index 97 (.agg #[.nilFunc, .func (.func 82) #[] #[], .func (.func 83) #[] #[], .func (.func 84) #[] #[], .func (.func 85) #[] #[], .func (.func 86) #[] #[], .func (.func 87) #[] #[], .func (.func 88) #[] #[]]) (.int .i64 6)).run Tryz.prog W = .ok (.func (.func 87) #[] #[]) W := by kernel_rfl
theorem ruleAt7 (W : World) : (Instr.index 97 (.agg #[.nilFunc, .func (.func 82) #[] #[], .func (.func 83) #[] #[], .func (.func 84) #[] #[], .func (.func 85) #[] #[], .func (.func 86) #[] #[], .func (.func 87) #[] #[], .func (.func 88) #[] #[]]) (.int .i64 7)).run Tryz.prog W = .ok (.func (.func 88) #[] #[]) W := by kernel_rfl
set_option maxRecDepth 100000 in
set_option maxHeartbeats 4000000 in
theorem implies_any (za zb : PM.Te) (w : World) : Calls Tryz.prog 65 #[.agg #[.string za.name, .int .i64 za.op, .int .i64 za.k, .int .i64 za.n, .string za.s], .agg #[.string zb.name, .int .i64 zb.op, .int .i64 zb.k, .int .i64 zb.n, .string zb.s]] w fun e w' => e = .returned (.bool (PM.impB za zb)) ∧ Below w.heap.size w w' := by
  obtain ⟨ga, hga⟩ : ∃ g, g = w.heap.size := ⟨_, rfl⟩
  obtain ⟨wa, hwa⟩ : ∃ W, W = w.alloc (.cells #[.string za.name, .int .i64 za.op, .int .i64 za.k, .int .i64 za.n, .string za.s] 50) := ⟨_, rfl⟩
  obtain ⟨gb, hgb⟩ : ∃ g, g = w.heap.size + 1 := ⟨_, rfl⟩
  obtain ⟨wb, hwb⟩ : ∃ W, W = wa.alloc (.cells #[.string zb.name, .int .i64 zb.op, .int .i64 zb.k, .int .i64 zb.n, .string zb.s] 50) := ⟨_, rfl⟩
  have hBa : Below w.heap.size w wa := by rw [hwa]; exact (Below.refl _ _).alloc (Nat.le_refl _) _
  have hBb : Below wa.heap.size wa wb := by rw [hwb]; exact (Below.refl _ _).alloc (Nat.le_refl _) _
  have hsa : wa.heap.size = w.heap.size + 1 := by rw [hwa]; simp
  have ka : PM.BK wb ga #[.string za.name, .int .i64 za.op, .int .i64 za.k, .int .i64 za.n, .string za.s] 50 := by
    have : PM.BK wa ga #[.string za.name, .int .i64 za.op, .int .i64 za.k, .int .i64 za.n, .string za.s] 50 := by rw [hwa, hga]; exact PM.BK.new _ _ _
    exact this.keep hBb
  have kb : PM.BK wb gb #[.string zb.name, .int .i64 zb.op, .int .i64 zb.k, .int .i64 zb.n, .string zb.s] 50 := by rw [hwb, hgb, ← hsa]; exact PM.BK.new _ _ _
  have hBh := PM.hid (PM.chain hBa hBb)
  have c0 : wb.cell? ⟨ga, 0, none⟩ = some (.string za.name) := ka.cell 0
  have c1 : wb.cell? ⟨ga, 1, none⟩ = some (.int .i64 za.op) := ka.cell 1
  have c2 : wb.cell? ⟨ga, 2, none⟩ = some (.int .i64 za.k) := ka.cell 2
  have c3 : wb.cell? ⟨ga, 3, none⟩ = some (.int .i64 za.n) := ka.cell 3
  have c4 : wb.cell? ⟨ga, 4, none⟩ = some (.string za.s) := ka.cell 4
  have d0 : wb.cell? ⟨gb, 0, none⟩ = some (.string zb.name) := kb.cell 0
  have d1 : wb.cell? ⟨gb, 1, none⟩ = some (.int .i64 zb.op) := kb.cell 1
  have d2 : wb.cell? ⟨gb, 2, none⟩ = some (.int .i64 zb.k) := kb.cell 2
  have d3 : wb.cell? ⟨gb, 3, none⟩ = some (.int .i64 zb.n) := kb.cell 3
  have d4 : wb.cell? ⟨gb, 4, none⟩ = some (.string zb.s) := kb.cell 4
  go_enter Tryz.func65, Tryz.ntmps65
  go_upto_region 1 with fail
  rw [← hwa, ← hwb, ← hgb, ← hga]
  clear hwa hwb hgb hga hsa hBa hBb
  have hkk := PM.hid (And.intro ka kb)
  clear ka kb
  by_cases hn : za.name.toList = zb.name.toList
  case neg =>
    have hI : Hid (PM.impB za zb = false) := PM.hid (by unfold PM.impB; rw [decide_eq_false_iff_not]; intro h; exact hn (by rw [h.1]))
    have q1 : (za.name.toList == zb.name.toList) = false := by simpa using hn
    clear hn
    go_wp2_with fail
    go_ret
    exact ⟨by rw [hI.out]; rfl, hBh.out⟩
  have q1 : (za.name.toList == zb.name.toList) = true := by simpa using hn
  have hnh := PM.hid hn
  clear hn
  go_wp2_with fail
  refine (known_any za.op wb).mono ?_
  rintro e w1 ⟨rfl, rfl⟩
  by_cases ha : 1 ≤ za.op ∧ za.op ≤ 8
  case neg =>
    have hI : Hid (PM.impB za zb = false) := PM.hid (by unfold PM.impB; rw [decide_eq_false_iff_not]; intro h; exact ha h.2.1)
    rw [decide_eq_false ha]
    clear ha
    go_wp2_with fail
    go_ret
    exact ⟨by rw [hI.out]; rfl, hBh.out⟩
  rw [decide_eq_true ha]
  go_wp2_with fail
  refine (known_any zb.op wb).mono ?_
  rintro e w1 ⟨rfl, rfl⟩
  by_cases hb : 1 ≤ zb.op ∧ zb.op ≤ 8
  case neg =>
    have hI : Hid (PM.impB za zb = false) := PM.hid (by unfold PM.impB; rw [decide_eq_false_iff_not]; intro h; exact hb h.2.2.1)
    rw [decide_eq_false hb]
    clear hb
    go_wp2_with fail
    go_ret
    exact ⟨by rw [hI.out]; rfl, hBh.out⟩
  rw [decide_eq_true hb]
  have hab := PM.hid (And.intro ha hb)
  clear ha hb
  go_upto_region 3 with fail
  have hI3 : Hid (PM.impB za zb = decide ((za.op = zb.op ∧ za.k = zb.k ∧ za.n = zb.n ∧ za.s = zb.s) ∨ zb.op = 8 ∨
    (za.op ≠ 8 ∧ za.k = zb.k ∧
      ((za.op = 1 ∧ PM.isB zb za.k za.n za.s = true) ∨
       (za.op = 3 ∧ (zb.op = 2 ∨ zb.op = 3 ∨ zb.op = 4) ∧ PM.vo za zb ≤ 0) ∨
       (za.op = 4 ∧ ((zb.op = 4 ∧ PM.vo za zb ≤ 0) ∨ ((zb.op = 2 ∨ zb.op = 3) ∧ PM.vo za zb < 0))) ∨
       (za.op = 5 ∧ (zb.op = 2 ∨ zb.op = 5 ∨ zb.op = 6) ∧ 0 ≤ PM.vo za zb) ∨
       (za.op = 6 ∧ ((zb.op = 6 ∧ 0 ≤ PM.vo za zb) ∨ ((zb.op = 2 ∨ zb.op = 5) ∧ 0 < PM.vo za zb))) ∨
       (za.op = 7 ∧ ((zb.op = 7 ∧ PM.beg za.k za.s.data.toList zb.k zb.s.data.toList = true) ∨ (zb.op = 6 ∧ 0 ≤ PM.vo za zb) ∨ (zb.op = 5 ∧ 0 < PM.vo za zb) ∨ (zb.op = 2 ∧ PM.beg zb.k zb.s.data.toList za.k za.s.data.toList = false))))))) := PM.hid (by
    unfold PM.impB
    rw [Bool.eq_iff_iff, decide_eq_true_iff, decide_eq_true_iff]
    exact ⟨fun h => h.2.2.2, fun h => ⟨PM.ba_ext hnh.out, hab.out.1, hab.out.2, h⟩⟩)
  go_cut [24] from 25 to 32 (fun s wx => wb = wx ∧ s = .bool (decide ((za.op = zb.op ∧ za.k = zb.k ∧ za.n = zb.n ∧ za.s = zb.s) ∨ zb.op = 8)))
  case first =>
    by_cases h1 : za.op = zb.op
    case neg =>
      have e1 : (za.op == zb.op) = false := by simpa using h1
      by_cases h8 : zb.op = 8
      · have e8 : (zb.op == 8) = true := by simpa using h8
        have h8h := PM.hid h8
        have hnh2 := PM.hid h1
        clear h8 h1
        go_wp2_with fail
        go_meet
        exact ⟨rfl, by rw [decide_eq_true (Or.inr h8h.out)]⟩
      · have e8 : (zb.op == 8) = false := by simpa using h8
        have h8h := PM.hid h8
        have hnh2 := PM.hid h1
        clear h8 h1
        go_wp2_with fail
        go_meet
        exact ⟨rfl, by rw [decide_eq_false (fun h => h.elim (fun h => hnh2.out h.1) h8h.out)]⟩
    by_cases h2 : za.k = zb.k
    case neg =>
      have e2 : (za.k == zb.k) = false := by simpa using h2
      by_cases h8 : zb.op = 8
      · have e8 : (zb.op == 8) = true := by simpa using h8
        have h8h := PM.hid h8
        have hnh2 := PM.hid h2
        clear h8 h2
        go_wp2_with fail
        go_meet
        exact ⟨rfl, by rw [decide_eq_true (Or.inr h8h.out)]⟩
      · have e8 : (zb.op == 8) = false := by simpa using h8
        have h8h := PM.hid h8
        have hnh2 := PM.hid h2
        clear h8 h2
        go_wp2_with fail
        go_meet
        exact ⟨rfl, by rw [decide_eq_false (fun h => h.elim (fun h => hnh2.out h.2.1) h8h.out)]⟩
    by_cases h3 : za.n = zb.n
    case neg =>
      have e3 : (za.n == zb.n) = false := by simpa using h3
      by_cases h8 : zb.op = 8
      · have e8 : (zb.op == 8) = true := by simpa using h8
        have h8h := PM.hid h8
        have hnh2 := PM.hid h3
        clear h8 h3
        go_wp2_with fail
        go_meet
        exact ⟨rfl, by rw [decide_eq_true (Or.inr h8h.out)]⟩
      · have e8 : (zb.op == 8) = false := by simpa using h8
        have h8h := PM.hid h8
        have hnh2 := PM.hid h3
        clear h8 h3
        go_wp2_with fail
        go_meet
        exact ⟨rfl, by rw [decide_eq_false (fun h => h.elim (fun h => hnh2.out h.2.2.1) h8h.out)]⟩
    by_cases h4 : za.s.toList = zb.s.toList
    case neg =>
      have e4 : (za.s.toList == zb.s.toList) = false := by simpa using h4
      have h4' : za.s ≠ zb.s := fun h => h4 (by rw [h])
      by_cases h8 : zb.op = 8
      · have e8 : (zb.op == 8) = true := by simpa using h8
        have h8h := PM.hid h8
        have hnh2 := PM.hid h4'
        clear h8 h4 h4'
        go_wp2_with fail
        go_meet
        exact ⟨rfl, by rw [decide_eq_true (Or.inr h8h.out)]⟩
      · have e8 : (zb.op == 8) = false := by simpa using h8
        have h8h := PM.hid h8
        have hnh2 := PM.hid h4'
        clear h8 h4 h4'
        go_wp2_with fail
        go_meet
        exact ⟨rfl, by rw [decide_eq_false (fun h => h.elim (fun h => hnh2.out h.2.2.2) h8h.out)]⟩
    have e4 : (za.s.toList == zb.s.toList) = true := by simpa using h4
    have e1 : (za.op == zb.op) = true := by simpa using h1
    have e2 : (za.k == zb.k) = true := by simpa using h2
    have e3 : (za.n == zb.n) = true := by simpa using h3
    have hh : Hid (za.op = zb.op ∧ za.k = zb.k ∧ za.n = zb.n ∧ za.s = zb.s) := PM.hid ⟨h1, h2, h3, PM.ba_ext h4⟩
    clear h1 h2 h3 h4
    go_wp2_with fail
    go_meet
    exact ⟨rfl, by rw [decide_eq_true (Or.inl hh.out)]⟩
  case rest =>
  obtain ⟨rfl, rfl⟩ := hcut
  by_cases hs : (za.op = zb.op ∧ za.k = zb.k ∧ za.n = zb.n ∧ za.s = zb.s) ∨ zb.op = 8
  case pos =>
    have hI : Hid (PM.impB za zb = true) := PM.hid (by rw [hI3.out, decide_eq_true_eq]; rcases hs with h | h; exact Or.inl h; exact Or.inr (Or.inl h))
    rw [decide_eq_true hs]
    clear hs
    go_wp2_with fail
    go_ret
    exact ⟨by rw [hI.out]; rfl, hBh.out⟩
  rw [decide_eq_false hs]
  have hsh := PM.hid hs
  clear hs
  by_cases a8 : za.op = 8
  case pos =>
    have hI : Hid (PM.impB za zb = false) := PM.hid (by
      rw [hI3.out, decide_eq_false_iff_not]
      rintro (h | h | ⟨h, _⟩)
      · exact hsh.out (Or.inl h)
      · exact hsh.out (Or.inr h)
      · exact h a8)
    have e8 : (za.op == 8) = true := by simpa using a8
    clear a8
    go_wp2_with fail
    go_ret
    exact ⟨by rw [hI.out]; rfl, hBh.out⟩
  have e8 : (za.op == 8) = false := by simpa using a8
  by_cases hk : za.k = zb.k
  case neg =>
    have hI : Hid (PM.impB za zb = false) := PM.hid (by
      rw [hI3.out, decide_eq_false_iff_not]
      rintro (h | h | ⟨_, h, _⟩)
      · exact hsh.out (Or.inl h)
      · exact hsh.out (Or.inr h)
      · exact hk h)
    have ek : (za.k != zb.k) = true := by simpa using hk
    clear a8 hk
    go_wp2_with fail
    go_ret
    exact ⟨by rw [hI.out]; rfl, hBh.out⟩
  have ek : (za.k != zb.k) = false := by simpa using hk
  have hka := PM.hid (And.intro a8 hk)
  have hI4 : Hid (PM.impB za zb = decide (
      ((za.op = 1 ∧ PM.isB zb za.k za.n za.s = true) ∨
       (za.op = 3 ∧ (zb.op = 2 ∨ zb.op = 3 ∨ zb.op = 4) ∧ PM.vo za zb ≤ 0) ∨
       (za.op = 4 ∧ ((zb.op = 4 ∧ PM.vo za zb ≤ 0) ∨ ((zb.op = 2 ∨ zb.op = 3) ∧ PM.vo za zb < 0))) ∨
       (za.op = 5 ∧ (zb.op = 2 ∨ zb.op = 5 ∨ zb.op = 6) ∧ 0 ≤ PM.vo za zb) ∨
       (za.op = 6 ∧ ((zb.op = 6 ∧ 0 ≤ PM.vo za zb) ∨ ((zb.op = 2 ∨ zb.op = 5) ∧ 0 < PM.vo za zb))) ∨
       (za.op = 7 ∧ ((zb.op = 7 ∧ PM.beg za.k za.s.data.toList zb.k zb.s.data.toList = true) ∨ (zb.op = 6 ∧ 0 ≤ PM.vo za zb) ∨ (zb.op = 5 ∧ 0 < PM.vo za zb) ∨ (zb.op = 2 ∧ PM.beg zb.k zb.s.data.toList za.k za.s.data.toList = false)))))) := PM.hid (by
    rw [hI3.out, Bool.eq_iff_iff, decide_eq_true_iff, decide_eq_true_iff]
    constructor
    · rintro (h | h | ⟨_, _, h⟩)
      · exact absurd (Or.inl h) hsh.out
      · exact absurd (Or.inr h) hsh.out
      · exact h
    · exact fun h => Or.inr (Or.inr ⟨hka.out.1, hka.out.2, h⟩))
  clear a8 hk hI3
  go_upto_region 7 with fail
  clear c0 d0 c1 d1 c2 d2 c3 d3 c4 d4 e8 ek q1
  have h17 : za.op = 1 ∨ za.op = 2 ∨ za.op = 3 ∨ za.op = 4 ∨ za.op = 5 ∨ za.op = 6 ∨ za.op = 7 := by have := hab.out.1; have := hka.out.1; omega
  rcases h17 with hp | hp | hp | hp | hp | hp | hp
  · have hph := PM.hid hp
    have hI5 : Hid (PM.impB za zb = PM.isB zb za.k za.n za.s) := PM.hid (by rw [hI4.out, hp]; simp)
    clear hp
    refine PM.wp_region_st [some 46, some 47, some 48, some 49, some 5] [fun x _ => x = .agg #[.nilFunc, .func (.func 82) #[] #[], .func (.func 83) #[] #[], .func (.func 84) #[] #[], .func (.func 85) #[] #[], .func (.func 86) #[] #[], .func (.func 87) #[] #[], .func (.func 88) #[] #[]], fun x _ => x = .pointer (some ⟨ga, 1, none⟩), fun x _ => x = .int .i64 1, fun x _ => x = .func (.func 82) #[] #[], fun x _ => x = .func (.func 82) #[] #[]] (by kernel_rfl) (by kernel_rfl) (by kernel_rfl) ?_ ?_ ?_
    · simp only [List.forall_mem_cons]
      refine ⟨?_, ?_, ?_, ?_, ?_, by simp⟩
      all_goals (intro x W W' h hb; first | exact h | exact PM.BS.keep hb h | exact PM.OW.keep hb h)
    · refine ⟨?_, ?_, ?_, ?_, ?_, trivial⟩
      all_goals
        intro a W hB hF hd
        have k2 := hF 2 rfl
        have ri := ruleAt1 W
        have ka' := hkk.out.1.keep hB
        have c1 : W.cell? ⟨ga, 1, none⟩ = some (.int .i64 1) := by have := ka'.cell 1; rw [← hph.out]; exact this
        clear hF
        simp [PM.depsL, PM.spec, PM.sl, Region.binds] at hd k2
        simp only [PM.wantL, PM.spec]
        try simp only [PM.sl]
        go_simp
      all_goals try exact Below.refl _ _
      · refine (rules_any W).mono ?_
        rintro e w' ⟨rfl, hb⟩
        exact ⟨hb, by first | rfl | simp⟩
    · intro G W hB hF hS
      simp [PM.allSp, PM.spec] at hS
      have h5 : G 5 = .func (.func 82) #[] #[] := by simp [hS]
      rw [show ((List.range (Array.size _)).map G).toArray = #[G 0, G 1, G 2, G 3, G 4, G 5, G 6, G 7, G 8, G 9, G 10, G 11, G 12, G 13, G 14, G 15, G 16, G 17, G 18, G 19, G 20, G 21, G 22, G 23, G 24, G 25, G 26, G 27, G 28, G 29, G 30, G 31, G 32, G 33, G 34, G 35, G 36, G 37, G 38, G 39, G 40, G 41, G 42, G 43, G 44, G 45, G 46, G 47, G 48, G 49, G 50, G 51, G 52, G 53, G 54, G 55, G 56, G 57, G 58, G 59] from rfl]
      have q2 := hF 2 rfl
      have q3 := hF 3 rfl
      simp [PM.sl] at q2 q3
      clear hF hS
      rw [q2, q3, h5]
      clear q2 q3 h5
      have hkk2 := PM.hid (And.intro (hkk.out.1.keep hB) (hkk.out.2.keep hB))
      have hBB := PM.hid (PM.chain hBh.out hB)
      clear hB
      go_wp2_with fail
      refine PM.wp_region_st [some 50, some 51, some 52, some 53, some 54, some 55, some 56, some 57, some 58, some 59, some 4] [fun x _ => x = .func (.func 82) #[] #[], fun x _ => x = .agg #[.string za.name, .int .i64 za.op, .int .i64 za.k, .int .i64 za.n, .string za.s], fun x _ => x = .agg #[.string zb.name, .int .i64 zb.op, .int .i64 zb.k, .int .i64 zb.n, .string zb.s], fun x _ => x = .pointer (some ⟨ga, 2, none⟩), fun x _ => x = .agg #[.int .i64 za.k, .int .i64 za.n, .string za.s], fun x _ => x = .pointer (some ⟨gb, 2, none⟩), fun x _ => x = .agg #[.int .i64 zb.k, .int .i64 zb.n, .string zb.s], fun x _ => x = .int .i64 (PM.vo za zb), fun x _ => x = .agg #[.string za.name, .int .i64 za.op, .int .i64 za.k, .int .i64 za.n, .string za.s, .string zb.name, .int .i64 zb.op, .int .i64 zb.k, .int .i64 zb.n, .string zb.s, .int .i64 (PM.vo za zb)], fun x _ => x = .bool (PM.isB zb za.k za.n za.s), fun x _ => x = .bool (PM.isB zb za.k za.n za.s)] (by kernel_rfl) (by kernel_rfl) (by kernel_rfl) ?_ ?_ ?_
      · simp only [List.forall_mem_cons]
        refine ⟨?_, ?_, ?_, ?_, ?_, ?_, ?_, ?_, ?_, ?_, ?_, by simp⟩
        all_goals (intro x W W' h hb; first | exact h | exact PM.BS.keep hb h | exact PM.OW.keep hb h)
      · refine ⟨?_, ?_, ?_, ?_, ?_, ?_, ?_, ?_, ?_, ?_, ?_, trivial⟩
        all_goals
          intro a W hB hF hd
          have k2 := hF 2 rfl
          have k3 := hF 3 rfl
          have k5 := hF 5 rfl
          have ka' := hkk2.out.1.keep hB
          have kb' := hkk2.out.2.keep hB
          have c0 : W.cell? ⟨ga, 0, none⟩ = some (.string za.name) := ka'.cell 0
          have c1 : W.cell? ⟨ga, 1, none⟩ = some (.int .i64 za.op) := ka'.cell 1
          have c2 : W.cell? ⟨ga, 2, none⟩ = some (.int .i64 za.k) := ka'.cell 2
          have c3 : W.cell? ⟨ga, 3, none⟩ = some (.int .i64 za.n) := ka'.cell 3
          have c4 : W.cell? ⟨ga, 4, none⟩ = some (.string za.s) := ka'.cell 4
          have d0 : W.cell? ⟨gb, 0, none⟩ = some (.string zb.name) := kb'.cell 0
          have d1 : W.cell? ⟨gb, 1, none⟩ = some (.int .i64 zb.op) := kb'.cell 1
          have d2 : W.cell? ⟨gb, 2, none⟩ = some (.int .i64 zb.k) := kb'.cell 2
          have d3 : W.cell? ⟨gb, 3, none⟩ = some (.int .i64 zb.n) := kb'.cell 3
          have d4 : W.cell? ⟨gb, 4, none⟩ = some (.string zb.s) := kb'.cell 4
          clear hF
          simp [PM.depsL, PM.spec, PM.sl, Region.binds] at hd k2 k3 k5
          simp only [PM.wantL, PM.spec]
          try simp only [PM.sl]
          go_simp
        all_goals try exact Below.refl _ _
        · refine (order_any za.k za.n za.s zb.k zb.n zb.s W).mono ?_
          rintro e w' ⟨rfl, hb⟩
          exact ⟨hb, by first | rfl | simp⟩
        · refine (pair_equal za zb (PM.vo za zb) W).mono ?_
          rintro e w' ⟨rfl, hb⟩
          exact ⟨hb, by first | rfl | simp⟩
      · intro G W hB hF hS
        simp [PM.allSp, PM.spec] at hS
        have h4 : G 4 = .bool (PM.isB zb za.k za.n za.s) := by simp [hS]
        rw [show ((List.range (Array.size _)).map G).toArray = #[G 0, G 1, G 2, G 3, G 4, G 5, G 6, G 7, G 8, G 9, G 10, G 11, G 12, G 13, G 14, G 15, G 16, G 17, G 18, G 19, G 20, G 21, G 22, G 23, G 24, G 25, G 26, G 27, G 28, G 29, G 30, G 31, G 32, G 33, G 34, G 35, G 36, G 37, G 38, G 39, G 40, G 41, G 42, G 43, G 44, G 45, G 46, G 47, G 48, G 49, G 50, G 51, G 52, G 53, G 54, G 55, G 56, G 57, G 58, G 59] from rfl]
        clear hF hS
        go_wp2
        go_ret
        exact ⟨by simp [h4, hI5.out], PM.chain hBB.out hB⟩
  · have hph := PM.hid hp
    have hI5 : Hid (PM.impB za zb = false) := PM.hid (by rw [hI4.out, hp]; simp)
    clear hp
    refine PM.wp_region_st [some 46, some 47, some 48, some 49, some 5] [fun x _ => x = .agg #[.nilFunc, .func (.func 82) #[] #[], .func (.func 83) #[] #[], .func (.func 84) #[] #[], .func (.func 85) #[] #[], .func (.func 86) #[] #[], .func (.func 87) #[] #[], .func (.func 88) #[] #[]], fun x _ => x = .pointer (some ⟨ga, 1, none⟩), fun x _ => x = .int .i64 2, fun x _ => x = .func (.func 83) #[] #[], fun x _ => x = .func (.func 83) #[] #[]] (by kernel_rfl) (by kernel_rfl) (by kernel_rfl) ?_ ?_ ?_
    · simp only [List.forall_mem_cons]
      refine ⟨?_, ?_, ?_, ?_, ?_, by simp⟩
      all_goals (intro x W W' h hb; first | exact h | exact PM.BS.keep hb h | exact PM.OW.keep hb h)
    · refine ⟨?_, ?_, ?_, ?_, ?_, trivial⟩
      all_goals
        intro a W hB hF hd
        have k2 := hF 2 rfl
        have ri := ruleAt2 W
        have ka' := hkk.out.1.keep hB
        have c1 : W.cell? ⟨ga, 1, none⟩ = some (.int .i64 2) := by have := ka'.cell 1; rw [← hph.out]; exact this
        clear hF
        simp [PM.depsL, PM.spec, PM.sl, Region.binds] at hd k2
        simp only [PM.wantL, PM.spec]
        try simp only [PM.sl]
        go_simp
      all_goals try exact Below.refl _ _
      · refine (rules_any W).mono ?_
        rintro e w' ⟨rfl, hb⟩
        exact ⟨hb, by first | rfl | simp⟩
    · intro G W hB hF hS
      simp [PM.allSp, PM.spec] at hS
      have h5 : G 5 = .func (.func 83) #[] #[] := by simp [hS]
      rw [show ((List.range (Array.size _)).map G).toArray = #[G 0, G 1, G 2, G 3, G 4, G 5, G 6, G 7, G 8, G 9, G 10, G 11, G 12, G 13, G 14, G 15, G 16, G 17, G 18, G 19, G 20, G 21, G 22, G 23, G 24, G 25, G 26, G 27, G 28, G 29, G 30, G 31, G 32, G 33, G 34, G 35, G 36, G 37, G 38, G 39, G 40, G 41, G 42, G 43, G 44, G 45, G 46, G 47, G 48, G 49, G 50, G 51, G 52, G 53, G 54, G 55, G 56, G 57, G 58, G 59] from rfl]
      have q2 := hF 2 rfl
      have q3 := hF 3 rfl
      simp [PM.sl] at q2 q3
      clear hF hS
      rw [q2, q3, h5]
      clear q2 q3 h5
      have hkk2 := PM.hid (And.intro (hkk.out.1.keep hB) (hkk.out.2.keep hB))
      have hBB := PM.hid (PM.chain hBh.out hB)
      clear hB
      go_wp2_with fail
      refine PM.wp_region_st [some 50, some 51, some 52, some 53, some 54, some 55, some 56, some 57, some 58, some 59, some 4] [fun x _ => x = .func (.func 83) #[] #[], fun x _ => x = .agg #[.string za.name, .int .i64 za.op, .int .i64 za.k, .int .i64 za.n, .string za.s], fun x _ => x = .agg #[.string zb.name, .int .i64 zb.op, .int .i64 zb.k, .int .i64 zb.n, .string zb.s], fun x _ => x = .pointer (some ⟨ga, 2, none⟩), fun x _ => x = .agg #[.int .i64 za.k, .int .i64 za.n, .string za.s], fun x _ => x = .pointer (some ⟨gb, 2, none⟩), fun x _ => x = .agg #[.int .i64 zb.k, .int .i64 zb.n, .string zb.s], fun x _ => x = .int .i64 (PM.vo za zb), fun x _ => x = .agg #[.string za.name, .int .i64 za.op, .int .i64 za.k, .int .i64 za.n, .string za.s, .string zb.name, .int .i64 zb.op, .int .i64 zb.k, .int .i64 zb.n, .string zb.s, .int .i64 (PM.vo za zb)], fun x _ => x = .bool (false), fun x _ => x = .bool (false)] (by kernel_rfl) (by kernel_rfl) (by kernel_rfl) ?_ ?_ ?_
      · simp only [List.forall_mem_cons]
        refine ⟨?_, ?_, ?_, ?_, ?_, ?_, ?_, ?_, ?_, ?_, ?_, by simp⟩
        all_goals (intro x W W' h hb; first | exact h | exact PM.BS.keep hb h | exact PM.OW.keep hb h)
      · refine ⟨?_, ?_, ?_, ?_, ?_, ?_, ?_, ?_, ?_, ?_, ?_, trivial⟩
        all_goals
          intro a W hB hF hd
          have k2 := hF 2 rfl
          have k3 := hF 3 rfl
          have k5 := hF 5 rfl
          have ka' := hkk2.out.1.keep hB
          have kb' := hkk2.out.2.keep hB
          have c0 : W.cell? ⟨ga, 0, none⟩ = some (.string za.name) := ka'.cell 0
          have c1 : W.cell? ⟨ga, 1, none⟩ = some (.int .i64 za.op) := ka'.cell 1
          have c2 : W.cell? ⟨ga, 2, none⟩ = some (.int .i64 za.k) := ka'.cell 2
          have c3 : W.cell? ⟨ga, 3, none⟩ = some (.int .i64 za.n) := ka'.cell 3
          have c4 : W.cell? ⟨ga, 4, none⟩ = some (.string za.s) := ka'.cell 4
          have d0 : W.cell? ⟨gb, 0, none⟩ = some (.string zb.name) := kb'.cell 0
          have d1 : W.cell? ⟨gb, 1, none⟩ = some (.int .i64 zb.op) := kb'.cell 1
          have d2 : W.cell? ⟨gb, 2, none⟩ = some (.int .i64 zb.k) := kb'.cell 2
          have d3 : W.cell? ⟨gb, 3, none⟩ = some (.int .i64 zb.n) := kb'.cell 3
          have d4 : W.cell? ⟨gb, 4, none⟩ = some (.string zb.s) := kb'.cell 4
          clear hF
          simp [PM.depsL, PM.spec, PM.sl, Region.binds] at hd k2 k3 k5
          simp only [PM.wantL, PM.spec]
          try simp only [PM.sl]
          go_simp
        all_goals try exact Below.refl _ _
        · refine (order_any za.k za.n za.s zb.k zb.n zb.s W).mono ?_
          rintro e w' ⟨rfl, hb⟩
          exact ⟨hb, by first | rfl | simp⟩
        · refine (pair_other za zb (PM.vo za zb) W).mono ?_
          rintro e w' ⟨rfl, hb⟩
          exact ⟨hb, by first | rfl | simp⟩
      · intro G W hB hF hS
        simp [PM.allSp, PM.spec] at hS
        have h4 : G 4 = .bool (false) := by simp [hS]
        rw [show ((List.range (Array.size _)).map G).toArray = #[G 0, G 1, G 2, G 3, G 4, G 5, G 6, G 7, G 8, G 9, G 10, G 11, G 12, G 13, G 14, G 15, G 16, G 17, G 18, G 19, G 20, G 21, G 22, G 23, G 24, G 25, G 26, G 27, G 28, G 29, G 30, G 31, G 32, G 33, G 34, G 35, G 36, G 37, G 38, G 39, G 40, G 41, G 42, G 43, G 44, G 45, G 46, G 47, G 48, G 49, G 50, G 51, G 52, G 53, G 54, G 55, G 56, G 57, G 58, G 59] from rfl]
        clear hF hS
        go_wp2
        go_ret
        exact ⟨by simp [h4, hI5.out], PM.chain hBB.out hB⟩
  · have hph := PM.hid hp
    have hI5 : Hid (PM.impB za zb = decide ((zb.op = 2 ∨ zb.op = 3 ∨ zb.op = 4) ∧ PM.vo za zb ≤ 0)) := PM.hid (by rw [hI4.out, hp]; simp)
    clear hp
    refine PM.wp_region_st [some 46, some 47, some 48, some 49, some 5] [fun x _ => x = .agg #[.nilFunc, .func (.func 82) #[] #[], .func (.func 83) #[] #[], .func (.func 84) #[] #[], .func (.func 85) #[] #[], .func (.func 86) #[] #[], .func (.func 87) #[] #[], .func (.func 88) #[] #[]], fun x _ => x = .pointer (some ⟨ga, 1, none⟩), fun x _ => x = .int .i64 3, fun x _ => x = .func (.func 84) #[] #[], fun x _ => x = .func (.func 84) #[] #[]] (by kernel_rfl) (by kernel_rfl) (by kernel_rfl) ?_ ?_ ?_
    · simp only [List.forall_mem_cons]
      refine ⟨?_, ?_, ?_, ?_, ?_, by simp⟩
      all_goals (intro x W W' h hb; first | exact h | exact PM.BS.keep hb h | exact PM.OW.keep hb h)
    · refine ⟨?_, ?_, ?_, ?_, ?_, trivial⟩
      all_goals
        intro a W hB hF hd
        have k2 := hF 2 rfl
        have ri := ruleAt3 W
        have ka' := hkk.out.1.keep hB
        have c1 : W.cell? ⟨ga, 1, none⟩ = some (.int .i64 3) := by have := ka'.cell 1; rw [← hph.out]; exact this
        clear hF
        simp [PM.depsL, PM.spec, PM.sl, Region.binds] at hd k2
        simp only [PM.wantL, PM.spec]
        try simp only [PM.sl]
        go_simp
      all_goals try exact Below.refl _ _
      · refine (rules_any W).mono ?_
        rintro e w' ⟨rfl, hb⟩
        exact ⟨hb, by first | rfl | simp⟩
    · intro G W hB hF hS
      simp [PM.allSp, PM.spec] at hS
      have h5 : G 5 = .func (.func 84) #[] #[] := by simp [hS]
      rw [show ((List.range (Array.size _)).map G).toArray = #[G 0, G 1, G 2, G 3, G 4, G 5, G 6, G 7, G 8, G 9, G 10, G 11, G 12, G 13, G 14, G 15, G 16, G 17, G 18, G 19, G 20, G 21, G 22, G 23, G 24, G 25, G 26, G 27, G 28, G 29, G 30, G 31, G 32, G 33, G 34, G 35, G 36, G 37, G 38, G 39, G 40, G 41, G 42, G 43, G 44, G 45, G 46, G 47, G 48, G 49, G 50, G 51, G 52, G 53, G 54, G 55, G 56, G 57, G 58, G 59] from rfl]
      have q2 := hF 2 rfl
      have q3 := hF 3 rfl
      simp [PM.sl] at q2 q3
      clear hF hS
      rw [q2, q3, h5]
      clear q2 q3 h5
      have hkk2 := PM.hid (And.intro (hkk.out.1.keep hB) (hkk.out.2.keep hB))
      have hBB := PM.hid (PM.chain hBh.out hB)
      clear hB
      go_wp2_with fail
      refine PM.wp_region_st [some 50, some 51, some 52, some 53, some 54, some 55, some 56, some 57, some 58, some 59, some 4] [fun x _ => x = .func (.func 84) #[] #[], fun x _ => x = .agg #[.string za.name, .int .i64 za.op, .int .i64 za.k, .int .i64 za.n, .string za.s], fun x _ => x = .agg #[.string zb.name, .int .i64 zb.op, .int .i64 zb.k, .int .i64 zb.n, .string zb.s], fun x _ => x = .pointer (some ⟨ga, 2, none⟩), fun x _ => x = .agg #[.int .i64 za.k, .int .i64 za.n, .string za.s], fun x _ => x = .pointer (some ⟨gb, 2, none⟩), fun x _ => x = .agg #[.int .i64 zb.k, .int .i64 zb.n, .string zb.s], fun x _ => x = .int .i64 (PM.vo za zb), fun x _ => x = .agg #[.string za.name, .int .i64 za.op, .int .i64 za.k, .int .i64 za.n, .string za.s, .string zb.name, .int .i64 zb.op, .int .i64 zb.k, .int .i64 zb.n, .string zb.s, .int .i64 (PM.vo za zb)], fun x _ => x = .bool (decide ((zb.op = 2 ∨ zb.op = 3 ∨ zb.op = 4) ∧ PM.vo za zb ≤ 0)), fun x _ => x = .bool (decide ((zb.op = 2 ∨ zb.op = 3 ∨ zb.op = 4) ∧ PM.vo za zb ≤ 0))] (by kernel_rfl) (by kernel_rfl) (by kernel_rfl) ?_ ?_ ?_
      · simp only [List.forall_mem_cons]
        refine ⟨?_, ?_, ?_, ?_, ?_, ?_, ?_, ?_, ?_, ?_, ?_, by simp⟩
        all_goals (intro x W W' h hb; first | exact h | exact PM.BS.keep hb h | exact PM.OW.keep hb h)
      · refine ⟨?_, ?_, ?_, ?_, ?_, ?_, ?_, ?_, ?_, ?_, ?_, trivial⟩
        all_goals
          intro a W hB hF hd
          have k2 := hF 2 rfl
          have k3 := hF 3 rfl
          have k5 := hF 5 rfl
          have ka' := hkk2.out.1.keep hB
          have kb' := hkk2.out.2.keep hB
          have c0 : W.cell? ⟨ga, 0, none⟩ = some (.string za.name) := ka'.cell 0
          have c1 : W.cell? ⟨ga, 1, none⟩ = some (.int .i64 za.op) := ka'.cell 1
          have c2 : W.cell? ⟨ga, 2, none⟩ = some (.int .i64 za.k) := ka'.cell 2
          have c3 : W.cell? ⟨ga, 3, none⟩ = some (.int .i64 za.n) := ka'.cell 3
          have c4 : W.cell? ⟨ga, 4, none⟩ = some (.string za.s) := ka'.cell 4
          have d0 : W.cell? ⟨gb, 0, none⟩ = some (.string zb.name) := kb'.cell 0
          have d1 : W.cell? ⟨gb, 1, none⟩ = some (.int .i64 zb.op) := kb'.cell 1
          have d2 : W.cell? ⟨gb, 2, none⟩ = some (.int .i64 zb.k) := kb'.cell 2
          have d3 : W.cell? ⟨gb, 3, none⟩ = some (.int .i64 zb.n) := kb'.cell 3
          have d4 : W.cell? ⟨gb, 4, none⟩ = some (.string zb.s) := kb'.cell 4
          clear hF
          simp [PM.depsL, PM.spec, PM.sl, Region.binds] at hd k2 k3 k5
          simp only [PM.wantL, PM.spec]
          try simp only [PM.sl]
          go_simp
        all_goals try exact Below.refl _ _
        · refine (order_any za.k za.n za.s zb.k zb.n zb.s W).mono ?_
          rintro e w' ⟨rfl, hb⟩
          exact ⟨hb, by first | rfl | simp⟩
        · refine (pair_before za zb (PM.vo za zb) W).mono ?_
          rintro e w' ⟨rfl, hb⟩
          exact ⟨hb, by first | rfl | simp⟩
      · intro G W hB hF hS
        simp [PM.allSp, PM.spec] at hS
        have h4 : G 4 = .bool (decide ((zb.op = 2 ∨ zb.op = 3 ∨ zb.op = 4) ∧ PM.vo za zb ≤ 0)) := by simp [hS]
        rw [show ((List.range (Array.size _)).map G).toArray = #[G 0, G 1, G 2, G 3, G 4, G 5, G 6, G 7, G 8, G 9, G 10, G 11, G 12, G 13, G 14, G 15, G 16, G 17, G 18, G 19, G 20, G 21, G 22, G 23, G 24, G 25, G 26, G 27, G 28, G 29, G 30, G 31, G 32, G 33, G 34, G 35, G 36, G 37, G 38, G 39, G 40, G 41, G 42, G 43, G 44, G 45, G 46, G 47, G 48, G 49, G 50, G 51, G 52, G 53, G 54, G 55, G 56, G 57, G 58, G 59] from rfl]
        clear hF hS
        go_wp2
        go_ret
        exact ⟨by simp [h4, hI5.out], PM.chain hBB.out hB⟩
  · have hph := PM.hid hp
    have hI5 : Hid (PM.impB za zb = decide ((zb.op = 4 ∧ PM.vo za zb ≤ 0) ∨ ((zb.op = 2 ∨ zb.op = 3) ∧ PM.vo za zb < 0))) := PM.hid (by rw [hI4.out, hp]; simp)
    clear hp
    refine PM.wp_region_st [some 46, some 47, some 48, some 49, some 5] [fun x _ => x = .agg #[.nilFunc, .func (.func 82) #[] #[], .func (.func 83) #[] #[], .func (.func 84) #[] #[], .func (.func 85) #[] #[], .func (.func 86) #[] #[], .func (.func 87) #[] #[], .func (.func 88) #[] #[]], fun x _ => x = .pointer (some ⟨ga, 1, none⟩), fun x _ => x = .int .i64 4, fun x _ => x = .func (.func 85) #[] #[], fun x _ => x = .func (.func 85) #[] #[]] (by kernel_rfl) (by kernel_rfl) (by kernel_rfl) ?_ ?_ ?_
    · simp only [List.forall_mem_cons]
      refine ⟨?_, ?_, ?_, ?_, ?_, by simp⟩
      all_goals (intro x W W' h hb; first | exact h | exact PM.BS.keep hb h | exact PM.OW.keep hb h)
    · refine ⟨?_, ?_, ?_, ?_, ?_, trivial⟩
      all_goals
        intro a W hB hF hd
        have k2 := hF 2 rfl
        have ri := ruleAt4 W
        have ka' := hkk.out.1.keep hB
        have c1 : W.cell? ⟨ga, 1, none⟩ = some (.int .i64 4) := by have := ka'.cell 1; rw [← hph.out]; exact this
        clear hF
        simp [PM.depsL, PM.spec, PM.sl, Region.binds] at hd k2
        simp only [PM.wantL, PM.spec]
        try simp only [PM.sl]
        go_simp
      all_goals try exact Below.refl _ _
      · refine (rules_any W).mono ?_
        rintro e w' ⟨rfl, hb⟩
        exact ⟨hb, by first | rfl | simp⟩
    · intro G W hB hF hS
      simp [PM.allSp, PM.spec] at hS
      have h5 : G 5 = .func (.func 85) #[] #[] := by simp [hS]
      rw [show ((List.range (Array.size _)).map G).toArray = #[G 0, G 1, G 2, G 3, G 4, G 5, G 6, G 7, G 8, G 9, G 10, G 11, G 12, G 13, G 14, G 15, G 16, G 17, G 18, G 19, G 20, G 21, G 22, G 23, G 24, G 25, G 26, G 27, G 28, G 29, G 30, G 31, G 32, G 33, G 34, G 35, G 36, G 37, G 38, G 39, G 40, G 41, G 42, G 43, G 44, G 45, G 46, G 47, G 48, G 49, G 50, G 51, G 52, G 53, G 54, G 55, G 56, G 57, G 58, G 59] from rfl]
      have q2 := hF 2 rfl
      have q3 := hF 3 rfl
      simp [PM.sl] at q2 q3
      clear hF hS
      rw [q2, q3, h5]
      clear q2 q3 h5
      have hkk2 := PM.hid (And.intro (hkk.out.1.keep hB) (hkk.out.2.keep hB))
      have hBB := PM.hid (PM.chain hBh.out hB)
      clear hB
      go_wp2_with fail
      refine PM.wp_region_st [some 50, some 51, some 52, some 53, some 54, some 55, some 56, some 57, some 58, some 59, some 4] [fun x _ => x = .func (.func 85) #[] #[], fun x _ => x = .agg #[.string za.name, .int .i64 za.op, .int .i64 za.k, .int .i64 za.n, .string za.s], fun x _ => x = .agg #[.string zb.name, .int .i64 zb.op, .int .i64 zb.k, .int .i64 zb.n, .string zb.s], fun x _ => x = .pointer (some ⟨ga, 2, none⟩), fun x _ => x = .agg #[.int .i64 za.k, .int .i64 za.n, .string za.s], fun x _ => x = .pointer (some ⟨gb, 2, none⟩), fun x _ => x = .agg #[.int .i64 zb.k, .int .i64 zb.n, .string zb.s], fun x _ => x = .int .i64 (PM.vo za zb), fun x _ => x = .agg #[.string za.name, .int .i64 za.op, .int .i64 za.k, .int .i64 za.n, .string za.s, .string zb.name, .int .i64 zb.op, .int .i64 zb.k, .int .i64 zb.n, .string zb.s, .int .i64 (PM.vo za zb)], fun x _ => x = .bool (decide ((zb.op = 4 ∧ PM.vo za zb ≤ 0) ∨ ((zb.op = 2 ∨ zb.op = 3) ∧ PM.vo za zb < 0))), fun x _ => x = .bool (decide ((zb.op = 4 ∧ PM.vo za zb ≤ 0) ∨ ((zb.op = 2 ∨ zb.op = 3) ∧ PM.vo za zb < 0)))] (by kernel_rfl) (by kernel_rfl) (by kernel_rfl) ?_ ?_ ?_
      · simp only [List.forall_mem_cons]
        refine ⟨?_, ?_, ?_, ?_, ?_, ?_, ?_, ?_, ?_, ?_, ?_, by simp⟩
        all_goals (intro x W W' h hb; first | exact h | exact PM.BS.keep hb h | exact PM.OW.keep hb h)
      · refine ⟨?_, ?_, ?_, ?_, ?_, ?_, ?_, ?_, ?_, ?_, ?_, trivial⟩
        all_goals
          intro a W hB hF hd
          have k2 := hF 2 rfl
          have k3 := hF 3 rfl
          have k5 := hF 5 rfl
          have ka' := hkk2.out.1.keep hB
          have kb' := hkk2.out.2.keep hB
          have c0 : W.cell? ⟨ga, 0, none⟩ = some (.string za.name) := ka'.cell 0
          have c1 : W.cell? ⟨ga, 1, none⟩ = some (.int .i64 za.op) := ka'.cell 1
          have c2 : W.cell? ⟨ga, 2, none⟩ = some (.int .i64 za.k) := ka'.cell 2
          have c3 : W.cell? ⟨ga, 3, none⟩ = some (.int .i64 za.n) := ka'.cell 3
          have c4 : W.cell? ⟨ga, 4, none⟩ = some (.string za.s) := ka'.cell 4
          have d0 : W.cell? ⟨gb, 0, none⟩ = some (.string zb.name) := kb'.cell 0
          have d1 : W.cell? ⟨gb, 1, none⟩ = some (.int .i64 zb.op) := kb'.cell 1
          have d2 : W.cell? ⟨gb, 2, none⟩ = some (.int .i64 zb.k) := kb'.cell 2
          have d3 : W.cell? ⟨gb, 3, none⟩ = some (.int .i64 zb.n) := kb'.cell 3
          have d4 : W.cell? ⟨gb, 4, none⟩ = some (.string zb.s) := kb'.cell 4
          clear hF
          simp [PM.depsL, PM.spec, PM.sl, Region.binds] at hd k2 k3 k5
          simp only [PM.wantL, PM.spec]
          try simp only [PM.sl]
          go_simp
        all_goals try exact Below.refl _ _
        · refine (order_any za.k za.n za.s zb.k zb.n zb.s W).mono ?_
          rintro e w' ⟨rfl, hb⟩
          exact ⟨hb, by first | rfl | simp⟩
        · refine (pair_notBehind za zb (PM.vo za zb) W).mono ?_
          rintro e w' ⟨rfl, hb⟩
          exact ⟨hb, by first | rfl | simp⟩
      · intro G W hB hF hS
        simp [PM.allSp, PM.spec] at hS
        have h4 : G 4 = .bool (decide ((zb.op = 4 ∧ PM.vo za zb ≤ 0) ∨ ((zb.op = 2 ∨ zb.op = 3) ∧ PM.vo za zb < 0))) := by simp [hS]
        rw [show ((List.range (Array.size _)).map G).toArray = #[G 0, G 1, G 2, G 3, G 4, G 5, G 6, G 7, G 8, G 9, G 10, G 11, G 12, G 13, G 14, G 15, G 16, G 17, G 18, G 19, G 20, G 21, G 22, G 23, G 24, G 25, G 26, G 27, G 28, G 29, G 30, G 31, G 32, G 33, G 34, G 35, G 36, G 37, G 38, G 39, G 40, G 41, G 42, G 43, G 44, G 45, G 46, G 47, G 48, G 49, G 50, G 51, G 52, G 53, G 54, G 55, G 56, G 57, G 58, G 59] from rfl]
        clear hF hS
        go_wp2
        go_ret
        exact ⟨by simp [h4, hI5.out], PM.chain hBB.out hB⟩
  · have hph := PM.hid hp
    have hI5 : Hid (PM.impB za zb = decide ((zb.op = 2 ∨ zb.op = 5 ∨ zb.op = 6) ∧ 0 ≤ PM.vo za zb)) := PM.hid (by rw [hI4.out, hp]; simp)
    clear hp
    refine PM.wp_region_st [some 46, some 47, some 48, some 49, some 5] [fun x _ => x = .agg #[.nilFunc, .func (.func 82) #[] #[], .func (.func 83) #[] #[], .func (.func 84) #[] #[], .func (.func 85) #[] #[], .func (.func 86) #[] #[], .func (.func 87) #[] #[], .func (.func 88) #[] #[]], fun x _ => x = .pointer (some ⟨ga, 1, none⟩), fun x _ => x = .int .i64 5, fun x _ => x = .func (.func 86) #[] #[], fun x _ => x = .func (.func 86) #[] #[]] (by kernel_rfl) (by kernel_rfl) (by kernel_rfl) ?_ ?_ ?_
    · simp only [List.forall_mem_cons]
      refine ⟨?_, ?_, ?_, ?_, ?_, by simp⟩
      all_goals (intro x W W' h hb; first | exact h | exact PM.BS.keep hb h | exact PM.OW.keep hb h)
    · refine ⟨?_, ?_, ?_, ?_, ?_, trivial⟩
      all_goals
        intro a W hB hF hd
        have k2 := hF 2 rfl
        have ri := ruleAt5 W
        have ka' := hkk.out.1.keep hB
        have c1 : W.cell? ⟨ga, 1, none⟩ = some (.int .i64 5) := by have := ka'.cell 1; rw [← hph.out]; exact this
        clear hF
        simp [PM.depsL, PM.spec, PM.sl, Region.binds] at hd k2
        simp only [PM.wantL, PM.spec]
        try simp only [PM.sl]
        go_simp
      all_goals try exact Below.refl _ _
      · refine (rules_any W).mono ?_
        rintro e w' ⟨rfl, hb⟩
        exact ⟨hb, by first | rfl | simp⟩
    · intro G W hB hF hS
      simp [PM.allSp, PM.spec] at hS
      have h5 : G 5 = .func (.func 86) #[] #[] := by simp [hS]
      rw [show ((List.range (Array.size _)).map G).toArray = #[G 0, G 1, G 2, G 3, G 4, G 5, G 6, G 7, G 8, G 9, G 10, G 11, G 12, G 13, G 14, G 15, G 16, G 17, G 18, G 19, G 20, G 21, G 22, G 23, G 24, G 25, G 26, G 27, G 28, G 29, G 30, G 31, G 32, G 33, G 34, G 35, G 36, G 37, G 38, G 39, G 40, G 41, G 42, G 43, G 44, G 45, G 46, G 47, G 48, G 49, G 50, G 51, G 52, G 53, G 54, G 55, G 56, G 57, G 58, G 59] from rfl]
      have q2 := hF 2 rfl
      have q3 := hF 3 rfl
      simp [PM.sl] at q2 q3
      clear hF hS
      rw [q2, q3, h5]
      clear q2 q3 h5
      have hkk2 := PM.hid (And.intro (hkk.out.1.keep hB) (hkk.out.2.keep hB))
      have hBB := PM.hid (PM.chain hBh.out hB)
      clear hB
      go_wp2_with fail
      refine PM.wp_region_st [some 50, some 51, some 52, some 53, some 54, some 55, some 56, some 57, some 58, some 59, some 4] [fun x _ => x = .func (.func 86) #[] #[], fun x _ => x = .agg #[.string za.name, .int .i64 za.op, .int .i64 za.k, .int .i64 za.n, .string za.s], fun x _ => x = .agg #[.string zb.name, .int .i64 zb.op, .int .i64 zb.k, .int .i64 zb.n, .string zb.s], fun x _ => x = .pointer (some ⟨ga, 2, none⟩), fun x _ => x = .agg #[.int .i64 za.k, .int .i64 za.n, .string za.s], fun x _ => x = .pointer (some ⟨gb, 2, none⟩), fun x _ => x = .agg #[.int .i64 zb.k, .int .i64 zb.n, .string zb.s], fun x _ => x = .int .i64 (PM.vo za zb), fun x _ => x = .agg #[.string za.name, .int .i64 za.op, .int .i64 za.k, .int .i64 za.n, .string za.s, .string zb.name, .int .i64 zb.op, .int .i64 zb.k, .int .i64 zb.n, .string zb.s, .int .i64 (PM.vo za zb)], fun x _ => x = .bool (decide ((zb.op = 2 ∨ zb.op = 5 ∨ zb.op = 6) ∧ 0 ≤ PM.vo za zb)), fun x _ => x = .bool (decide ((zb.op = 2 ∨ zb.op = 5 ∨ zb.op = 6) ∧ 0 ≤ PM.vo za zb))] (by kernel_rfl) (by kernel_rfl) (by kernel_rfl) ?_ ?_ ?_
      · simp only [List.forall_mem_cons]
        refine ⟨?_, ?_, ?_, ?_, ?_, ?_, ?_, ?_, ?_, ?_, ?_, by simp⟩
        all_goals (intro x W W' h hb; first | exact h | exact PM.BS.keep hb h | exact PM.OW.keep hb h)
      · refine ⟨?_, ?_, ?_, ?_, ?_, ?_, ?_, ?_, ?_, ?_, ?_, trivial⟩
        all_goals
          intro a W hB hF hd
          have k2 := hF 2 rfl
          have k3 := hF 3 rfl
          have k5 := hF 5 rfl
          have ka' := hkk2.out.1.keep hB
          have kb' := hkk2.out.2.keep hB
          have c0 : W.cell? ⟨ga, 0, none⟩ = some (.string za.name) := ka'.cell 0
          have c1 : W.cell? ⟨ga, 1, none⟩ = some (.int .i64 za.op) := ka'.cell 1
          have c2 : W.cell? ⟨ga, 2, none⟩ = some (.int .i64 za.k) := ka'.cell 2
          have c3 : W.cell? ⟨ga, 3, none⟩ = some (.int .i64 za.n) := ka'.cell 3
          have c4 : W.cell? ⟨ga, 4, none⟩ = some (.string za.s) := ka'.cell 4
          have d0 : W.cell? ⟨gb, 0, none⟩ = some (.string zb.name) := kb'.cell 0
          have d1 : W.cell? ⟨gb, 1, none⟩ = some (.int .i64 zb.op) := kb'.cell 1
          have d2 : W.cell? ⟨gb, 2, none⟩ = some (.int .i64 zb.k) := kb'.cell 2
          have d3 : W.cell? ⟨gb, 3, none⟩ = some (.int .i64 zb.n) := kb'.cell 3
          have d4 : W.cell? ⟨gb, 4, none⟩ = some (.string zb.s) := kb'.cell 4
          clear hF
          simp [PM.depsL, PM.spec, PM.sl, Region.binds] at hd k2 k3 k5
          simp only [PM.wantL, PM.spec]
          try simp only [PM.sl]
          go_simp
        all_goals try exact Below.refl _ _
        · refine (order_any za.k za.n za.s zb.k zb.n zb.s W).mono ?_
          rintro e w' ⟨rfl, hb⟩
          exact ⟨hb, by first | rfl | simp⟩
        · refine (pair_behind za zb (PM.vo za zb) W).mono ?_
          rintro e w' ⟨rfl, hb⟩
          exact ⟨hb, by first | rfl | simp⟩
      · intro G W hB hF hS
        simp [PM.allSp, PM.spec] at hS
        have h4 : G 4 = .bool (decide ((zb.op = 2 ∨ zb.op = 5 ∨ zb.op = 6) ∧ 0 ≤ PM.vo za zb)) := by simp [hS]
        rw [show ((List.range (Array.size _)).map G).toArray = #[G 0, G 1, G 2, G 3, G 4, G 5, G 6, G 7, G 8, G 9, G 10, G 11, G 12, G 13, G 14, G 15, G 16, G 17, G 18, G 19, G 20, G 21, G 22, G 23, G 24, G 25, G 26, G 27, G 28, G 29, G 30, G 31, G 32, G 33, G 34, G 35, G 36, G 37, G 38, G 39, G 40, G 41, G 42, G 43, G 44, G 45, G 46, G 47, G 48, G 49, G 50, G 51, G 52, G 53, G 54, G 55, G 56, G 57, G 58, G 59] from rfl]
        clear hF hS
        go_wp2
        go_ret
        exact ⟨by simp [h4, hI5.out], PM.chain hBB.out hB⟩
  · have hph := PM.hid hp
    have hI5 : Hid (PM.impB za zb = decide ((zb.op = 6 ∧ 0 ≤ PM.vo za zb) ∨ ((zb.op = 2 ∨ zb.op = 5) ∧ 0 < PM.vo za zb))) := PM.hid (by rw [hI4.out, hp]; simp)
    clear hp
    refine PM.wp_region_st [some 46, some 47, some 48, some 49, some 5] [fun x _ => x = .agg #[.nilFunc, .func (.func 82) #[] #[], .func (.func 83) #[] #[], .func (.func 84) #[] #[], .func (.func 85) #[] #[], .func (.func 86) #[] #[], .func (.func 87) #[] #[], .func (.func 88) #[] #[]], fun x _ => x = .pointer (some ⟨ga, 1, none⟩), fun x _ => x = .int .i64 6, fun x _ => x = .func (.func 87) #[] #[], fun x _ => x = .func (.func 87) #[] #[]] (by kernel_rfl) (by kernel_rfl) (by kernel_rfl) ?_ ?_ ?_
    · simp only [List.forall_mem_cons]
      refine ⟨?_, ?_, ?_, ?_, ?_, by simp⟩
      all_goals (intro x W W' h hb; first | exact h | exact PM.BS.keep hb h | exact PM.OW.keep hb h)
    · refine ⟨?_, ?_, ?_, ?_, ?_, trivial⟩
      all_goals
        intro a W hB hF hd
        have k2 := hF 2 rfl
        have ri := ruleAt6 W
        have ka' := hkk.out.1.keep hB
        have c1 : W.cell? ⟨ga, 1, none⟩ = some (.int .i64 6) := by have := ka'.cell 1; rw [← hph.out]; exact this
        clear hF
        simp [PM.depsL, PM.spec, PM.sl, Region.binds] at hd k2
        simp only [PM.wantL, PM.spec]
        try simp only [PM.sl]
        go_simp
      all_goals try exact Below.refl _ _
      · refine (rules_any W).mono ?_
        rintro e w' ⟨rfl, hb⟩
        exact ⟨hb, by first | rfl | simp⟩
    · intro G W hB hF hS
      simp [PM.allSp, PM.spec] at hS
      have h5 : G 5 = .func (.func 87) #[] #[] := by simp [hS]
      rw [show ((List.range (Array.size _)).map G).toArray = #[G 0, G 1, G 2, G 3, G 4, G 5, G 6, G 7, G 8, G 9, G 10, G 11, G 12, G 13, G 14, G 15, G 16, G 17, G 18, G 19, G 20, G 21, G 22, G 23, G 24, G 25, G 26, G 27, G 28, G 29, G 30, G 31, G 32, G 33, G 34, G 35, G 36, G 37, G 38, G 39, G 40, G 41, G 42, G 43, G 44, G 45, G 46, G 47, G 48, G 49, G 50, G 51, G 52, G 53, G 54, G 55, G 56, G 57, G 58, G 59] from rfl]
      have q2 := hF 2 rfl
      have q3 := hF 3 rfl
      simp [PM.sl] at q2 q3
      clear hF hS
      rw [q2, q3, h5]
      clear q2 q3 h5
      have hkk2 := PM.hid (And.intro (hkk.out.1.keep hB) (hkk.out.2.keep hB))
      have hBB := PM.hid (PM.chain hBh.out hB)
      clear hB
      go_wp2_with fail
      refine PM.wp_region_st [some 50, some 51, some 52, some 53, some 54, some 55, some 56, some 57, some 58, some 59, some 4] [fun x _ => x = .func (.func 87) #[] #[], fun x _ => x = .agg #[.string za.name, .int .i64 za.op, .int .i64 za.k, .int .i64 za.n, .string za.s], fun x _ => x = .agg #[.string zb.name, .int .i64 zb.op, .int .i64 zb.k, .int .i64 zb.n, .string zb.s], fun x _ => x = .pointer (some ⟨ga, 2, none⟩), fun x _ => x = .agg #[.int .i64 za.k, .int .i64 za.n, .string za.s], fun x _ => x = .pointer (some ⟨gb, 2, none⟩), fun x _ => x = .agg #[.int .i64 zb.k, .int .i64 zb.n, .string zb.s], fun x _ => x = .int .i64 (PM.vo za zb), fun x _ => x = .agg #[.string za.name, .int .i64 za.op, .int .i64 za.k, .int .i64 za.n, .string za.s, .string zb.name, .int .i64 zb.op, .int .i64 zb.k, .int .i64 zb.n, .string zb.s, .int .i64 (PM.vo za zb)], fun x _ => x = .bool (decide ((zb.op = 6 ∧ 0 ≤ PM.vo za zb) ∨ ((zb.op = 2 ∨ zb.op = 5) ∧ 0 < PM.vo za zb))), fun x _ => x = .bool (decide ((zb.op = 6 ∧ 0 ≤ PM.vo za zb) ∨ ((zb.op = 2 ∨ zb.op = 5) ∧ 0 < PM.vo za zb)))] (by kernel_rfl) (by kernel_rfl) (by kernel_rfl) ?_ ?_ ?_
      · simp only [List.forall_mem_cons]
        refine ⟨?_, ?_, ?_, ?_, ?_, ?_, ?_, ?_, ?_, ?_, ?_, by simp⟩
        all_goals (intro x W W' h hb; first | exact h | exact PM.BS.keep hb h | exact PM.OW.keep hb h)
      · refine ⟨?_, ?_, ?_, ?_, ?_, ?_, ?_, ?_, ?_, ?_, ?_, trivial⟩
        all_goals
          intro a W hB hF hd
          have k2 := hF 2 rfl
          have k3 := hF 3 rfl
          have k5 := hF 5 rfl
          have ka' := hkk2.out.1.keep hB
          have kb' := hkk2.out.2.keep hB
          have c0 : W.cell? ⟨ga, 0, none⟩ = some (.string za.name) := ka'.cell 0
          have c1 : W.cell? ⟨ga, 1, none⟩ = some (.int .i64 za.op) := ka'.cell 1
          have c2 : W.cell? ⟨ga, 2, none⟩ = some (.int .i64 za.k) := ka'.cell 2
          have c3 : W.cell? ⟨ga, 3, none⟩ = some (.int .i64 za.n) := ka'.cell 3
          have c4 : W.cell? ⟨ga, 4, none⟩ = some (.string za.s) := ka'.cell 4
          have d0 : W.cell? ⟨gb, 0, none⟩ = some (.string zb.name) := kb'.cell 0
          have d1 : W.cell? ⟨gb, 1, none⟩ = some (.int .i64 zb.op) := kb'.cell 1
          have d2 : W.cell? ⟨gb, 2, none⟩ = some (.int .i64 zb.k) := kb'.cell 2
          have d3 : W.cell? ⟨gb, 3, none⟩ = some (.int .i64 zb.n) := kb'.cell 3
          have d4 : W.cell? ⟨gb, 4, none⟩ = some (.string zb.s) := kb'.cell 4
          clear hF
          simp [PM.depsL, PM.spec, PM.sl, Region.binds] at hd k2 k3 k5
          simp only [PM.wantL, PM.spec]
          try simp only [PM.sl]
          go_simp
        all_goals try exact Below.refl _ _
        · refine (order_any za.k za.n za.s zb.k zb.n zb.s W).mono ?_
          rintro e w' ⟨rfl, hb⟩
          exact ⟨hb, by first | rfl | simp⟩
        · refine (pair_notBefore za zb (PM.vo za zb) W).mono ?_
          rintro e w' ⟨rfl, hb⟩
          exact ⟨hb, by first | rfl | simp⟩
      · intro G W hB hF hS
        simp [PM.allSp, PM.spec] at hS
        have h4 : G 4 = .bool (decide ((zb.op = 6 ∧ 0 ≤ PM.vo za zb) ∨ ((zb.op = 2 ∨ zb.op = 5) ∧ 0 < PM.vo za zb))) := by simp [hS]
        rw [show ((List.range (Array.size _)).map G).toArray = #[G 0, G 1, G 2, G 3, G 4, G 5, G 6, G 7, G 8, G 9, G 10, G 11, G 12, G 13, G 14, G 15, G 16, G 17, G 18, G 19, G 20, G 21, G 22, G 23, G 24, G 25, G 26, G 27, G 28, G 29, G 30, G 31, G 32, G 33, G 34, G 35, G 36, G 37, G 38, G 39, G 40, G 41, G 42, G 43, G 44, G 45, G 46, G 47, G 48, G 49, G 50, G 51, G 52, G 53, G 54, G 55, G 56, G 57, G 58, G 59] from rfl]
        clear hF hS
        go_wp2
        go_ret
        exact ⟨by simp [h4, hI5.out], PM.chain hBB.out hB⟩
  · have hph := PM.hid hp
    have hI5 : Hid (PM.impB za zb = decide ((zb.op = 7 ∧ PM.beg za.k za.s.data.toList zb.k zb.s.data.toList = true) ∨ (zb.op = 6 ∧ 0 ≤ PM.vo za zb) ∨ (zb.op = 5 ∧ 0 < PM.vo za zb) ∨ (zb.op = 2 ∧ PM.beg zb.k zb.s.data.toList za.k za.s.data.toList = false))) := PM.hid (by rw [hI4.out, hp]; simp)
    clear hp
    refine PM.wp_region_st [some 46, some 47, some 48, some 49, some 5] [fun x _ => x = .agg #[.nilFunc, .func (.func 82) #[] #[], .func (.func 83) #[] #[], .func (.func 84) #[] #[], .func (.func 85) #[] #[], .func (.func 86) #[] #[], .func (.func 87) #[] #[], .func (.func 88) #[] #[]], fun x _ => x = .pointer (some ⟨ga, 1, none⟩), fun x _ => x = .int .i64 7, fun x _ => x = .func (.func 88) #[] #[], fun x _ => x = .func (.func 88) #[] #[]] (by kernel_rfl) (by kernel_rfl) (by kernel_rfl) ?_ ?_ ?_
    · simp only [List.forall_mem_cons]
      refine ⟨?_, ?_, ?_, ?_, ?_, by simp⟩
      all_goals (intro x W W' h hb; first | exact h | exact PM.BS.keep hb h | exact PM.OW.keep hb h)
    · refine ⟨?_, ?_, ?_, ?_, ?_, trivial⟩
      all_goals
        intro a W hB hF hd
        have k2 := hF 2 rfl
        have ri := ruleAt7 W
        have ka' := hkk.out.1.keep hB
        have c1 : W.cell? ⟨ga, 1, none⟩ = some (.int .i64 7) := by have := ka'.cell 1; rw [← hph.out]; exact this
        clear hF
        simp [PM.depsL, PM.spec, PM.sl, Region.binds] at hd k2
        simp only [PM.wantL, PM.spec]
        try simp only [PM.sl]
        go_simp
      all_goals try exact Below.refl _ _
      · refine (rules_any W).mono ?_
        rintro e w' ⟨rfl, hb⟩
        exact ⟨hb, by first | rfl | simp⟩
    · intro G W hB hF hS
      simp [PM.allSp, PM.spec] at hS
      have h5 : G 5 = .func (.func 88) #[] #[] := by simp [hS]
      rw [show ((List.range (Array.size _)).map G).toArray = #[G 0, G 1, G 2, G 3, G 4, G 5, G 6, G 7, G 8, G 9, G 10, G 11, G 12, G 13, G 14, G 15, G 16, G 17, G 18, G 19, G 20, G 21, G 22, G 23, G 24, G 25, G 26, G 27, G 28, G 29, G 30, G 31, G 32, G 33, G 34, G 35, G 36, G 37, G 38, G 39, G 40, G 41, G 42, G 43, G 44, G 45, G 46, G 47, G 48, G 49, G 50, G 51, G 52, G 53, G 54, G 55, G 56, G 57, G 58, G 59] from rfl]
      have q2 := hF 2 rfl
      have q3 := hF 3 rfl
      simp [PM.sl] at q2 q3
      clear hF hS
      rw [q2, q3, h5]
      clear q2 q3 h5
      have hkk2 := PM.hid (And.intro (hkk.out.1.keep hB) (hkk.out.2.keep hB))
      have hBB := PM.hid (PM.chain hBh.out hB)
      clear hB
      go_wp2_with fail
      refine PM.wp_region_st [some 50, some 51, some 52, some 53, some 54, some 55, some 56, some 57, some 58, some 59, some 4] [fun x _ => x = .func (.func 88) #[] #[], fun x _ => x = .agg #[.string za.name, .int .i64 za.op, .int .i64 za.k, .int .i64 za.n, .string za.s], fun x _ => x = .agg #[.string zb.name, .int .i64 zb.op, .int .i64 zb.k, .int .i64 zb.n, .string zb.s], fun x _ => x = .pointer (some ⟨ga, 2, none⟩), fun x _ => x = .agg #[.int .i64 za.k, .int .i64 za.n, .string za.s], fun x _ => x = .pointer (some ⟨gb, 2, none⟩), fun x _ => x = .agg #[.int .i64 zb.k, .int .i64 zb.n, .string zb.s], fun x _ => x = .int .i64 (PM.vo za zb), fun x _ => x = .agg #[.string za.name, .int .i64 za.op, .int .i64 za.k, .int .i64 za.n, .string za.s, .string zb.name, .int .i64 zb.op, .int .i64 zb.k, .int .i64 zb.n, .string zb.s, .int .i64 (PM.vo za zb)], fun x _ => x = .bool (decide ((zb.op = 7 ∧ PM.beg za.k za.s.data.toList zb.k zb.s.data.toList = true) ∨ (zb.op = 6 ∧ 0 ≤ PM.vo za zb) ∨ (zb.op = 5 ∧ 0 < PM.vo za zb) ∨ (zb.op = 2 ∧ PM.beg zb.k zb.s.data.toList za.k za.s.data.toList = false))), fun x _ => x = .bool (decide ((zb.op = 7 ∧ PM.beg za.k za.s.data.toList zb.k zb.s.data.toList = true) ∨ (zb.op = 6 ∧ 0 ≤ PM.vo za zb) ∨ (zb.op = 5 ∧ 0 < PM.vo za zb) ∨ (zb.op = 2 ∧ PM.beg zb.k zb.s.data.toList za.k za.s.data.toList = false)))] (by kernel_rfl) (by kernel_rfl) (by kernel_rfl) ?_ ?_ ?_
      · simp only [List.forall_mem_cons]
        refine ⟨?_, ?_, ?_, ?_, ?_, ?_, ?_, ?_, ?_, ?_, ?_, by simp⟩
        all_goals (intro x W W' h hb; first | exact h | exact PM.BS.keep hb h | exact PM.OW.keep hb h)
      · refine ⟨?_, ?_, ?_, ?_, ?_, ?_, ?_, ?_, ?_, ?_, ?_, trivial⟩
        all_goals
          intro a W hB hF hd
          have k2 := hF 2 rfl
          have k3 := hF 3 rfl
          have k5 := hF 5 rfl
          have ka' := hkk2.out.1.keep hB
          have kb' := hkk2.out.2.keep hB
          have c0 : W.cell? ⟨ga, 0, none⟩ = some (.string za.name) := ka'.cell 0
          have c1 : W.cell? ⟨ga, 1, none⟩ = some (.int .i64 za.op) := ka'.cell 1
          have c2 : W.cell? ⟨ga, 2, none⟩ = some (.int .i64 za.k) := ka'.cell 2
          have c3 : W.cell? ⟨ga, 3, none⟩ = some (.int .i64 za.n) := ka'.cell 3
          have c4 : W.cell? ⟨ga, 4, none⟩ = some (.string za.s) := ka'.cell 4
          have d0 : W.cell? ⟨gb, 0, none⟩ = some (.string zb.name) := kb'.cell 0
          have d1 : W.cell? ⟨gb, 1, none⟩ = some (.int .i64 zb.op) := kb'.cell 1
          have d2 : W.cell? ⟨gb, 2, none⟩ = some (.int .i64 zb.k) := kb'.cell 2
          have d3 : W.cell? ⟨gb, 3, none⟩ = some (.int .i64 zb.n) := kb'.cell 3
          have d4 : W.cell? ⟨gb, 4, none⟩ = some (.string zb.s) := kb'.cell 4
          clear hF
          simp [PM.depsL, PM.spec, PM.sl, Region.binds] at hd k2 k3 k5
          simp only [PM.wantL, PM.spec]
          try simp only [PM.sl]
          go_simp
        all_goals try exact Below.refl _ _
        · refine (order_any za.k za.n za.s zb.k zb.n zb.s W).mono ?_
          rintro e w' ⟨rfl, hb⟩
          exact ⟨hb, by first | rfl | simp⟩
        · refine (pair_prefix za zb (PM.vo za zb) W).mono ?_
          rintro e w' ⟨rfl, hb⟩
          exact ⟨hb, by first | rfl | simp⟩
      · intro G W hB hF hS
        simp [PM.allSp, PM.spec] at hS
        have h4 : G 4 = .bool (decide ((zb.op = 7 ∧ PM.beg za.k za.s.data.toList zb.k zb.s.data.toList = true) ∨ (zb.op = 6 ∧ 0 ≤ PM.vo za zb) ∨ (zb.op = 5 ∧ 0 < PM.vo za zb) ∨ (zb.op = 2 ∧ PM.beg zb.k zb.s.data.toList za.k za.s.data.toList = false))) := by simp [hS]
        rw [show ((List.range (Array.size _)).map G).toArray = #[G 0, G 1, G 2, G 3, G 4, G 5, G 6, G 7, G 8, G 9, G 10, G 11, G 12, G 13, G 14, G 15, G 16, G 17, G 18, G 19, G 20, G 21, G 22, G 23, G 24, G 25, G 26, G 27, G 28, G 29, G 30, G 31, G 32, G 33, G 34, G 35, G 36, G 37, G 38, G 39, G 40, G 41, G 42, G 43, G 44, G 45, G 46, G 47, G 48, G 49, G 50, G 51, G 52, G 53, G 54, G 55, G 56, G 57, G 58, G 59] from rfl]
        clear hF hS
        go_wp2
        go_ret
        exact ⟨by simp [h4, hI5.out], PM.chain hBB.out hB⟩
end Go.Proofs.YtnpbfjkfbobgaaaGreat
