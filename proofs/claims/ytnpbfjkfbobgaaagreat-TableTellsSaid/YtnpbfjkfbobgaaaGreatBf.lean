/-
  table.Apply.
-/
import Derived.Test.YtnpbfjkfbobgaaaGreatBe
namespace Go.Proofs.YtnpbfjkfbobgaaaGreat
open Go.RowKit
set_option linter.unusedVariables false
set_option linter.unusedSimpArgs false
namespace PM
def applyL (k : Int) (s : Sb) (l : List Sb) : List Sb := if k = 2 then insL s l else if k = 3 then l.filter (pS fun cl sb => !sameB s.cl s.sub cl sb) else l
theorem OR.imp' {α : Type} {R R' : World → List Value → α → Prop} {c : Nat} {E : TypeId} {B : Nat} {w : World} {v : Value} {l : List α} (h : OR R c E B w v l) (hi : ∀ cs x, R w cs x → R' w cs x) : OR R' c E B w v l := by
  obtain ⟨css, g1, g2, g3⟩ := h
  exact ⟨css, g1, g2, fun i cs x a b => hi _ _ (g3 i cs x a b)⟩
end PM
set_option maxRecDepth 100000 in
set_option maxHeartbeats 16000000 in
theorem apply15_any (u : Value) (l : List PM.Sb) (kd ib : Int) (il is : Nat) (ec : Int) (es : Nat) (fa : Option Addr) (fF fc : Nat) (e7 : Value) (fl : List PM.Te) (w : World) (hF : fF = fl.length) (hv : PM.SbL w u l) (hl : PM.sbsS l) (hr : PM.Rise l) (hf : PM.TV w (.slice fa fF fc) fl) (hfl : fl.length ≤ 1000) :
    Calls Tryz.prog 7 #[u, .agg #[.int .i64 kd, .int .i64 ib, .int .u64 (il : Int), .int .u64 (is : Int), .int .i64 ec, .int .u64 (es : Int), .slice fa fF fc, e7]] w fun e w' => ∃ u', e = .returned u' ∧ PM.OR (PM.sbO 50 w.heap.size) 3 57 w.heap.size w' u' (PM.applyL kd ⟨ec, es, fl⟩ l) ∧ Below w.heap.size w w' := by
  obtain ⟨ua, uc, hue⟩ := hv.len
  subst hue
  obtain ⟨N, hN⟩ : ∃ N, N = l.length := ⟨_, rfl⟩
  have hNh := PM.hid hN
  rw [← hN] at hv ⊢
  have hFh := PM.hid hF
  have hvh := PM.hid hv
  have hlh := PM.hid hl
  have hrh := PM.hid hr
  have hfh := PM.hid (And.intro hf hfl)
  clear hN hv hl hr hf hfl hF
  obtain ⟨gx, hgx⟩ : ∃ g, g = w.heap.size := ⟨_, rfl⟩
  obtain ⟨w1, hw1⟩ : ∃ W, W = w.alloc (.cells #[.int .i64 kd, .int .i64 ib, .int .u64 (il : Int), .int .u64 (is : Int), .int .i64 ec, .int .u64 (es : Int), .slice fa fF fc, e7] 31) := ⟨_, rfl⟩
  have hal : Below w.heap.size w w1 := by rw [hw1]; exact (Below.refl _ _).alloc (Nat.le_refl _) _
  have kx : PM.BK w1 gx #[.int .i64 kd, .int .i64 ib, .int .u64 (il : Int), .int .u64 (is : Int), .int .i64 ec, .int .u64 (es : Int), .slice fa fF fc, e7] 31 := by rw [hw1, hgx]; exact PM.BK.new _ _ _
  have hst : ∀ (ad : Addr) (W : World), (store ad (.func (.func 24) #[] #[.pointer (some ⟨gx, 0, none⟩)])).run Tryz.prog W = stored Tryz.prog W ad (.func (.func 24) #[] #[.pointer (some ⟨gx, 0, none⟩)]) .plain := fun ad W => run_store _ W ad _ _ rfl
  go_enter Tryz.func7, Tryz.ntmps7
  go_upto_region 1 with fail
  rw [← hw1, ← hgx]
  clear hw1 hgx
  obtain ⟨ga, hga⟩ : ∃ g, g = w1.heap.size := ⟨_, rfl⟩
  obtain ⟨w1a, hw1a⟩ : ∃ W, W = w1.alloc (.cells #[.nilFunc] 61) := ⟨_, rfl⟩
  have kfa : PM.BK w1a ga #[.nilFunc] 61 := by rw [hw1a, hga]; exact PM.BK.new _ _ _
  have hfree : w1a.frozen? ⟨ga, 0, none⟩ = false := PM.BK.free kfa 0
  have hc0 : w1a.cell? ⟨ga, 0, none⟩ = some .nilFunc := kfa.cell 0
  go_upto_region 2 with fail
  clear hc0 hfree kfa hw1a hga
  obtain ⟨gf, hgf⟩ : ∃ g, g = w1.heap.size := ⟨_, rfl⟩
  obtain ⟨w2, hw2⟩ : ∃ W, W = w1.alloc (.cells #[.func (.func 24) #[] #[.pointer (some ⟨gx, 0, none⟩)]] 61) := ⟨_, rfl⟩
  have hal2 : Below w1.heap.size w1 w2 := by rw [hw2]; exact (Below.refl _ _).alloc (Nat.le_refl _) _
  have kf : PM.BK w2 gf #[PM.clo 24 gx] 61 := by rw [hw2, hgf]; exact PM.BK.new _ _ _
  rw [← hw2, ← hgf]
  have kxh := PM.hid (kx.keep hal2)
  have kfh := PM.hid kf
  have hBB := PM.hid (PM.chain hal hal2)
  clear hw2 hgf kx kf hal hal2 hst
  have x0 : w2.cell? ⟨gx, 0, none⟩ = some (.int .i64 kd) := kxh.out.cell 0
  have x1 : w2.cell? ⟨gx, 1, none⟩ = some (.int .i64 ib) := kxh.out.cell 1
  have x2 : w2.cell? ⟨gx, 2, none⟩ = some (.int .u64 (il : Int)) := kxh.out.cell 2
  have x3 : w2.cell? ⟨gx, 3, none⟩ = some (.int .u64 (is : Int)) := kxh.out.cell 3
  have x4 : w2.cell? ⟨gx, 4, none⟩ = some (.int .i64 ec) := kxh.out.cell 4
  have x5 : w2.cell? ⟨gx, 5, none⟩ = some (.int .u64 (es : Int)) := kxh.out.cell 5
  have x6 : w2.cell? ⟨gx, 6, none⟩ = some (.slice fa fF fc) := kxh.out.cell 6
  have x7 : w2.cell? ⟨gx, 7, none⟩ = some (e7) := kxh.out.cell 7
  by_cases hk2 : kd = 2
  · have hap : Hid (PM.insL ⟨ec, es, fl⟩ l = PM.applyL kd ⟨ec, es, fl⟩ l) := PM.hid (by unfold PM.applyL; rw [if_pos hk2])
    have q2 : ((kd : Int) == 2) = true := by simp [hk2]
    clear hk2
    go_upto_region 4 with fail
    clear x0 x1 x2 x3 x4 x5 x6 x7
    refine PM.wp_region_st2 11 [some 11, some 12, some 13, some 14, some 15, some 16, some 17, some 18, some 19, some 20, some 21, some 22, some 4] [fun x _ => x = .slice ua N uc, fun v W => PM.OR (PM.sbO 50 w2.heap.size) 3 57 w2.heap.size W v l ∧ PM.FullV v l.length, fun x _ => x = PM.clo 24 gx, fun x _ => x = .pointer (some ⟨gx, 4, none⟩), fun x _ => x = .int .i64 ec, fun x _ => x = .pointer (some ⟨gx, 5, none⟩), fun x _ => x = .int .u64 (es : Int), fun x _ => x = .pointer (some ⟨gx, 6, none⟩), fun x _ => x = .slice fa fF fc, fun v W => PM.OM PM.teL 5 50 w2.heap.size W v fl, fun v W => ∃ sa sc, v = .agg #[.int .i64 ec, .int .u64 (es : Int), .slice sa fF sc] ∧ PM.OM PM.teL 5 50 w2.heap.size W (.slice sa fF sc) fl] (by kernel_rfl) (by kernel_rfl) (by kernel_rfl) (by kernel_rfl) (by kernel_rfl) (of_decide_eq_true (by kernel_rfl)) (by kernel_rfl) ?_ ?_ ?_
    · simp only [List.forall_mem_cons]
      refine ⟨?_, ?_, ?_, ?_, ?_, ?_, ?_, ?_, ?_, ?_, ?_, by simp⟩
      all_goals (intro x W W' h hb; first | exact h | exact PM.BS.keep hb h | exact PM.OW.keep hb h | exact ⟨PM.OR.keep PM.sbO_lasts hb h.1, h.2⟩ | exact h.keep hb | (obtain ⟨a1, a2, h1, h2⟩ := h; exact ⟨a1, a2, h1, h2.keep hb⟩))
    · refine ⟨?_, ?_, ?_, ?_, ?_, ?_, ?_, ?_, ?_, ?_, ?_, trivial⟩
      all_goals
        intro a W hB hF hd
        have k0 := hF 0 rfl
        have k3 := hF 3 rfl
        have k5 := hF 5 rfl
        have hBW := PM.chain hBB.out hB
        have yc0 : W.cell? ⟨gf, 0, none⟩ = some (PM.clo 24 gx) := (kfh.out.keep hB).cell 0
        have x0 : W.cell? ⟨gx, 0, none⟩ = some (.int .i64 kd) := (kxh.out.keep hB).cell 0
        have x1 : W.cell? ⟨gx, 1, none⟩ = some (.int .i64 ib) := (kxh.out.keep hB).cell 1
        have x2 : W.cell? ⟨gx, 2, none⟩ = some (.int .u64 (il : Int)) := (kxh.out.keep hB).cell 2
        have x3 : W.cell? ⟨gx, 3, none⟩ = some (.int .u64 (is : Int)) := (kxh.out.keep hB).cell 3
        have x4 : W.cell? ⟨gx, 4, none⟩ = some (.int .i64 ec) := (kxh.out.keep hB).cell 4
        have x5 : W.cell? ⟨gx, 5, none⟩ = some (.int .u64 (es : Int)) := (kxh.out.keep hB).cell 5
        have x6 : W.cell? ⟨gx, 6, none⟩ = some (.slice fa fF fc) := (kxh.out.keep hB).cell 6
        have x7 : W.cell? ⟨gx, 7, none⟩ = some (e7) := (kxh.out.keep hB).cell 7
        clear hF
        simp [PM.depsL, PM.spec, PM.sl, Region.binds] at hd k0 k3 k5
        simp only [PM.wantL, PM.spec]
        try simp only [PM.sl]
        go_simp
      all_goals try exact Below.refl _ _
      · refine (eachSb_any (.slice ua N uc) l W (PM.SbL.keep hvh.out hBW) hlh.out).mono ?_
        rintro e w' ⟨u, rfl, h1, h2, hb⟩
        have h3 : PM.FullV u l.length := by
          rcases h2 with ⟨q1, q2⟩ | ⟨q1, g, q2⟩
          · exact .inl ⟨by rw [q1]; rfl, q2⟩
          · exact .inr ⟨q1, g, q2⟩
        have h1' : PM.OR (PM.sbO 50 w2.heap.size) 3 57 w2.heap.size w' u l := (PM.OR.mono hB.size h1).imp' fun cs x h => PM.sbO_mono hB.size h
        first | exact ⟨hb, h1', h3⟩ | exact ⟨hb, _, rfl, h1', h3⟩
      · refine (ownF_any (.slice fa fF fc) fl W (hfh.out.1.keep hBW) hfh.out.2).mono ?_
        rintro e w' ⟨u, rfl, h1, hb⟩
        first | exact ⟨hb, h1.mono hB.size⟩ | exact ⟨hb, _, rfl, h1.mono hB.size⟩
      · obtain ⟨hd1, hd2, hd'⟩ := hd
        obtain ⟨sa, sc, hse⟩ := (hd'.em PM.teL_len).len
        rw [← hFh.out] at hse
        try simp only [hd1, hd2, hse]
        go_simp
        rw [hse] at hd'
        first | exact ⟨Below.refl _ _, sa, sc, rfl, hd'⟩ | exact ⟨Below.refl _ _, _, rfl, sa, sc, rfl, hd'⟩ | exact ⟨sa, sc, rfl, hd'⟩
    · intro G W hB hF hS
      simp [PM.allSp, PM.spec] at hS
      obtain ⟨h11, h12, h13, h14, h15, h16, h17, h18, h19, h20, h21⟩ := hS
      obtain ⟨sa, sc, h21e, h21o⟩ := h21
      have k0 := hF 0 rfl
      have k1 := hF 1 rfl
      have k2 := hF 2 rfl
      have k3 := hF 3 rfl
      have k5 := hF 5 rfl
      have k6 := hF 6 rfl
      have k7 := hF 7 rfl
      have k8 := hF 8 rfl
      have k9 := hF 9 rfl
      have k10 := hF 10 rfl
      have k23 := hF 23 rfl
      have k24 := hF 24 rfl
      have k25 := hF 25 rfl
      have k26 := hF 26 rfl
      have k27 := hF 27 rfl
      have k28 := hF 28 rfl
      have k29 := hF 29 rfl
      simp [PM.sl] at k0 k1 k2 k3 k5 k6 k7 k8 k9 k10 k23 k24 k25 k26 k27 k28 k29
      rw [show ((List.range (Array.size _)).map G).toArray = #[G 0, G 1, G 2, G 3, G 4, G 5, G 6, G 7, G 8, G 9, G 10, G 11, G 12, G 13, G 14, G 15, G 16, G 17, G 18, G 19, G 20, G 21, G 22, G 23, G 24, G 25, G 26, G 27, G 28, G 29] from rfl]
      clear hF
      obtain ⟨v12, hv12⟩ : ∃ v, v = G 12 := ⟨_, rfl⟩
      obtain ⟨v20, hv20⟩ : ∃ v, v = G 20 := ⟨_, rfl⟩
      rw [← hv12] at h12
      rw [h11, ← hv12, h13, h14, h15, h16, h17, h18, h19, ← hv20, h21e, k0, k1, k2, k3, k5, k6, k7, k8, k9, k10, k23, k24, k25, k26, k27, k28, k29]
      clear h11 h13 h14 h15 h16 h17 h18 h19 h20 h21e hv12 hv20 k0 k1 k2 k3 k5 k6 k7 k8 k9 k10 k23 k24 k25 k26 k27 k28 k29
      have hcc := put15_any v12 l gx kd ib il is ec es (.slice fa fF fc) e7 sa fF sc fl w2.heap.size W hB.size hlh.out.1 hrh.out h12.1 h12.2 (kxh.out.keep hB) h21o
      clear h12 h21o
      have hBW := PM.hid hB
      clear hB
      go_wp2_with fail
      refine hcc.mono ?_
      clear hcc
      rintro e w5 ⟨u', rfl, ho, hbl⟩
      have hend := PM.hid (And.intro ((PM.OR.mono hBB.out.size ho).imp' fun cs x h => PM.sbO_mono hBB.out.size h) (PM.chain hBB.out (hBW.out.trans hbl)))
      clear ho hbl
      go_wp2_with fail
      go_ret
      exact ⟨_, rfl, by rw [← hap.out]; exact hend.out.1, hend.out.2⟩
  have q2 : ((kd : Int) == 2) = false := by simp [hk2]
  by_cases hk3 : kd = 3
  · have hap : Hid (l.filter (PM.pS fun cl sb => !PM.sameB ec es cl sb) = PM.applyL kd ⟨ec, es, fl⟩ l) := PM.hid (by unfold PM.applyL; rw [if_neg hk2, if_pos hk3])
    have q3 : ((kd : Int) == 3) = true := by simp [hk3]
    clear hk2 hk3
    have hkc := keptS_nsame (fun cl sb => !PM.sameB ec es cl sb) (.slice ua N uc) gf l w2 (PM.SbL.keep hvh.out hBB.out) hlh.out.1 (nsameS_tells gf gx kd ib il is ec es (.slice fa fF fc) e7 w2 kfh.out kxh.out)
    go_wp2_with fail
    refine hkc.mono ?_
    clear hkc x0 x1 x2 x3 x4 x5 x6 x7
    rintro e w4 ⟨u1, rfl, ho1, hb4⟩
    have hB4 := PM.hid (PM.chain hBB.out hb4)
    have hsb : PM.SbL w4 u1 (l.filter (PM.pS fun cl sb => !PM.sameB ec es cl sb)) := ho1.rr.imp fun cs x h => PM.sbR_lasts _ _ _ _ hb4 h
    have hss : PM.sbsS (l.filter (PM.pS fun cl sb => !PM.sameB ec es cl sb)) := ⟨Nat.le_trans (List.length_filter_le _ _) hlh.out.1, fun x hx => hlh.out.2 x (List.mem_filter.1 hx).1⟩
    clear ho1 hb4
    have hcc := eachSb_any u1 _ w4 hsb hss
    go_wp2_with fail
    refine hcc.mono ?_
    clear hcc
    rintro e w5 ⟨u', rfl, ho, -, hbl⟩
    have hend := PM.hid (And.intro ((PM.OR.mono hB4.out.size ho).imp' fun cs x h => PM.sbO_mono hB4.out.size h) (PM.chain hB4.out hbl))
    clear ho hbl
    go_wp2_with fail
    go_ret
    exact ⟨_, rfl, by rw [← hap.out]; exact hend.out.1, hend.out.2⟩
  have q3 : ((kd : Int) == 3) = false := by simp [hk3]
  have hap : Hid (l = PM.applyL kd ⟨ec, es, fl⟩ l) := PM.hid (by unfold PM.applyL; rw [if_neg hk2, if_neg hk3])
  clear hk2 hk3
  have hcc := eachSb_any (.slice ua N uc) l w2 (PM.SbL.keep hvh.out hBB.out) hlh.out
  go_wp2_with fail
  clear x0 x1 x2 x3 x4 x5 x6 x7
  refine hcc.mono ?_
  clear hcc
  rintro e w5 ⟨u', rfl, ho, -, hbl⟩
  have hend := PM.hid (And.intro ((PM.OR.mono hBB.out.size ho).imp' fun cs x h => PM.sbO_mono hBB.out.size h) (PM.chain hBB.out hbl))
  clear ho hbl
  go_wp2_with fail
  go_ret
  exact ⟨_, rfl, by rw [← hap.out]; exact hend.out.1, hend.out.2⟩
end Go.Proofs.YtnpbfjkfbobgaaaGreat
