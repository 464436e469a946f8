/-
  table.put.
-/
import Derived.Test.YtnpbfjkfbobgaaaGreatBc
namespace Go.Proofs.YtnpbfjkfbobgaaaGreat
open Go.RowKit
set_option linter.unusedVariables false
set_option linter.unusedSimpArgs false
set_option maxRecDepth 100000 in
set_option maxHeartbeats 16000000 in
theorem put15_any (u : Value) (l : List PM.Sb) (gx : Nat) (kd ib : Int) (il is : Nat) (ec : Int) (es : Nat) (e6 e7 : Value) (sa : Option Addr) (sF sc : Nat) (f : List PM.Te) (B : Nat) (w : World) (hB : B ≤ w.heap.size) (hl : l.length ≤ 1000) (hr : PM.Rise l) (ho : PM.OR (PM.sbO 50 B) 3 57 B w u l) (hfull : PM.FullV u l.length) (hx : PM.BK w gx #[.int .i64 kd, .int .i64 ib, .int .u64 (il : Int), .int .u64 (is : Int), .int .i64 ec, .int .u64 (es : Int), e6, e7] 31) (hfo : PM.OM PM.teL 5 50 B w (.slice sa sF sc) f) :
    Calls Tryz.prog 25 #[u, PM.clo 24 gx, .agg #[.int .i64 ec, .int .u64 (es : Int), .slice sa sF sc]] w fun e w' => ∃ u', e = .returned u' ∧ PM.OR (PM.sbO 50 B) 3 57 B w' u' (PM.insL ⟨ec, es, f⟩ l) ∧ Below B w w' := by
  have hBw := hB
  have hlh := PM.hid hl
  have hrh := PM.hid hr
  obtain ⟨gs, hgs⟩ : ∃ g, g = w.heap.size := ⟨_, rfl⟩
  obtain ⟨w1, hw1⟩ : ∃ W, W = w.alloc (.cells #[.int .i64 ec, .int .u64 (es : Int), .slice sa sF sc] 57) := ⟨_, rfl⟩
  have hal1 : Below w.heap.size w w1 := by rw [hw1]; exact (Below.refl _ _).alloc (Nat.le_refl _) _
  have ks : PM.BK w1 gs #[.int .i64 ec, .int .u64 (es : Int), .slice sa sF sc] 57 := by rw [hw1, hgs]; exact PM.BK.new _ _ _
  have hBB := PM.hid hal1
  have hOh := PM.hid ho
  have hfo' := PM.hid hfo
  have hxh := PM.hid hx
  have hgsw : gs = w.heap.size := hgs
  have hgsh := PM.hid hgsw
  clear hgsw hal1
  have hi1 := idxS_same (PM.sameB ec es) u gx l w1 (PM.SbL.keep (ho.rr.imp fun cs x h => PM.sbO_sbR h) hBB.out) (sameS_tells gx kd ib il is ec es e6 e7 w1 (hx.keep hBB.out))
  obtain ⟨css, hom, hal⟩ := ho.al
  have homh := PM.hid hom
  clear ho hx hom
  go_enter Tryz.func25, Tryz.ntmps25
  go_upto_region 1 with fail
  rw [← hw1, ← hgs]
  clear hw1 hgs
  have s0 : w1.cell? ⟨gs, 0, none⟩ = some (.int .i64 ec) := ks.cell 0
  have s1 : w1.cell? ⟨gs, 1, none⟩ = some (.int .u64 (es : Int)) := ks.cell 1
  have s2 : w1.cell? ⟨gs, 2, none⟩ = some (.slice sa sF sc) := ks.cell 2
  go_wp2_with fail
  refine hi1.mono ?_
  clear hi1
  rintro e w2 ⟨n, rfl, hat, hBn⟩
  clear s0 s1 s2
  replace ks := ks.keep hBn
  replace hBB := PM.hid (PM.chain hBB.out hBn)
  clear hBn
  rcases hat with ⟨rfl, hno⟩ | ⟨k, z, rfl, hz, hp, hfst⟩
  case inr =>
    have hk : k < l.length := (List.getElem?_eq_some_iff.1 hz).1
    rcases hfull with ⟨h0, -⟩ | ⟨hpos, g, hue⟩
    · omega
    obtain ⟨N, hN⟩ : ∃ N, N = l.length := ⟨_, rfl⟩
    have hNh := PM.hid hN
    rw [← hN] at hue hk
    clear hN
    subst hue
    have hfin : Hid (l.set k ⟨ec, es, f⟩ = PM.insL ⟨ec, es, f⟩ l) := PM.hid (PM.insL_set hrh.out hz (show PM.sameS ⟨ec, es, f⟩ z = true from hp))
    obtain ⟨y, hy⟩ : ∃ y, css[k]? = some y := ⟨css[k]'(by rw [hal.1, ← hNh.out]; exact hk), List.getElem?_eq_getElem _⟩
    have hom2 := homh.out.keep hBB.out
    have hbk : PM.BK w2 gs #[.int .i64 ec, .int .u64 (es : Int), .slice sa sF sc] 57 := ks
    have hgne : g ≠ gs := by have := (PM.OM.lt homh.out g rfl).2; rw [hgsh.out]; omega
    have hBg : B ≤ g := (PM.OM.lt homh.out g rfl).1
    have hrt := hom2.rt
    have hem2 := hom2.em PM.ceL_len
    obtain ⟨b', off', cap', he', -, -, hce'⟩ := PM.EM.open1 hem2 (by rw [hal.1, ← hNh.out]; omega)
    injection he' with he1 he2 he3
    injection he1 with he1
    injection he1 with he1 he4 _
    subst he1 he4
    clear he2 he3
    have hyl := hce' k y hy
    have hy3 : y.1.length = 3 := y.2.1
    have d0 : w2.cell? ⟨g, k * 3, none⟩ = some (y.1[0]'(by omega)) := by have := hyl 0 _ (List.getElem?_eq_getElem (by show 0 < y.1.length; omega)); simpa [PM.ceL] using this
    have d1 : w2.cell? ⟨g, k * 3 + 1, none⟩ = some (y.1[1]'(by omega)) := by have := hyl 1 _ (List.getElem?_eq_getElem (by show 1 < y.1.length; omega)); simpa [PM.ceL] using this
    have d2 : w2.cell? ⟨g, k * 3 + 2, none⟩ = some (y.1[2]'(by omega)) := by have := hyl 2 _ (List.getElem?_eq_getElem (by show 2 < y.1.length; omega)); simpa [PM.ceL] using this
    have q0 := PM.free_row hom2
    have p1 := hom2.putc3 (.int .i64 ec) rfl (show 0 < 3 by decide) y hy
    have y1 : (css.set k (y.put3 0 (.int .i64 ec) rfl))[k]? = some (y.put3 0 (.int .i64 ec) rfl) := by rw [List.getElem?_set, if_pos rfl, if_pos (by rw [hal.1, ← hNh.out]; exact hk)]
    have p2 := p1.putc3 (.int .u64 (es : Int)) rfl (show 1 < 3 by decide) _ y1
    rw [List.set_set] at p2
    have y2 : (css.set k ((y.put3 0 (.int .i64 ec) rfl).put3 1 (.int .u64 (es : Int)) rfl))[k]? = some ((y.put3 0 (.int .i64 ec) rfl).put3 1 (.int .u64 (es : Int)) rfl) := by rw [List.getElem?_set, if_pos rfl, if_pos (by rw [hal.1, ← hNh.out]; exact hk)]
    have p3 := p2.putc3 (.slice sa sF sc) rfl (show 2 < 3 by decide) _ y2
    rw [List.set_set] at p3
    have hcy : ((y.put3 0 (.int .i64 ec) rfl).put3 1 (.int .u64 (es : Int)) rfl).put3 2 (.slice sa sF sc) rfl = (PM.sbCe ⟨ec, es, f⟩ sa sF sc) := Subtype.ext (by
      obtain ⟨yl, hyl3, _⟩ := y
      match yl, hyl3 with
      | [a, b, c], _ => rfl)
    rw [hcy, Nat.add_zero] at p3
    have hxb : PM.Bx g w2 (((w2.setCell ⟨g, k * 3, none⟩ (.int .i64 ec)).setCell ⟨g, k * 3 + 1, none⟩ (.int .u64 (es : Int))).setCell ⟨g, k * 3 + 2, none⟩ (.slice sa sF sc)) := ((PM.Bx.set g (k * 3) w2 _).trans (PM.Bx.set g (k * 3 + 1) _ _)).trans (PM.Bx.set g (k * 3 + 2) _ _)
    have hgr := hxb.grown
    have hall : PM.Al (PM.sbO 50 B _) (css.set k (PM.sbCe ⟨ec, es, f⟩ sa sF sc)) (l.set k ⟨ec, es, f⟩) := PM.Al.set (hal.imp fun cs x h => PM.sbO_stays (by decide) _ _ _ _ _ hgr hrt (PM.sbO_lasts _ _ _ _ hBB.out h)) k (⟨_, rfl, PM.OM.stays (by decide) (hfo.keep hBB.out) hgr hrt⟩ : PM.sbO 50 B _ (PM.sbCe ⟨ec, es, f⟩ sa sF sc).1 ⟨ec, es, f⟩)
    have hend := PM.hid (And.intro (PM.OR.ofal p3 hall) (PM.Bx.below (hBB.out.mono hB) hxb hBg (Nat.le_trans hB hBB.out.size)))
    have s0 : w2.cell? ⟨gs, 0, none⟩ = some (.int .i64 ec) := ks.cell 0
    have s1 : w2.cell? ⟨gs, 1, none⟩ = some (.int .u64 (es : Int)) := ks.cell 1
    have s2 : w2.cell? ⟨gs, 2, none⟩ = some (.slice sa sF sc) := ks.cell 2
    clear p1 y1 p2 y2 p3 hcy hxb hgr hall hyl hce' hem2 hom2 hbk hal hfo hz hp hfst ks
    have hk0 : (0 : Int) ≤ (k : Int) := by omega
    have hk1 : (k : Int) < (N : Int) := by omega
    go_wp2_with fail
    go_ret
    exact ⟨_, rfl, by rw [← hfin.out]; exact hend.out.1, hend.out.2⟩
  have hno' : ∀ j y, l[j]? = some y → PM.sameS ⟨ec, es, f⟩ y = false := hno
  have hi2 := fun (W : World) (hb : Below w2.heap.size w2 W) (hk : PM.BK W gs #[.int .i64 ec, .int .u64 (es : Int), .slice sa sF sc] 57) => idxS_beh (PM.behB ec es) u gs l W (PM.SbL.keep (hOh.out.rr.imp fun cs x h => PM.sbO_sbR h) (PM.chain hBB.out hb)) (behS_tells gs ec es (.slice sa sF sc) W hk)
  have hi3 := hi2 w2 (Below.refl _ _) ks
  clear hi2 hno
  have s0 : w2.cell? ⟨gs, 0, none⟩ = some (.int .i64 ec) := ks.cell 0
  have s1 : w2.cell? ⟨gs, 1, none⟩ = some (.int .u64 (es : Int)) := ks.cell 1
  have s2 : w2.cell? ⟨gs, 2, none⟩ = some (.slice sa sF sc) := ks.cell 2
  go_wp2_with fail
  refine hi3.mono ?_
  clear hi3
  rintro e w3 ⟨m, rfl, hat, hBn⟩
  clear s0 s1 s2
  replace ks := ks.keep hBn
  replace hBB := PM.hid (PM.chain hBB.out hBn)
  clear hBn
  rcases hat with ⟨rfl, hnb⟩ | ⟨k, z, rfl, hz, hp, hfst⟩
  · have hfin : Hid (l ++ [⟨ec, es, f⟩] = PM.insL ⟨ec, es, f⟩ l) := PM.hid (PM.insL_end hno' hnb)
    rcases hfull with ⟨h0, hue⟩ | ⟨hpos, g, hue⟩
    · subst hue
      have hl0 : l = [] := List.length_eq_zero_iff.1 h0
      subst hl0
      have hc0 : css = [] := List.length_eq_zero_iff.1 (by rw [hal.1]; rfl)
      subst hc0
      have s0 : w3.cell? ⟨gs, 0, none⟩ = some (.int .i64 ec) := ks.cell 0
      have s1 : w3.cell? ⟨gs, 1, none⟩ = some (.int .u64 (es : Int)) := ks.cell 1
      have s2 : w3.cell? ⟨gs, 2, none⟩ = some (.slice sa sF sc) := ks.cell 2
      go_wp2_with fail
      obtain ⟨vb, hvb⟩ : ∃ g, g = w3.heap.size := ⟨_, rfl⟩
      obtain ⟨w5, hw5⟩ : ∃ W, W = w3.alloc (.cells #[.int .i64 ec, .int .u64 (es : Int), .slice sa sF sc] 57) := ⟨_, rfl⟩
      have hb5 : Below w3.heap.size w3 w5 := by rw [hw5]; exact (Below.refl _ _).alloc (Nat.le_refl _) _
      have kv : PM.BK w5 vb #[.int .i64 ec, .int .u64 (es : Int), .slice sa sF sc] 57 := by rw [hw5, hvb]; exact PM.BK.new _ _ _
      try rw [← hw5]
      try rw [← hvb]
      have hvg : True := trivial
      have hBB5 := PM.hid (PM.chain hBB.out hb5)
      have hal5 := PM.Al.imp (R' := PM.sbO 50 B w5) hal fun cs x h => PM.sbO_lasts _ _ _ _ (PM.chain hBB.out hb5) h
      have hf5 := hfo.keep (PM.chain hBB.out hb5)
      have hrt : PM.RowTy w5 none 57 := fun g h => by cases h
      have hcc := insSb_nil vb (PM.sbCe ⟨ec, es, f⟩ sa sF sc) B w5 (Nat.le_trans hB hBB5.out.size) kv
      clear s0 s1 s2
      refine hcc.mono ?_
      clear hcc
      rintro e w6 ⟨u', rfl, ho, hbl, hgr⟩
      have hall : PM.Al (PM.sbO 50 B w6) [(PM.sbCe ⟨ec, es, f⟩ sa sF sc)] [⟨ec, es, f⟩] := (PM.Al.one (⟨_, rfl, PM.OM.stays (by decide) hf5 hgr hrt⟩ : PM.sbO 50 B w6 (PM.sbCe ⟨ec, es, f⟩ sa sF sc).1 ⟨ec, es, f⟩))
      have hend := PM.hid (And.intro (PM.OR.ofal ho hall) ((hBB5.out.mono hB).trans hbl))
      clear ho hall hgr hbl hal5 hf5 hrt kv ks
      go_wp2_with fail
      go_ret
      exact ⟨_, rfl, by rw [← hfin.out]; exact hend.out.1, hend.out.2⟩
    · obtain ⟨N, hN⟩ : ∃ N, N = l.length := ⟨_, rfl⟩
      have hNh := PM.hid hN
      rw [← hN] at hue hpos
      clear hN
      subst hue
      have hll : Hid (css.take N ++ [(PM.sbCe ⟨ec, es, f⟩ sa sF sc)] ++ css.drop N = css ++ [(PM.sbCe ⟨ec, es, f⟩ sa sF sc)]) := PM.hid (by rw [hNh.out, ← hal.1, List.take_length, List.drop_length, List.append_nil])
      have s0 : w3.cell? ⟨gs, 0, none⟩ = some (.int .i64 ec) := ks.cell 0
      have s1 : w3.cell? ⟨gs, 1, none⟩ = some (.int .u64 (es : Int)) := ks.cell 1
      have s2 : w3.cell? ⟨gs, 2, none⟩ = some (.slice sa sF sc) := ks.cell 2
      go_wp2_with fail
      obtain ⟨vb, hvb⟩ : ∃ g, g = w3.heap.size := ⟨_, rfl⟩
      obtain ⟨w5, hw5⟩ : ∃ W, W = w3.alloc (.cells #[.int .i64 ec, .int .u64 (es : Int), .slice sa sF sc] 57) := ⟨_, rfl⟩
      have hb5 : Below w3.heap.size w3 w5 := by rw [hw5]; exact (Below.refl _ _).alloc (Nat.le_refl _) _
      have kv : PM.BK w5 vb #[.int .i64 ec, .int .u64 (es : Int), .slice sa sF sc] 57 := by rw [hw5, hvb]; exact PM.BK.new _ _ _
      try rw [← hw5]
      try rw [← hvb]
      have hvg : vb ≠ g := by have := (PM.OM.lt homh.out g rfl).2; have := hBB.out.size; omega
      have hBB5 := PM.hid (PM.chain hBB.out hb5)
      have hal5 := PM.Al.imp (R' := PM.sbO 50 B w5) hal fun cs x h => PM.sbO_lasts _ _ _ _ (PM.chain hBB.out hb5) h
      have hf5 := hfo.keep (PM.chain hBB.out hb5)
      have hrt : PM.RowTy w5 (some g) 57 := (homh.out.keep hBB5.out).rt
      have hcc := insSb_any g N N vb css (PM.sbCe ⟨ec, es, f⟩ sa sF sc) B w5 (by rw [hNh.out, hal.1]) (by rw [hNh.out]; exact hlh.out) hpos (Nat.le_refl _) (Nat.le_trans hB hBB5.out.size) (homh.out.keep hBB5.out) kv hvg
      rw [hll.out] at hcc
      clear s0 s1 s2
      refine hcc.mono ?_
      clear hcc
      rintro e w6 ⟨u', rfl, ho, hbl, hgr⟩
      have hall : PM.Al (PM.sbO 50 B w6) (css ++ [(PM.sbCe ⟨ec, es, f⟩ sa sF sc)]) (l ++ [⟨ec, es, f⟩]) := PM.Al.append (PM.Al.imp (hal5) fun cs x h => PM.sbO_stays (by decide) _ _ _ _ _ hgr hrt h) (PM.Al.one (⟨_, rfl, PM.OM.stays (by decide) hf5 hgr hrt⟩ : PM.sbO 50 B w6 (PM.sbCe ⟨ec, es, f⟩ sa sF sc).1 ⟨ec, es, f⟩))
      have hend := PM.hid (And.intro (PM.OR.ofal ho hall) ((hBB5.out.mono hB).trans hbl))
      clear ho hall hgr hbl hal5 hf5 hrt kv ks
      go_wp2_with fail
      go_ret
      exact ⟨_, rfl, by rw [← hfin.out]; exact hend.out.1, hend.out.2⟩
  · have hk : k < l.length := (List.getElem?_eq_some_iff.1 hz).1
    have hfin : Hid (l.take k ++ [⟨ec, es, f⟩] ++ l.drop k = PM.insL ⟨ec, es, f⟩ l) := PM.hid (PM.insL_mid hrh.out hno' hz (show PM.bef ⟨ec, es, f⟩ z = true from hp) hfst)
    rcases hfull with ⟨h0, -⟩ | ⟨hpos, g, hue⟩
    · omega
    obtain ⟨N, hN⟩ : ∃ N, N = l.length := ⟨_, rfl⟩
    have hNh := PM.hid hN
    rw [← hN] at hue hk hpos
    clear hN
    subst hue
    have hk0 : ¬ (k : Int) < 0 := by omega
    clear hfst hz hp
    have s0 : w3.cell? ⟨gs, 0, none⟩ = some (.int .i64 ec) := ks.cell 0
    have s1 : w3.cell? ⟨gs, 1, none⟩ = some (.int .u64 (es : Int)) := ks.cell 1
    have s2 : w3.cell? ⟨gs, 2, none⟩ = some (.slice sa sF sc) := ks.cell 2
    go_wp2_with fail
    obtain ⟨vb, hvb⟩ : ∃ g, g = w3.heap.size := ⟨_, rfl⟩
    obtain ⟨w5, hw5⟩ : ∃ W, W = w3.alloc (.cells #[.int .i64 ec, .int .u64 (es : Int), .slice sa sF sc] 57) := ⟨_, rfl⟩
    have hb5 : Below w3.heap.size w3 w5 := by rw [hw5]; exact (Below.refl _ _).alloc (Nat.le_refl _) _
    have kv : PM.BK w5 vb #[.int .i64 ec, .int .u64 (es : Int), .slice sa sF sc] 57 := by rw [hw5, hvb]; exact PM.BK.new _ _ _
    try rw [← hw5]
    try rw [← hvb]
    have hvg : vb ≠ g := by have := (PM.OM.lt homh.out g rfl).2; have := hBB.out.size; omega
    have hBB5 := PM.hid (PM.chain hBB.out hb5)
    have hal5 := PM.Al.imp (R' := PM.sbO 50 B w5) hal fun cs x h => PM.sbO_lasts _ _ _ _ (PM.chain hBB.out hb5) h
    have hf5 := hfo.keep (PM.chain hBB.out hb5)
    have hrt : PM.RowTy w5 (some g) 57 := (homh.out.keep hBB5.out).rt
    have hcc := insSb_any g N k vb css (PM.sbCe ⟨ec, es, f⟩ sa sF sc) B w5 (by rw [hNh.out, hal.1]) (by rw [hNh.out]; exact hlh.out) hpos (by omega) (Nat.le_trans hB hBB5.out.size) (homh.out.keep hBB5.out) kv hvg
    clear s0 s1 s2
    refine hcc.mono ?_
    clear hcc
    rintro e w6 ⟨u', rfl, ho, hbl, hgr⟩
    have hall : PM.Al (PM.sbO 50 B w6) (css.take k ++ [(PM.sbCe ⟨ec, es, f⟩ sa sF sc)] ++ css.drop k) (l.take k ++ [⟨ec, es, f⟩] ++ l.drop k) := PM.Al.append (PM.Al.append ((PM.Al.imp (hal5) fun cs x h => PM.sbO_stays (by decide) _ _ _ _ _ hgr hrt h).take k) (PM.Al.one (⟨_, rfl, PM.OM.stays (by decide) hf5 hgr hrt⟩ : PM.sbO 50 B w6 (PM.sbCe ⟨ec, es, f⟩ sa sF sc).1 ⟨ec, es, f⟩))) ((PM.Al.imp (hal5) fun cs x h => PM.sbO_stays (by decide) _ _ _ _ _ hgr hrt h).drop k)
    have hend := PM.hid (And.intro (PM.OR.ofal ho hall) ((hBB5.out.mono hB).trans hbl))
    clear ho hall hgr hbl hal5 hf5 hrt kv ks
    go_wp2_with fail
    go_ret
    exact ⟨_, rfl, by rw [← hfin.out]; exact hend.out.1, hend.out.2⟩
end Go.Proofs.YtnpbfjkfbobgaaaGreat
