/-
  THE WALK of TableApart.
-/
import Derived.Test.YtnpbfjkfbobgaaaBn
namespace Go.Proofs.Ytnpbfjkfbobgaaa
open Go.RowKit
set_option linter.unusedVariables false
set_option linter.unusedSimpArgs false
set_option maxRecDepth 100000 in
set_option maxHeartbeats 16000000 in
theorem tableApart_walkA (va : Option Addr) (N vc : Nat) (l : List PM.En) (c : Int) (x : PM.En) (fa : Option Addr) (F fc : Nat) (ea : Option Addr) (L ec : Nat) (w : World) (hF : F = x.fil.length) (hL : L = x.evs.length) (hv : PM.EnL w (.slice va N vc) l) (hw : ∀ y ∈ l, PM.En.wf y) (hx : x.wf) (hf : PM.TV w (.slice fa F fc) x.fil) (he : PM.EVL w (.slice ea L ec) x.evs) :
    Calls Try.prog 6 #[.slice va N vc, .int .i64 c, .agg #[.int .i64 x.kind, .int .i64 x.id.br, .int .u64 (x.id.life : Int), .int .u64 (x.id.ser : Int), .int .i64 x.client, .int .u64 (x.sub : Int), .slice fa F fc, .slice ea L ec]] w fun e w' => e = .returned (.bool true) ∧ Below w.heap.size w w' := by
  have hNh : Hid (N = l.length) := PM.hid (by
    obtain ⟨a, c, h⟩ := hv.len
    injection h)
  have hFh := PM.hid hF
  have hLh := PM.hid hL
  have hvh := PM.hid hv
  have hwf := PM.hid (And.intro hw hx)
  have hxr := PM.hid (And.intro hf he)
  clear hF hL hv hw hx hf he
  obtain ⟨gx, hgx⟩ : ∃ g, g = w.heap.size := ⟨_, rfl⟩
  obtain ⟨w1, hw1⟩ : ∃ W, W = w.alloc (.cells #[.int .i64 x.kind, .int .i64 x.id.br, .int .u64 (x.id.life : Int), .int .u64 (x.id.ser : Int), .int .i64 x.client, .int .u64 (x.sub : Int), .slice fa F fc, .slice ea L ec] 31) := ⟨_, rfl⟩
  have hal : Below w.heap.size w w1 := by rw [hw1]; exact (Below.refl _ _).alloc (Nat.le_refl _) _
  have kx : PM.BK w1 gx #[.int .i64 x.kind, .int .i64 x.id.br, .int .u64 (x.id.life : Int), .int .u64 (x.id.ser : Int), .int .i64 x.client, .int .u64 (x.sub : Int), .slice fa F fc, .slice ea L ec] 31 := by rw [hw1, hgx]; exact PM.BK.new _ _ _
  have hBB := PM.hid hal
  clear hal
  have hfw : Hid (∀ W : World, Below w.heap.size w W → Calls Try.prog 8 #[.agg #[.int .i64 x.kind, .int .i64 x.id.br, .int .u64 (x.id.life : Int), .int .u64 (x.id.ser : Int), .int .i64 x.client, .int .u64 (x.sub : Int), .slice fa F fc, .slice ea L ec]] W fun e w' => (e = .returned (.bool true) ∧ PM.FewEn x ∨ e = .returned (.bool false) ∧ ¬ PM.FewEn x) ∧ Below W.heap.size W w') := PM.hid fun W hb => by
    have h1 := hxr.out.1
    have h2 := hxr.out.2
    rw [hFh.out] at h1 ⊢
    rw [hLh.out] at h2 ⊢
    exact few11x_any x _ _ W (h1.keep hb) (PM.EVL.keepO hb h2)
  go_enter Try.func6, Try.ntmps6
  go_upto_region 1 with fail
  rw [← hw1, ← hgx]
  clear hw1 hgx
  go_wp2_with fail
  refine (awake15_any w1).mono ?_
  rintro e w2 ⟨rfl, hb⟩
  replace kx := kx.keep hb
  replace hBB := PM.hid (PM.chain hBB.out hb)
  clear hb
  have c0 : w2.cell? ⟨gx, 0, none⟩ = some (.int .i64 x.kind) := kx.cell 0
  have c1 : w2.cell? ⟨gx, 1, none⟩ = some (.int .i64 x.id.br) := kx.cell 1
  have c2 : w2.cell? ⟨gx, 2, none⟩ = some (.int .u64 (x.id.life : Int)) := kx.cell 2
  have c3 : w2.cell? ⟨gx, 3, none⟩ = some (.int .u64 (x.id.ser : Int)) := kx.cell 3
  have c4 : w2.cell? ⟨gx, 4, none⟩ = some (.int .i64 x.client) := kx.cell 4
  have c5 : w2.cell? ⟨gx, 5, none⟩ = some (.int .u64 (x.sub : Int)) := kx.cell 5
  have c6 : w2.cell? ⟨gx, 6, none⟩ = some (.slice fa F fc) := kx.cell 6
  have c7 : w2.cell? ⟨gx, 7, none⟩ = some (.slice ea L ec) := kx.cell 7
  go_wp2_with fail
  refine (hfw.out w2 hBB.out).mono ?_
  rintro e w3 ⟨hFw, hb⟩
  clear c0 c1 c2 c3 c4 c5 c6 c7
  replace kx := kx.keep hb
  replace hBB := PM.hid (PM.chain hBB.out hb)
  clear hb
  rcases hFw with ⟨rfl, hFw⟩ | ⟨rfl, hFw⟩
  case inr =>
    clear kx hFw
    go_wp2_with fail
    go_ret
    exact ⟨by first | rfl | simp, hBB.out⟩
  have hFwh := PM.hid hFw
  have hEnS := PM.hid hFw.enS
  clear hFw
  go_wp2_with fail
  refine (grown15_any (.slice va N vc) l w3 (PM.EnL.keep hvh.out hBB.out) hwf.out.1).mono ?_
  rintro e wG ⟨u1, rfl, h1, hb⟩
  replace kx := kx.keep hb
  replace hBB := PM.hid (PM.chain hBB.out hb)
  clear hb
  have hG := PM.hid (PM.grL_ok l)
  obtain ⟨t, ht⟩ : ∃ t, t = PM.grL l := ⟨_, rfl⟩
  rw [← ht] at h1 hG
  clear ht
  obtain ⟨ta, tc, hue⟩ := PM.RR.len h1
  obtain ⟨T, hT⟩ : ∃ q, q = t.length := ⟨_, rfl⟩
  rw [← hT] at hue
  subst hue
  have hTl := PM.hid hT
  have hTh := PM.hid h1
  have kxg := PM.hid kx
  clear hT h1 kx
  have hT30 : T ≤ 30 := by rw [hTl.out]; exact hG.out.len
  go_wp2_with fail
  go_loopw [9, 10] (fun sv ix wr => ∃ k : Nat, ix = .int .i64 k ∧ k ≤ T ∧ Hid (PM.OR (PM.sbE wG) 3 44 wG.heap.size wr sv (PM.ownL (t.take k) c) ∧ Below wG.heap.size wG wr)) (fun _ ix _ => T - (intOf ix).toNat)
  case atStart => exact ⟨0, rfl, by omega, PM.hid ⟨PM.OR.nilrow _, Below.refl _ _⟩⟩
  case round =>
    obtain ⟨k, rfl, hk, hin⟩ := hrel
    obtain ⟨hO, hB⟩ := hin.out
    have hBr := PM.hid hB
    clear hin
    have hfl : (PM.ownL (t.take k) c).length ≤ k := Nat.le_trans (List.length_filter_le _ _) (by rw [List.length_take]; omega)
    obtain ⟨out, hout⟩ : ∃ q, q = PM.ownL (t.take k) c := ⟨_, rfl⟩
    rw [← hout] at hO hfl
    have houth := PM.hid hout
    clear hout
    obtain ⟨ra, rc, hre⟩ := hO.rr.len
    obtain ⟨R, hR⟩ : ∃ P, P = out.length := ⟨_, rfl⟩
    rw [← hR] at hre hfl
    subst hre
    have hRh := PM.hid hR
    clear hR
    by_cases hlt : k < T
    · obtain ⟨z, hz⟩ : ∃ z, t[k]? = some z := ⟨t[k]'(by rw [← hTl.out]; exact hlt), List.getElem?_eq_getElem _⟩
      obtain ⟨b, off, hbe, hce⟩ := PM.RR.opn hTh.out (by rw [← hTl.out]; omega)
      subst hbe
      obtain ⟨cs, hl0, hR⟩ := hce k z hz
      obtain ⟨za, zc, hcs, hzf⟩ := PM.sbR_open hR
      rw [hcs] at hl0 hR
      obtain ⟨zF, hzF⟩ : ∃ P, P = z.fil.length := ⟨_, rfl⟩
      rw [← hzF] at hl0 hR
      replace hl0 := hl0.keep hB
      have d0 : wr.cell? ⟨b, off + k * 3, none⟩ = some (.int .i64 z.cl) := hl0 0 _ rfl
      have d1 : wr.cell? ⟨b, off + k * 3 + 1, none⟩ = some (.int .u64 (z.sub : Int)) := hl0 1 _ rfl
      have d2 : wr.cell? ⟨b, off + k * 3 + 2, none⟩ = some (.slice za zF zc) := hl0 2 _ rfl
      have hzh := PM.hid hz
      have zR := PM.hid hR
      clear hz hce hl0 hR hcs cs hzf hzF hB
      by_cases hc : z.cl = c
      · have q1 : (z.cl == c) = true := by simp [hc]
        have hsk : Hid (PM.ownL (t.take (k + 1)) c = out ++ [z]) := PM.hid (by rw [houth.out]; unfold PM.ownL; rw [PM.take_at hzh.out, List.filter_append, List.filter_cons_of_pos (by simpa using hc), List.filter_nil])
        clear hc
        have hl16 : (out.length + 1) * 40 ≤ 140737488355328 := by rw [← hRh.out]; omega
        have hl17 : out.length + 1 ≤ maxLen := by rw [← hRh.out]; unfold maxLen; omega
        have hsz := hBr.out.size
        have hRy : PM.sbE wG wr (PM.sbCe z za zF zc).1 z := zR.out
        rw [hRh.out] at hO
        go_wp2_with (at_builtin; rw [hRh.out]; go_loud (refine PM.wpList_or1 tySb (PM.sbE_stays wG _) (PM.sbE_lasts wG) wG.heap.size wr rfl _ _ rfl _ out z (PM.sbCe z za zF zc) _ rfl rfl rfl rfl hRy hO hl16 hl17 hsz ?_); intro v' w' t1 t2 t3; have hE := PM.hid (And.intro t1 (hBr.out.trans t2)); clear t1 t2 t3 hsz hO hRy d0 d1 d2)
        exact ⟨⟨k + 1, by go_num, by omega, PM.hid (by rw [hsk.out]; exact hE.out)⟩, by simp only [intOf]; omega⟩
      · have q1 : (z.cl == c) = false := by simp [hc]
        have hsk : Hid (PM.ownL (t.take (k + 1)) c = out) := PM.hid (by rw [houth.out]; unfold PM.ownL; rw [PM.take_at hzh.out, List.filter_append, List.filter_cons_of_neg (by simpa using hc), List.filter_nil, List.append_nil])
        have hin2 := PM.hid (And.intro hO hBr.out)
        clear hc hO
        go_wp2_with fail
        exact ⟨⟨k + 1, by go_num, by omega, PM.hid (by rw [hsk.out]; exact hin2.out)⟩, by simp only [intOf]; omega⟩
    · have hkT : T = k := by omega
      have hR30 : R ≤ 30 := by omega
      clear hlt hk
      have hoe : out = PM.ownL t c := by
        have := houth.out
        rw [← hkT, hTl.out, List.take_length] at this
        exact this
      rw [hoe] at hO hRh
      have hRl := hRh
      have hOh : Hid (PM.SbL wr (.slice ra R rc) (PM.ownL t c)) := PM.hid (hO.rr.imp fun cs x h => PM.sbR_lasts _ _ _ _ hBr.out h)
      have hTh := PM.hid (PM.SbL.keep hTh.out hBr.out)
      have kxh := PM.hid (kxg.out.keep hBr.out)
      have hBB := PM.hid (PM.chain hBB.out hBr.out)
      have hBg : Hid (Below wr.heap.size wr wr) := PM.hid (Below.refl _ _)
      have q0 : ¬ (k : Int) < (T : Int) := by omega
      clear hoe houth hRh hO hB hkT
      obtain ⟨wq, hwq⟩ : ∃ W, W = wr := ⟨_, rfl⟩
      rw [← hwq] at hOh hTh kxh hBB hBg ⊢
      clear hwq hBr
      by_cases hR0 : R = 0
      · have hbn : Hid (PM.batchL t c x = []) := PM.hid (PM.batch_none (List.length_eq_zero_iff.1 (by rw [← hRl.out]; exact hR0)))
        have q1 : decide ((0 : Int) < (R : Int)) = false := by simp; omega
        have q2 : ¬ (0 : Int) < (R : Int) := by omega
        clear hR0
        go_upto_region 13 with fail
        refine PM.wp_region_st [some 39, some 40, some 41, some 42, some 43, some 44, some 45, some 46, some 47, some 48, some 49, some 50, some 51, some 52, some 53, some 54, some 55, some 56, some 57, some 58, some 59, some 60, some 6] [fun vq _ => vq = .slice ta T tc, fun vq _ => vq = .int .i64 c, fun vq _ => vq = .agg #[.int .i64 x.kind, .int .i64 x.id.br, .int .u64 (x.id.life : Int), .int .u64 (x.id.ser : Int), .int .i64 x.client, .int .u64 (x.sub : Int), .slice fa F fc, .slice ea L ec], fun v W => PM.EVL W v (PM.batchL t c x), fun vq _ => vq = .slice ra R rc, fun vq _ => vq = .int .i64 c, fun vq _ => vq = .agg #[.int .i64 x.kind, .int .i64 x.id.br, .int .u64 (x.id.life : Int), .int .u64 (x.id.ser : Int), .int .i64 x.client, .int .u64 (x.sub : Int), .slice fa F fc, .slice ea L ec], fun v W => PM.EVL W v (PM.batchL (PM.ownL t c) c x), fun vq _ => vq = .bool true, fun vq _ => vq = .bool true, fun vq _ => vq = .slice ra R rc, fun vq _ => vq = .int .i64 (R : Int), fun vq _ => vq = .bool false, fun vq _ => vq = .bool false, fun vq _ => vq = .slice ta T tc, fun vq _ => vq = .int .i64 c, fun vq _ => vq = .agg #[.int .i64 x.kind, .int .i64 x.id.br, .int .u64 (x.id.life : Int), .int .u64 (x.id.ser : Int), .int .i64 x.client, .int .u64 (x.sub : Int), .slice fa F fc, .slice ea L ec], fun v W => ∃ qa qc, v = .slice qa 0 qc, fun vq _ => vq = .int .i64 0, fun vq _ => vq = .bool true, fun vq _ => vq = .bool true, fun vq _ => vq = .bool true, fun vq _ => vq = .bool true] (by kernel_rfl) (by kernel_rfl) (by kernel_rfl) ?_ ?_ ?_
        · simp only [List.forall_mem_cons]
          refine ⟨?_, ?_, ?_, ?_, ?_, ?_, ?_, ?_, ?_, ?_, ?_, ?_, ?_, ?_, ?_, ?_, ?_, ?_, ?_, ?_, ?_, ?_, ?_, by simp⟩
          all_goals (intro vq W W' h hb; first | exact h | exact PM.BS.keep hb h | exact PM.OW.keep hb h | exact PM.EVL.keepO hb h | trivial)
        · refine ⟨?_, ?_, ?_, ?_, ?_, ?_, ?_, ?_, ?_, ?_, ?_, ?_, ?_, ?_, ?_, ?_, ?_, ?_, ?_, ?_, ?_, ?_, ?_, trivial⟩
          all_goals
            intro a W hB hF hd
            have k1 := hF 1 rfl
            have k5 := hF 5 rfl
            have k8 := hF 8 rfl
            have k9 := hF 9 rfl
            have hBW := PM.chain hBg.out hB
            have x0 : W.cell? ⟨gx, 0, none⟩ = some (.int .i64 x.kind) := (kxh.out.keep hB).cell 0
            have x1 : W.cell? ⟨gx, 1, none⟩ = some (.int .i64 x.id.br) := (kxh.out.keep hB).cell 1
            have x2 : W.cell? ⟨gx, 2, none⟩ = some (.int .u64 (x.id.life : Int)) := (kxh.out.keep hB).cell 2
            have x3 : W.cell? ⟨gx, 3, none⟩ = some (.int .u64 (x.id.ser : Int)) := (kxh.out.keep hB).cell 3
            have x4 : W.cell? ⟨gx, 4, none⟩ = some (.int .i64 x.client) := (kxh.out.keep hB).cell 4
            have x5 : W.cell? ⟨gx, 5, none⟩ = some (.int .u64 (x.sub : Int)) := (kxh.out.keep hB).cell 5
            have x6 : W.cell? ⟨gx, 6, none⟩ = some (.slice fa F fc) := (kxh.out.keep hB).cell 6
            have x7 : W.cell? ⟨gx, 7, none⟩ = some (.slice ea L ec) := (kxh.out.keep hB).cell 7
            clear hF
            simp [PM.depsL, PM.spec, PM.sl, Region.binds] at hd k1 k5 k8 k9
            simp only [PM.wantL, PM.spec]
            try simp only [PM.sl]
            go_simp
          all_goals try exact Below.refl _ _
          · refine (batch15_any (.slice ta T tc) c t x.kind x.id.br x.id.life x.id.ser x.client x.sub x.fil x.evs fa F fc ea L ec W hLh.out (PM.SbL.keep hTh.out hB) (by rw [← hTl.out]; omega) (PM.EVL.keepO (PM.chain hBB.out hB) hxr.out.2) ⟨hEnS.out.2.1, hEnS.out.2.2⟩).mono ?_
            rintro e w' ⟨u', rfl, ho, hb⟩
            have hq : PM.EVL w' u' (PM.batchL t c x) := ho.rr.imp fun cs x ⟨v, q1, q2⟩ => ⟨v, q1, (q2.em PM.attL_len).ev⟩
            first | exact ⟨hb, hq⟩ | exact ⟨hb, _, rfl, hq⟩
          · refine (batch15_any (.slice ra R rc) c (PM.ownL t c) x.kind x.id.br x.id.life x.id.ser x.client x.sub x.fil x.evs fa F fc ea L ec W hLh.out (PM.SbL.keep hOh.out hB) (by rw [← hRl.out]; omega) (PM.EVL.keepO (PM.chain hBB.out hB) hxr.out.2) ⟨hEnS.out.2.1, hEnS.out.2.2⟩).mono ?_
            rintro e w' ⟨u', rfl, ho, hb⟩
            have hq : PM.EVL w' u' (PM.batchL (PM.ownL t c) c x) := ho.rr.imp fun cs x ⟨v, q1, q2⟩ => ⟨v, q1, (q2.em PM.attL_len).ev⟩
            first | exact ⟨hb, hq⟩ | exact ⟨hb, _, rfl, hq⟩
          · refine (events15_any _ _ _ _ W hd.1 hd.2).mono ?_
            rintro e w' ⟨hh, hb⟩
            rcases hh with ⟨rfl, -⟩ | ⟨-, hno⟩
            · first | exact ⟨hb, rfl⟩ | exact ⟨hb, _, rfl, rfl⟩
            · exact absurd (PM.batch_own t c x) hno
          · have hRp : ¬ 0 < R := by omega
            simp [hRp, Below.refl]
          · refine (batch15_any (.slice ta T tc) c t x.kind x.id.br x.id.life x.id.ser x.client x.sub x.fil x.evs fa F fc ea L ec W hLh.out (PM.SbL.keep hTh.out hB) (by rw [← hTl.out]; omega) (PM.EVL.keepO (PM.chain hBB.out hB) hxr.out.2) ⟨hEnS.out.2.1, hEnS.out.2.2⟩).mono ?_
            rintro e w' ⟨u', rfl, ho, hb⟩
            obtain ⟨qa, qc, hq⟩ := ho.rr.len
            rw [hbn.out] at hq
            first | exact ⟨hb, qa, qc, hq⟩ | exact ⟨hb, _, rfl, qa, qc, hq⟩ | exact ⟨hb, ⟨qa, qc, hq⟩⟩
          · obtain ⟨qa, qc, hq⟩ : ∃ qa qc, a.tmps[56]?.getD undef = .slice qa 0 qc := by first | exact hd | exact hd.1 | exact hd.2 | exact hd.2.1
            simp only [hq]
            go_simp
            first | exact ⟨Below.refl _ _, rfl⟩ | exact Below.refl _ _ | exact ⟨Below.refl _ _, _, rfl, rfl⟩ | skip
        · intro G W hB hF hS
          simp [PM.allSp, PM.spec] at hS
          have g6 : G 6 = .bool true := by simp [hS]
          have k0 := hF 0 rfl
          have k1 := hF 1 rfl
          have k2 := hF 2 rfl
          have k3 := hF 3 rfl
          have k4 := hF 4 rfl
          have k5 := hF 5 rfl
          have k7 := hF 7 rfl
          have k8 := hF 8 rfl
          have k9 := hF 9 rfl
          have k10 := hF 10 rfl
          have k11 := hF 11 rfl
          have k12 := hF 12 rfl
          have k13 := hF 13 rfl
          have k14 := hF 14 rfl
          have k15 := hF 15 rfl
          have k16 := hF 16 rfl
          have k17 := hF 17 rfl
          have k18 := hF 18 rfl
          have k19 := hF 19 rfl
          have k20 := hF 20 rfl
          have k21 := hF 21 rfl
          have k22 := hF 22 rfl
          have k23 := hF 23 rfl
          have k24 := hF 24 rfl
          have k25 := hF 25 rfl
          have k26 := hF 26 rfl
          have k27 := hF 27 rfl
          have k28 := hF 28 rfl
          have k29 := hF 29 rfl
          have k30 := hF 30 rfl
          have k31 := hF 31 rfl
          have k32 := hF 32 rfl
          have k33 := hF 33 rfl
          have k34 := hF 34 rfl
          have k35 := hF 35 rfl
          have k36 := hF 36 rfl
          have k37 := hF 37 rfl
          have k38 := hF 38 rfl
          simp [PM.sl] at k0 k1 k2 k3 k4 k5 k7 k8 k9 k10 k11 k12 k13 k14 k15 k16 k17 k18 k19 k20 k21 k22 k23 k24 k25 k26 k27 k28 k29 k30 k31 k32 k33 k34 k35 k36 k37 k38
          rw [show ((List.range (Array.size _)).map G).toArray = #[G 0, G 1, G 2, G 3, G 4, G 5, G 6, G 7, G 8, G 9, G 10, G 11, G 12, G 13, G 14, G 15, G 16, G 17, G 18, G 19, G 20, G 21, G 22, G 23, G 24, G 25, G 26, G 27, G 28, G 29, G 30, G 31, G 32, G 33, G 34, G 35, G 36, G 37, G 38, G 39, G 40, G 41, G 42, G 43, G 44, G 45, G 46, G 47, G 48, G 49, G 50, G 51, G 52, G 53, G 54, G 55, G 56, G 57, G 58, G 59, G 60] from rfl]
          clear hF hS
          rw [g6, k0, k1, k2, k3, k4, k5, k7, k8, k9, k10, k11, k12, k13, k14, k15, k16, k17, k18, k19, k20, k21, k22, k23, k24, k25, k26, k27, k28, k29, k30, k31, k32, k33, k34, k35, k36, k37, k38]
          clear g6 k0 k1 k2 k3 k4 k5 k7 k8 k9 k10 k11 k12 k13 k14 k15 k16 k17 k18 k19 k20 k21 k22 k23 k24 k25 k26 k27 k28 k29 k30 k31 k32 k33 k34 k35 k36 k37 k38
          have hBe := PM.hid (PM.chain hBB.out hB)
          clear hB
          go_wp2_with fail
          go_ret
          exact ⟨rfl, hBe.out⟩
      · have q1 : decide ((0 : Int) < (R : Int)) = true := by simp; omega
        have q2 : (0 : Int) < (R : Int) := by omega
        go_upto_region 13 with fail
        refine PM.wp_region_st [some 39, some 40, some 41, some 42, some 43, some 44, some 45, some 46, some 47, some 48, some 49, some 50, some 51, some 52, some 53, some 54, some 55, some 56, some 57, some 58, some 59, some 60, some 6] [fun vq _ => vq = .slice ta T tc, fun vq _ => vq = .int .i64 c, fun vq _ => vq = .agg #[.int .i64 x.kind, .int .i64 x.id.br, .int .u64 (x.id.life : Int), .int .u64 (x.id.ser : Int), .int .i64 x.client, .int .u64 (x.sub : Int), .slice fa F fc, .slice ea L ec], fun v W => PM.EVL W v (PM.batchL t c x), fun vq _ => vq = .slice ra R rc, fun vq _ => vq = .int .i64 c, fun vq _ => vq = .agg #[.int .i64 x.kind, .int .i64 x.id.br, .int .u64 (x.id.life : Int), .int .u64 (x.id.ser : Int), .int .i64 x.client, .int .u64 (x.sub : Int), .slice fa F fc, .slice ea L ec], fun v W => PM.EVL W v (PM.batchL (PM.ownL t c) c x), fun vq _ => vq = .bool true, fun vq _ => vq = .bool true, fun vq _ => vq = .slice ra R rc, fun vq _ => vq = .int .i64 (R : Int), fun vq _ => vq = .bool true, fun vq _ => vq = .bool true, fun _ _ => True, fun _ _ => True, fun _ _ => True, fun _ _ => True, fun _ _ => True, fun _ _ => True, fun vq _ => vq = .bool true, fun vq _ => vq = .bool true, fun vq _ => vq = .bool true] (by kernel_rfl) (by kernel_rfl) (by kernel_rfl) ?_ ?_ ?_
        · simp only [List.forall_mem_cons]
          refine ⟨?_, ?_, ?_, ?_, ?_, ?_, ?_, ?_, ?_, ?_, ?_, ?_, ?_, ?_, ?_, ?_, ?_, ?_, ?_, ?_, ?_, ?_, ?_, by simp⟩
          all_goals (intro vq W W' h hb; first | exact h | exact PM.BS.keep hb h | exact PM.OW.keep hb h | exact PM.EVL.keepO hb h | trivial)
        · refine ⟨?_, ?_, ?_, ?_, ?_, ?_, ?_, ?_, ?_, ?_, ?_, ?_, ?_, ?_, ?_, ?_, ?_, ?_, ?_, ?_, ?_, ?_, ?_, trivial⟩
          all_goals
            intro a W hB hF hd
            have k1 := hF 1 rfl
            have k5 := hF 5 rfl
            have k8 := hF 8 rfl
            have k9 := hF 9 rfl
            have hBW := PM.chain hBg.out hB
            have x0 : W.cell? ⟨gx, 0, none⟩ = some (.int .i64 x.kind) := (kxh.out.keep hB).cell 0
            have x1 : W.cell? ⟨gx, 1, none⟩ = some (.int .i64 x.id.br) := (kxh.out.keep hB).cell 1
            have x2 : W.cell? ⟨gx, 2, none⟩ = some (.int .u64 (x.id.life : Int)) := (kxh.out.keep hB).cell 2
            have x3 : W.cell? ⟨gx, 3, none⟩ = some (.int .u64 (x.id.ser : Int)) := (kxh.out.keep hB).cell 3
            have x4 : W.cell? ⟨gx, 4, none⟩ = some (.int .i64 x.client) := (kxh.out.keep hB).cell 4
            have x5 : W.cell? ⟨gx, 5, none⟩ = some (.int .u64 (x.sub : Int)) := (kxh.out.keep hB).cell 5
            have x6 : W.cell? ⟨gx, 6, none⟩ = some (.slice fa F fc) := (kxh.out.keep hB).cell 6
            have x7 : W.cell? ⟨gx, 7, none⟩ = some (.slice ea L ec) := (kxh.out.keep hB).cell 7
            clear hF
            simp [PM.depsL, PM.spec, PM.sl, Region.binds] at hd k1 k5 k8 k9
            simp only [PM.wantL, PM.spec]
            try simp only [PM.sl]
            go_simp
          all_goals try exact Below.refl _ _
          · refine (batch15_any (.slice ta T tc) c t x.kind x.id.br x.id.life x.id.ser x.client x.sub x.fil x.evs fa F fc ea L ec W hLh.out (PM.SbL.keep hTh.out hB) (by rw [← hTl.out]; omega) (PM.EVL.keepO (PM.chain hBB.out hB) hxr.out.2) ⟨hEnS.out.2.1, hEnS.out.2.2⟩).mono ?_
            rintro e w' ⟨u', rfl, ho, hb⟩
            have hq : PM.EVL w' u' (PM.batchL t c x) := ho.rr.imp fun cs x ⟨v, q1, q2⟩ => ⟨v, q1, (q2.em PM.attL_len).ev⟩
            first | exact ⟨hb, hq⟩ | exact ⟨hb, _, rfl, hq⟩
          · refine (batch15_any (.slice ra R rc) c (PM.ownL t c) x.kind x.id.br x.id.life x.id.ser x.client x.sub x.fil x.evs fa F fc ea L ec W hLh.out (PM.SbL.keep hOh.out hB) (by rw [← hRl.out]; omega) (PM.EVL.keepO (PM.chain hBB.out hB) hxr.out.2) ⟨hEnS.out.2.1, hEnS.out.2.2⟩).mono ?_
            rintro e w' ⟨u', rfl, ho, hb⟩
            have hq : PM.EVL w' u' (PM.batchL (PM.ownL t c) c x) := ho.rr.imp fun cs x ⟨v, q1, q2⟩ => ⟨v, q1, (q2.em PM.attL_len).ev⟩
            first | exact ⟨hb, hq⟩ | exact ⟨hb, _, rfl, hq⟩
          · refine (events15_any _ _ _ _ W hd.1 hd.2).mono ?_
            rintro e w' ⟨hh, hb⟩
            rcases hh with ⟨rfl, -⟩ | ⟨-, hno⟩
            · first | exact ⟨hb, rfl⟩ | exact ⟨hb, _, rfl, rfl⟩
            · exact absurd (PM.batch_own t c x) hno
          · have hRp : 0 < R := by omega
            simp [hRp, Below.refl]
        · intro G W hB hF hS
          simp [PM.allSp, PM.spec] at hS
          have g6 : G 6 = .bool true := by simp [hS]
          have k0 := hF 0 rfl
          have k1 := hF 1 rfl
          have k2 := hF 2 rfl
          have k3 := hF 3 rfl
          have k4 := hF 4 rfl
          have k5 := hF 5 rfl
          have k7 := hF 7 rfl
          have k8 := hF 8 rfl
          have k9 := hF 9 rfl
          have k10 := hF 10 rfl
          have k11 := hF 11 rfl
          have k12 := hF 12 rfl
          have k13 := hF 13 rfl
          have k14 := hF 14 rfl
          have k15 := hF 15 rfl
          have k16 := hF 16 rfl
          have k17 := hF 17 rfl
          have k18 := hF 18 rfl
          have k19 := hF 19 rfl
          have k20 := hF 20 rfl
          have k21 := hF 21 rfl
          have k22 := hF 22 rfl
          have k23 := hF 23 rfl
          have k24 := hF 24 rfl
          have k25 := hF 25 rfl
          have k26 := hF 26 rfl
          have k27 := hF 27 rfl
          have k28 := hF 28 rfl
          have k29 := hF 29 rfl
          have k30 := hF 30 rfl
          have k31 := hF 31 rfl
          have k32 := hF 32 rfl
          have k33 := hF 33 rfl
          have k34 := hF 34 rfl
          have k35 := hF 35 rfl
          have k36 := hF 36 rfl
          have k37 := hF 37 rfl
          have k38 := hF 38 rfl
          simp [PM.sl] at k0 k1 k2 k3 k4 k5 k7 k8 k9 k10 k11 k12 k13 k14 k15 k16 k17 k18 k19 k20 k21 k22 k23 k24 k25 k26 k27 k28 k29 k30 k31 k32 k33 k34 k35 k36 k37 k38
          rw [show ((List.range (Array.size _)).map G).toArray = #[G 0, G 1, G 2, G 3, G 4, G 5, G 6, G 7, G 8, G 9, G 10, G 11, G 12, G 13, G 14, G 15, G 16, G 17, G 18, G 19, G 20, G 21, G 22, G 23, G 24, G 25, G 26, G 27, G 28, G 29, G 30, G 31, G 32, G 33, G 34, G 35, G 36, G 37, G 38, G 39, G 40, G 41, G 42, G 43, G 44, G 45, G 46, G 47, G 48, G 49, G 50, G 51, G 52, G 53, G 54, G 55, G 56, G 57, G 58, G 59, G 60] from rfl]
          clear hF hS
          rw [g6, k0, k1, k2, k3, k4, k5, k7, k8, k9, k10, k11, k12, k13, k14, k15, k16, k17, k18, k19, k20, k21, k22, k23, k24, k25, k26, k27, k28, k29, k30, k31, k32, k33, k34, k35, k36, k37, k38]
          clear g6 k0 k1 k2 k3 k4 k5 k7 k8 k9 k10 k11 k12 k13 k14 k15 k16 k17 k18 k19 k20 k21 k22 k23 k24 k25 k26 k27 k28 k29 k30 k31 k32 k33 k34 k35 k36 k37 k38
          have hBe := PM.hid (PM.chain hBB.out hB)
          clear hB
          go_wp2_with fail
          go_ret
          exact ⟨rfl, hBe.out⟩
theorem tableApart_walk (v : Value) (l : List PM.En) (c : Int) (x : PM.En) (fv ev : Value) (hc : (Lit.int .i64 c).wf = true) (hx : x.wf) (w : World) (hv : PM.EnL w v l) (hw : ∀ y ∈ l, PM.En.wf y) (hf : PM.TV w fv x.fil) (he : PM.EVL w ev x.evs) :
    Calls Try.prog 6 #[v, .int .i64 c, .agg (PM.enC x fv ev).toArray] w fun e w' => e = .returned (.bool true) ∧ Below w.heap.size w w' := by
  obtain ⟨va, vc, rfl⟩ := hv.len
  obtain ⟨fa, fc, rfl⟩ := hf.len
  obtain ⟨ea, ec, rfl⟩ := PM.RR.len he
  exact tableApart_walkA va _ vc l c x fa _ fc ea _ ec w rfl rfl hv hw hx hf he
end Go.Proofs.Ytnpbfjkfbobgaaa
