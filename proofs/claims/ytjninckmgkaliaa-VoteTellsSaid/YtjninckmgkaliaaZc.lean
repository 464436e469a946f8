/-
  CONTRACT of postilionref18.Tally.
-/
import Derived.Test.YtjninckmgkaliaaZa
import Derived.Test.YtjninckmgkaliaaWb
namespace Go.Proofs.Ytjninckmgkaliaa
open Go.RowKit
set_option linter.unusedVariables false
set_option linter.unusedSimpArgs false
namespace PM
theorem vsHas_map (vs : List Vo) (i : Id) : vsHas vs i = hasI (vs.map Vo.id) i := by
  unfold vsHas hasI
  rw [List.any_map]
  rfl
end PM
set_option maxRecDepth 100000 in
set_option maxHeartbeats 16000000 in
theorem rtally_any (u0 u1 u2 : Value) (ps : List PM.En) (rf : List PM.Id) (ks : List PM.Ms) (w : World) (hv0 : PM.EnL w u0 ps) (hv1 : PM.EM PM.idL 3 w u1 rf) (hv2 : PM.MsL w u2 ks) (hl0 : ps.length ≤ 1000) (hl1 : rf.length ≤ 1000) :
    Calls Try.prog 17 #[u0, u1, u2] w fun e w' => ∃ u, e = .returned u ∧ PM.EM PM.voL 4 w' u (PM.tally ps rf ks) ∧ Below w.heap.size w w' := by
  obtain ⟨a0, c0, rfl⟩ := hv0.len
  obtain ⟨a1, c1, rfl⟩ := hv1.len
  obtain ⟨a2, c2, rfl⟩ := hv2.len
  obtain ⟨N, hN⟩ : ∃ N, N = ps.length := ⟨_, rfl⟩
  obtain ⟨M, hM⟩ : ∃ N, N = rf.length := ⟨_, rfl⟩
  have hNh := PM.hid hN
  have hMh := PM.hid hM
  rw [← hN] at hv0 hl0 ⊢
  rw [← hM] at hv1 hl1 ⊢
  replace hv0 := PM.hid hv0
  replace hv1 := PM.hid hv1
  replace hv2 := PM.hid hv2
  generalize ks.length = KL at *
  clear hN hM
  go_enter Try.func17, Try.ntmps17
  go_wp2_with fail
  go_loopw [7, 8, 9, 10] (fun sv ss ix _ wr => ∃ k : Nat, ix = .int .i64 k ∧ k ≤ N ∧ Hid (PM.OM PM.voL 4 45 w.heap.size wr sv (PM.tal1 ks (ps.take k)) ∧ PM.OM PM.idL 3 30 w.heap.size wr ss ((PM.tal1 ks (ps.take k)).map PM.Vo.id) ∧ Below w.heap.size w wr)) (fun _ _ ix _ _ => N - (intOf ix).toNat)
  case atStart => exact ⟨0, rfl, by omega, PM.hid ⟨PM.OM.nilrow _, PM.OM.nilrow _, Below.refl _ _⟩⟩
  case round =>
    obtain ⟨k, rfl, hk, hin⟩ := hrel
    obtain ⟨hI, hM, hB⟩ := hin.out
    have hBB := PM.hid hB
    have hsl := PM.tal1_len ks (ps.take k)
    have hkl : (ps.take k).length = k := by rw [List.length_take]; rw [← hNh.out]; omega
    rw [hkl] at hsl
    clear hin hkl hB
    obtain ⟨vs, hvs⟩ : ∃ x, x = PM.tal1 ks (ps.take k) := ⟨_, rfl⟩
    rw [← hvs] at hI hsl hM
    have hvh := PM.hid hvs
    clear hvs
    obtain ⟨pa, pc, hpe⟩ := (hI.em PM.voL_len).len
    subst hpe
    obtain ⟨sa_, sc_, hse⟩ := (hM.em PM.idL_len).len
    subst hse
    rw [List.length_map] at hM ⊢
    obtain ⟨P, hP⟩ : ∃ P, P = vs.length := ⟨_, rfl⟩
    rw [← hP] at hI hM hsl ⊢
    have hPl : P ≤ 2000 := by omega
    clear hsl
    have hPh := PM.hid hP
    clear hP
    by_cases hlt : k < N
    · obtain ⟨z, hz⟩ : ∃ z, ps[k]? = some z := ⟨ps[k]'(by rw [← hNh.out]; exact hlt), List.getElem?_eq_getElem _⟩
      obtain ⟨b, off, hbe, hce⟩ := PM.RR.opn hv0.out (by rw [← hNh.out]; omega)
      subst hbe
      obtain ⟨cs, hl0, hR⟩ := hce k z hz
      obtain ⟨fa, fc, ea, ec, hcs, hzf, hze⟩ := PM.enR_open hR
      rw [hcs] at hl0 hR
      obtain ⟨zF, hzF⟩ : ∃ P, P = z.fil.length := ⟨_, rfl⟩
      obtain ⟨zE, hzE⟩ : ∃ P, P = z.evs.length := ⟨_, rfl⟩
      rw [← hzF, ← hzE] at hl0 hR
      have zl := PM.hid hl0
      have zR := PM.hid hR
      have hzh := PM.hid hz
      clear hz hce hl0 hR hcs cs hzf hze hzF hzE
      have d0 : wr.cell? ⟨b, off + k * 8 + 1, none⟩ = some (.int .i64 z.id.br) := (zl.out.keep hBB.out) 1 _ rfl
      have d1 : wr.cell? ⟨b, off + k * 8 + 2, none⟩ = some (.int .u64 (z.id.life : Int)) := (zl.out.keep hBB.out) 2 _ rfl
      have d2 : wr.cell? ⟨b, off + k * 8 + 3, none⟩ = some (.int .u64 (z.id.ser : Int)) := (zl.out.keep hBB.out) 3 _ rfl
      go_wp2_with fail
      refine (rsays_any _ z.id ks wr (PM.MsL.keep hv2.out hBB.out)).mono ?_
      rintro e w5 ⟨rfl, hBn⟩
      clear d0 d1 d2
      replace hI := hI.keep hBn
      replace hM := hM.keep hBn
      replace hBB := PM.hid (PM.chain hBB.out hBn)
      clear hBn
      rcases PM.says_cases ks z.id with h0 | h0 | h0
      · rw [h0]
        have h0h := PM.hid h0
        have hin2 := PM.hid (And.intro hI (And.intro hM hBB.out))
        clear h0 hI hM
        go_wp2_with fail
        exact ⟨⟨k + 1, by go_num, by omega, PM.hid (by rw [PM.tal1_snoc hzh.out, ← hvh.out, PM.tal11_0 h0h.out]; exact hin2.out)⟩, by simp only [intOf]; omega⟩
      · rw [h0]
        have h0h := PM.hid h0
        clear h0
        have d0 : w5.cell? ⟨b, off + k * 8 + 1, none⟩ = some (.int .i64 z.id.br) := (zl.out.keep hBB.out) 1 _ rfl
        have d1 : w5.cell? ⟨b, off + k * 8 + 2, none⟩ = some (.int .u64 (z.id.life : Int)) := (zl.out.keep hBB.out) 2 _ rfl
        have d2 : w5.cell? ⟨b, off + k * 8 + 3, none⟩ = some (.int .u64 (z.id.ser : Int)) := (zl.out.keep hBB.out) 3 _ rfl
        have hl16 : (vs.length + 1) * 32 ≤ 140737488355328 := by rw [← hPh.out]; omega
        have hl17 : vs.length + 1 ≤ maxLen := by rw [← hPh.out]; unfold maxLen; omega
        have hsz := hBB.out.size
        have hrt := hI.rt
        rw [hPh.out] at hI
        go_upto_region 9 with (at_builtin; rw [hPh.out]; go_loud (refine PM.wpList_em1 (e := PM.voL) tyVoO PM.voL_len PM.voL_one w.heap.size w5 rfl _ _ rfl _ vs (⟨z.id, true⟩ : PM.Vo) _ rfl rfl rfl rfl hI hl16 hl17 hsz ?_); intro v' w' t1 t2 t3 t4; rw [← hPh.out] at t3; obtain ⟨va', vc', hve'⟩ := (t1.em PM.voL_len).len; subst hve'; have hE := PM.hid (And.intro t1 (And.intro (hBB.out.trans t2) t3)); clear t1 t2 t3 t4 hsz hI)
        obtain ⟨wq, hwq⟩ : ∃ W, W = w' := ⟨_, rfl⟩
        rw [← hwq] at hE ⊢
        clear hwq
        have hIm := PM.OM.stays (by decide) hM hE.out.2.2 hrt
        clear hM
        have hBB := PM.hid hE.out.2.1
        clear d0 d1 d2
        have d0 : wq.cell? ⟨b, off + k * 8 + 1, none⟩ = some (.int .i64 z.id.br) := (zl.out.keep hBB.out) 1 _ rfl
        have d1 : wq.cell? ⟨b, off + k * 8 + 2, none⟩ = some (.int .u64 (z.id.life : Int)) := (zl.out.keep hBB.out) 2 _ rfl
        have d2 : wq.cell? ⟨b, off + k * 8 + 3, none⟩ = some (.int .u64 (z.id.ser : Int)) := (zl.out.keep hBB.out) 3 _ rfl
        have hl16 : ((vs.map PM.Vo.id).length + 1) * 24 ≤ 140737488355328 := by rw [List.length_map, ← hPh.out]; omega
        have hl17 : (vs.map PM.Vo.id).length + 1 ≤ maxLen := by rw [List.length_map, ← hPh.out]; unfold maxLen; omega
        have hsz := hBB.out.size
        have hml : Hid (vs.length = (vs.map PM.Vo.id).length) := PM.hid (by rw [List.length_map])
        rw [hPh.out, hml.out] at hIm
        have hrt2 := hIm.rt
        go_wp2_with (at_builtin; rw [hml.out]; go_loud (refine PM.wpList_em1 (e := PM.idL) tyIdO PM.idL_len PM.idL_one w.heap.size wq rfl _ _ rfl _ (vs.map PM.Vo.id) z.id _ rfl rfl rfl rfl hIm hl16 hl17 hsz ?_); intro v'' w'' t1 t2 t3 t4; have t5 : wq.grownBy w'' (Value.slice sa_ (vs.map PM.Vo.id).length sc_).ownBlock := t3; have hE2 := PM.hid (And.intro t1 (And.intro (hBB.out.trans t2) t5)); clear t1 t2 t3 t4 t5 hsz hIm)
        refine ⟨⟨k + 1, by go_num, by omega, PM.hid ?_⟩, by simp only [intOf]; omega⟩
        rw [PM.tal1_snoc hzh.out, ← hvh.out, PM.tal11_1 h0h.out]
        have hE9 := hE.out.1
        rw [List.length_append] at hE9
        refine ⟨PM.OM.stays (by decide) hE9 hE2.out.2.2 hrt2, ?_, hE2.out.2.1⟩
        rw [List.map_append]
        exact hE2.out.1
      · rw [h0]
        have h0h := PM.hid h0
        clear h0
        have d0 : w5.cell? ⟨b, off + k * 8 + 1, none⟩ = some (.int .i64 z.id.br) := (zl.out.keep hBB.out) 1 _ rfl
        have d1 : w5.cell? ⟨b, off + k * 8 + 2, none⟩ = some (.int .u64 (z.id.life : Int)) := (zl.out.keep hBB.out) 2 _ rfl
        have d2 : w5.cell? ⟨b, off + k * 8 + 3, none⟩ = some (.int .u64 (z.id.ser : Int)) := (zl.out.keep hBB.out) 3 _ rfl
        have hl16 : (vs.length + 1) * 32 ≤ 140737488355328 := by rw [← hPh.out]; omega
        have hl17 : vs.length + 1 ≤ maxLen := by rw [← hPh.out]; unfold maxLen; omega
        have hsz := hBB.out.size
        have hrt := hI.rt
        rw [hPh.out] at hI
        go_upto_region 9 with (at_builtin; rw [hPh.out]; go_loud (refine PM.wpList_em1 (e := PM.voL) tyVoO PM.voL_len PM.voL_one w.heap.size w5 rfl _ _ rfl _ vs (⟨z.id, false⟩ : PM.Vo) _ rfl rfl rfl rfl hI hl16 hl17 hsz ?_); intro v' w' t1 t2 t3 t4; rw [← hPh.out] at t3; obtain ⟨va', vc', hve'⟩ := (t1.em PM.voL_len).len; subst hve'; have hE := PM.hid (And.intro t1 (And.intro (hBB.out.trans t2) t3)); clear t1 t2 t3 t4 hsz hI)
        obtain ⟨wq, hwq⟩ : ∃ W, W = w' := ⟨_, rfl⟩
        rw [← hwq] at hE ⊢
        clear hwq
        have hIm := PM.OM.stays (by decide) hM hE.out.2.2 hrt
        clear hM
        have hBB := PM.hid hE.out.2.1
        clear d0 d1 d2
        have d0 : wq.cell? ⟨b, off + k * 8 + 1, none⟩ = some (.int .i64 z.id.br) := (zl.out.keep hBB.out) 1 _ rfl
        have d1 : wq.cell? ⟨b, off + k * 8 + 2, none⟩ = some (.int .u64 (z.id.life : Int)) := (zl.out.keep hBB.out) 2 _ rfl
        have d2 : wq.cell? ⟨b, off + k * 8 + 3, none⟩ = some (.int .u64 (z.id.ser : Int)) := (zl.out.keep hBB.out) 3 _ rfl
        have hl16 : ((vs.map PM.Vo.id).length + 1) * 24 ≤ 140737488355328 := by rw [List.length_map, ← hPh.out]; omega
        have hl17 : (vs.map PM.Vo.id).length + 1 ≤ maxLen := by rw [List.length_map, ← hPh.out]; unfold maxLen; omega
        have hsz := hBB.out.size
        have hml : Hid (vs.length = (vs.map PM.Vo.id).length) := PM.hid (by rw [List.length_map])
        rw [hPh.out, hml.out] at hIm
        have hrt2 := hIm.rt
        go_wp2_with (at_builtin; rw [hml.out]; go_loud (refine PM.wpList_em1 (e := PM.idL) tyIdO PM.idL_len PM.idL_one w.heap.size wq rfl _ _ rfl _ (vs.map PM.Vo.id) z.id _ rfl rfl rfl rfl hIm hl16 hl17 hsz ?_); intro v'' w'' t1 t2 t3 t4; have t5 : wq.grownBy w'' (Value.slice sa_ (vs.map PM.Vo.id).length sc_).ownBlock := t3; have hE2 := PM.hid (And.intro t1 (And.intro (hBB.out.trans t2) t5)); clear t1 t2 t3 t4 t5 hsz hIm)
        refine ⟨⟨k + 1, by go_num, by omega, PM.hid ?_⟩, by simp only [intOf]; omega⟩
        rw [PM.tal1_snoc hzh.out, ← hvh.out, PM.tal11_2 h0h.out]
        have hE9 := hE.out.1
        rw [List.length_append] at hE9
        refine ⟨PM.OM.stays (by decide) hE9 hE2.out.2.2 hrt2, ?_, hE2.out.2.1⟩
        rw [List.map_append]
        exact hE2.out.1
    · obtain rfl : k = N := by omega
      have he : vs = PM.tal1 ks ps := by
        have := hvh.out
        rw [hNh.out, List.take_length] at this
        exact this
      rw [he] at hI hM
      have hS1 := PM.hid (And.intro hI (And.intro hM hBB.out))
      clear he hvh hI hM hPl hPh hBB
      obtain ⟨wr1, hwr1⟩ : ∃ W, W = wr := ⟨_, rfl⟩
      rw [← hwr1] at hS1 ⊢
      clear hwr1
      go_wp2_with fail
      go_loopw [7, 8, 11, 12] (fun sv ss ix _ wr => ∃ k : Nat, ix = .int .i64 k ∧ k ≤ M ∧ Hid (PM.OM PM.voL 4 45 w.heap.size wr sv (PM.tal3 (PM.tal1 ks ps) (rf.take k)) ∧ PM.OM PM.idL 3 30 w.heap.size wr ss ((PM.tal3 (PM.tal1 ks ps) (rf.take k)).map PM.Vo.id) ∧ Below w.heap.size w wr)) (fun _ _ ix _ _ => M - (intOf ix).toNat)
      case atStart => exact ⟨0, rfl, by omega, PM.hid hS1.out⟩
      case round =>
        obtain ⟨k, rfl, hk, hin⟩ := hrel
        obtain ⟨hI, hM, hB⟩ := hin.out
        have hBB := PM.hid hB
        have hsl := PM.tal3_len (PM.tal1 ks ps) (rf.take k)
        have hkl : (rf.take k).length = k := by rw [List.length_take]; rw [← hMh.out]; omega
        have hs1 := PM.tal1_len ks ps
        rw [hkl] at hsl
        rw [← hNh.out] at hs1
        clear hin hkl hB
        obtain ⟨vs, hvs⟩ : ∃ x, x = PM.tal3 (PM.tal1 ks ps) (rf.take k) := ⟨_, rfl⟩
        rw [← hvs] at hI hsl hM
        have hvh := PM.hid hvs
        clear hvs
        obtain ⟨pa, pc, hpe⟩ := (hI.em PM.voL_len).len
        subst hpe
        obtain ⟨sa_, sc_, hse⟩ := (hM.em PM.idL_len).len
        subst hse
        rw [List.length_map] at hM ⊢
        obtain ⟨P, hP⟩ : ∃ P, P = vs.length := ⟨_, rfl⟩
        have hPl : P ≤ 2000 := by omega
        rw [← hP] at hI hM ⊢
        clear hsl hs1
        have hPh := PM.hid hP
        clear hP
        by_cases hlt : k < M
        · obtain ⟨z, hz⟩ : ∃ z, rf[k]? = some z := ⟨rf[k]'(by rw [← hMh.out]; exact hlt), List.getElem?_eq_getElem _⟩
          obtain ⟨b, off, cap', he, -, -, hce⟩ := PM.EM.open1 hv1.out (by rw [← hMh.out]; omega)
          injection he with he1 he2 he3
          subst he1
          have zl := PM.hid (hce k z hz)
          have hzh := PM.hid hz
          clear hz hce he2 he3
          have d0 : wr.cell? ⟨b, off + k * 3, none⟩ = some (.int .i64 z.br) := (zl.out.keep hBB.out) 0 _ rfl
          have d1 : wr.cell? ⟨b, off + k * 3 + 1, none⟩ = some (.int .u64 (z.life : Int)) := (zl.out.keep hBB.out) 1 _ rfl
          have d2 : wr.cell? ⟨b, off + k * 3 + 2, none⟩ = some (.int .u64 (z.ser : Int)) := (zl.out.keep hBB.out) 2 _ rfl
          go_wp2_with fail
          refine (rin_any _ z (vs.map PM.Vo.id) wr (hM.em PM.idL_len)).mono ?_
          rintro e w3 ⟨rfl, hBn⟩
          clear d0 d1 d2
          replace hI := hI.keep hBn
          replace hM := hM.keep hBn
          replace hBB := PM.hid (PM.chain hBB.out hBn)
          clear hBn
          cases e1 : PM.hasI (vs.map PM.Vo.id) z
          case true =>
            have hsk : Hid (PM.tal31 vs z = vs) := PM.hid (PM.tal31_yes (by rw [PM.vsHas_map]; exact e1))
            have hin2 := PM.hid (And.intro hI (And.intro hM hBB.out))
            clear hI hM e1
            go_wp2_with fail
            exact ⟨⟨k + 1, by go_num, by omega, PM.hid (by rw [PM.tal3_snoc hzh.out, ← hvh.out, hsk.out]; exact hin2.out)⟩, by simp only [intOf]; omega⟩
          have hsk : Hid (PM.tal31 vs z = vs ++ [⟨z, false⟩]) := PM.hid (PM.tal31_no (by rw [PM.vsHas_map]; exact e1))
          clear e1
          have d0 : w3.cell? ⟨b, off + k * 3, none⟩ = some (.int .i64 z.br) := (zl.out.keep hBB.out) 0 _ rfl
          have d1 : w3.cell? ⟨b, off + k * 3 + 1, none⟩ = some (.int .u64 (z.life : Int)) := (zl.out.keep hBB.out) 1 _ rfl
          have d2 : w3.cell? ⟨b, off + k * 3 + 2, none⟩ = some (.int .u64 (z.ser : Int)) := (zl.out.keep hBB.out) 2 _ rfl
          have hl16 : (vs.length + 1) * 32 ≤ 140737488355328 := by rw [← hPh.out]; omega
          have hl17 : vs.length + 1 ≤ maxLen := by rw [← hPh.out]; unfold maxLen; omega
          have hsz := hBB.out.size
          have hrt := hI.rt
          rw [hPh.out] at hI
          go_upto_region 16 with (at_builtin; rw [hPh.out]; go_loud (refine PM.wpList_em1 (e := PM.voL) tyVoO PM.voL_len PM.voL_one w.heap.size w3 rfl _ _ rfl _ vs (⟨z, false⟩ : PM.Vo) _ rfl rfl rfl rfl hI hl16 hl17 hsz ?_); intro v' w' t1 t2 t3 t4; rw [← hPh.out] at t3; obtain ⟨va', vc', hve'⟩ := (t1.em PM.voL_len).len; subst hve'; have hE := PM.hid (And.intro t1 (And.intro (hBB.out.trans t2) t3)); clear t1 t2 t3 t4 hsz hI)
          obtain ⟨wq, hwq⟩ : ∃ W, W = w' := ⟨_, rfl⟩
          rw [← hwq] at hE ⊢
          clear hwq
          have hIm := PM.OM.stays (by decide) hM hE.out.2.2 hrt
          clear hM
          have hBB := PM.hid hE.out.2.1
          clear d0 d1 d2
          have d0 : wq.cell? ⟨b, off + k * 3, none⟩ = some (.int .i64 z.br) := (zl.out.keep hBB.out) 0 _ rfl
          have d1 : wq.cell? ⟨b, off + k * 3 + 1, none⟩ = some (.int .u64 (z.life : Int)) := (zl.out.keep hBB.out) 1 _ rfl
          have d2 : wq.cell? ⟨b, off + k * 3 + 2, none⟩ = some (.int .u64 (z.ser : Int)) := (zl.out.keep hBB.out) 2 _ rfl
          have hl16 : ((vs.map PM.Vo.id).length + 1) * 24 ≤ 140737488355328 := by rw [List.length_map, ← hPh.out]; omega
          have hl17 : (vs.map PM.Vo.id).length + 1 ≤ maxLen := by rw [List.length_map, ← hPh.out]; unfold maxLen; omega
          have hsz := hBB.out.size
          have hml : Hid (vs.length = (vs.map PM.Vo.id).length) := PM.hid (by rw [List.length_map])
          rw [hPh.out, hml.out] at hIm
          have hrt2 := hIm.rt
          go_wp2_with (at_builtin; rw [hml.out]; go_loud (refine PM.wpList_em1 (e := PM.idL) tyIdO PM.idL_len PM.idL_one w.heap.size wq rfl _ _ rfl _ (vs.map PM.Vo.id) z _ rfl rfl rfl rfl hIm hl16 hl17 hsz ?_); intro v'' w'' t1 t2 t3 t4; have t5 : wq.grownBy w'' (Value.slice sa_ (vs.map PM.Vo.id).length sc_).ownBlock := t3; have hE2 := PM.hid (And.intro t1 (And.intro (hBB.out.trans t2) t5)); clear t1 t2 t3 t4 t5 hsz hIm)
          refine ⟨⟨k + 1, by go_num, by omega, PM.hid ?_⟩, by simp only [intOf]; omega⟩
          rw [PM.tal3_snoc hzh.out, ← hvh.out, hsk.out]
          have hE9 := hE.out.1
          rw [List.length_append] at hE9
          refine ⟨PM.OM.stays (by decide) hE9 hE2.out.2.2 hrt2, ?_, hE2.out.2.1⟩
          rw [List.map_append]
          exact hE2.out.1
        · obtain rfl : k = M := by omega
          have hfinE : Hid (vs.take 16 = PM.tally ps rf ks) := PM.hid (by
            have := hvh.out
            rw [hMh.out, List.take_length] at this
            rw [this]
            rfl)
          have hI2 := PM.hid (And.intro hI hBB.out)
          clear hI hM hBB
          by_cases h16 : 16 < P
          · have q : decide ((16 : Int) < (P : Int)) = true := by simp; omega
            have q' : (16 : Int) < (P : Int) := by omega
            have hcap := (hI2.out.1.em PM.voL_len).capS
            go_wp2_with fail
            go_ret
            refine ⟨_, rfl, ?_, hI2.out.2⟩
            rw [← hfinE.out]
            exact (hI2.out.1.em PM.voL_len).takeS (by omega)
          · have q : decide ((16 : Int) < (P : Int)) = false := by simp; omega
            have q' : ¬ (16 : Int) < (P : Int) := by omega
            go_wp2_with fail
            go_ret
            refine ⟨_, rfl, ?_, hI2.out.2⟩
            rw [← hfinE.out, List.take_of_length_le (by rw [← hPh.out]; omega)]
            exact hI2.out.1.em PM.voL_len
end Go.Proofs.Ytjninckmgkaliaa
