/-
  AWAKE OF LAYER 17; the walk of StageNames. (Written by tools/mk_xj.py.)
-/
import Derived.Test.YtnjcociidipogaaYg
namespace Go.Proofs.Ytnjcociidipogaa
open Go.RowKit
set_option linter.unusedVariables false
set_option linter.unusedSimpArgs false
namespace PM
def x5 : At := ⟨⟨#[112]⟩, 1, 5, ⟨#[]⟩⟩
theorem x5_ok : chkP [x5] := by
  refine ⟨by decide, by decide, fun i hi x hx => ?_⟩
  simp at hi
  subst hi
  simp at hx
  subst hx
  exact ⟨by decide, fun y h => absurd h (by decide)⟩
theorem x5_wf : ∀ x ∈ [x5], x.wf := by
  intro x hx
  simp at hx
  subst hx
  exact ⟨by decide, by decide, by decide, by decide⟩
def I1 : Id := ⟨0, 0, 1⟩
def Z1 : En := ⟨1, I1, 0, 0, [], []⟩
def Z2 : En := ⟨1, I1, 0, 0, [], [[x5]]⟩
def Z3 : En := ⟨3, ⟨0, 0, 0⟩, 0, 0, [], []⟩
theorem I1_wf : I1.wf := by unfold Id.wf I1; decide
theorem Z1_wf : Z1.wf := ⟨by decide, I1_wf, by decide, by decide, by simp [Z1], by simp [Z1]⟩
theorem Z2_wf : Z2.wf := ⟨by decide, I1_wf, by decide, by decide, by simp [Z2], by simp only [Z2, List.mem_singleton]; rintro e rfl y hy; exact x5_wf y hy⟩
theorem Z3_wf : Z3.wf := ⟨by decide, by unfold Id.wf; decide, by decide, by decide, by simp [Z3], by simp [Z3]⟩
theorem Z1_s : EnS Z1 := ⟨by simp [Z1], by simp [Z1], by simp [Z1]⟩
theorem Z2_s : EnS Z2 := ⟨by simp [Z2], by simp [Z2], by simp [Z2]⟩
theorem Z3_s : EnS Z3 := ⟨by simp [Z3], by simp [Z3], by simp [Z3]⟩
theorem Z1_ok : enOk Z1 := ⟨⟨by decide, by decide⟩, ⟨by decide, by decide⟩, .inl ⟨rfl, rfl, rfl, by simp [Z1], by simp [Z1]⟩⟩
theorem Z2_ok : enOk Z2 := ⟨⟨by decide, by decide⟩, ⟨by decide, by decide⟩, .inl ⟨rfl, rfl, rfl, by simp [Z2], by simp only [Z2, List.mem_singleton]; rintro e rfl; exact x5_ok⟩⟩
theorem Z3_ok : enOk Z3 := ⟨⟨by decide, by decide⟩, ⟨by decide, by decide⟩, .inr (.inl ⟨rfl, rfl, rfl⟩)⟩
theorem sml_of {z : En} (h : enOk z) (hl : (enB z).length ≤ 3000) : smlT z = true := by unfold smlT; rw [if_pos h]; simpa using hl
theorem enE_of {z : En} (h : enOk z) : enE z = 0 := by unfold enE; rw [if_pos h]
theorem Z1_sm : smlT Z1 = true := sml_of Z1_ok (by decide +kernel)
theorem Z2_sm : smlT Z2 = true := sml_of Z2_ok (by decide +kernel)
theorem Z3_sm : smlT Z3 = true := sml_of Z3_ok (by decide +kernel)
theorem add_of {z : En} (q : Bool) (h : enOk z) (hs : smlT z = true) : addT [] z q = ([⟨z, q⟩], 0) := by
  have : addE [] z = 0 := by unfold addE; rw [if_neg (by simp [posT]), if_neg (by rw [enE_of h]; simp), if_neg (by simp), if_neg (by simp [hs])]
  unfold addT
  rw [if_pos this]
  rfl
def T1 : List Tx := [⟨Z1, false⟩]
def T2 : List Tx := [⟨Z2, false⟩]
def T3 : List Tx := [⟨Z2, true⟩]
theorem e1 : begT [] I1 0 = (T1, 0) := add_of false Z1_ok Z1_sm
theorem o1 : openT I1 T1 = 0 := by decide
theorem o2 : openT I1 T2 = 0 := by decide
theorem o3 : openT I1 T3 = -1 := by decide
theorem e2 : pubT I1 T1 [x5] = (T2, 0) := by
  have : pubE I1 T1 [x5] = 0 := by
    unfold pubE first4
    rw [o1]
    have c0 : pubCd T1 0 [x5] 0 = 0 := by simp [pubCd, unls]
    have c1 : pubCd T1 0 [x5] 1 = 0 := by simp only [pubCd]; exact chk_yes x5_ok
    have c2 : pubCd T1 0 [x5] 2 = 0 := by simp [pubCd, unls, T1, Z1]
    have c3 : pubCd T1 0 [x5] 3 = 0 := by
      show unls (smlT (growE Z1 [x5])) 172 = 0
      rw [show growE Z1 [x5] = Z2 from rfl, Z2_sm]
      rfl
    rw [c0, c1, c2, c3]
    simp
  unfold pubT
  rw [if_pos this, o1]
  rfl
theorem e3 : cmtT I1 T2 = (T3, 0) := by unfold cmtT; rw [o2]; rfl
theorem e4 : pubT I1 T3 [x5] = (T3, 170) := by
  have : pubE I1 T3 [x5] = 170 := by
    unfold pubE first4
    rw [o3]
    have c0 : pubCd T3 (-1) [x5] 0 = 170 := by simp [pubCd, unls]
    rw [c0, if_pos (by decide)]
  unfold pubT
  rw [this, if_neg (by decide)]
theorem e5 : abtT I1 T3 = (T3, 170) := by unfold abtT; rw [o3]; rfl
theorem e6 : abtT I1 T2 = ([], 0) := by unfold abtT; rw [o2]; rfl
theorem e7 : asksT T3 = [Z2] := by rfl
theorem e8 : findT I1 T3 = some ⟨Z2, true⟩ := by rfl
theorem e9 : addT [] Z3 true = ([⟨Z3, true⟩], 0) := add_of true Z3_ok Z3_sm
theorem ea : setT I1 T3 = [] := by rfl
theorem s1 : TxsS T1 := ⟨by simp [T1], by simp only [T1, List.mem_singleton]; rintro x rfl; exact ⟨Z1_s, Z1_wf⟩⟩
theorem s2 : TxsS T2 := ⟨by simp [T2], by simp only [T2, List.mem_singleton]; rintro x rfl; exact ⟨Z2_s, Z2_wf⟩⟩
theorem s3 : TxsS T3 := ⟨by simp [T3], by simp only [T3, List.mem_singleton]; rintro x rfl; exact ⟨Z2_s, Z2_wf⟩⟩
theorem s0 : TxsS [] := ⟨by simp, by simp⟩
end PM
set_option maxRecDepth 100000 in
set_option maxHeartbeats 16000000 in
theorem awake17_any (w : World) : Calls Try.prog 8 #[] w fun e w' => e = .returned (.bool true) ∧ Below w.heap.size w w' := by
  go_enter Try.func8, Try.ntmps8
  obtain ⟨g1, hg1⟩ : ∃ g, g = w.heap.size := ⟨_, rfl⟩
  obtain ⟨w1, hw1⟩ : ∃ W, W = w.alloc (.cells #[.int .i64 0, .int .u64 0, .int .u64 1] 26) := ⟨_, rfl⟩
  have hbw1 : Below w.heap.size w w1 := by rw [hw1]; exact (Below.refl _ _).alloc (Nat.le_refl _) _
  have k1 : PM.BK w1 g1 #[.int .i64 0, .int .u64 0, .int .u64 1] 26 := by rw [hw1, hg1]; exact PM.BK.new _ _ _
  go_upto_region 2 with fail
  rw [← hw1, ← hg1]
  clear hw1 hg1
  have hBB := PM.hid hbw1
  clear hbw1
  have ht := int_any 5 w1
  go_wp2_with fail
  refine ht.mono ?_
  clear ht
  rintro e w2 ⟨rfl, hbw⟩
  replace k1 := k1.keep hbw
  replace hBB := PM.hid (PM.chain hBB.out hbw)
  clear hbw
  go_upto_region 3 with fail
  obtain ⟨ge, hge⟩ : ∃ g, g = w2.heap.size := ⟨_, rfl⟩
  obtain ⟨w3, hw3⟩ : ∃ W, W = w2.alloc (.cells #[.string ⟨#[112]⟩, .int .i64 1, .int .i64 5, .string ⟨#[]⟩] 64) := ⟨_, rfl⟩
  have hbw3 : Below w2.heap.size w2 w3 := by rw [hw3]; exact (Below.refl _ _).alloc (Nat.le_refl _) _
  have hev : PM.EM PM.attL 4 w3 (.slice (some ⟨ge, 0, none⟩) 1 1) [PM.x5] := by rw [hw3, hge]; exact PM.EM.lit PM.attL_len _ _ PM.x5
  rw [← hw3, ← hge]
  clear hw3 hge
  have hbw := hbw3
  clear hbw3
  replace k1 := k1.keep hbw
  replace hBB := PM.hid (PM.chain hBB.out hbw)
  clear hbw
  have ht := begin_any none 0 0 PM.I1 0 [] w3 (PM.RR.nil _) PM.s0 PM.I1_wf (by decide)
  rw [PM.e1] at ht
  simp only at ht
  have x0 : w3.cell? ⟨g1, 0, none⟩ = some (.int .i64 0) := k1.cell 0
  have x1 : w3.cell? ⟨g1, 1, none⟩ = some (.int .u64 0) := k1.cell 1
  have x2 : w3.cell? ⟨g1, 2, none⟩ = some (.int .u64 1) := k1.cell 2
  go_wp2_with fail
  refine ht.mono ?_
  clear ht x0 x1 x2
  rintro e wA ⟨ta, rfl, hta, hbw⟩
  replace k1 := k1.keep hbw
  replace hev := hev.keep hbw
  replace hBB := PM.hid (PM.chain hBB.out hbw)
  clear hbw
  obtain ⟨taa, tac, htae⟩ := hta.rr.len
  replace htae : ta = .slice taa 1 tac := htae
  subst htae
  replace hta := hta.txl
  have ht := publish_any taa 1 tac PM.I1 (some ⟨ge, 0, none⟩) 1 1 [PM.x5] PM.T1 wA hta PM.s1 hev (by decide) PM.x5_wf
  rw [PM.e2] at ht
  simp only at ht
  have x0 : wA.cell? ⟨g1, 0, none⟩ = some (.int .i64 0) := k1.cell 0
  have x1 : wA.cell? ⟨g1, 1, none⟩ = some (.int .u64 0) := k1.cell 1
  have x2 : wA.cell? ⟨g1, 2, none⟩ = some (.int .u64 1) := k1.cell 2
  go_wp2_with fail
  refine ht.mono ?_
  clear ht x0 x1 x2
  rintro e wB ⟨tb, rfl, htb, hbw⟩
  replace k1 := k1.keep hbw
  replace hev := hev.keep hbw
  replace hta := PM.TxL.keep hbw hta
  replace hBB := PM.hid (PM.chain hBB.out hbw)
  clear hbw
  obtain ⟨tba, tbc, htbe⟩ := htb.rr.len
  replace htbe : tb = .slice tba 1 tbc := htbe
  subst htbe
  replace htb := htb.txl
  clear hta
  have ht := commit_any tba 1 tbc PM.I1 PM.T2 wB htb PM.s2
  rw [PM.e3] at ht
  simp only at ht
  have x0 : wB.cell? ⟨g1, 0, none⟩ = some (.int .i64 0) := k1.cell 0
  have x1 : wB.cell? ⟨g1, 1, none⟩ = some (.int .u64 0) := k1.cell 1
  have x2 : wB.cell? ⟨g1, 2, none⟩ = some (.int .u64 1) := k1.cell 2
  go_wp2_with fail
  refine ht.mono ?_
  clear ht x0 x1 x2
  rintro e wC ⟨tc, rfl, htc, hbw⟩
  replace k1 := k1.keep hbw
  replace hev := hev.keep hbw
  replace htb := PM.TxL.keep hbw htb
  replace hBB := PM.hid (PM.chain hBB.out hbw)
  clear hbw
  obtain ⟨tca, tcc, htce⟩ := htc.rr.len
  replace htce : tc = .slice tca 1 tcc := htce
  subst htce
  replace htc := htc.txl
  have ht := publish_any tca 1 tcc PM.I1 (some ⟨ge, 0, none⟩) 1 1 [PM.x5] PM.T3 wC htc PM.s3 hev (by decide) PM.x5_wf
  rw [PM.e4] at ht
  simp only at ht
  have x0 : wC.cell? ⟨g1, 0, none⟩ = some (.int .i64 0) := k1.cell 0
  have x1 : wC.cell? ⟨g1, 1, none⟩ = some (.int .u64 0) := k1.cell 1
  have x2 : wC.cell? ⟨g1, 2, none⟩ = some (.int .u64 1) := k1.cell 2
  go_wp2_with fail
  refine ht.mono ?_
  clear ht x0 x1 x2
  rintro e wD ⟨td, rfl, htd, hbw⟩
  replace k1 := k1.keep hbw
  replace hev := hev.keep hbw
  replace htb := PM.TxL.keep hbw htb
  replace htc := PM.TxL.keep hbw htc
  replace hBB := PM.hid (PM.chain hBB.out hbw)
  clear hbw
  obtain ⟨tda, tdc, htde⟩ := htd.rr.len
  replace htde : td = .slice tda 1 tdc := htde
  subst htde
  clear htd
  have ht := abort17_any tca 1 tcc PM.I1 PM.T3 wD htc PM.s3
  rw [PM.e5] at ht
  simp only at ht
  have x0 : wD.cell? ⟨g1, 0, none⟩ = some (.int .i64 0) := k1.cell 0
  have x1 : wD.cell? ⟨g1, 1, none⟩ = some (.int .u64 0) := k1.cell 1
  have x2 : wD.cell? ⟨g1, 2, none⟩ = some (.int .u64 1) := k1.cell 2
  go_wp2_with fail
  refine ht.mono ?_
  clear ht x0 x1 x2
  rintro e wE ⟨tf, rfl, htf, hbw⟩
  replace k1 := k1.keep hbw
  replace hev := hev.keep hbw
  replace htb := PM.TxL.keep hbw htb
  replace htc := PM.TxL.keep hbw htc
  replace hBB := PM.hid (PM.chain hBB.out hbw)
  clear hbw
  obtain ⟨tfa, tfc, htfe⟩ := htf.rr.len
  replace htfe : tf = .slice tfa 1 tfc := htfe
  subst htfe
  clear htf
  have ht := abort17_any tba 1 tbc PM.I1 PM.T2 wE htb PM.s2
  rw [PM.e6] at ht
  simp only at ht
  have x0 : wE.cell? ⟨g1, 0, none⟩ = some (.int .i64 0) := k1.cell 0
  have x1 : wE.cell? ⟨g1, 1, none⟩ = some (.int .u64 0) := k1.cell 1
  have x2 : wE.cell? ⟨g1, 2, none⟩ = some (.int .u64 1) := k1.cell 2
  go_wp2_with fail
  refine ht.mono ?_
  clear ht x0 x1 x2
  rintro e wF ⟨tg, rfl, htg, hbw⟩
  replace k1 := k1.keep hbw
  replace hev := hev.keep hbw
  replace htb := PM.TxL.keep hbw htb
  replace htc := PM.TxL.keep hbw htc
  replace hBB := PM.hid (PM.chain hBB.out hbw)
  clear hbw
  obtain ⟨tga, tgc, htge⟩ := htg.rr.len
  replace htge : tg = .slice tga 0 tgc := htge
  subst htge
  clear htg htb
  have ht := asks17_any tca 1 tcc PM.T3 wF htc PM.s3
  rw [PM.e7] at ht
  have x0 : wF.cell? ⟨g1, 0, none⟩ = some (.int .i64 0) := k1.cell 0
  have x1 : wF.cell? ⟨g1, 1, none⟩ = some (.int .u64 0) := k1.cell 1
  have x2 : wF.cell? ⟨g1, 2, none⟩ = some (.int .u64 1) := k1.cell 2
  go_wp2_with fail
  refine ht.mono ?_
  clear ht x0 x1 x2
  rintro e wG ⟨tk, rfl, htk, hbw⟩
  replace k1 := k1.keep hbw
  replace hev := hev.keep hbw
  replace htc := PM.TxL.keep hbw htc
  replace hBB := PM.hid (PM.chain hBB.out hbw)
  clear hbw
  obtain ⟨tka, tkc, htke⟩ := htk.rr.len
  replace htke : tk = .slice tka 1 tkc := htke
  subst htke
  obtain ⟨kb, ko, rfl, hke⟩ := PM.RR.opn htk.rr (by simp)
  obtain ⟨kcs, hkl, kfv, kev, hkcs, hk1, hk2⟩ := hke 0 PM.Z2 rfl
  rw [hkcs] at hkl
  obtain ⟨ea, ec, rfl⟩ := hk2.rr.len
  have m7 : wG.cell? ⟨kb, ko + 7, none⟩ = some (.slice ea 1 ec) := hkl 7 _ rfl
  clear htk hke hkl hkcs hk1 hk2 kcs
  have ht := find_any tca 1 tcc PM.I1 PM.T3 wG htc PM.s3
  rw [PM.e8] at ht
  have x0 : wG.cell? ⟨g1, 0, none⟩ = some (.int .i64 0) := k1.cell 0
  have x1 : wG.cell? ⟨g1, 1, none⟩ = some (.int .u64 0) := k1.cell 1
  have x2 : wG.cell? ⟨g1, 2, none⟩ = some (.int .u64 1) := k1.cell 2
  go_wp2_with fail
  refine ht.mono ?_
  clear ht x0 x1 x2
  rintro e wH ⟨cs, rfl, ⟨fv, ev, rfl, hf1, hf2⟩, hbw⟩
  replace k1 := k1.keep hbw
  replace hev := hev.keep hbw
  replace htc := PM.TxL.keep hbw htc
  replace m7 := PM.cellA hbw m7
  replace hBB := PM.hid (PM.chain hBB.out hbw)
  clear hbw
  obtain ⟨fa, fc, hfe⟩ := (hf1.em PM.teL_len).len
  obtain ⟨va, vc, hve⟩ := hf2.rr.len
  replace hfe : fv = .slice fa 0 fc := hfe
  replace hve : ev = .slice va 1 vc := hve
  subst hfe hve
  clear hf1 hf2
  rw [show (PM.txC ((some (⟨PM.Z2, true⟩ : PM.Tx)).getD PM.Tx0) (.slice fa 0 fc) (.slice va 1 vc)).toArray = #[.int .i64 1, .int .i64 0, .int .u64 0, .int .u64 1, .int .i64 0, .int .u64 0, .slice fa 0 fc, .slice va 1 vc, .bool true] from rfl]
  simp only [Option.isSome]
  go_upto_region 11 with fail
  obtain ⟨gf, hgf⟩ : ∃ g, g = wH.heap.size := ⟨_, rfl⟩
  obtain ⟨wI, hwI⟩ : ∃ W, W = wH.alloc (.cells #[.int .i64 1, .int .i64 0, .int .u64 0, .int .u64 1, .int .i64 0, .int .u64 0, .slice fa 0 fc, .slice va 1 vc, .bool true] 39) := ⟨_, rfl⟩
  have hbwI : Below wH.heap.size wH wI := by rw [hwI]; exact (Below.refl _ _).alloc (Nat.le_refl _) _
  have kf : PM.BK wI gf #[.int .i64 1, .int .i64 0, .int .u64 0, .int .u64 1, .int .i64 0, .int .u64 0, .slice fa 0 fc, .slice va 1 vc, .bool true] 39 := by rw [hwI, hgf]; exact PM.BK.new _ _ _
  rw [← hwI, ← hgf]
  clear hwI hgf
  have hbw := hbwI
  clear hbwI
  replace k1 := k1.keep hbw
  replace hev := hev.keep hbw
  replace htc := PM.TxL.keep hbw htc
  replace m7 := PM.cellA hbw m7
  replace hBB := PM.hid (PM.chain hBB.out hbw)
  clear hbw
  have ht := ask_any none 0 0 PM.Z3 none 0 0 none 0 0 [] wI (PM.RR.nil _) PM.s0 PM.Z3_wf rfl rfl (PM.EM.nil _) (PM.RR.nil _) PM.Z3_s
  rw [PM.e9] at ht
  simp only at ht
  change Calls _ _ #[_, .agg #[.int .i64 3, .int .i64 0, .int .u64 0, .int .u64 0, .int .i64 0, .int .u64 0, .slice none 0 0, .slice none 0 0]] _ _ at ht
  go_wp2_with fail
  refine ht.mono ?_
  clear ht
  rintro e wJ ⟨tm, rfl, htm, hbw⟩
  replace k1 := k1.keep hbw
  replace hev := hev.keep hbw
  replace htc := PM.TxL.keep hbw htc
  replace m7 := PM.cellA hbw m7
  replace kf := kf.keep hbw
  replace hBB := PM.hid (PM.chain hBB.out hbw)
  clear hbw
  obtain ⟨tma, tmc, htme⟩ := htm.rr.len
  replace htme : tm = .slice tma 1 tmc := htme
  subst htme
  clear htm
  have ht := settle_any tca 1 tcc PM.I1 PM.T3 wJ htc PM.s3
  rw [PM.ea] at ht
  have x0 : wJ.cell? ⟨g1, 0, none⟩ = some (.int .i64 0) := k1.cell 0
  have x1 : wJ.cell? ⟨g1, 1, none⟩ = some (.int .u64 0) := k1.cell 1
  have x2 : wJ.cell? ⟨g1, 2, none⟩ = some (.int .u64 1) := k1.cell 2
  have f0 : wJ.cell? ⟨gf, 0, none⟩ = some (.int .i64 1) := kf.cell 0
  have f1 : wJ.cell? ⟨gf, 1, none⟩ = some (.int .i64 0) := kf.cell 1
  have f2 : wJ.cell? ⟨gf, 2, none⟩ = some (.int .u64 0) := kf.cell 2
  have f3 : wJ.cell? ⟨gf, 3, none⟩ = some (.int .u64 1) := kf.cell 3
  have f4 : wJ.cell? ⟨gf, 4, none⟩ = some (.int .i64 0) := kf.cell 4
  have f5 : wJ.cell? ⟨gf, 5, none⟩ = some (.int .u64 0) := kf.cell 5
  have f6 : wJ.cell? ⟨gf, 6, none⟩ = some (.slice fa 0 fc) := kf.cell 6
  have f7 : wJ.cell? ⟨gf, 7, none⟩ = some (.slice va 1 vc) := kf.cell 7
  have f8 : wJ.cell? ⟨gf, 8, none⟩ = some (.bool true) := kf.cell 8
  go_wp2_with fail
  refine ht.mono ?_
  clear ht x0 x1 x2 f0 f1 f2 f3 f4 f5 f6 f7 f8 m7
  rintro e wK ⟨ts, rfl, hts, hbw⟩
  replace hBB := PM.hid (PM.chain hBB.out hbw)
  obtain ⟨tsa, tsc, htse⟩ := hts.rr.len
  replace htse : ts = .slice tsa 0 tsc := htse
  subst htse
  clear hts hbw hev htc k1 kf
  go_wp2_with fail
  go_ret
  exact ⟨by first | rfl | simp, hBB.out⟩
theorem stageNames_walk (w : World) : Calls Try.prog 3 #[] w fun e w' => e = .returned (.bool true) ∧ Below w.heap.size w w' := by
  go_enter Try.func3, Try.ntmps3
  go_wp2_with fail
  refine (awake17_any w).mono ?_
  rintro e w1 ⟨rfl, hB⟩
  have hBB := PM.hid hB
  clear hB
  go_wp2_with fail
  go_ret
  exact ⟨rfl, hBB.out⟩
end Go.Proofs.Ytnjcociidipogaa
