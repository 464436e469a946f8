/-
  CONTRACT of postilionref18.Ends.
-/
import Derived.Test.YtjninckmgkaliaaZa
import Derived.Test.YtjninckmgkaliaaWc
namespace Go.Proofs.Ytjninckmgkaliaa
open Go.RowKit
set_option linter.unusedVariables false
set_option linter.unusedSimpArgs false
set_option maxRecDepth 100000 in
set_option maxHeartbeats 8000000 in
theorem rends_any (lf : Nat) (a0 : Option Addr) (n0 c0 : Nat) (a1 : Option Addr) (n1 c1 : Nat) (a2 : Option Addr) (n2 c2 : Nat) (ao : Option Addr) (no co : Nat) (mk : Int) (mh : Nat) (ma0 : Option Addr) (mn0 mc0 : Nat) (ma1 : Option Addr) (mn1 mc1 : Nat) (ma2 : Option Addr) (mn2 mc2 : Nat) (ma3 : Option Addr) (mn3 mc3 : Nat) (ma4 : Option Addr) (mn4 mc4 : Nat) (ma5 : Option Addr) (mn5 mc5 : Nat) (ls ps op : List PM.En) (vs : List PM.Vo) (w : World) (h0 : PM.EnL w (.slice a0 n0 c0) ls) (h1 : PM.EnL w (.slice a1 n1 c1) ps) (h2 : PM.EnL w (.slice ao no co) op) (h3 : PM.EM PM.voL 4 w (.slice ma0 mn0 mc0) vs) :
    Calls Try.prog 19 #[.agg #[.int .u64 (lf : Int), .slice a0 n0 c0, .slice a1 n1 c1, .slice a2 n2 c2], .slice ao no co, .agg #[.int .i64 mk, .int .u64 (mh : Int), .slice ma0 mn0 mc0, .slice ma1 mn1 mc1, .slice ma2 mn2 mc2, .slice ma3 mn3 mc3, .slice ma4 mn4 mc4, .slice ma5 mn5 mc5]] w fun e w' => ∃ u, e = .returned u ∧ PM.OM PM.idL 3 30 w.heap.size w' u (PM.endsL (fun i => PM.hasE ls i || PM.hasE ps i || PM.hasE op i) vs) ∧ Below w.heap.size w w' := by
  obtain ⟨KN, hKNd⟩ : ∃ f : PM.Id → Bool, f = (fun i => PM.hasE ls i || PM.hasE ps i || PM.hasE op i) := ⟨_, rfl⟩
  rw [← hKNd]
  have hKNe : ∀ i, KN i = (PM.hasE ls i || PM.hasE ps i || PM.hasE op i) := fun i => by rw [hKNd]
  clear hKNd
  replace hKNe := PM.hid hKNe
  have hmn : mn0 = vs.length := by
    obtain ⟨a, c, h⟩ := h3.len
    injection h
  obtain ⟨N, hN⟩ : ∃ N, N = mn0 := ⟨_, rfl⟩
  have hbd := h3.bound
  unfold maxLen at hbd
  rw [← hmn, ← hN] at hbd
  rw [← hN] at h3 hmn ⊢
  have hNh := PM.hid hmn
  clear hN hmn
  obtain ⟨g, hg⟩ : ∃ g, g = w.heap.size := ⟨_, rfl⟩
  obtain ⟨gm, hgm⟩ : ∃ g, g = w.heap.size + 1 := ⟨_, rfl⟩
  obtain ⟨w1, hw1⟩ : ∃ W, W = w.alloc (.cells #[.int .u64 (lf : Int), .slice a0 n0 c0, .slice a1 n1 c1, .slice a2 n2 c2] 27) := ⟨_, rfl⟩
  have s1 : w1.heap.size = w.heap.size + 1 := by rw [hw1]; simp
  have hal : Below w.heap.size w w1 := by rw [hw1]; exact (Below.refl _ _).alloc (Nat.le_refl _) _
  have kg : PM.BK w1 g #[.int .u64 (lf : Int), .slice a0 n0 c0, .slice a1 n1 c1, .slice a2 n2 c2] 27 := by rw [hw1, hg]; exact PM.BK.new _ _ _
  obtain ⟨w2, hw2⟩ : ∃ W, W = w1.alloc (.cells #[.int .i64 mk, .int .u64 (mh : Int), .slice ma0 N mc0, .slice ma1 mn1 mc1, .slice ma2 mn2 mc2, .slice ma3 mn3 mc3, .slice ma4 mn4 mc4, .slice ma5 mn5 mc5] 41) := ⟨_, rfl⟩
  have hal2 : Below w1.heap.size w1 w2 := by rw [hw2]; exact (Below.refl _ _).alloc (Nat.le_refl _) _
  have km : PM.BK w2 gm #[.int .i64 mk, .int .u64 (mh : Int), .slice ma0 N mc0, .slice ma1 mn1 mc1, .slice ma2 mn2 mc2, .slice ma3 mn3 mc3, .slice ma4 mn4 mc4, .slice ma5 mn5 mc5] 41 := by rw [hw2, hgm, ← s1]; exact PM.BK.new _ _ _
  have hBB := PM.hid (PM.chain hal hal2)
  have hS := PM.hid (And.intro h0 (And.intro h1 h2))
  have hvs := PM.hid h3
  have hdk := PM.hid (And.intro (kg.keep hal2) km)
  clear hal hal2 h0 h1 h2 h3 kg km s1
  go_enter Try.func19, Try.ntmps19
  go_upto_region 1 with fail
  rw [← hw1, ← hw2, ← hgm, ← hg]
  clear hw1 hw2 hg hgm
  go_wp2_with fail
  go_loopw [7, 8, 9, 10, 11, 12, 13] (fun sr ix _ _ _ _ _ wr => ∃ k : Nat, ix = .int .i64 k ∧ k ≤ N ∧ Hid (PM.OM PM.idL 3 30 w.heap.size wr sr (PM.endsL KN (vs.take k)) ∧ PM.BK wr g #[.int .u64 (lf : Int), .slice a0 n0 c0, .slice a1 n1 c1, .slice a2 n2 c2] 27 ∧ PM.BK wr gm #[.int .i64 mk, .int .u64 (mh : Int), .slice ma0 N mc0, .slice ma1 mn1 mc1, .slice ma2 mn2 mc2, .slice ma3 mn3 mc3, .slice ma4 mn4 mc4, .slice ma5 mn5 mc5] 41 ∧ Below w.heap.size w wr)) (fun _ ix _ _ _ _ _ _ => N - (intOf ix).toNat)
  case atStart => exact ⟨0, rfl, by omega, PM.hid ⟨PM.OM.nilrow _, hdk.out.1, hdk.out.2, hBB.out⟩⟩
  case round =>
    obtain ⟨k, rfl, hk, hin⟩ := hrel
    obtain ⟨hI, hG, hK, hB⟩ := hin.out
    clear hin hBB
    have hBB := PM.hid hB
    clear hB
    have hle : (PM.endsL KN (vs.take k)).length ≤ 16 := PM.endsL_le KN _ _ (by simp)
    obtain ⟨out, hout⟩ : ∃ x, x = PM.endsL KN (vs.take k) := ⟨_, rfl⟩
    rw [← hout] at hI hle
    have houth := PM.hid hout
    clear hout
    obtain ⟨ar, cr, hpe⟩ := (hI.em PM.idL_len).len
    subst hpe
    obtain ⟨P, hP⟩ : ∃ P, P = out.length := ⟨_, rfl⟩
    rw [← hP] at hI hle ⊢
    have hPh := PM.hid hP
    clear hP
    have m2 : wr.cell? ⟨gm, 2, none⟩ = some (.slice ma0 N mc0) := hK.cell 2
    by_cases hlt : k < N
    · by_cases hfull : P = 16
      · subst hfull
        have q0 : decide ((k : Int) < (N : Int)) = true := by simp; omega
        have q1 : decide ((16 : Int) < 16) = false := by simp
        have hfin := PM.hid (And.intro hI hBB.out)
        have htk : Hid (PM.endsL KN vs = out) := PM.hid (by rw [PM.endsL_full (j := k) (by rw [← houth.out, ← hPh.out]), ← houth.out])
        clear hI hG hK
        go_wp2_with fail
        go_ret
        exact ⟨_, rfl, by rw [htk.out]; exact hfin.out.1, hfin.out.2⟩
      have q0 : decide ((k : Int) < (N : Int)) = true := by simp; omega
      have q1 : decide ((P : Int) < 16) = true := by simp; omega
      have q1' : (P : Int) < 16 := by omega
      obtain ⟨z, hz⟩ : ∃ z, vs[k]? = some z := ⟨vs[k]'(by rw [← hNh.out]; exact hlt), List.getElem?_eq_getElem _⟩
      obtain ⟨b, off, cap', he, -, -, hce⟩ := PM.EM.open1 hvs.out (by rw [← hNh.out]; omega)
      injection he with he1 he2 he3
      subst he1
      have hl0 := (hce k z hz).keep hBB.out
      have d0 : wr.cell? ⟨b, off + k * 4, none⟩ = some (.int .i64 z.id.br) := hl0 0 _ rfl
      have d1 : wr.cell? ⟨b, off + k * 4 + 1, none⟩ = some (.int .u64 (z.id.life : Int)) := hl0 1 _ rfl
      have d2 : wr.cell? ⟨b, off + k * 4 + 2, none⟩ = some (.int .u64 (z.id.ser : Int)) := hl0 2 _ rfl
      have d3 : wr.cell? ⟨b, off + k * 4 + 3, none⟩ = some (.bool z.yes) := hl0 3 _ rfl
      have hzh := PM.hid hz
      clear hz hce hl0 he2 he3
      go_upto_region 6 with fail
      obtain ⟨gx, hgx⟩ : ∃ g, g = wr.heap.size := ⟨_, rfl⟩
      obtain ⟨w3, hw3⟩ : ∃ W, W = wr.alloc (.cells #[.int .i64 z.id.br, .int .u64 (z.id.life : Int), .int .u64 (z.id.ser : Int)] 30) := ⟨_, rfl⟩
      have hBn : Below wr.heap.size wr w3 := by rw [hw3]; exact (Below.refl _ _).alloc (Nat.le_refl _) _
      have kx : PM.BK w3 gx #[.int .i64 z.id.br, .int .u64 (z.id.life : Int), .int .u64 (z.id.ser : Int)] 30 := by rw [hw3, hgx]; exact PM.BK.new _ _ _
      rw [← hw3, ← hgx]
      clear hw3 hgx
      clear d0 d1 d2 d3 m2 q0 q1
      replace hI := hI.keep hBn
      replace hG := hG.keep hBn
      replace hK := hK.keep hBn
      replace hBB := PM.hid (PM.chain hBB.out hBn)
      clear hBn
      have s0 : w3.cell? ⟨g, 0, none⟩ = some (.int .u64 (lf : Int)) := hG.cell 0
      have s1 : w3.cell? ⟨g, 1, none⟩ = some (.slice a0 n0 c0) := hG.cell 1
      have s2 : w3.cell? ⟨g, 2, none⟩ = some (.slice a1 n1 c1) := hG.cell 2
      have s3 : w3.cell? ⟨g, 3, none⟩ = some (.slice a2 n2 c2) := hG.cell 3
      have x0 : w3.cell? ⟨gx, 0, none⟩ = some (.int .i64 z.id.br) := kx.cell 0
      have x1 : w3.cell? ⟨gx, 1, none⟩ = some (.int .u64 (z.id.life : Int)) := kx.cell 1
      have x2 : w3.cell? ⟨gx, 2, none⟩ = some (.int .u64 (z.id.ser : Int)) := kx.cell 2
      go_wp2_with fail
      refine (rhas_any lf a0 n0 c0 a1 n1 c1 a2 n2 c2 z.id ls w3 (PM.EnL.keep hS.out.1 hBB.out)).mono ?_
      rintro e w4 ⟨rfl, hBn⟩
      clear s0 s1 s2 s3 x0 x1 x2
      replace hI := hI.keep hBn
      replace hG := hG.keep hBn
      replace hK := hK.keep hBn
      replace kx := kx.keep hBn
      replace hBB := PM.hid (PM.chain hBB.out hBn)
      clear hBn
      have s0 : w4.cell? ⟨g, 0, none⟩ = some (.int .u64 (lf : Int)) := hG.cell 0
      have s1 : w4.cell? ⟨g, 1, none⟩ = some (.slice a0 n0 c0) := hG.cell 1
      have s2 : w4.cell? ⟨g, 2, none⟩ = some (.slice a1 n1 c1) := hG.cell 2
      have s3 : w4.cell? ⟨g, 3, none⟩ = some (.slice a2 n2 c2) := hG.cell 3
      have x0 : w4.cell? ⟨gx, 0, none⟩ = some (.int .i64 z.id.br) := kx.cell 0
      have x1 : w4.cell? ⟨gx, 1, none⟩ = some (.int .u64 (z.id.life : Int)) := kx.cell 1
      have x2 : w4.cell? ⟨gx, 2, none⟩ = some (.int .u64 (z.id.ser : Int)) := kx.cell 2
      go_wp2_with fail
      refine (rprom_any lf a0 n0 c0 a1 n1 c1 a2 n2 c2 z.id ps w4 (PM.EnL.keep hS.out.2.1 hBB.out)).mono ?_
      rintro e w5 ⟨rfl, hBn⟩
      clear s0 s1 s2 s3 x0 x1 x2
      replace hI := hI.keep hBn
      replace hG := hG.keep hBn
      replace hK := hK.keep hBn
      replace kx := kx.keep hBn
      replace hBB := PM.hid (PM.chain hBB.out hBn)
      clear hBn
      have s0 : w5.cell? ⟨g, 0, none⟩ = some (.int .u64 (lf : Int)) := hG.cell 0
      have s1 : w5.cell? ⟨g, 1, none⟩ = some (.slice a0 n0 c0) := hG.cell 1
      have s2 : w5.cell? ⟨g, 2, none⟩ = some (.slice a1 n1 c1) := hG.cell 2
      have s3 : w5.cell? ⟨g, 3, none⟩ = some (.slice a2 n2 c2) := hG.cell 3
      have x0 : w5.cell? ⟨gx, 0, none⟩ = some (.int .i64 z.id.br) := kx.cell 0
      have x1 : w5.cell? ⟨gx, 1, none⟩ = some (.int .u64 (z.id.life : Int)) := kx.cell 1
      have x2 : w5.cell? ⟨gx, 2, none⟩ = some (.int .u64 (z.id.ser : Int)) := kx.cell 2
      go_wp2_with fail
      refine (rof_any _ z.id op w5 (PM.EnL.keep hS.out.2.2 hBB.out)).mono ?_
      rintro e w6 ⟨rfl, hBn⟩
      clear s0 s1 s2 s3 x0 x1 x2
      replace hI := hI.keep hBn
      replace hG := hG.keep hBn
      replace hK := hK.keep hBn
      replace kx := kx.keep hBn
      replace hBB := PM.hid (PM.chain hBB.out hBn)
      clear hBn
      have s0 : w6.cell? ⟨g, 0, none⟩ = some (.int .u64 (lf : Int)) := hG.cell 0
      have s1 : w6.cell? ⟨g, 1, none⟩ = some (.slice a0 n0 c0) := hG.cell 1
      have s2 : w6.cell? ⟨g, 2, none⟩ = some (.slice a1 n1 c1) := hG.cell 2
      have s3 : w6.cell? ⟨g, 3, none⟩ = some (.slice a2 n2 c2) := hG.cell 3
      have x0 : w6.cell? ⟨gx, 0, none⟩ = some (.int .i64 z.id.br) := kx.cell 0
      have x1 : w6.cell? ⟨gx, 1, none⟩ = some (.int .u64 (z.id.life : Int)) := kx.cell 1
      have x2 : w6.cell? ⟨gx, 2, none⟩ = some (.int .u64 (z.id.ser : Int)) := kx.cell 2
      go_wp2_with fail
      refine (rin_any _ z.id out w6 (hI.em PM.idL_len)).mono ?_
      rintro e w7 ⟨rfl, hBn⟩
      clear s0 s1 s2 s3 x0 x1 x2
      replace hI := hI.keep hBn
      replace hG := hG.keep hBn
      replace hK := hK.keep hBn
      replace kx := kx.keep hBn
      replace hBB := PM.hid (PM.chain hBB.out hBn)
      clear hBn
      have hKN : Hid ((KN z.id || PM.hasI out z.id) = (PM.hasE ls z.id || PM.hasE ps z.id || PM.hasE op z.id || PM.hasI out z.id)) := PM.hid (by rw [hKNe.out])
      cases e1 : PM.hasE ls z.id
      case true =>
        have hsk : Hid (PM.en1 KN out z = out) := PM.hid (PM.en1_skip (by rw [hKN.out]; rw [e1]; rfl))
        have hin2 := PM.hid (And.intro hI (And.intro hG (And.intro hK hBB.out)))
        clear hI hG hK kx e1
        go_wp2_with fail
        exact ⟨⟨k + 1, by go_num, by omega, PM.hid (by rw [PM.endsL_snoc hzh.out, ← houth.out, hsk.out]; exact hin2.out)⟩, by simp only [intOf]; omega⟩
      cases e2 : PM.hasE ps z.id
      case true =>
        have hsk : Hid (PM.en1 KN out z = out) := PM.hid (PM.en1_skip (by rw [hKN.out]; rw [e1, e2]; rfl))
        have hin2 := PM.hid (And.intro hI (And.intro hG (And.intro hK hBB.out)))
        clear hI hG hK kx e1 e2
        go_wp2_with fail
        exact ⟨⟨k + 1, by go_num, by omega, PM.hid (by rw [PM.endsL_snoc hzh.out, ← houth.out, hsk.out]; exact hin2.out)⟩, by simp only [intOf]; omega⟩
      cases e3 : PM.hasE op z.id
      case true =>
        have hsk : Hid (PM.en1 KN out z = out) := PM.hid (PM.en1_skip (by rw [hKN.out]; rw [e1, e2, e3]; rfl))
        have hin2 := PM.hid (And.intro hI (And.intro hG (And.intro hK hBB.out)))
        clear hI hG hK kx e1 e2 e3
        go_wp2_with fail
        exact ⟨⟨k + 1, by go_num, by omega, PM.hid (by rw [PM.endsL_snoc hzh.out, ← houth.out, hsk.out]; exact hin2.out)⟩, by simp only [intOf]; omega⟩
      cases e4 : PM.hasI out z.id
      case true =>
        have hsk : Hid (PM.en1 KN out z = out) := PM.hid (PM.en1_skip (by rw [hKN.out]; rw [e1, e2, e3, e4]; rfl))
        have hin2 := PM.hid (And.intro hI (And.intro hG (And.intro hK hBB.out)))
        clear hI hG hK kx e1 e2 e3 e4
        go_wp2_with fail
        exact ⟨⟨k + 1, by go_num, by omega, PM.hid (by rw [PM.endsL_snoc hzh.out, ← houth.out, hsk.out]; exact hin2.out)⟩, by simp only [intOf]; omega⟩
      have hno : Hid (PM.en1 KN out z = out ++ [z.id]) := PM.hid (PM.en1_add (by rw [← hPh.out]; exact hfull) (by rw [hKN.out, e1, e2, e3, e4]; rfl))
      clear e1 e2 e3 e4 hKN
      have x0 : w7.cell? ⟨gx, 0, none⟩ = some (.int .i64 z.id.br) := kx.cell 0
      have x1 : w7.cell? ⟨gx, 1, none⟩ = some (.int .u64 (z.id.life : Int)) := kx.cell 1
      have x2 : w7.cell? ⟨gx, 2, none⟩ = some (.int .u64 (z.id.ser : Int)) := kx.cell 2
      clear kx
      have hl16 : (out.length + 1) * 24 ≤ 140737488355328 := by rw [← hPh.out]; omega
      have hl17 : out.length + 1 ≤ maxLen := by rw [← hPh.out]; unfold maxLen; omega
      have hsz := hBB.out.size
      have hrt := hI.rt
      rw [hPh.out] at hI
      go_wp2_with (at_builtin; rw [hPh.out]; go_loud (refine PM.wpList_em1 (e := PM.idL) tyIdO PM.idL_len PM.idL_one w.heap.size w7 rfl _ _ rfl _ out z.id _ rfl rfl rfl rfl hI hl16 hl17 hsz ?_); intro v' w' t1 t2 t3 t4; rw [← hPh.out] at t3; have hE := PM.hid (And.intro t1 (And.intro (hBB.out.trans t2) t3)); clear t1 t2 t3 t4 hsz hI x0 x1 x2)
      refine ⟨⟨k + 1, by go_num, by omega, PM.hid ?_⟩, by simp only [intOf]; omega⟩
      rw [PM.endsL_snoc hzh.out, ← houth.out, hno.out]
      exact ⟨hE.out.1, hG.grown hE.out.2.2 hrt (by decide), hK.grown hE.out.2.2 hrt (by decide), hE.out.2.1⟩
    · obtain rfl : k = N := by omega
      have q0 : decide ((k : Int) < (k : Int)) = false := by simp
      have hfin := PM.hid (And.intro hI hBB.out)
      clear hG hK hI
      have htk : Hid (PM.endsL KN vs = out) := PM.hid (by
        have := houth.out
        rw [hNh.out, List.take_length] at this
        exact this.symm)
      go_wp2_with fail
      go_ret
      exact ⟨_, rfl, by rw [htk.out]; exact hfin.out.1, hfin.out.2⟩
end Go.Proofs.Ytjninckmgkaliaa
