import Derived.Test.YtnpbfjkfbobgaaaGreatKv
import Derived.Test.YtnpbfjkfbobgaaaGreatBg
import Derived.Test.YtnpbfjkfbobgaaaGreatBh
import Derived.Test.YtnpbfjkfbobgaaaGreatBj
/-
  postilionref15.in, asked, matched.
-/
namespace Go.Proofs.YtnpbfjkfbobgaaaGreat
open Go.RowKit
set_option linter.unusedVariables false
set_option linter.unusedSimpArgs false
set_option maxHeartbeats 2000000 in
theorem in15_any (v : Value) (x : Int) (l : List Int) (w : World) (hv : PM.ES PM.iv w v l) :
    Calls Tryz.prog 52 #[v, .int .i64 x] w fun e w' => e = .returned (.bool (l.any fun y => decide (x = y))) ∧ Below w.heap.size w w' := by
  have hmax := hv.bound
  obtain ⟨ad, cap, rfl⟩ := hv.len
  unfold maxLen at hmax
  obtain ⟨L, hL⟩ : ∃ L, L = l.length := ⟨_, rfl⟩
  have hLh := PM.hid hL
  rw [← hL] at hv hmax ⊢
  have hvh := PM.hid hv
  clear hL hv
  go_enter Tryz.func52, Tryz.ntmps52
  go_wp2
  go_loopw [5] (fun i wr => ∃ k : Nat, i = .int .i64 k ∧ k ≤ L ∧ Hid (∀ j y, j < k → l[j]? = some y → decide (x = y) = false) ∧ Below w.heap.size w wr) (fun i _ => L - (intOf i).toNat)
  case atStart => exact ⟨0, rfl, by omega, PM.hid (fun j y hj => absurd hj (by omega)), Below.refl _ _⟩
  case round =>
    obtain ⟨k, rfl, hk, hall, hB⟩ := hrel
    have hS := PM.hid hB
    by_cases hlt : k < L
    · obtain ⟨z, hz⟩ : ∃ z, l[k]? = some z := ⟨l[k]'(by rw [← hLh.out]; exact hlt), List.getElem?_eq_getElem _⟩
      obtain ⟨b, off, cap', he, -, -, hce⟩ := PM.ES.open1 hvh.out (by rw [← hLh.out]; omega)
      injection he with he1 he2 he3
      subst he1
      have d0 : wr.cell? ⟨b, off + k, none⟩ = some (.int .i64 z) := PM.cellA hB (hce k z hz)
      have hzh := PM.hid hz
      clear hz hB hce he2 he3
      by_cases heq : x = z
      · have q : (z == x) = true := by simp [heq]
        have ht : Hid ((l.any fun y => decide (x = y)) = true) := PM.hid (List.any_eq_true.2 ⟨z, List.mem_of_getElem? hzh.out, decide_eq_true heq⟩)
        clear heq
        go_wp2_with fail
        go_ret
        exact ⟨by rw [ht.out]; rfl, hS.out⟩
      · have q : (z == x) = false := beq_eq_false_iff_ne.2 (fun h => heq h.symm)
        have heqh := PM.hid heq
        clear heq
        go_wp2_with fail
        refine ⟨⟨k + 1, by go_num, by omega, PM.hid fun j y hj hy => ?_, hS.out⟩, by simp only [intOf]; omega⟩
        by_cases hjk : j < k
        · exact hall.out j y hjk hy
        · obtain rfl : j = k := by omega
          rw [hzh.out] at hy
          cases hy
          simpa using heqh.out
    · obtain rfl : k = L := by omega
      clear hB
      have ht : Hid ((l.any fun y => decide (x = y)) = false) := PM.hid (by
        rw [List.any_eq_false]
        intro y hy
        obtain ⟨j, hj⟩ := List.mem_iff_getElem?.1 hy
        rw [hall.out j y (by rw [hLh.out]; exact (List.getElem?_eq_some_iff.1 hj).1) hj]
        simp)
      go_wp2_with fail
      go_ret
      exact ⟨by rw [ht.out]; rfl, hS.out⟩
set_option maxRecDepth 100000 in
set_option maxHeartbeats 4000000 in
theorem rasked15_any (u v : Value) (l : List PM.Sb) (cs : List Int) (w : World) (hv : PM.SbL w u l) (hl : l.length ≤ 1000) (hc : PM.ES PM.iv w v cs) :
    Calls Tryz.prog 35 #[u, v] w fun e w' => ∃ u', e = .returned u' ∧ PM.FL w' u' (PM.allL l cs) ∧ Below w.heap.size w w' := by
  obtain ⟨ua, uc, hue⟩ := hv.len
  subst hue
  obtain ⟨L, hL⟩ : ∃ L, L = l.length := ⟨_, rfl⟩
  have hLh := PM.hid hL
  rw [← hL] at hv hl ⊢
  have hvh := PM.hid hv
  have hch := PM.hid hc
  clear hL hv hc
  go_enter Tryz.func35, Tryz.ntmps35
  go_wp2_with fail
  go_loopw [5, 6, 7] (fun s i _ wr => ∃ k : Nat, i = .int .i64 k ∧ k ≤ L ∧ Hid (PM.OR (PM.fE w) 1 28 w.heap.size wr s (PM.allL (l.take k) cs) ∧ Below w.heap.size w wr)) (fun _ i _ _ => L - (intOf i).toNat)
  case atStart => exact ⟨0, rfl, by omega, PM.hid ⟨PM.OR.nilrow _, Below.refl _ _⟩⟩
  case round =>
    obtain ⟨k, rfl, hk, hin⟩ := hrel
    obtain ⟨hO, hB⟩ := hin.out
    have hBB := PM.hid hB
    clear hin
    have hfl : (PM.allL (l.take k) cs).length ≤ k := Nat.le_trans (PM.allL_len _ _) (by rw [List.length_take]; omega)
    obtain ⟨out, hout⟩ : ∃ x, x = PM.allL (l.take k) cs := ⟨_, rfl⟩
    rw [← hout] at hO hfl
    have houth := PM.hid hout
    clear hout
    obtain ⟨ra, rc, hre⟩ := hO.rr.len
    subst hre
    obtain ⟨P, hP⟩ : ∃ P, P = out.length := ⟨_, rfl⟩
    rw [← hP] at hO hfl ⊢
    have hPh := PM.hid hP
    clear hP
    by_cases hlt : k < L
    · obtain ⟨z, hz⟩ : ∃ z, l[k]? = some z := ⟨l[k]'(by rw [← hLh.out]; exact hlt), List.getElem?_eq_getElem _⟩
      obtain ⟨b, off, hbe, hce⟩ := PM.RR.opn hvh.out (by rw [← hLh.out]; omega)
      subst hbe
      obtain ⟨cs', hl0, hR⟩ := hce k z hz
      obtain ⟨fa, fc, hcs, hzf⟩ := PM.sbR_open hR
      rw [hcs] at hl0
      obtain ⟨zF, hzF⟩ : ∃ P, P = z.fil.length := ⟨_, rfl⟩
      rw [← hzF] at hl0 hzf
      replace hl0 := hl0.keep hB
      have d0 : wr.cell? ⟨b, off + k * 3, none⟩ = some (.int .i64 z.cl) := hl0 0 _ rfl
      have d2 : wr.cell? ⟨b, off + k * 3 + 2, none⟩ = some (.slice fa zF fc) := hl0 2 _ rfl
      have hzh := PM.hid hz
      have zR := PM.hid hzf
      have hcc := in15_any v z.cl cs wr (hch.out.keep hB)
      clear hz hce hl0 hR hcs cs' hzf hzF hB
      cases heq : (cs.any fun y => decide (z.cl = y))
      · rw [heq] at hcc
        have hsk : Hid (PM.allL (l.take (k + 1)) cs = out) := PM.hid (by unfold PM.allL at houth ⊢; rw [PM.take_at hzh.out, List.filter_append, List.map_append, ← houth.out, List.filter_cons_of_neg (by show ¬ (cs.any fun y => decide (z.cl = y)) = true; rw [heq]; decide), List.filter_nil, List.map_nil, List.append_nil])
        clear heq
        go_wp2_with fail
        refine hcc.mono ?_
        rintro e w5 ⟨rfl, hBn⟩
        clear hcc d0 d2
        have hin2 := PM.hid (And.intro (PM.OR.keep (PM.fE_lasts w) hBn hO) (PM.chain hBB.out hBn))
        clear hBn hO
        go_wp2_with fail
        exact ⟨⟨k + 1, by go_num, by omega, PM.hid (by rw [hsk.out]; exact hin2.out)⟩, by simp only [intOf]; omega⟩
      · rw [heq] at hcc
        have hsk : Hid (PM.allL (l.take (k + 1)) cs = out ++ [z.fil]) := PM.hid (by unfold PM.allL at houth ⊢; rw [PM.take_at hzh.out, List.filter_append, List.map_append, ← houth.out, List.filter_cons_of_pos (by show (cs.any fun y => decide (z.cl = y)) = true; exact heq), List.filter_nil]; rfl)
        clear heq
        go_wp2_with fail
        refine hcc.mono ?_
        rintro e w5 ⟨rfl, hBn⟩
        clear hcc
        replace d0 := PM.cellA hBn d0
        replace d2 := PM.cellA hBn d2
        replace hO := PM.OR.keep (PM.fE_lasts w) hBn hO
        replace hBB := PM.hid (PM.chain hBB.out hBn)
        clear hBn
        have hl16 : (out.length + 1) * 24 ≤ 140737488355328 := by rw [← hPh.out]; omega
        have hl17 : out.length + 1 ≤ maxLen := by rw [← hPh.out]; unfold maxLen; omega
        have hsz := hBB.out.size
        have hRy : PM.fE w w5 (PM.c1 fa zF fc).1 z.fil := ⟨_, rfl, zR.out⟩
        rw [hPh.out] at hO
        go_wp2_with (at_builtin; rw [hPh.out]; go_loud (refine PM.wpList_or1 flTy (PM.fE_stays w _) (PM.fE_lasts w) w.heap.size w5 rfl _ _ rfl _ out z.fil (PM.c1 fa zF fc) _ rfl rfl rfl rfl hRy hO hl16 hl17 hsz ?_); intro v' w' t1 t2 t3; have hE := PM.hid (And.intro t1 (hBB.out.trans t2)); clear t1 t2 t3 hsz hO hRy d0 d2)
        exact ⟨⟨k + 1, by go_num, by omega, PM.hid (by rw [hsk.out]; exact hE.out)⟩, by simp only [intOf]; omega⟩
    · obtain rfl : k = L := by omega
      have hfin : Hid (out = PM.allL l cs) := PM.hid (by
        have := houth.out
        rw [hLh.out, List.take_length] at this
        exact this)
      have hOh := PM.hid hO
      clear hO hB
      go_wp2_with fail
      go_ret
      refine ⟨_, rfl, ?_, hBB.out⟩
      rw [← hfin.out]
      exact hOh.out.rr.imp fun cs x h => PM.fR_lasts _ _ _ _ hBB.out h
set_option maxRecDepth 100000 in
set_option maxHeartbeats 4000000 in
theorem rmatched15_any (fv v : Value) (ls : List (List PM.Te)) (l : List (List PM.At)) (w : World) (hf : PM.FL w fv ls) (hv : PM.EVL w v l) (hl : l.length ≤ 1000) (hse : ∀ e ∈ l, ∀ x ∈ e, x.s.size ≤ maxLen) (hsl : ∀ x ∈ ls, PM.szT x) :
    Calls Tryz.prog 39 #[fv, v] w fun e w' => ∃ u, e = .returned u ∧ PM.OR (PM.evE w) 1 55 w.heap.size w' u (l.filter (PM.anyM ls)) ∧ Below w.heap.size w w' := by
  obtain ⟨ad, cap, hve⟩ := hv.len
  subst hve
  obtain ⟨L, hL⟩ : ∃ L, L = l.length := ⟨_, rfl⟩
  have hLh := PM.hid hL
  rw [← hL] at hv hl ⊢
  have hvh := PM.hid hv
  have hfh := PM.hid hf
  have hsh := PM.hid (And.intro hse hsl)
  clear hL hv hf hse hsl
  go_enter Tryz.func39, Tryz.ntmps39
  go_wp2_with fail
  go_loopw [5, 6, 7] (fun s i _ wr => ∃ k : Nat, i = .int .i64 k ∧ k ≤ L ∧ Hid (PM.OR (PM.evE w) 1 55 w.heap.size wr s ((l.take k).filter (PM.anyM ls)) ∧ Below w.heap.size w wr)) (fun _ i _ _ => L - (intOf i).toNat)
  case atStart => exact ⟨0, rfl, by omega, PM.hid ⟨PM.OR.nilrow _, Below.refl _ _⟩⟩
  case round =>
    obtain ⟨k, rfl, hk, hin⟩ := hrel
    obtain ⟨hO, hB⟩ := hin.out
    have hBB := PM.hid hB
    clear hin
    have hfl : ((l.take k).filter (PM.anyM ls)).length ≤ k := Nat.le_trans (List.length_filter_le _ _) (by rw [List.length_take]; omega)
    obtain ⟨out, hout⟩ : ∃ x, x = (l.take k).filter (PM.anyM ls) := ⟨_, rfl⟩
    rw [← hout] at hO hfl
    have houth := PM.hid hout
    clear hout
    obtain ⟨ra, rc, hre⟩ := hO.rr.len
    subst hre
    obtain ⟨P, hP⟩ : ∃ P, P = out.length := ⟨_, rfl⟩
    rw [← hP] at hO hfl ⊢
    have hPh := PM.hid hP
    clear hP
    by_cases hlt : k < L
    · obtain ⟨z, hz⟩ : ∃ z, l[k]? = some z := ⟨l[k]'(by rw [← hLh.out]; exact hlt), List.getElem?_eq_getElem _⟩
      obtain ⟨b, off, hbe, hce⟩ := PM.RR.opn hvh.out (by rw [← hLh.out]; omega)
      subst hbe
      obtain ⟨cs, hl0, zv, hcs, hzv⟩ := hce k z hz
      have hzv2 := hzv
      obtain ⟨za, zc, hze, -⟩ := hzv2
      subst hze
      rw [hcs] at hl0
      obtain ⟨zN, hzN⟩ : ∃ P, P = z.length := ⟨_, rfl⟩
      rw [← hzN] at hl0 hzv
      replace hl0 := hl0.keep hB
      have d0 : wr.cell? ⟨b, off + k, none⟩ = some (.slice za zN zc) := by have := hl0 0 _ rfl; simpa using this
      have hzh := PM.hid hz
      have zR := PM.hid hzv
      have hcc := rcany_any fv (.slice za zN zc) ls z wr (PM.FL.keep hB hfh.out) (hzv.keep hB) (hsh.out.1 z (List.mem_of_getElem? hz)) hsh.out.2
      rw [show (ls.any fun x => PM.matchB x z) = PM.anyM ls z from rfl] at hcc
      clear hz hce hl0 hcs cs hzv hzN hB
      cases heq : PM.anyM ls z
      · rw [heq] at hcc
        have hsk : Hid ((l.take (k + 1)).filter (PM.anyM ls) = out) := PM.hid (by rw [PM.take_at hzh.out, List.filter_append, ← houth.out, List.filter_cons_of_neg (by rw [heq]; decide), List.filter_nil, List.append_nil])
        clear heq
        go_wp2_with fail
        refine hcc.mono ?_
        rintro e w5 ⟨rfl, hBn⟩
        clear hcc d0
        have hin2 := PM.hid (And.intro (PM.OR.keep (PM.evE_lasts w) hBn hO) (PM.chain hBB.out hBn))
        clear hBn hO
        go_wp2_with fail
        exact ⟨⟨k + 1, by go_num, by omega, PM.hid (by rw [hsk.out]; exact hin2.out)⟩, by simp only [intOf]; omega⟩
      · rw [heq] at hcc
        have hsk : Hid ((l.take (k + 1)).filter (PM.anyM ls) = out ++ [z]) := PM.hid (by rw [PM.take_at hzh.out, List.filter_append, ← houth.out, List.filter_cons_of_pos heq, List.filter_nil])
        clear heq
        go_wp2_with fail
        refine hcc.mono ?_
        rintro e w5 ⟨rfl, hBn⟩
        clear hcc
        replace d0 := PM.cellA hBn d0
        replace hO := PM.OR.keep (PM.evE_lasts w) hBn hO
        replace hBB := PM.hid (PM.chain hBB.out hBn)
        clear hBn
        have hl16 : (out.length + 1) * 24 ≤ 140737488355328 := by rw [← hPh.out]; omega
        have hl17 : out.length + 1 ≤ maxLen := by rw [← hPh.out]; unfold maxLen; omega
        have hsz := hBB.out.size
        have hRy : PM.evE w w5 (PM.c1 za zN zc).1 z := ⟨_, rfl, zR.out⟩
        rw [hPh.out] at hO
        go_wp2_with (at_builtin; rw [hPh.out]; go_loud (refine PM.wpList_or1 tyEvO (PM.evE_stays w _) (PM.evE_lasts w) w.heap.size w5 rfl _ _ rfl _ out z (PM.c1 za zN zc) _ rfl rfl rfl rfl hRy hO hl16 hl17 hsz ?_); intro v' w' t1 t2 t3; have hE := PM.hid (And.intro t1 (hBB.out.trans t2)); clear t1 t2 t3 hsz hO hRy d0)
        exact ⟨⟨k + 1, by go_num, by omega, PM.hid (by rw [hsk.out]; exact hE.out)⟩, by simp only [intOf]; omega⟩
    · obtain rfl : k = L := by omega
      have hfin : Hid (out = l.filter (PM.anyM ls)) := PM.hid (by
        have := houth.out
        rw [hLh.out, List.take_length] at this
        exact this)
      have hOh := PM.hid hO
      clear hO hB
      go_wp2_with fail
      go_ret
      exact ⟨_, rfl, by rw [← hfin.out]; exact hOh.out, hBB.out⟩
end Go.Proofs.YtnpbfjkfbobgaaaGreat

/-
  postilionref15.Filters, Batch.
-/
namespace Go.Proofs.YtnpbfjkfbobgaaaGreat
open Go.RowKit
set_option linter.unusedVariables false
set_option linter.unusedSimpArgs false
set_option maxHeartbeats 4000000 in
theorem rFilters15_any (u v : Value) (l : List PM.Sb) (cs : List Int) (w : World) (hv : PM.SbL w u l) (hl : l.length ≤ 30) (hs : ∀ x ∈ l, PM.szT x.fil) (hc : PM.ES PM.iv w v cs) :
    Calls Tryz.prog 12 #[u, v] w fun e w' => ∃ u', e = .returned u' ∧ PM.FL w' u' (PM.redL (PM.allL l cs)) ∧ Below w.heap.size w w' := by
  have h := rasked15_any u v l cs w hv (by omega) hc
  have h30 := PM.hid (Nat.le_trans (PM.allL_len l cs) hl)
  have hsz : Hid (∀ f ∈ PM.allL l cs, PM.szT f) := PM.hid (fun f hf => by obtain ⟨x, hx, rfl, -⟩ := PM.allL_mem hf; exact hs x hx)
  clear hv hl hs hc
  go_enter Tryz.func12, Tryz.ntmps12
  go_wp2_with fail
  refine h.mono ?_
  clear h
  rintro e w1 ⟨u1, rfl, h1, hb⟩
  have hbh := PM.hid hb
  have hcc := rreduce_any u1 (PM.allL l cs) w1 h1 h30.out hsz.out
  clear h1 hb
  go_wp2_with fail
  refine hcc.mono ?_
  clear hcc
  rintro e w2 ⟨u2, rfl, h2, hb⟩
  have hend := PM.hid (And.intro (PM.RR.toF hb h2.rr) (PM.chain hbh.out hb))
  clear h2 hb
  go_wp2_with fail
  go_ret
  exact ⟨_, rfl, hend.out.1, hend.out.2⟩
set_option maxRecDepth 100000 in
set_option maxHeartbeats 16000000 in
theorem rbatch15_any (u : Value) (c : Int) (l : List PM.Sb) (kd ib : Int) (il is : Nat) (cl : Int) (sub : Nat) (fil : List PM.Te) (evs : List (List PM.At)) (fa : Option Addr) (F fc : Nat) (ea : Option Addr) (L ec : Nat) (w : World) (hL : L = evs.length) (hv : PM.SbL w u l) (hl : l.length ≤ 1000) (he : PM.EVL w (.slice ea L ec) evs) (hs : evs.length ≤ 1000) (hse : ∀ e ∈ evs, ∀ x ∈ e, x.s.size ≤ maxLen) (hsl : ∀ x ∈ l, PM.szT x.fil) :
    Calls Tryz.prog 18 #[u, .int .i64 c, .agg #[.int .i64 kd, .int .i64 ib, .int .u64 (il : Int), .int .u64 (is : Int), .int .i64 cl, .int .u64 (sub : Int), .slice fa F fc, .slice ea L ec]] w fun e w' => ∃ u', e = .returned u' ∧ PM.EVL w' u' (PM.batchL l c ⟨kd, ⟨ib, il, is⟩, cl, sub, fil, evs⟩) ∧ Below w.heap.size w w' := by
  have Lh := PM.hid hL
  have hvh := PM.hid hv
  have hlh := PM.hid hl
  have hfe := PM.hid he
  have hsz := PM.hid (And.intro hs (And.intro hse hsl))
  clear hL hv hl he hs hse hsl
  obtain ⟨gx, hgx⟩ : ∃ g, g = w.heap.size := ⟨_, rfl⟩
  obtain ⟨w1, hw1⟩ : ∃ W, W = w.alloc (.cells #[.int .i64 kd, .int .i64 ib, .int .u64 (il : Int), .int .u64 (is : Int), .int .i64 cl, .int .u64 (sub : Int), .slice fa F fc, .slice ea L ec] 31) := ⟨_, rfl⟩
  have hal : Below w.heap.size w w1 := by rw [hw1]; exact (Below.refl _ _).alloc (Nat.le_refl _) _
  have kx : PM.BK w1 gx #[.int .i64 kd, .int .i64 ib, .int .u64 (il : Int), .int .u64 (is : Int), .int .i64 cl, .int .u64 (sub : Int), .slice fa F fc, .slice ea L ec] 31 := by rw [hw1, hgx]; exact PM.BK.new _ _ _
  have hBB := PM.hid hal
  have kxh := PM.hid kx
  clear hal
  go_enter Tryz.func18, Tryz.ntmps18
  go_upto_region 1 with fail
  rw [← hw1, ← hgx]
  clear hw1 hgx
  have c0 : w1.cell? ⟨gx, 0, none⟩ = some (.int .i64 kd) := kx.cell 0
  have c1 : w1.cell? ⟨gx, 1, none⟩ = some (.int .i64 ib) := kx.cell 1
  have c2 : w1.cell? ⟨gx, 2, none⟩ = some (.int .u64 (il : Int)) := kx.cell 2
  have c3 : w1.cell? ⟨gx, 3, none⟩ = some (.int .u64 (is : Int)) := kx.cell 3
  have c4 : w1.cell? ⟨gx, 4, none⟩ = some (.int .i64 cl) := kx.cell 4
  have c5 : w1.cell? ⟨gx, 5, none⟩ = some (.int .u64 (sub : Int)) := kx.cell 5
  have c6 : w1.cell? ⟨gx, 6, none⟩ = some (.slice fa F fc) := kx.cell 6
  have c7 : w1.cell? ⟨gx, 7, none⟩ = some (.slice ea L ec) := kx.cell 7
  clear kx
  by_cases hk1 : kd = 1
  · have hbt : Hid ((evs.filter (PM.anyM (PM.allL l [c]))) = PM.batchL l c ⟨kd, ⟨ib, il, is⟩, cl, sub, fil, evs⟩) := PM.hid (by unfold PM.batchL; rw [if_pos hk1])
    have q1 : ((kd : Int) != 1) = false := by simp [hk1]
    clear hk1
    go_upto_region 3 with fail
    clear c0 c1 c2 c3 c4 c5 c6 c7 q1
    refine PM.wp_region_st [some 10, some 11, some 12, some 13, some 14, some 15, some 16, some 6] [fun vq _ => vq = u, fun vq _ => vq = .int .i64 c, fun v W => PM.L1 c v W, fun v W => PM.FL W v (PM.allL l [c]), fun vq _ => vq = .pointer (some ⟨gx, 7, none⟩), fun vq _ => vq = .slice ea L ec, fun v W => PM.EVL W v (evs.filter (PM.anyM (PM.allL l [c]))), fun v W => PM.EVL W v (evs.filter (PM.anyM (PM.allL l [c])))] (by kernel_rfl) (by kernel_rfl) (by kernel_rfl) ?_ ?_ ?_
    · simp only [List.forall_mem_cons]
      refine ⟨?_, ?_, ?_, ?_, ?_, ?_, ?_, ?_, by simp⟩
      all_goals (intro vq W W' h hb; first | exact h | exact PM.BS.keep hb h | exact PM.OW.keep hb h | exact PM.FL.keep hb h | exact PM.EVL.keepO hb h | (obtain ⟨a1, a2, h1, h2⟩ := h; exact ⟨a1, a2, h1, h2.keep hb⟩))
    · refine ⟨?_, ?_, ?_, ?_, ?_, ?_, ?_, ?_, trivial⟩
      all_goals
        intro a W hB hF hd
        have k0 := hF 0 rfl
        have k1 := hF 1 rfl
        have k5 := hF 5 rfl
        have hBW := PM.chain hBB.out hB
        have x0 : W.cell? ⟨gx, 0, none⟩ = some (.int .i64 kd) := (kxh.out.keep hB).cell 0
        have x1 : W.cell? ⟨gx, 1, none⟩ = some (.int .i64 ib) := (kxh.out.keep hB).cell 1
        have x2 : W.cell? ⟨gx, 2, none⟩ = some (.int .u64 (il : Int)) := (kxh.out.keep hB).cell 2
        have x3 : W.cell? ⟨gx, 3, none⟩ = some (.int .u64 (is : Int)) := (kxh.out.keep hB).cell 3
        have x4 : W.cell? ⟨gx, 4, none⟩ = some (.int .i64 cl) := (kxh.out.keep hB).cell 4
        have x5 : W.cell? ⟨gx, 5, none⟩ = some (.int .u64 (sub : Int)) := (kxh.out.keep hB).cell 5
        have x6 : W.cell? ⟨gx, 6, none⟩ = some (.slice fa F fc) := (kxh.out.keep hB).cell 6
        have x7 : W.cell? ⟨gx, 7, none⟩ = some (.slice ea L ec) := (kxh.out.keep hB).cell 7
        clear hF
        simp [PM.depsL, PM.spec, PM.sl, Region.binds] at hd k0 k1 k5
        simp only [PM.wantL, PM.spec]
        try simp only [PM.sl]
        go_simp
      all_goals try exact Below.refl _ _
      · have hlit := PM.ES.lit (e := PM.iv) W 3 [c] (by simp [maxLen])
        have hb : Below W.heap.size W (W.alloc (.cells #[.int .i64 c] 3)) := (Below.refl _ _).alloc (Nat.le_refl _) _
        have hL1 : PM.L1 c (.slice (some ⟨W.heap.size, 0, none⟩) 1 1) (W.alloc (.cells #[.int .i64 c] 3)) := ⟨_, _, rfl, hlit⟩
        first | exact ⟨hb, _, rfl, hL1⟩ | exact ⟨hb, hL1⟩
      · have hd9 := hd.2
        obtain ⟨a, d, hd2, hd3⟩ := hd9
        rw [hd2] at hd3
        simp only [hd2]
        refine (rasked15_any u (.slice a 1 d) l [c] W (PM.SbL.keep hvh.out hBW) hlh.out hd3).mono ?_
        rintro e w' ⟨u', rfl, h1, hb⟩
        first | exact ⟨hb, h1⟩ | exact ⟨hb, _, rfl, h1⟩
      · refine (rmatched15_any _ (.slice ea L ec) (PM.allL l [c]) evs W (by first | exact hd.1 | exact hd) (PM.EVL.keepO hBW hfe.out) hsz.out.1 hsz.out.2.1 (fun f hf => by obtain ⟨y, hy, rfl, -⟩ := PM.allL_mem hf; exact hsz.out.2.2 y hy)).mono ?_
        rintro e w' ⟨u', rfl, h1, hb⟩
        have h1' : PM.EVL w' u' _ := h1.rr.imp fun cs x h => PM.evR_lasts _ _ _ _ hb h
        first | exact ⟨hb, h1'⟩ | exact ⟨hb, _, rfl, h1'⟩
      · first | exact ⟨Below.refl _ _, _, rfl, hd.1⟩ | exact ⟨Below.refl _ _, hd.1⟩ | exact ⟨Below.refl _ _, hd⟩ | exact ⟨Below.refl _ _, _, rfl, hd⟩ | exact hd
    · intro G W hB hF hS
      simp [PM.allSp, PM.spec] at hS
      have h6 : PM.EVL W (G 6) (evs.filter (PM.anyM (PM.allL l [c]))) := hS.2.2.2.2.2.2.2
      clear hS
      have k0 := hF 0 rfl
      have k1 := hF 1 rfl
      have k2 := hF 2 rfl
      have k3 := hF 3 rfl
      have k4 := hF 4 rfl
      have k5 := hF 5 rfl
      have k7 := hF 7 rfl
      have k8 := hF 8 rfl
      have k9 := hF 9 rfl
      simp [PM.sl] at k0 k1 k2 k3 k4 k5 k7 k8 k9
      rw [show ((List.range (Array.size _)).map G).toArray = #[G 0, G 1, G 2, G 3, G 4, G 5, G 6, G 7, G 8, G 9, G 10, G 11, G 12, G 13, G 14, G 15, G 16] from rfl]
      clear hF
      obtain ⟨v6, hv6⟩ : ∃ v, v = G 6 := ⟨_, rfl⟩
      rw [← hv6] at h6
      rw [← hv6, k0, k1, k2, k3, k4, k5, k7, k8, k9]
      clear hv6 k0 k1 k2 k3 k4 k5 k7 k8 k9
      have hend := PM.hid (And.intro h6 (PM.chain hBB.out hB))
      clear h6 hB
      go_wp2_with fail
      go_ret
      exact ⟨_, rfl, by rw [← hbt.out]; exact hend.out.1, hend.out.2⟩
  · have hbt : Hid (([] : List (List PM.At)) = PM.batchL l c ⟨kd, ⟨ib, il, is⟩, cl, sub, fil, evs⟩) := PM.hid (by unfold PM.batchL; rw [if_neg hk1])
    have q1 : ((kd : Int) != 1) = true := by simp [hk1]
    clear hk1
    go_wp2_with fail
    go_ret
    exact ⟨_, rfl, by rw [← hbt.out]; exact PM.RR.nil _, hBB.out⟩
end Go.Proofs.YtnpbfjkfbobgaaaGreat

/-
  postilionref15.matched with readings of an elder world; Cut.
-/
namespace Go.Proofs.YtnpbfjkfbobgaaaGreat
open Go.RowKit
set_option linter.unusedVariables false
set_option linter.unusedSimpArgs false
set_option maxRecDepth 100000 in
set_option maxHeartbeats 4000000 in
theorem rmatched15b_any (fv v : Value) (ls : List (List PM.Te)) (l : List (List PM.At)) (w0 w : World) (h0 : Below w0.heap.size w0 w) (hf : PM.FL w fv ls) (hv : PM.EVL w0 v l) (hl : l.length ≤ 1000) (hse : ∀ e ∈ l, ∀ x ∈ e, x.s.size ≤ maxLen) (hsl : ∀ x ∈ ls, PM.szT x) :
    Calls Tryz.prog 39 #[fv, v] w fun e w' => ∃ u, e = .returned u ∧ PM.OR (PM.evE w0) 1 55 w.heap.size w' u (l.filter (PM.anyM ls)) ∧ Below w.heap.size w w' := by
  obtain ⟨ad, cap, hve⟩ := hv.len
  subst hve
  obtain ⟨L, hL⟩ : ∃ L, L = l.length := ⟨_, rfl⟩
  have hLh := PM.hid hL
  rw [← hL] at hv hl ⊢
  have hvh := PM.hid hv
  have hfh := PM.hid hf
  have h0h := PM.hid h0
  clear h0
  have hsh := PM.hid (And.intro hse hsl)
  clear hL hv hf hse hsl
  go_enter Tryz.func39, Tryz.ntmps39
  go_wp2_with fail
  go_loopw [5, 6, 7] (fun s i _ wr => ∃ k : Nat, i = .int .i64 k ∧ k ≤ L ∧ Hid (PM.OR (PM.evE w0) 1 55 w.heap.size wr s ((l.take k).filter (PM.anyM ls)) ∧ Below w.heap.size w wr)) (fun _ i _ _ => L - (intOf i).toNat)
  case atStart => exact ⟨0, rfl, by omega, PM.hid ⟨PM.OR.nilrow _, Below.refl _ _⟩⟩
  case round =>
    obtain ⟨k, rfl, hk, hin⟩ := hrel
    obtain ⟨hO, hB⟩ := hin.out
    have hBB := PM.hid hB
    clear hin
    have hfl : ((l.take k).filter (PM.anyM ls)).length ≤ k := Nat.le_trans (List.length_filter_le _ _) (by rw [List.length_take]; omega)
    obtain ⟨out, hout⟩ : ∃ x, x = (l.take k).filter (PM.anyM ls) := ⟨_, rfl⟩
    rw [← hout] at hO hfl
    have houth := PM.hid hout
    clear hout
    obtain ⟨ra, rc, hre⟩ := hO.rr.len
    subst hre
    obtain ⟨P, hP⟩ : ∃ P, P = out.length := ⟨_, rfl⟩
    rw [← hP] at hO hfl ⊢
    have hPh := PM.hid hP
    clear hP
    by_cases hlt : k < L
    · obtain ⟨z, hz⟩ : ∃ z, l[k]? = some z := ⟨l[k]'(by rw [← hLh.out]; exact hlt), List.getElem?_eq_getElem _⟩
      obtain ⟨b, off, hbe, hce⟩ := PM.RR.opn hvh.out (by rw [← hLh.out]; omega)
      subst hbe
      obtain ⟨cs, hl0, zv, hcs, hzv⟩ := hce k z hz
      have hzv2 := hzv
      obtain ⟨za, zc, hze, -⟩ := hzv2
      subst hze
      rw [hcs] at hl0
      obtain ⟨zN, hzN⟩ : ∃ P, P = z.length := ⟨_, rfl⟩
      rw [← hzN] at hl0 hzv
      replace hl0 := hl0.keep (PM.chain h0h.out hB)
      have d0 : wr.cell? ⟨b, off + k, none⟩ = some (.slice za zN zc) := by have := hl0 0 _ rfl; simpa using this
      have hzh := PM.hid hz
      have zR := PM.hid hzv
      have hcc := rcany_any fv (.slice za zN zc) ls z wr (PM.FL.keep hB hfh.out) (hzv.keep (PM.chain h0h.out hB)) (hsh.out.1 z (List.mem_of_getElem? hz)) hsh.out.2
      rw [show (ls.any fun x => PM.matchB x z) = PM.anyM ls z from rfl] at hcc
      clear hz hce hl0 hcs cs hzv hzN hB
      cases heq : PM.anyM ls z
      · rw [heq] at hcc
        have hsk : Hid ((l.take (k + 1)).filter (PM.anyM ls) = out) := PM.hid (by rw [PM.take_at hzh.out, List.filter_append, ← houth.out, List.filter_cons_of_neg (by rw [heq]; decide), List.filter_nil, List.append_nil])
        clear heq
        go_wp2_with fail
        refine hcc.mono ?_
        rintro e w5 ⟨rfl, hBn⟩
        clear hcc d0
        have hin2 := PM.hid (And.intro (PM.OR.keep (PM.evE_lasts w0) hBn hO) (PM.chain hBB.out hBn))
        clear hBn hO
        go_wp2_with fail
        exact ⟨⟨k + 1, by go_num, by omega, PM.hid (by rw [hsk.out]; exact hin2.out)⟩, by simp only [intOf]; omega⟩
      · rw [heq] at hcc
        have hsk : Hid ((l.take (k + 1)).filter (PM.anyM ls) = out ++ [z]) := PM.hid (by rw [PM.take_at hzh.out, List.filter_append, ← houth.out, List.filter_cons_of_pos heq, List.filter_nil])
        clear heq
        go_wp2_with fail
        refine hcc.mono ?_
        rintro e w5 ⟨rfl, hBn⟩
        clear hcc
        replace d0 := PM.cellA hBn d0
        replace hO := PM.OR.keep (PM.evE_lasts w0) hBn hO
        replace hBB := PM.hid (PM.chain hBB.out hBn)
        clear hBn
        have hl16 : (out.length + 1) * 24 ≤ 140737488355328 := by rw [← hPh.out]; omega
        have hl17 : out.length + 1 ≤ maxLen := by rw [← hPh.out]; unfold maxLen; omega
        have hsz := hBB.out.size
        have hRy : PM.evE w0 w5 (PM.c1 za zN zc).1 z := ⟨_, rfl, zR.out⟩
        rw [hPh.out] at hO
        go_wp2_with (at_builtin; rw [hPh.out]; go_loud (refine PM.wpList_or1 tyEvO (PM.evE_stays w0 _) (PM.evE_lasts w0) w.heap.size w5 rfl _ _ rfl _ out z (PM.c1 za zN zc) _ rfl rfl rfl rfl hRy hO hl16 hl17 hsz ?_); intro v' w' t1 t2 t3; have hE := PM.hid (And.intro t1 (hBB.out.trans t2)); clear t1 t2 t3 hsz hO hRy d0)
        exact ⟨⟨k + 1, by go_num, by omega, PM.hid (by rw [hsk.out]; exact hE.out)⟩, by simp only [intOf]; omega⟩
    · obtain rfl : k = L := by omega
      have hfin : Hid (out = l.filter (PM.anyM ls)) := PM.hid (by
        have := houth.out
        rw [hLh.out, List.take_length] at this
        exact this)
      have hOh := PM.hid hO
      clear hO hB
      go_wp2_with fail
      go_ret
      exact ⟨_, rfl, by rw [← hfin.out]; exact hOh.out, hBB.out⟩
set_option maxRecDepth 100000 in
set_option maxHeartbeats 16000000 in
theorem rcut15_any (u : Value) (ca : Option Addr) (cn cc : Nat) (l : List PM.Sb) (cs : List Int) (kd ib : Int) (il is : Nat) (cl : Int) (sub : Nat) (fil : List PM.Te) (evs : List (List PM.At)) (fa : Option Addr) (F fc : Nat) (ea : Option Addr) (L ec : Nat) (w : World) (hF : F = fil.length) (hL : L = evs.length) (hv : PM.SbL w u l) (hl : l.length ≤ 30) (hls : ∀ x ∈ l, PM.szT x.fil) (hc : PM.ES PM.iv w (.slice ca cn cc) cs) (hf : PM.TV w (.slice fa F fc) fil) (he : PM.EVL w (.slice ea L ec) evs) (hs : evs.length ≤ 1000) (hse : ∀ e ∈ evs, ∀ x ∈ e, x.s.size ≤ maxLen) :
    Calls Tryz.prog 15 #[u, .slice ca cn cc, .agg #[.int .i64 kd, .int .i64 ib, .int .u64 (il : Int), .int .u64 (is : Int), .int .i64 cl, .int .u64 (sub : Int), .slice fa F fc, .slice ea L ec]] w fun e w' => ∃ ev, e = .returned (.agg (PM.enC (PM.cutE (PM.redL (PM.allL l cs)) ⟨kd, ⟨ib, il, is⟩, cl, sub, fil, evs⟩) (.slice fa F fc) ev).toArray) ∧ PM.EVL w' ev (PM.cutE (PM.redL (PM.allL l cs)) ⟨kd, ⟨ib, il, is⟩, cl, sub, fil, evs⟩).evs ∧ Below w.heap.size w w' := by
  have hFh := PM.hid hF
  have Lh := PM.hid hL
  obtain ⟨M, hM⟩ : ∃ M, M = (evs.filter (PM.anyM (PM.redL (PM.allL l cs)))).length := ⟨_, rfl⟩
  have hMh := PM.hid hM
  have Mh := PM.hid hM
  have hvh := PM.hid hv
  have hlh := PM.hid (And.intro hl hls)
  have hch := PM.hid hc
  have hfe := PM.hid (And.intro hf he)
  have hsz := PM.hid (And.intro hs hse)
  clear hF hL hM hv hl hls hc hf he hs hse
  obtain ⟨gx, hgx⟩ : ∃ g, g = w.heap.size := ⟨_, rfl⟩
  obtain ⟨gz, hgz⟩ : ∃ g, g = w.heap.size + 1 := ⟨_, rfl⟩
  obtain ⟨w1, hw1⟩ : ∃ W, W = w.alloc (.cells #[.int .i64 kd, .int .i64 ib, .int .u64 (il : Int), .int .u64 (is : Int), .int .i64 cl, .int .u64 (sub : Int), .slice fa F fc, .slice ea L ec] 31) := ⟨_, rfl⟩
  obtain ⟨w2, hw2⟩ : ∃ W, W = w1.alloc (.cells #[.int .i64 0, .int .i64 0, .int .u64 0, .int .u64 0, .int .i64 0, .int .u64 0, .slice none 0 0, .slice none 0 0] 31) := ⟨_, rfl⟩
  have hs1 : w1.heap.size = w.heap.size + 1 := by rw [hw1]; simp
  have hal : Below w.heap.size w w1 := by rw [hw1]; exact (Below.refl _ _).alloc (Nat.le_refl _) _
  have hal2 : Below w1.heap.size w1 w2 := by rw [hw2]; exact (Below.refl _ _).alloc (Nat.le_refl _) _
  have kx : PM.BK w1 gx #[.int .i64 kd, .int .i64 ib, .int .u64 (il : Int), .int .u64 (is : Int), .int .i64 cl, .int .u64 (sub : Int), .slice fa F fc, .slice ea L ec] 31 := by rw [hw1, hgx]; exact PM.BK.new _ _ _
  replace kx := kx.keep hal2
  have kz : PM.BK w2 gz #[.int .i64 0, .int .i64 0, .int .u64 0, .int .u64 0, .int .i64 0, .int .u64 0, .slice none 0 0, .slice none 0 0] 31 := by rw [hw2, hgz, ← hs1]; exact PM.BK.new _ _ _
  have hne : gx ≠ gz := by omega
  have hgwx : w.heap.size ≤ gx := by omega
  have hgwz : w.heap.size ≤ gz := by omega
  have hBB := PM.hid (PM.chain hal hal2)
  clear hal hal2 hs1
  go_enter Tryz.func15, Tryz.ntmps15
  go_upto_region 1 with fail
  rw [← hw1, ← hw2, ← hgz, ← hgx]
  clear hw1 hw2 hgx hgz
  by_cases hk1 : kd = 1
  · have hcut : Hid ((⟨kd, ⟨ib, il, is⟩, cl, sub, fil, (evs.filter (PM.anyM (PM.redL (PM.allL l cs))))⟩ : PM.En) = PM.cutE (PM.redL (PM.allL l cs)) ⟨kd, ⟨ib, il, is⟩, cl, sub, fil, evs⟩) := PM.hid (by unfold PM.cutE; rw [if_pos hk1])
    have q1 : ((kd : Int) == 1) = true := by simp [hk1]
    clear hk1
    have kxh := PM.hid kx
    have kzh := PM.hid kz
    have c0 : w2.cell? ⟨gx, 0, none⟩ = some (.int .i64 kd) := kx.cell 0
    have c1 : w2.cell? ⟨gx, 1, none⟩ = some (.int .i64 ib) := kx.cell 1
    have c2 : w2.cell? ⟨gx, 2, none⟩ = some (.int .u64 (il : Int)) := kx.cell 2
    have c3 : w2.cell? ⟨gx, 3, none⟩ = some (.int .u64 (is : Int)) := kx.cell 3
    have c4 : w2.cell? ⟨gx, 4, none⟩ = some (.int .i64 cl) := kx.cell 4
    have c5 : w2.cell? ⟨gx, 5, none⟩ = some (.int .u64 (sub : Int)) := kx.cell 5
    have c6 : w2.cell? ⟨gx, 6, none⟩ = some (.slice fa F fc) := kx.cell 6
    have c7 : w2.cell? ⟨gx, 7, none⟩ = some (.slice ea L ec) := kx.cell 7
    clear kx kz
    go_upto_region 2 with fail
    clear c0 c1 c2 c3 c4 c5 c6 c7 q1
    refine PM.wp_region_st2 7 [some 10, some 11, some 12, some 13, some 14, some 15, some 16, none] [fun vq _ => vq = u, fun vq _ => vq = .slice ca cn cc, fun v W => PM.FL W v (PM.redL (PM.allL l cs)), fun vq _ => vq = .pointer (some ⟨gx, 7, none⟩), fun vq _ => vq = .slice ea L ec, fun v W => ∃ ta tc, v = .slice ta M tc ∧ PM.OR (PM.evE w) 1 55 w2.heap.size W (.slice ta M tc) (evs.filter (PM.anyM (PM.redL (PM.allL l cs)))), fun vq _ => vq = .pointer (some ⟨gx, 7, none⟩)] (by kernel_rfl) (by kernel_rfl) (by kernel_rfl) (by kernel_rfl) (by kernel_rfl) (of_decide_eq_true (by kernel_rfl)) (by kernel_rfl) ?_ ?_ ?_
    · simp only [List.forall_mem_cons]
      refine ⟨?_, ?_, ?_, ?_, ?_, ?_, ?_, by simp⟩
      all_goals (intro vq W W' h hb; first | exact h | exact PM.BS.keep hb h | exact PM.OW.keep hb h | exact PM.FL.keep hb h | (obtain ⟨a1, a2, h1, h2⟩ := h; exact ⟨a1, a2, h1, PM.OR.keep (PM.evE_lasts w) hb h2⟩))
    · refine ⟨?_, ?_, ?_, ?_, ?_, ?_, ?_, trivial⟩
      all_goals
        intro a W hB hF hd
        have k0 := hF 0 rfl
        have k1 := hF 1 rfl
        have k5 := hF 5 rfl
        have hBW := PM.chain hBB.out hB
        have x0 : W.cell? ⟨gx, 0, none⟩ = some (.int .i64 kd) := (kxh.out.keep hB).cell 0
        have x1 : W.cell? ⟨gx, 1, none⟩ = some (.int .i64 ib) := (kxh.out.keep hB).cell 1
        have x2 : W.cell? ⟨gx, 2, none⟩ = some (.int .u64 (il : Int)) := (kxh.out.keep hB).cell 2
        have x3 : W.cell? ⟨gx, 3, none⟩ = some (.int .u64 (is : Int)) := (kxh.out.keep hB).cell 3
        have x4 : W.cell? ⟨gx, 4, none⟩ = some (.int .i64 cl) := (kxh.out.keep hB).cell 4
        have x5 : W.cell? ⟨gx, 5, none⟩ = some (.int .u64 (sub : Int)) := (kxh.out.keep hB).cell 5
        have x6 : W.cell? ⟨gx, 6, none⟩ = some (.slice fa F fc) := (kxh.out.keep hB).cell 6
        have x7 : W.cell? ⟨gx, 7, none⟩ = some (.slice ea L ec) := (kxh.out.keep hB).cell 7
        clear hF
        simp [PM.depsL, PM.spec, PM.sl, Region.binds] at hd k0 k1 k5
        simp only [PM.wantL, PM.spec]
        try simp only [PM.sl]
        go_simp
      all_goals try exact Below.refl _ _
      · refine (rFilters15_any u (.slice ca cn cc) l cs W (PM.SbL.keep hvh.out hBW) hlh.out.1 hlh.out.2 (hch.out.keep hBW)).mono ?_
        rintro e w' ⟨u', rfl, h1, hb⟩
        first | exact ⟨hb, h1⟩ | exact ⟨hb, _, rfl, h1⟩
      · refine (rmatched15b_any _ (.slice ea L ec) (PM.redL (PM.allL l cs)) evs w W hBW (by first | exact hd.1 | exact hd) hfe.out.2 hsz.out.1 hsz.out.2 (fun f hf => by obtain ⟨y, hy, rfl, -⟩ := PM.allL_mem (PM.redL_mem hf); exact hlh.out.2 y hy)).mono ?_
        rintro e w' ⟨u', rfl, h1, hb⟩
        have h1' := PM.OR.mono hB.size h1
        obtain ⟨ta, tc, hte⟩ := h1'.rr.len
        rw [← hMh.out] at hte
        subst hte
        first | exact ⟨hb, _, _, rfl, h1'⟩ | exact ⟨hb, _, rfl, _, _, rfl, h1'⟩
    · intro G W hB hF hS
      simp [PM.allSp, PM.spec] at hS
      obtain ⟨h10, h11, h12, h13, h14, h15, h16⟩ := hS
      obtain ⟨ya, yc, h15e, h15o⟩ := h15
      have k0 := hF 0 rfl
      have k1 := hF 1 rfl
      have k2 := hF 2 rfl
      have k3 := hF 3 rfl
      have k4 := hF 4 rfl
      have k5 := hF 5 rfl
      have k6 := hF 6 rfl
      have k7 := hF 7 rfl
      have k8 := hF 8 rfl
      have k9 := hF 9 rfl
      have k17 := hF 17 rfl
      simp [PM.sl] at k0 k1 k2 k3 k4 k5 k6 k7 k8 k9 k17
      rw [show ((List.range (Array.size _)).map G).toArray = #[G 0, G 1, G 2, G 3, G 4, G 5, G 6, G 7, G 8, G 9, G 10, G 11, G 12, G 13, G 14, G 15, G 16, G 17] from rfl]
      clear hF
      obtain ⟨v12, hv12⟩ : ∃ v, v = G 12 := ⟨_, rfl⟩
      rw [h10, h11, ← hv12, h13, h14, h15e, h16, k0, k1, k2, k3, k4, k5, k6, k7, k8, k9, k17]
      clear h12 hv12 h10 h11 h13 h14 h15e h16 k0 k1 k2 k3 k4 k5 k6 k7 k8 k9 k17
      have kx := kxh.out.keep hB
      have kz := kzh.out.keep hB
      have hBW := PM.hid (PM.chain hBB.out hB)
      have c0 : W.cell? ⟨gx, 0, none⟩ = some (.int .i64 kd) := kx.cell 0
      have c1 : W.cell? ⟨gx, 1, none⟩ = some (.int .i64 ib) := kx.cell 1
      have c2 : W.cell? ⟨gx, 2, none⟩ = some (.int .u64 (il : Int)) := kx.cell 2
      have c3 : W.cell? ⟨gx, 3, none⟩ = some (.int .u64 (is : Int)) := kx.cell 3
      have c4 : W.cell? ⟨gx, 4, none⟩ = some (.int .i64 cl) := kx.cell 4
      have c5 : W.cell? ⟨gx, 5, none⟩ = some (.int .u64 (sub : Int)) := kx.cell 5
      have c6 : W.cell? ⟨gx, 6, none⟩ = some (.slice fa F fc) := kx.cell 6
      have c7 : W.cell? ⟨gx, 7, none⟩ = some (.slice ea L ec) := kx.cell 7
      have q0 := fun i => PM.BK.free kx i
      go_upto_region 3 with fail
      obtain ⟨w4, hw4⟩ : ∃ X, X = W.setCell ⟨gx, 7, none⟩ (.slice ya M yc) := ⟨_, rfl⟩
      have hx4 : PM.Bx gx W w4 := by rw [hw4]; exact PM.Bx.set gx 7 _ _
      have hB4 := PM.Bx.below hBW.out hx4 hgwx hBW.out.size
      obtain ⟨css, g1, g2, g3⟩ := h15o
      have hend := PM.hid (And.intro (g1.keepx hx4 kx (by decide)) (And.intro g2 g3))
      clear g1 g2 g3
      have kx4 : PM.BK w4 gx #[.int .i64 kd, .int .i64 ib, .int .u64 (il : Int), .int .u64 (is : Int), .int .i64 cl, .int .u64 (sub : Int), .slice fa F fc, .slice ya M yc] 31 := by rw [hw4]; exact (kx.set 7 _).seeO (by simp)
      replace kz := kz.keepx hx4 (Ne.symm hne)
      rw [← hw4]
      clear hw4 q0 kx c0 c1 c2 c3 c4 c5 c6 c7
      have hBB := PM.hid hB4
      have kx := kx4
      clear hBW hB hB4 hx4 kx4
      have c0 : w4.cell? ⟨gx, 0, none⟩ = some (.int .i64 kd) := kx.cell 0
      have c1 : w4.cell? ⟨gx, 1, none⟩ = some (.int .i64 ib) := kx.cell 1
      have c2 : w4.cell? ⟨gx, 2, none⟩ = some (.int .u64 (il : Int)) := kx.cell 2
      have c3 : w4.cell? ⟨gx, 3, none⟩ = some (.int .u64 (is : Int)) := kx.cell 3
      have c4 : w4.cell? ⟨gx, 4, none⟩ = some (.int .i64 cl) := kx.cell 4
      have c5 : w4.cell? ⟨gx, 5, none⟩ = some (.int .u64 (sub : Int)) := kx.cell 5
      have c6 : w4.cell? ⟨gx, 6, none⟩ = some (.slice fa F fc) := kx.cell 6
      have c7 : w4.cell? ⟨gx, 7, none⟩ = some (.slice ya M yc) := kx.cell 7
      have z0 : w4.cell? ⟨gz, 0, none⟩ = some (.int .i64 0) := kz.cell 0
      have z1 : w4.cell? ⟨gz, 1, none⟩ = some (.int .i64 0) := kz.cell 1
      have z2 : w4.cell? ⟨gz, 2, none⟩ = some (.int .u64 0) := kz.cell 2
      have z3 : w4.cell? ⟨gz, 3, none⟩ = some (.int .u64 0) := kz.cell 3
      have z4 : w4.cell? ⟨gz, 4, none⟩ = some (.int .i64 0) := kz.cell 4
      have z5 : w4.cell? ⟨gz, 5, none⟩ = some (.int .u64 0) := kz.cell 5
      have z6 : w4.cell? ⟨gz, 6, none⟩ = some (.slice none 0 0) := kz.cell 6
      have z7 : w4.cell? ⟨gz, 7, none⟩ = some (.slice none 0 0) := kz.cell 7
      have q0 := fun i => PM.BK.free kz i
      go_wp2_with fail
      obtain ⟨w7, hw7⟩ : ∃ W, W = ((((((((w4.setCell ⟨gz, 0, none⟩ (.int .i64 kd)).setCell ⟨gz, 1, none⟩ (.int .i64 ib)).setCell ⟨gz, 2, none⟩ (.int .u64 (il : Int))).setCell ⟨gz, 3, none⟩ (.int .u64 (is : Int))).setCell ⟨gz, 4, none⟩ (.int .i64 cl)).setCell ⟨gz, 5, none⟩ (.int .u64 (sub : Int))).setCell ⟨gz, 6, none⟩ (.slice fa F fc)).setCell ⟨gz, 7, none⟩ (.slice ya M yc)) := ⟨_, rfl⟩
      have hx7 : PM.Bx gz w4 w7 := by rw [hw7]; exact PM.Bx.set8o gz w4 _ _ _ _ _ _ _ _
      have kz7 : PM.BK w7 gz #[.int .i64 kd, .int .i64 ib, .int .u64 (il : Int), .int .u64 (is : Int), .int .i64 cl, .int .u64 (sub : Int), .slice fa F fc, .slice ya M yc] 31 := by rw [hw7]; exact PM.BK.set8o kz _ _ _ _ _ _ _ _
      rw [← hw7]
      clear hw7 q0 z0 z1 z2 z3 z4 z5 z6 z7 c0 c1 c2 c3 c4 c5 c6 c7
      replace hBB := PM.hid (PM.Bx.below hBB.out hx7 hgwz hBB.out.size)
      have z0 : w7.cell? ⟨gz, 0, none⟩ = some (.int .i64 kd) := kz7.cell 0
      have z1 : w7.cell? ⟨gz, 1, none⟩ = some (.int .i64 ib) := kz7.cell 1
      have z2 : w7.cell? ⟨gz, 2, none⟩ = some (.int .u64 (il : Int)) := kz7.cell 2
      have z3 : w7.cell? ⟨gz, 3, none⟩ = some (.int .u64 (is : Int)) := kz7.cell 3
      have z4 : w7.cell? ⟨gz, 4, none⟩ = some (.int .i64 cl) := kz7.cell 4
      have z5 : w7.cell? ⟨gz, 5, none⟩ = some (.int .u64 (sub : Int)) := kz7.cell 5
      have z6 : w7.cell? ⟨gz, 6, none⟩ = some (.slice fa F fc) := kz7.cell 6
      have z7 : w7.cell? ⟨gz, 7, none⟩ = some (.slice ya M yc) := kz7.cell 7
      refine bodyPost_ret (v := .agg #[.int .i64 kd, .int .i64 ib, .int .u64 (il : Int), .int .u64 (is : Int), .int .i64 cl, .int .u64 (sub : Int), .slice fa F fc, .slice ya M yc]) (by simp [results, Tryz.results15, go_sem, z0, z1, z2, z3, z4, z5, z6, z7]) rfl ?_
      rw [← hcut.out]
      refine ⟨.slice ya M yc, rfl, ?_, hBB.out⟩
      exact ⟨css, (hend.out.1.keepx hx7 kz (by decide)).em PM.ceL_len, hend.out.2.1, fun i cs x a b => PM.evR_lasts _ _ _ _ hBB.out (hend.out.2.2 i cs x a b)⟩
  · have hcut : Hid ((⟨kd, ⟨ib, il, is⟩, cl, sub, fil, evs⟩ : PM.En) = PM.cutE (PM.redL (PM.allL l cs)) ⟨kd, ⟨ib, il, is⟩, cl, sub, fil, evs⟩) := PM.hid (by unfold PM.cutE; rw [if_neg hk1])
    have q1 : ((kd : Int) == 1) = false := by simp [hk1]
    clear hk1
    have hf := hfe.out.1.keep hBB.out
    have he := PM.EVL.keepO hBB.out hfe.out.2
    clear hf he
    have c0 : w2.cell? ⟨gx, 0, none⟩ = some (.int .i64 kd) := kx.cell 0
    have c1 : w2.cell? ⟨gx, 1, none⟩ = some (.int .i64 ib) := kx.cell 1
    have c2 : w2.cell? ⟨gx, 2, none⟩ = some (.int .u64 (il : Int)) := kx.cell 2
    have c3 : w2.cell? ⟨gx, 3, none⟩ = some (.int .u64 (is : Int)) := kx.cell 3
    have c4 : w2.cell? ⟨gx, 4, none⟩ = some (.int .i64 cl) := kx.cell 4
    have c5 : w2.cell? ⟨gx, 5, none⟩ = some (.int .u64 (sub : Int)) := kx.cell 5
    have c6 : w2.cell? ⟨gx, 6, none⟩ = some (.slice fa F fc) := kx.cell 6
    have c7 : w2.cell? ⟨gx, 7, none⟩ = some (.slice ea L ec) := kx.cell 7
    have z0 : w2.cell? ⟨gz, 0, none⟩ = some (.int .i64 0) := kz.cell 0
    have z1 : w2.cell? ⟨gz, 1, none⟩ = some (.int .i64 0) := kz.cell 1
    have z2 : w2.cell? ⟨gz, 2, none⟩ = some (.int .u64 0) := kz.cell 2
    have z3 : w2.cell? ⟨gz, 3, none⟩ = some (.int .u64 0) := kz.cell 3
    have z4 : w2.cell? ⟨gz, 4, none⟩ = some (.int .i64 0) := kz.cell 4
    have z5 : w2.cell? ⟨gz, 5, none⟩ = some (.int .u64 0) := kz.cell 5
    have z6 : w2.cell? ⟨gz, 6, none⟩ = some (.slice none 0 0) := kz.cell 6
    have z7 : w2.cell? ⟨gz, 7, none⟩ = some (.slice none 0 0) := kz.cell 7
    have q0 := fun i => PM.BK.free kz i
    go_wp2_with fail
    obtain ⟨w7, hw7⟩ : ∃ W, W = ((((((((w2.setCell ⟨gz, 0, none⟩ (.int .i64 kd)).setCell ⟨gz, 1, none⟩ (.int .i64 ib)).setCell ⟨gz, 2, none⟩ (.int .u64 (il : Int))).setCell ⟨gz, 3, none⟩ (.int .u64 (is : Int))).setCell ⟨gz, 4, none⟩ (.int .i64 cl)).setCell ⟨gz, 5, none⟩ (.int .u64 (sub : Int))).setCell ⟨gz, 6, none⟩ (.slice fa F fc)).setCell ⟨gz, 7, none⟩ (.slice ea L ec)) := ⟨_, rfl⟩
    have hx7 : PM.Bx gz w2 w7 := by rw [hw7]; exact PM.Bx.set8o gz w2 _ _ _ _ _ _ _ _
    have kz7 : PM.BK w7 gz #[.int .i64 kd, .int .i64 ib, .int .u64 (il : Int), .int .u64 (is : Int), .int .i64 cl, .int .u64 (sub : Int), .slice fa F fc, .slice ea L ec] 31 := by rw [hw7]; exact PM.BK.set8o kz _ _ _ _ _ _ _ _
    rw [← hw7]
    clear hw7 q0 z0 z1 z2 z3 z4 z5 z6 z7 c0 c1 c2 c3 c4 c5 c6 c7
    replace hBB := PM.hid (PM.Bx.below hBB.out hx7 hgwz hBB.out.size)
    have z0 : w7.cell? ⟨gz, 0, none⟩ = some (.int .i64 kd) := kz7.cell 0
    have z1 : w7.cell? ⟨gz, 1, none⟩ = some (.int .i64 ib) := kz7.cell 1
    have z2 : w7.cell? ⟨gz, 2, none⟩ = some (.int .u64 (il : Int)) := kz7.cell 2
    have z3 : w7.cell? ⟨gz, 3, none⟩ = some (.int .u64 (is : Int)) := kz7.cell 3
    have z4 : w7.cell? ⟨gz, 4, none⟩ = some (.int .i64 cl) := kz7.cell 4
    have z5 : w7.cell? ⟨gz, 5, none⟩ = some (.int .u64 (sub : Int)) := kz7.cell 5
    have z6 : w7.cell? ⟨gz, 6, none⟩ = some (.slice fa F fc) := kz7.cell 6
    have z7 : w7.cell? ⟨gz, 7, none⟩ = some (.slice ea L ec) := kz7.cell 7
    refine bodyPost_ret (v := .agg #[.int .i64 kd, .int .i64 ib, .int .u64 (il : Int), .int .u64 (is : Int), .int .i64 cl, .int .u64 (sub : Int), .slice fa F fc, .slice ea L ec]) (by simp [results, Tryz.results15, go_sem, z0, z1, z2, z3, z4, z5, z6, z7]) rfl ?_
    rw [← hcut.out]
    refine ⟨.slice ea L ec, rfl, ?_, hBB.out⟩
    exact PM.EVL.keepO hBB.out hfe.out.2
end Go.Proofs.YtnpbfjkfbobgaaaGreat

/-
  Plain facts of TableTells.
-/
namespace Go.Proofs.YtnpbfjkfbobgaaaGreat
open Go.RowKit
set_option linter.unusedVariables false
set_option linter.unusedSimpArgs false
namespace PM
theorem gr1_szT {t : List Sb} {x : En} (h : ∀ y ∈ t, szT y.fil) : ∀ y ∈ gr1 t x, szT y.fil := by
  unfold gr1
  split
  · rename_i hc
    unfold applyL
    split
    · exact fun y hy => (insL_mem hy).elim (fun e => by rw [e]; exact szT_few hc.1.2.2) (h y)
    · split
      · exact fun y hy => h y (List.mem_filter.1 hy).1
      · exact h
  · exact h
theorem gr_szT : ∀ (l : List En) (t : List Sb), (∀ y ∈ t, szT y.fil) → ∀ y ∈ l.foldl gr1 t, szT y.fil
  | [], t, h => h
  | x :: l, t, h => by
    rw [List.foldl_cons]
    exact gr_szT l _ (gr1_szT h)
theorem gr_sz0 (l : List En) : ∀ y ∈ l.foldl gr1 [], szT y.fil := gr_szT l [] (fun y hy => by cases hy)
theorem FewEn.szE {x : En} (h : FewEn x) : ∀ e ∈ x.evs, ∀ t ∈ e, t.s.size ≤ maxLen := fun e he => few_sz (h.2.1 e he)
end PM
end Go.Proofs.YtnpbfjkfbobgaaaGreat
