/-
  table.all, Filters, asked.
-/
import Derived.Test.YtnpbfjkfbobgaaaGreatBf
import Derived.Test.YtnpbfjkfbobgaaaGreatKb
namespace Go.Proofs.YtnpbfjkfbobgaaaGreat
open Go.RowKit
set_option linter.unusedVariables false
set_option linter.unusedSimpArgs false
namespace PM
/-- a filter as it reads in an elder world -/
def fE (w0 : World) (w : World) (cs : List Value) (f : List Te) : Prop := fR w0 cs f
theorem fE_lasts (w0 : World) : Lasts (fE w0) := fun W w cs x hb h => h
theorem fE_stays (w0 : World) (E : TypeId) : Stays (fE w0) E := fun w w' cs x row hg ht h => h
def evE (w0 : World) (w : World) (cs : List Value) (f : List At) : Prop := evR w0 cs f
theorem evE_lasts (w0 : World) : Lasts (evE w0) := fun W w cs x hb h => h
theorem evE_stays (w0 : World) (E : TypeId) : Stays (evE w0) E := fun w w' cs x row hg ht h => h
def c1 (a : Option Addr) (n c : Nat) : Ce 1 := ⟨[.slice a n c], rfl, by intro u hu; simp at hu; subst hu; rfl⟩
/-- the filters of some clients -/
def allL (l : List Sb) (cs : List Int) : List (List Te) := (l.filter (pS fun cl _ => cs.any fun y => decide (cl = y))).map (·.fil)
theorem allL_len (l : List Sb) (cs : List Int) : (allL l cs).length ≤ l.length := by unfold allL; rw [List.length_map]; exact List.length_filter_le _ _
theorem allL_mem {l : List Sb} {cs : List Int} {f : List Te} (h : f ∈ allL l cs) : ∃ x ∈ l, x.fil = f ∧ (cs.any fun y => decide (x.cl = y)) = true := by
  unfold allL at h
  obtain ⟨x, hx, rfl⟩ := List.mem_map.1 h
  exact ⟨x, (List.mem_filter.1 hx).1, rfl, (List.mem_filter.1 hx).2⟩
def anyM (ls : List (List Te)) (e : List At) : Bool := ls.any fun x => matchB x e
/-- an entry, cut -/
def cutE (ls : List (List Te)) (x : En) : En := if x.kind = 1 then { x with evs := x.evs.filter (anyM ls) } else x
def batchL (l : List Sb) (c : Int) (x : En) : List (List At) := if x.kind = 1 then x.evs.filter (anyM (allL l [c])) else []
theorem fO_mono {T : TypeId} {B B' : Nat} {w : World} {cs : List Value} {f : List Te} (hb : B' ≤ B) (h : fO T B w cs f) : fO T B' w cs f := by
  obtain ⟨v, h1, h2⟩ := h
  exact ⟨v, h1, h2.mono hb⟩
end PM
set_option maxRecDepth 100000 in
set_option maxHeartbeats 4000000 in
theorem all15_any (u : Value) (ca : Option Addr) (cn cc : Nat) (l : List PM.Sb) (cs : List Int) (w : World) (hv : PM.SbL w u l) (hl : l.length ≤ 1000) (hc : PM.ES PM.iv w (.slice ca cn cc) cs) :
    Calls Tryz.prog 33 #[u, .slice ca cn cc] w fun e w' => ∃ u', e = .returned u' ∧ PM.FL w' u' (PM.allL l cs) ∧ Below w.heap.size w w' := by
  obtain ⟨gc, hgc⟩ : ∃ g, g = w.heap.size := ⟨_, rfl⟩
  obtain ⟨w1, hw1⟩ : ∃ W, W = w.alloc (.cells #[.slice ca cn cc] 23) := ⟨_, rfl⟩
  have hal : Below w.heap.size w w1 := by rw [hw1]; exact (Below.refl _ _).alloc (Nat.le_refl _) _
  have kc : PM.BK w1 gc #[.slice ca cn cc] 23 := by rw [hw1, hgc]; exact PM.BK.new _ _ _
  have hk := keptS_in (fun cl _ => cs.any fun y => decide (cl = y)) u gc l w1 (hv.keep hal) hl (inS_tells gc ca cn cc cs w1 kc (hc.keep hal))
  have hlh := PM.hid hl
  have hBB := PM.hid hal
  clear hv hc hal hl kc
  go_enter Tryz.func33, Tryz.ntmps33
  go_upto_region 1 with fail
  rw [← hw1, ← hgc]
  clear hw1 hgc
  go_wp2_with fail
  refine hk.mono ?_
  clear hk
  rintro e w2 ⟨u2, rfl, ho, hb2⟩
  have hkl : ((l.filter (PM.pS fun cl _ => cs.any fun y => decide (cl = y))).length) ≤ 1000 := Nat.le_trans (List.length_filter_le _ _) hlh.out
  have hrd : PM.SbL w2 u2 (l.filter (PM.pS fun cl _ => cs.any fun y => decide (cl = y))) := ho.rr.imp fun cs x h => PM.sbR_lasts _ _ _ _ hb2 h
  have hrd0 := PM.hid ho.rr
  have hBB2 := PM.hid (PM.chain hBB.out hb2)
  have hal0 : Hid (PM.allL l cs = (l.filter (PM.pS fun cl _ => cs.any fun y => decide (cl = y))).map (·.fil)) := PM.hid rfl
  clear ho hb2
  obtain ⟨m, hm⟩ : ∃ m, m = l.filter (PM.pS fun cl _ => cs.any fun y => decide (cl = y)) := ⟨_, rfl⟩
  rw [← hm] at hkl hrd hrd0 hal0
  clear hm
  obtain ⟨ra, rc, hre⟩ := hrd.len
  subst hre
  obtain ⟨L, hL⟩ : ∃ L, L = m.length := ⟨_, rfl⟩
  rw [← hL] at hkl hrd hrd0 ⊢
  have hLh := PM.hid hL
  have hvh := PM.hid hrd
  clear hL hrd
  go_wp2_with fail
  go_loopw [5, 7, 12] (fun s _ i wr => ∃ k : Nat, i = .int .i64 k ∧ k ≤ L ∧ Hid (PM.OR (PM.fE w2) 1 28 w2.heap.size wr s ((m.take k).map (·.fil)) ∧ Below w2.heap.size w2 wr)) (fun _ _ i _ => L - (intOf i).toNat)
  case atStart => exact ⟨0, rfl, by omega, PM.hid ⟨PM.OR.nilrow _, Below.refl _ _⟩⟩
  case round =>
    obtain ⟨k, rfl, hk, hin⟩ := hrel
    obtain ⟨hO, hB⟩ := hin.out
    have hBr := PM.hid hB
    clear hin
    have hfl : ((m.take k).map (·.fil)).length ≤ k := by rw [List.length_map, List.length_take]; omega
    obtain ⟨out, hout⟩ : ∃ x, x = (m.take k).map (·.fil) := ⟨_, rfl⟩
    rw [← hout] at hO hfl
    have houth := PM.hid hout
    clear hout
    obtain ⟨oa, oc, hoe⟩ := hO.rr.len
    subst hoe
    obtain ⟨P, hP⟩ : ∃ P, P = out.length := ⟨_, rfl⟩
    rw [← hP] at hO hfl ⊢
    have hPh := PM.hid hP
    clear hP
    by_cases hlt : k < L
    · obtain ⟨z, hz⟩ : ∃ z, m[k]? = some z := ⟨m[k]'(by rw [← hLh.out]; exact hlt), List.getElem?_eq_getElem _⟩
      obtain ⟨b, off, hbe, hce⟩ := PM.RR.opn hvh.out (by rw [← hLh.out]; omega)
      subst hbe
      obtain ⟨cs', hl0, hR⟩ := hce k z hz
      obtain ⟨fa, fc, hcs, hzf⟩ := PM.sbR_open hR
      rw [hcs] at hl0
      obtain ⟨zF, hzF⟩ : ∃ P, P = z.fil.length := ⟨_, rfl⟩
      rw [← hzF] at hl0 hzf
      replace hl0 := hl0.keep hB
      have d0 : wr.cell? ⟨b, off + k * 3, none⟩ = some (.int .i64 z.cl) := hl0 0 _ rfl
      have d1 : wr.cell? ⟨b, off + k * 3 + 1, none⟩ = some (.int .u64 (z.sub : Int)) := hl0 1 _ rfl
      have d2 : wr.cell? ⟨b, off + k * 3 + 2, none⟩ = some (.slice fa zF fc) := hl0 2 _ rfl
      have hzh := PM.hid hz
      have zR := PM.hid hzf
      have hsk : Hid ((m.take (k + 1)).map (·.fil) = out ++ [z.fil]) := PM.hid (by rw [PM.take_at hz, List.map_append, ← houth.out]; rfl)
      clear hz hce hl0 hR hcs cs' hzf hzF hB
      go_upto_region 5 with fail
      obtain ⟨gx, hgx⟩ : ∃ g, g = wr.heap.size := ⟨_, rfl⟩
      obtain ⟨w3, hw3⟩ : ∃ W, W = wr.alloc (.cells #[.int .i64 z.cl, .int .u64 (z.sub : Int), .slice fa zF fc] 57) := ⟨_, rfl⟩
      have hBn : Below wr.heap.size wr w3 := by rw [hw3]; exact (Below.refl _ _).alloc (Nat.le_refl _) _
      have kx : PM.BK w3 gx #[.int .i64 z.cl, .int .u64 (z.sub : Int), .slice fa zF fc] 57 := by rw [hw3, hgx]; exact PM.BK.new _ _ _
      rw [← hw3, ← hgx]
      clear hw3 hgx
      clear d0 d1 d2
      replace hO := PM.OR.keep (PM.fE_lasts w2) hBn hO
      replace hBr := PM.hid (PM.chain hBr.out hBn)
      clear hBn
      have x0 : w3.cell? ⟨gx, 0, none⟩ = some (.int .i64 z.cl) := kx.cell 0
      have x1 : w3.cell? ⟨gx, 1, none⟩ = some (.int .u64 (z.sub : Int)) := kx.cell 1
      have x2 : w3.cell? ⟨gx, 2, none⟩ = some (.slice fa zF fc) := kx.cell 2
      have hl16 : (out.length + 1) * 24 ≤ 140737488355328 := by rw [← hPh.out]; omega
      have hl17 : out.length + 1 ≤ maxLen := by rw [← hPh.out]; unfold maxLen; omega
      have hsz := hBr.out.size
      have hRy : PM.fE w2 w3 (PM.c1 fa zF fc).1 z.fil := ⟨_, rfl, zR.out⟩
      rw [hPh.out] at hO
      clear kx
      go_wp2_with (at_builtin; rw [hPh.out]; go_loud (refine PM.wpList_or1 flTy (PM.fE_stays w2 _) (PM.fE_lasts w2) w2.heap.size w3 rfl _ _ rfl _ out z.fil (PM.c1 fa zF fc) _ rfl rfl rfl rfl hRy hO hl16 hl17 hsz ?_); intro v' w' t1 t2 t3; have hE := PM.hid (And.intro t1 (hBr.out.trans t2)); clear t1 t2 t3 hsz hO hRy x0 x1 x2)
      exact ⟨⟨k + 1, by go_num, by omega, PM.hid (by rw [hsk.out]; exact hE.out)⟩, by simp only [intOf]; omega⟩
    · obtain rfl : k = L := by omega
      have hfin : Hid (out = PM.allL l cs) := PM.hid (by
        have := houth.out
        rw [hLh.out, List.take_length] at this
        rw [hal0.out]
        exact this)
      have hOh := PM.hid hO
      clear hO hB
      go_wp2_with fail
      go_ret
      refine ⟨_, rfl, ?_, PM.chain hBB2.out hBr.out⟩
      rw [← hfin.out]
      exact hOh.out.rr.imp fun cs x h => PM.fR_lasts _ _ _ _ hBr.out h
theorem Filters15_any (u : Value) (ca : Option Addr) (cn cc : Nat) (l : List PM.Sb) (cs : List Int) (w : World) (hv : PM.SbL w u l) (hl : l.length ≤ 30) (hs : ∀ x ∈ l, x.fil.length ≤ 1000) (hc : PM.ES PM.iv w (.slice ca cn cc) cs) :
    Calls Tryz.prog 11 #[u, .slice ca cn cc] w fun e w' => ∃ u', e = .returned u' ∧ PM.OR (PM.fO 50 w.heap.size) 1 28 w.heap.size w' u' (PM.redL (PM.allL l cs)) ∧ Below w.heap.size w w' := by
  have h := all15_any u ca cn cc l cs w hv (by omega) hc
  have h30 := PM.hid (Nat.le_trans (PM.allL_len l cs) hl)
  have h1000 : Hid (∀ f ∈ PM.allL l cs, f.length ≤ 1000) := PM.hid (fun f hf => by obtain ⟨x, hx, rfl, -⟩ := PM.allL_mem hf; exact hs x hx)
  clear hv hl hs hc
  go_enter Tryz.func11, Tryz.ntmps11
  go_wp2_with fail
  refine h.mono ?_
  clear h
  rintro e w2 ⟨u2, rfl, ho, hb⟩
  have hr := reduce_any u2 (PM.allL l cs) w2 ho h30.out h1000.out
  have hBB := PM.hid hb
  clear ho hb
  go_wp2_with fail
  refine hr.mono ?_
  clear hr
  rintro e w3 ⟨u3, rfl, ho, hb⟩
  have hE := PM.hid (And.intro ((PM.OR.mono hBB.out.size ho).imp' fun cs x h => PM.fO_mono hBB.out.size h) (PM.chain hBB.out hb))
  clear ho hb
  go_wp2_with fail
  go_ret
  exact ⟨_, rfl, hE.out⟩
set_option maxHeartbeats 2000000 in
theorem asked1_any (ea : Option Addr) (en ec : Nat) (e0 : List PM.At) (gb : Nat) (fv : Value) (ls : List (List PM.Te)) (w : World) (he : PM.EV w (.slice ea en ec) e0) (hk : PM.BK w gb #[fv] 40) (hf : PM.FL w fv ls) :
    Calls Tryz.prog 55 #[.slice ea en ec, .pointer (some ⟨gb, 0, none⟩)] w fun e w' => e = .returned (.bool (PM.anyM ls e0)) ∧ Below w.heap.size w w' := by
  have hc := cany_any fv (.slice ea en ec) ls e0 w hf he
  have k0 : w.cell? ⟨gb, 0, none⟩ = some fv := hk.cell 0
  obtain ⟨fa, fc, rfl⟩ := hf.len
  clear hf he hk
  go_enter Tryz.func55, Tryz.ntmps55
  go_wp2_with fail
  refine hc.mono ?_
  clear hc
  rintro e w2 ⟨rfl, hb⟩
  have hB := PM.hid hb
  clear hb k0
  go_wp2_with fail
  go_ret
  exact ⟨rfl, hB.out⟩
set_option maxRecDepth 100000 in
set_option maxHeartbeats 4000000 in
theorem keptE_any (v : Value) (gb : Nat) (fv : Value) (ls : List (List PM.Te)) (l : List (List PM.At)) (w : World) (hv : PM.EVL w v l) (hl : l.length ≤ 1000) (hk : PM.BK w gb #[fv] 40) (hf : PM.FL w fv ls) :
    Calls Tryz.prog 54 #[v, .func (.func 55) #[] #[.pointer (some ⟨gb, 0, none⟩)]] w fun e w' => ∃ u, e = .returned u ∧ PM.OR (PM.evE w) 1 55 w.heap.size w' u (l.filter (PM.anyM ls)) ∧ Below w.heap.size w w' := by
  obtain ⟨ad, cap, rfl⟩ := hv.len
  obtain ⟨L, hL⟩ : ∃ L, L = l.length := ⟨_, rfl⟩
  have hLh := PM.hid hL
  rw [← hL] at hv hl ⊢
  have hvh := PM.hid hv
  have hch := PM.hid (fun (ea : Option Addr) (en ec : Nat) (e0 : List PM.At) (W : World) (hb : Below w.heap.size w W) (he : PM.EV w (.slice ea en ec) e0) => asked1_any ea en ec e0 gb fv ls W (he.keep hb) (hk.keep hb) (PM.FL.keep hb hf))
  clear hL hv hk hf
  go_enter Tryz.func54, Tryz.ntmps54
  go_wp2_with fail
  go_loopw [5, 7, 10] (fun s _ i wr => ∃ k : Nat, i = .int .i64 k ∧ k ≤ L ∧ Hid (PM.OR (PM.evE w) 1 55 w.heap.size wr s ((l.take k).filter (PM.anyM ls)) ∧ Below w.heap.size w wr)) (fun _ _ i _ => L - (intOf i).toNat)
  case atStart => exact ⟨0, rfl, by omega, PM.hid ⟨PM.OR.nilrow _, Below.refl _ _⟩⟩
  case round =>
    obtain ⟨k, rfl, hk, hin⟩ := hrel
    obtain ⟨hO, hB⟩ := hin.out
    have hBB := PM.hid hB
    clear hin
    have hfl : ((l.take k).filter (PM.anyM ls)).length ≤ k := Nat.le_trans (List.length_filter_le _ _) (by rw [List.length_take]; omega)
    obtain ⟨out, hout⟩ : ∃ x, x = (l.take k).filter (PM.anyM ls) := ⟨_, rfl⟩
    rw [← hout] at hO hfl
    have houth := PM.hid hout
    clear hout
    obtain ⟨ra, rc, hre⟩ := hO.rr.len
    subst hre
    obtain ⟨P, hP⟩ : ∃ P, P = out.length := ⟨_, rfl⟩
    rw [← hP] at hO hfl ⊢
    have hPh := PM.hid hP
    clear hP
    by_cases hlt : k < L
    · obtain ⟨z, hz⟩ : ∃ z, l[k]? = some z := ⟨l[k]'(by rw [← hLh.out]; exact hlt), List.getElem?_eq_getElem _⟩
      obtain ⟨b, off, hbe, hce⟩ := PM.RR.opn hvh.out (by rw [← hLh.out]; omega)
      subst hbe
      obtain ⟨cs, hl0, zv, hcs, hzv⟩ := hce k z hz
      have hzv2 := hzv
      obtain ⟨za, zc, hze, -⟩ := hzv2
      subst hze
      rw [hcs] at hl0
      obtain ⟨zN, hzN⟩ : ∃ P, P = z.length := ⟨_, rfl⟩
      rw [← hzN] at hl0 hzv
      replace hl0 := hl0.keep hB
      have d0 : wr.cell? ⟨b, off + k, none⟩ = some (.slice za zN zc) := by have := hl0 0 _ rfl; simpa using this
      have hzh := PM.hid hz
      have zR := PM.hid hzv
      have hcc := hch.out za zN zc z wr hB hzv
      clear hz hce hl0 hcs cs hzv hzN hB
      cases heq : PM.anyM ls z
      · rw [heq] at hcc
        have hsk : Hid ((l.take (k + 1)).filter (PM.anyM ls) = out) := PM.hid (by rw [PM.take_at hzh.out, List.filter_append, ← houth.out, List.filter_cons_of_neg (by rw [heq]; decide), List.filter_nil, List.append_nil])
        clear heq
        go_wp2_with fail
        refine hcc.mono ?_
        rintro e w5 ⟨rfl, hBn⟩
        clear hcc d0
        have hin2 := PM.hid (And.intro (PM.OR.keep (PM.evE_lasts w) hBn hO) (PM.chain hBB.out hBn))
        clear hBn hO
        go_wp2_with fail
        exact ⟨⟨k + 1, by go_num, by omega, PM.hid (by rw [hsk.out]; exact hin2.out)⟩, by simp only [intOf]; omega⟩
      · rw [heq] at hcc
        have hsk : Hid ((l.take (k + 1)).filter (PM.anyM ls) = out ++ [z]) := PM.hid (by rw [PM.take_at hzh.out, List.filter_append, ← houth.out, List.filter_cons_of_pos heq, List.filter_nil])
        clear heq
        go_wp2_with fail
        refine hcc.mono ?_
        rintro e w5 ⟨rfl, hBn⟩
        clear hcc d0
        replace hO := PM.OR.keep (PM.evE_lasts w) hBn hO
        replace hBB := PM.hid (PM.chain hBB.out hBn)
        clear hBn
        have hl16 : (out.length + 1) * 24 ≤ 140737488355328 := by rw [← hPh.out]; omega
        have hl17 : out.length + 1 ≤ maxLen := by rw [← hPh.out]; unfold maxLen; omega
        have hsz := hBB.out.size
        have hRy : PM.evE w w5 (PM.c1 za zN zc).1 z := ⟨_, rfl, zR.out⟩
        rw [hPh.out] at hO
        go_wp2_with (at_builtin; rw [hPh.out]; go_loud (refine PM.wpList_or1 tyEvO (PM.evE_stays w _) (PM.evE_lasts w) w.heap.size w5 rfl _ _ rfl _ out z (PM.c1 za zN zc) _ rfl rfl rfl rfl hRy hO hl16 hl17 hsz ?_); intro v' w' t1 t2 t3; have hE := PM.hid (And.intro t1 (hBB.out.trans t2)); clear t1 t2 t3 hsz hO hRy)
        exact ⟨⟨k + 1, by go_num, by omega, PM.hid (by rw [hsk.out]; exact hE.out)⟩, by simp only [intOf]; omega⟩
    · obtain rfl : k = L := by omega
      have hfin : Hid (out = l.filter (PM.anyM ls)) := PM.hid (by
        have := houth.out
        rw [hLh.out, List.take_length] at this
        exact this)
      have hOh := PM.hid hO
      clear hO hB
      go_wp2_with fail
      go_ret
      exact ⟨_, rfl, by rw [← hfin.out]; exact hOh.out, hBB.out⟩
theorem asked_any (fv v : Value) (ls : List (List PM.Te)) (l : List (List PM.At)) (w : World) (hf : PM.FL w fv ls) (hv : PM.EVL w v l) (hl : l.length ≤ 1000) (hs : ∀ e ∈ l, e.length ≤ 1000) :
    Calls Tryz.prog 37 #[fv, v] w fun e w' => ∃ u, e = .returned u ∧ PM.OR (PM.evO 53 w.heap.size) 1 55 w.heap.size w' u (l.filter (PM.anyM ls)) ∧ Below w.heap.size w w' := by
  obtain ⟨gb, hgb⟩ : ∃ g, g = w.heap.size := ⟨_, rfl⟩
  obtain ⟨w1, hw1⟩ : ∃ W, W = w.alloc (.cells #[fv] 40) := ⟨_, rfl⟩
  have hal : Below w.heap.size w w1 := by rw [hw1]; exact (Below.refl _ _).alloc (Nat.le_refl _) _
  have kb : PM.BK w1 gb #[fv] 40 := by rw [hw1, hgb]; exact PM.BK.new _ _ _
  have hk := keptE_any v gb fv ls l w1 (PM.EVL.keepO hal hv) hl kb (PM.FL.keep hal hf)
  have hls := PM.hid (And.intro hl hs)
  have hBB := PM.hid hal
  obtain ⟨fa, fc, rfl⟩ := hf.len
  clear hf hv hl hs hal kb
  go_enter Tryz.func37, Tryz.ntmps37
  go_upto_region 1 with fail
  rw [← hw1, ← hgb]
  clear hw1 hgb
  go_wp2_with fail
  refine hk.mono ?_
  clear hk
  rintro e w2 ⟨u2, rfl, ho, hb⟩
  have he := eachEv_any u2 (l.filter (PM.anyM ls)) w2 (ho.rr.imp fun cs x h => PM.evR_lasts _ _ _ _ hb h) (Nat.le_trans (List.length_filter_le _ _) hls.out.1) (fun e h => hls.out.2 e (List.mem_filter.1 h).1)
  have hB2 := PM.hid (PM.chain hBB.out hb)
  clear ho hb
  go_wp2_with fail
  refine he.mono ?_
  clear he
  rintro e w3 ⟨u3, rfl, ho, hb⟩
  have hE := PM.hid (And.intro (PM.evOr_mono hB2.out.size ho) (PM.chain hB2.out hb))
  clear ho hb
  go_wp2_with fail
  go_ret
  exact ⟨_, rfl, hE.out⟩
end Go.Proofs.YtnpbfjkfbobgaaaGreat
