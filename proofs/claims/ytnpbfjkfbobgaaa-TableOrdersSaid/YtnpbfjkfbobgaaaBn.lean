/-
  THE WALK of TableNone.
-/
import Derived.Test.YtnpbfjkfbobgaaaBm
import Derived.Test.YtnpbfjkfbobgaaaJO
namespace Go.Proofs.Ytnpbfjkfbobgaaa
open Go.RowKit
set_option linter.unusedVariables false
set_option linter.unusedSimpArgs false
namespace PM
theorem allL_nil (l : List Sb) : allL l [] = [] := by
  unfold allL
  rw [List.filter_eq_nil_iff.2 (fun x _ => by simp [pS]), List.map_nil]
theorem anyM_nil (e : List At) : anyM [] e = false := rfl
theorem cut_kind (ls : List (List Te)) (x : En) : (cutE ls x).kind = x.kind ∧ (cutE ls x).id = x.id ∧ (cutE ls x).fil = x.fil := by
  unfold cutE
  split <;> exact ⟨rfl, rfl, rfl⟩
theorem cut_len (ls : List (List Te)) (x : En) : (cutE ls x).evs.length ≤ x.evs.length := by
  unfold cutE
  split
  · exact List.length_filter_le _ _
  · exact Nat.le_refl _
theorem cut_mem {ls : List (List Te)} {x : En} {e : List At} (h : e ∈ (cutE ls x).evs) : e ∈ x.evs := by
  unfold cutE at h
  split at h
  · exact (List.mem_filter.1 h).1
  · exact h
theorem cut_nil {x : En} (h : x.kind = 1) : (cutE [] x).evs = [] := by
  unfold cutE
  rw [if_pos h]
  exact List.filter_eq_nil_iff.2 fun e _ => by rw [anyM_nil]; decide
theorem cut_id {ls : List (List Te)} {x : En} (h : ¬ x.kind = 1) : cutE ls x = x := by
  unfold cutE
  rw [if_neg h]
theorem EnS.cut {ls : List (List Te)} {x : En} (h : EnS x) : EnS (cutE ls x) := ⟨by rw [(cut_kind ls x).2.2]; exact h.1, Nat.le_trans (cut_len ls x) h.2.1, fun e he => h.2.2 e (cut_mem he)⟩
theorem En.wf.cut {ls : List (List Te)} {x : En} (h : x.wf) : (cutE ls x).wf := by
  unfold cutE
  split
  · obtain ⟨h1, h2, h3, h4, h5, h6⟩ := h
    exact ⟨h1, h2, h3, h4, h5, fun e he => h6 e (List.mem_filter.1 he).1⟩
  · exact h
/-- those of one client -/
def ownL (t : List Sb) (c : Int) : List Sb := t.filter fun x => decide (x.cl = c)
theorem all_own (t : List Sb) (c : Int) : allL (ownL t c) [c] = allL t [c] := by
  unfold allL ownL
  rw [List.filter_filter]
  congr 1
  apply List.filter_congr
  intro x _
  simp [pS]
theorem batch_own (t : List Sb) (c : Int) (x : En) : batchL t c x = batchL (ownL t c) c x := by unfold batchL; rw [all_own]
theorem batch_none {t : List Sb} {c : Int} {x : En} (h : ownL t c = []) : batchL t c x = [] := by
  rw [batch_own, h]
  unfold batchL
  split
  · exact List.filter_eq_nil_iff.2 fun e _ => by rw [show allL [] [c] = [] from rfl, anyM_nil]; decide
  · rfl
end PM
set_option maxRecDepth 100000 in
set_option maxHeartbeats 16000000 in
theorem tableNone_walkA (va : Option Addr) (N vc : Nat) (l : List PM.En) (ca : Option Addr) (cn cc : Nat) (cs : List Int) (x : PM.En) (fa : Option Addr) (F fc : Nat) (ea : Option Addr) (L ec : Nat) (w : World) (hF : F = x.fil.length) (hL : L = x.evs.length) (hv : PM.EnL w (.slice va N vc) l) (hw : ∀ y ∈ l, PM.En.wf y) (hx : x.wf) (hf : PM.TV w (.slice fa F fc) x.fil) (he : PM.EVL w (.slice ea L ec) x.evs) (hcs : PM.ES PM.iv w (.slice ca cn cc) cs) :
    Calls Try.prog 5 #[.slice va N vc, .slice ca cn cc, .agg #[.int .i64 x.kind, .int .i64 x.id.br, .int .u64 (x.id.life : Int), .int .u64 (x.id.ser : Int), .int .i64 x.client, .int .u64 (x.sub : Int), .slice fa F fc, .slice ea L ec]] w fun e w' => e = .returned (.bool true) ∧ Below w.heap.size w w' := by
  have hc := PM.hid hcs
  clear hcs
  have hNh : Hid (N = l.length) := PM.hid (by
    obtain ⟨a, c, h⟩ := hv.len
    injection h)
  have hFh := PM.hid hF
  have hLh := PM.hid hL
  have hvh := PM.hid hv
  have hwf := PM.hid (And.intro hw hx)
  have hxr := PM.hid (And.intro hf he)
  clear hF hL hv hw hx hf he
  obtain ⟨gx, hgx⟩ : ∃ g, g = w.heap.size := ⟨_, rfl⟩
  obtain ⟨w1, hw1⟩ : ∃ W, W = w.alloc (.cells #[.int .i64 x.kind, .int .i64 x.id.br, .int .u64 (x.id.life : Int), .int .u64 (x.id.ser : Int), .int .i64 x.client, .int .u64 (x.sub : Int), .slice fa F fc, .slice ea L ec] 31) := ⟨_, rfl⟩
  have hal : Below w.heap.size w w1 := by rw [hw1]; exact (Below.refl _ _).alloc (Nat.le_refl _) _
  have kx : PM.BK w1 gx #[.int .i64 x.kind, .int .i64 x.id.br, .int .u64 (x.id.life : Int), .int .u64 (x.id.ser : Int), .int .i64 x.client, .int .u64 (x.sub : Int), .slice fa F fc, .slice ea L ec] 31 := by rw [hw1, hgx]; exact PM.BK.new _ _ _
  have hBB := PM.hid hal
  clear hal
  have hfw : Hid (∀ W : World, Below w.heap.size w W → Calls Try.prog 8 #[.agg #[.int .i64 x.kind, .int .i64 x.id.br, .int .u64 (x.id.life : Int), .int .u64 (x.id.ser : Int), .int .i64 x.client, .int .u64 (x.sub : Int), .slice fa F fc, .slice ea L ec]] W fun e w' => (e = .returned (.bool true) ∧ PM.FewEn x ∨ e = .returned (.bool false) ∧ ¬ PM.FewEn x) ∧ Below W.heap.size W w') := PM.hid fun W hb => by
    have h1 := hxr.out.1
    have h2 := hxr.out.2
    rw [hFh.out] at h1 ⊢
    rw [hLh.out] at h2 ⊢
    exact few11x_any x _ _ W (h1.keep hb) (PM.EVL.keepO hb h2)
  go_enter Try.func5, Try.ntmps5
  go_upto_region 1 with fail
  rw [← hw1, ← hgx]
  clear hw1 hgx
  go_wp2_with fail
  refine (awake15_any w1).mono ?_
  rintro e w2 ⟨rfl, hb⟩
  replace kx := kx.keep hb
  replace hBB := PM.hid (PM.chain hBB.out hb)
  clear hb
  by_cases h20 : cn ≤ 20
  case neg =>
    have q : decide ((20 : Int) < (cn : Int)) = true := by simp; omega
    have q' : (20 : Int) < (cn : Int) := by omega
    clear kx
    go_wp2_with fail
    go_ret
    exact ⟨by first | rfl | simp, hBB.out⟩
  have q : decide ((20 : Int) < (cn : Int)) = false := by simp; omega
  have q' : ¬ (20 : Int) < (cn : Int) := by omega
  have c0 : w2.cell? ⟨gx, 0, none⟩ = some (.int .i64 x.kind) := kx.cell 0
  have c1 : w2.cell? ⟨gx, 1, none⟩ = some (.int .i64 x.id.br) := kx.cell 1
  have c2 : w2.cell? ⟨gx, 2, none⟩ = some (.int .u64 (x.id.life : Int)) := kx.cell 2
  have c3 : w2.cell? ⟨gx, 3, none⟩ = some (.int .u64 (x.id.ser : Int)) := kx.cell 3
  have c4 : w2.cell? ⟨gx, 4, none⟩ = some (.int .i64 x.client) := kx.cell 4
  have c5 : w2.cell? ⟨gx, 5, none⟩ = some (.int .u64 (x.sub : Int)) := kx.cell 5
  have c6 : w2.cell? ⟨gx, 6, none⟩ = some (.slice fa F fc) := kx.cell 6
  have c7 : w2.cell? ⟨gx, 7, none⟩ = some (.slice ea L ec) := kx.cell 7
  go_wp2_with fail
  refine (hfw.out w2 hBB.out).mono ?_
  rintro e w3 ⟨hFw, hb⟩
  clear c0 c1 c2 c3 c4 c5 c6 c7
  replace kx := kx.keep hb
  replace hBB := PM.hid (PM.chain hBB.out hb)
  clear hb
  rcases hFw with ⟨rfl, hFw⟩ | ⟨rfl, hFw⟩
  case inr =>
    clear kx hFw
    go_wp2_with fail
    go_ret
    exact ⟨by first | rfl | simp, hBB.out⟩
  have hFwh := PM.hid hFw
  have hEnS := PM.hid hFw.enS
  clear hFw
  clear q q'
  go_wp2_with fail
  refine (grown15_any (.slice va N vc) l w3 (PM.EnL.keep hvh.out hBB.out) hwf.out.1).mono ?_
  rintro e w4 ⟨u1, rfl, h1, hb⟩
  replace kx := kx.keep hb
  replace hBB := PM.hid (PM.chain hBB.out hb)
  clear hb
  have hG := PM.hid (PM.grL_ok l)
  obtain ⟨t, ht⟩ : ∃ t, t = PM.grL l := ⟨_, rfl⟩
  rw [← ht] at h1 hG
  clear ht
  have c0 : w4.cell? ⟨gx, 0, none⟩ = some (.int .i64 x.kind) := kx.cell 0
  have c1 : w4.cell? ⟨gx, 1, none⟩ = some (.int .i64 x.id.br) := kx.cell 1
  have c2 : w4.cell? ⟨gx, 2, none⟩ = some (.int .u64 (x.id.life : Int)) := kx.cell 2
  have c3 : w4.cell? ⟨gx, 3, none⟩ = some (.int .u64 (x.id.ser : Int)) := kx.cell 3
  have c4 : w4.cell? ⟨gx, 4, none⟩ = some (.int .i64 x.client) := kx.cell 4
  have c5 : w4.cell? ⟨gx, 5, none⟩ = some (.int .u64 (x.sub : Int)) := kx.cell 5
  have c6 : w4.cell? ⟨gx, 6, none⟩ = some (.slice fa F fc) := kx.cell 6
  have c7 : w4.cell? ⟨gx, 7, none⟩ = some (.slice ea L ec) := kx.cell 7
  go_wp2_with fail
  refine (cut15_any u1 none 0 0 t [] x.kind x.id.br x.id.life x.id.ser x.client x.sub x.fil x.evs fa F fc ea L ec w4 hFh.out hLh.out h1 hG.out.len hG.out.fil (PM.ES.nil _) (hxr.out.1.keep hBB.out) (PM.EVL.keepO hBB.out hxr.out.2) hEnS.out).mono ?_
  rintro e w5 ⟨us, rfl, ho, hb⟩
  obtain ⟨y1, hy⟩ : ∃ y, y = PM.cutE (PM.redL (PM.allL t [])) x := ⟨_, rfl⟩
  have ho' : PM.enO 55 58 60 w4.heap.size w5 us y1 := by rw [hy]; exact ho
  have hy1 := PM.hid hy
  obtain ⟨cf, ce, hus, hcf, hce⟩ := ho'
  have yf1 : PM.TV w5 cf y1.fil := hcf.em PM.teL_len
  have ye1 : PM.EVL w5 ce y1.evs := hce.rr.imp fun cs x ⟨v, q1, q2⟩ => ⟨v, q1, (q2.em PM.attL_len).ev⟩
  obtain ⟨fa1, fc1, hfe⟩ := yf1.len
  obtain ⟨ea1, ec1, hee⟩ := PM.RR.len ye1
  obtain ⟨F1, hF1⟩ : ∃ q, q = y1.fil.length := ⟨_, rfl⟩
  obtain ⟨L1, hL1⟩ : ∃ q, q = y1.evs.length := ⟨_, rfl⟩
  rw [← hF1] at hfe
  rw [← hL1] at hee
  subst hfe hee
  have hF1h := PM.hid hF1
  have hL1h := PM.hid hL1
  unfold PM.enC at hus
  subst hus
  clear hF1 hL1 hy ho hcf hce
  clear c0 c1 c2 c3 c4 c5 c6 c7
  replace kx := kx.keep hb
  replace h1 := PM.SbL.keep h1 hb
  replace hBB := PM.hid (PM.chain hBB.out hb)
  clear hb
  go_upto_region 8 with fail
  obtain ⟨g9, hg9⟩ : ∃ g, g = w5.heap.size := ⟨_, rfl⟩
  obtain ⟨w6, hw6⟩ : ∃ W, W = w5.alloc (.cells #[.int .i64 y1.kind, .int .i64 y1.id.br, .int .u64 (y1.id.life : Int), .int .u64 (y1.id.ser : Int), .int .i64 y1.client, .int .u64 (y1.sub : Int), .slice fa1 F1 fc1, .slice ea1 L1 ec1] 31) := ⟨_, rfl⟩
  have bw6 : Below w5.heap.size w5 w6 := by rw [hw6]; exact (Below.refl _ _).alloc (Nat.le_refl _) _
  have kg9 : PM.BK w6 g9 #[.int .i64 y1.kind, .int .i64 y1.id.br, .int .u64 (y1.id.life : Int), .int .u64 (y1.id.ser : Int), .int .i64 y1.client, .int .u64 (y1.sub : Int), .slice fa1 F1 fc1, .slice ea1 L1 ec1] 31 := by rw [hw6, hg9]; exact PM.BK.new _ _ _
  try rw [← hw6]
  try rw [← hg9]
  clear hg9 hw6
  replace kx := kx.keep bw6
  replace h1 := PM.SbL.keep h1 bw6
  replace hBB := PM.hid (PM.chain hBB.out bw6)
  clear bw6
  have c0 : w6.cell? ⟨gx, 0, none⟩ = some (.int .i64 x.kind) := kx.cell 0
  have c1 : w6.cell? ⟨gx, 1, none⟩ = some (.int .i64 x.id.br) := kx.cell 1
  have c2 : w6.cell? ⟨gx, 2, none⟩ = some (.int .u64 (x.id.life : Int)) := kx.cell 2
  have c3 : w6.cell? ⟨gx, 3, none⟩ = some (.int .u64 (x.id.ser : Int)) := kx.cell 3
  have c4 : w6.cell? ⟨gx, 4, none⟩ = some (.int .i64 x.client) := kx.cell 4
  have c5 : w6.cell? ⟨gx, 5, none⟩ = some (.int .u64 (x.sub : Int)) := kx.cell 5
  have c6 : w6.cell? ⟨gx, 6, none⟩ = some (.slice fa F fc) := kx.cell 6
  have c7 : w6.cell? ⟨gx, 7, none⟩ = some (.slice ea L ec) := kx.cell 7
  go_wp2_with fail
  refine (cut15_any u1 ca cn cc t cs x.kind x.id.br x.id.life x.id.ser x.client x.sub x.fil x.evs fa F fc ea L ec w6 hFh.out hLh.out h1 hG.out.len hG.out.fil (hc.out.keep hBB.out) (hxr.out.1.keep hBB.out) (PM.EVL.keepO hBB.out hxr.out.2) hEnS.out).mono ?_
  rintro e w7 ⟨us, rfl, ho, hb⟩
  obtain ⟨y2, hy⟩ : ∃ y, y = PM.cutE (PM.redL (PM.allL t cs)) x := ⟨_, rfl⟩
  have ho' : PM.enO 55 58 60 w6.heap.size w7 us y2 := by rw [hy]; exact ho
  have hy2 := PM.hid hy
  obtain ⟨cf, ce, hus, hcf, hce⟩ := ho'
  have yf2 : PM.TV w7 cf y2.fil := hcf.em PM.teL_len
  have ye2 : PM.EVL w7 ce y2.evs := hce.rr.imp fun cs x ⟨v, q1, q2⟩ => ⟨v, q1, (q2.em PM.attL_len).ev⟩
  obtain ⟨fa2, fc2, hfe⟩ := yf2.len
  obtain ⟨ea2, ec2, hee⟩ := PM.RR.len ye2
  obtain ⟨F2, hF2⟩ : ∃ q, q = y2.fil.length := ⟨_, rfl⟩
  obtain ⟨L2, hL2⟩ : ∃ q, q = y2.evs.length := ⟨_, rfl⟩
  rw [← hF2] at hfe
  rw [← hL2] at hee
  subst hfe hee
  have hF2h := PM.hid hF2
  have hL2h := PM.hid hL2
  unfold PM.enC at hus
  subst hus
  clear hF2 hL2 hy ho hcf hce
  clear c0 c1 c2 c3 c4 c5 c6 c7
  replace kx := kx.keep hb
  replace kg9 := kg9.keep hb
  replace h1 := PM.SbL.keep h1 hb
  replace hBB := PM.hid (PM.chain hBB.out hb)
  clear hb
  go_upto_region 9 with fail
  obtain ⟨g10, hg10⟩ : ∃ g, g = w7.heap.size := ⟨_, rfl⟩
  obtain ⟨w8, hw8⟩ : ∃ W, W = w7.alloc (.cells #[.int .i64 y2.kind, .int .i64 y2.id.br, .int .u64 (y2.id.life : Int), .int .u64 (y2.id.ser : Int), .int .i64 y2.client, .int .u64 (y2.sub : Int), .slice fa2 F2 fc2, .slice ea2 L2 ec2] 31) := ⟨_, rfl⟩
  have bw8 : Below w7.heap.size w7 w8 := by rw [hw8]; exact (Below.refl _ _).alloc (Nat.le_refl _) _
  have kg10 : PM.BK w8 g10 #[.int .i64 y2.kind, .int .i64 y2.id.br, .int .u64 (y2.id.life : Int), .int .u64 (y2.id.ser : Int), .int .i64 y2.client, .int .u64 (y2.sub : Int), .slice fa2 F2 fc2, .slice ea2 L2 ec2] 31 := by rw [hw8, hg10]; exact PM.BK.new _ _ _
  try rw [← hw8]
  try rw [← hg10]
  clear hg10 hw8
  replace yf2 := yf2.keep bw8
  replace ye2 := PM.EVL.keepO bw8 ye2
  replace kx := kx.keep bw8
  replace kg9 := kg9.keep bw8
  replace h1 := PM.SbL.keep h1 bw8
  replace hBB := PM.hid (PM.chain hBB.out bw8)
  clear bw8
  have c0 : w8.cell? ⟨gx, 0, none⟩ = some (.int .i64 x.kind) := kx.cell 0
  have c1 : w8.cell? ⟨gx, 1, none⟩ = some (.int .i64 x.id.br) := kx.cell 1
  have c2 : w8.cell? ⟨gx, 2, none⟩ = some (.int .u64 (x.id.life : Int)) := kx.cell 2
  have c3 : w8.cell? ⟨gx, 3, none⟩ = some (.int .u64 (x.id.ser : Int)) := kx.cell 3
  have c4 : w8.cell? ⟨gx, 4, none⟩ = some (.int .i64 x.client) := kx.cell 4
  have c5 : w8.cell? ⟨gx, 5, none⟩ = some (.int .u64 (x.sub : Int)) := kx.cell 5
  have c6 : w8.cell? ⟨gx, 6, none⟩ = some (.slice fa F fc) := kx.cell 6
  have c7 : w8.cell? ⟨gx, 7, none⟩ = some (.slice ea L ec) := kx.cell 7
  have d0 : w8.cell? ⟨g10, 0, none⟩ = some (.int .i64 y2.kind) := kg10.cell 0
  have d1 : w8.cell? ⟨g10, 1, none⟩ = some (.int .i64 y2.id.br) := kg10.cell 1
  have d2 : w8.cell? ⟨g10, 2, none⟩ = some (.int .u64 (y2.id.life : Int)) := kg10.cell 2
  have d3 : w8.cell? ⟨g10, 3, none⟩ = some (.int .u64 (y2.id.ser : Int)) := kg10.cell 3
  have d4 : w8.cell? ⟨g10, 4, none⟩ = some (.int .i64 y2.client) := kg10.cell 4
  have d5 : w8.cell? ⟨g10, 5, none⟩ = some (.int .u64 (y2.sub : Int)) := kg10.cell 5
  have d6 : w8.cell? ⟨g10, 6, none⟩ = some (.slice fa2 F2 fc2) := kg10.cell 6
  have d7 : w8.cell? ⟨g10, 7, none⟩ = some (.slice ea2 L2 ec2) := kg10.cell 7
  have hsm : Calls Try.prog 12 #[.agg #[.int .i64 y2.kind, .int .i64 y2.id.br, .int .u64 (y2.id.life : Int), .int .u64 (y2.id.ser : Int), .int .i64 y2.client, .int .u64 (y2.sub : Int), .slice fa2 F2 fc2, .slice ea2 L2 ec2], .agg #[.int .i64 x.kind, .int .i64 x.id.br, .int .u64 (x.id.life : Int), .int .u64 (x.id.ser : Int), .int .i64 x.client, .int .u64 (x.sub : Int), .slice fa F fc, .slice ea L ec]] w8 fun e w' => (e = .returned (.bool true) ∧ y2 = x ∨ e = .returned (.bool false) ∧ ¬ y2 = x) ∧ Below w8.heap.size w8 w' := by
    have r1 := hxr.out.1.keep hBB.out
    have r2 := PM.EVL.keepO hBB.out hxr.out.2
    rw [hFh.out] at r1 ⊢
    rw [hLh.out] at r2 ⊢
    rw [hF2h.out] at yf2 ⊢
    rw [hL2h.out] at ye2 ⊢
    exact same11_any y2 x _ _ _ _ w8 (by rw [hy2.out]; exact hwf.out.2.cut) hwf.out.2 yf2 ye2 r1 r2
  clear yf1 ye1 yf2 ye2
  go_wp2_with fail
  refine hsm.mono ?_
  clear hsm
  rintro e w9 ⟨hh, hb⟩
  clear c0 c1 c2 c3 c4 c5 c6 c7 d0 d1 d2 d3 d4 d5 d6 d7
  replace kx := kx.keep hb
  replace kg9 := kg9.keep hb
  replace kg10 := kg10.keep hb
  replace h1 := PM.SbL.keep h1 hb
  replace hBB := PM.hid (PM.chain hBB.out hb)
  clear hb
  obtain ⟨s, hse, hsp⟩ : ∃ s : Bool, e = .returned (.bool s) ∧ (y2 = x → s = true) := by
    rcases hh with ⟨rfl, h⟩ | ⟨rfl, h⟩
    · exact ⟨true, rfl, fun _ => rfl⟩
    · exact ⟨false, rfl, fun q => absurd q h⟩
  subst hse
  have hsh := PM.hid hsp
  clear hh hsp
  go_wp2_with fail
  have hfl := Filters15_any u1 none 0 0 t [] w9 h1 hG.out.len hG.out.fil (PM.ES.nil _)
  rw [PM.allL_nil, PM.red_0] at hfl
  refine hfl.mono ?_
  clear hfl h1
  rintro e w10 ⟨u4, rfl, ho, hb⟩
  obtain ⟨fa4, fc4, hu4⟩ := ho.rr.len
  have hu4' : u4 = .slice fa4 0 fc4 := hu4
  subst hu4'
  clear ho hu4
  replace kx := kx.keep hb
  replace kg9 := kg9.keep hb
  replace kg10 := kg10.keep hb
  replace hBB := PM.hid (PM.chain hBB.out hb)
  clear hb
  have hle : L2 ≤ L := by rw [hL2h.out, hLh.out, hy2.out]; exact PM.cut_len _ _
  have q3 : decide ((L2 : Int) ≤ (L : Int)) = true := by simp; omega
  have q3' : (L2 : Int) ≤ (L : Int) := by omega
  have c0 : w10.cell? ⟨gx, 0, none⟩ = some (.int .i64 x.kind) := kx.cell 0
  have c1 : w10.cell? ⟨gx, 1, none⟩ = some (.int .i64 x.id.br) := kx.cell 1
  have c2 : w10.cell? ⟨gx, 2, none⟩ = some (.int .u64 (x.id.life : Int)) := kx.cell 2
  have c3 : w10.cell? ⟨gx, 3, none⟩ = some (.int .u64 (x.id.ser : Int)) := kx.cell 3
  have c4 : w10.cell? ⟨gx, 4, none⟩ = some (.int .i64 x.client) := kx.cell 4
  have c5 : w10.cell? ⟨gx, 5, none⟩ = some (.int .u64 (x.sub : Int)) := kx.cell 5
  have c6 : w10.cell? ⟨gx, 6, none⟩ = some (.slice fa F fc) := kx.cell 6
  have c7 : w10.cell? ⟨gx, 7, none⟩ = some (.slice ea L ec) := kx.cell 7
  have d0 : w10.cell? ⟨g10, 0, none⟩ = some (.int .i64 y2.kind) := kg10.cell 0
  have d1 : w10.cell? ⟨g10, 1, none⟩ = some (.int .i64 y2.id.br) := kg10.cell 1
  have d2 : w10.cell? ⟨g10, 2, none⟩ = some (.int .u64 (y2.id.life : Int)) := kg10.cell 2
  have d3 : w10.cell? ⟨g10, 3, none⟩ = some (.int .u64 (y2.id.ser : Int)) := kg10.cell 3
  have d4 : w10.cell? ⟨g10, 4, none⟩ = some (.int .i64 y2.client) := kg10.cell 4
  have d5 : w10.cell? ⟨g10, 5, none⟩ = some (.int .u64 (y2.sub : Int)) := kg10.cell 5
  have d6 : w10.cell? ⟨g10, 6, none⟩ = some (.slice fa2 F2 fc2) := kg10.cell 6
  have d7 : w10.cell? ⟨g10, 7, none⟩ = some (.slice ea2 L2 ec2) := kg10.cell 7
  have a0 : w10.cell? ⟨g9, 0, none⟩ = some (.int .i64 y1.kind) := kg9.cell 0
  have a1 : w10.cell? ⟨g9, 1, none⟩ = some (.int .i64 y1.id.br) := kg9.cell 1
  have a2 : w10.cell? ⟨g9, 2, none⟩ = some (.int .u64 (y1.id.life : Int)) := kg9.cell 2
  have a3 : w10.cell? ⟨g9, 3, none⟩ = some (.int .u64 (y1.id.ser : Int)) := kg9.cell 3
  have a4 : w10.cell? ⟨g9, 4, none⟩ = some (.int .i64 y1.client) := kg9.cell 4
  have a5 : w10.cell? ⟨g9, 5, none⟩ = some (.int .u64 (y1.sub : Int)) := kg9.cell 5
  have a6 : w10.cell? ⟨g9, 6, none⟩ = some (.slice fa1 F1 fc1) := kg9.cell 6
  have a7 : w10.cell? ⟨g9, 7, none⟩ = some (.slice ea1 L1 ec1) := kg9.cell 7
  clear kx kg9 kg10
  by_cases hk1 : x.kind = 1
  · have hL0 : L1 = 0 := by rw [hL1h.out, hy1.out, PM.allL_nil, PM.red_0, PM.cut_nil hk1]; rfl
    subst hL0
    have q1 : (x.kind != 1) = false := by simp [hk1]
    have q2 : (x.kind == 1) = true := by simp [hk1]
    clear hk1
    go_wp2_with fail
    go_ret
    exact ⟨by first | rfl | simp, hBB.out⟩
  · have hst : s = true := hsh.out (by rw [hy2.out, PM.cut_id hk1])
    subst hst
    have q1 : (x.kind != 1) = true := by simp [hk1]
    have q2 : (x.kind == 1) = false := by simp [hk1]
    clear hk1
    go_wp2_with fail
    go_ret
    exact ⟨by first | rfl | simp, hBB.out⟩
theorem tableNone_walk (v : Value) (l : List PM.En) (u : Value) (cs : List Int) (x : PM.En) (fv ev : Value) (hx : x.wf) (w : World) (hv : PM.EnL w v l) (hw : ∀ y ∈ l, PM.En.wf y) (hc : PM.ES PM.iv w u cs) (hf : PM.TV w fv x.fil) (he : PM.EVL w ev x.evs) :
    Calls Try.prog 5 #[v, u, .agg (PM.enC x fv ev).toArray] w fun e w' => e = .returned (.bool true) ∧ Below w.heap.size w w' := by
  obtain ⟨va, vc, rfl⟩ := hv.len
  obtain ⟨ca, cc, rfl⟩ := hc.len
  obtain ⟨fa, fc, rfl⟩ := hf.len
  obtain ⟨ea, ec, rfl⟩ := PM.RR.len he
  exact tableNone_walkA va _ vc l ca _ cc cs x fa _ fc ea _ ec w rfl rfl hv hw hx hf he hc
end Go.Proofs.Ytnpbfjkfbobgaaa
