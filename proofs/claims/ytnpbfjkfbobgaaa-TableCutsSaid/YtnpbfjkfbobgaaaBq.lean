/-
  THE WALK of TableCuts.
-/
import Derived.Test.YtnpbfjkfbobgaaaBn
import Derived.Test.YtnpbfjkfbobgaaaKp
import Derived.Test.YtnpbfjkfbobgaaaJO
namespace Go.Proofs.Ytnpbfjkfbobgaaa
open Go.RowKit
set_option linter.unusedVariables false
set_option linter.unusedSimpArgs false
namespace PM
theorem insL_filP {s : Sb} {t : List Sb} (hs : filP s.fil) (h : ∀ x ∈ t, filP x.fil) : ∀ x ∈ insL s t, filP x.fil := fun x hx => (insL_mem hx).elim (fun e => by rw [e]; exact hs) (h x)
theorem gr1_filP {t : List Sb} {x : En} (h : ∀ y ∈ t, filP y.fil) : ∀ y ∈ gr1 t x, filP y.fil := by
  unfold gr1
  split
  · rename_i hc
    unfold applyL
    split
    · rename_i hk
      refine insL_filP ?_ h
      rcases hc.2.2.2 with ⟨h1, _⟩ | ⟨h1, _⟩ | ⟨_, _, h3⟩
      · omega
      · omega
      · exact h3
    · split
      · exact fun y hy => h y (List.mem_filter.1 hy).1
      · exact h
  · exact h
theorem gr_filP : ∀ (l : List En) (t : List Sb), (∀ y ∈ t, filP y.fil) → ∀ y ∈ l.foldl gr1 t, filP y.fil
  | [], t, h => h
  | x :: l, t, h => by
    rw [List.foldl_cons]
    exact gr_filP l _ (gr1_filP h)
theorem grL_filP (l : List En) : ∀ y ∈ grL l, filP y.fil := gr_filP _ [] (fun y hy => by cases hy)
theorem anyM_red {t : List Sb} (h : ∀ x ∈ t, filP x.fil) {cs : List Int} {e : List At} (he : chkP e) : anyM (redL (allL t cs)) e = anyM (allL t cs) e :=
  redL_any (fun f hf => by obtain ⟨x, hx, rfl, _⟩ := allL_mem hf; exact h x hx) he
theorem allL_sub {t : List Sb} {cs ds : List Int} (h : ∀ c ∈ cs, c ∈ ds) {f : List Te} (hf : f ∈ allL t cs) : f ∈ allL t ds := by
  unfold allL at hf ⊢
  obtain ⟨x, hx, rfl⟩ := List.mem_map.1 hf
  refine List.mem_map.2 ⟨x, List.mem_filter.2 ⟨(List.mem_filter.1 hx).1, ?_⟩, rfl⟩
  have h2 := (List.mem_filter.1 hx).2
  unfold pS at h2 ⊢
  obtain ⟨y, hy, he⟩ := List.any_eq_true.1 h2
  exact List.any_eq_true.2 ⟨y, h y hy, he⟩
theorem any_mono {t : List Sb} {cs ds : List Int} (h : ∀ c ∈ cs, c ∈ ds) {e : List At} (hm : anyM (allL t cs) e = true) : anyM (allL t ds) e = true := by
  unfold anyM at hm ⊢
  obtain ⟨f, hf, he⟩ := List.any_eq_true.1 hm
  exact List.any_eq_true.2 ⟨f, allL_sub h hf, he⟩
theorem chk_evs {x : En} (h : enOk x) (hk : x.kind = 1) : ∀ e ∈ x.evs, chkP e := by
  rcases h.2.2 with ⟨_, _, _, _, h5⟩ | ⟨h1, _⟩ | ⟨h1, _⟩
  · exact h5
  · omega
  · omega
theorem cut_again {t : List Sb} (h : ∀ x ∈ t, filP x.fil) {cs ds : List Int} (hs : ∀ c ∈ cs, c ∈ ds) {x : En} (hx : enOk x) : cutE (redL (allL t cs)) (cutE (redL (allL t ds)) x) = cutE (redL (allL t cs)) x := by
  by_cases hk : x.kind = 1
  · unfold cutE
    rw [if_pos hk, if_pos hk, if_pos (by exact hk)]
    simp only [En.mk.injEq, true_and, List.filter_filter]
    apply List.filter_congr
    intro e he
    have hc := chk_evs hx hk e he
    rw [anyM_red h hc, anyM_red h hc]
    cases hm : anyM (allL t cs) e
    · rfl
    · rw [any_mono hs hm]; rfl
  · rw [cut_id hk, cut_id hk]
theorem cut_fewer {t : List Sb} (h : ∀ x ∈ t, filP x.fil) {cs ds : List Int} (hs : ∀ c ∈ cs, c ∈ ds) {x : En} (hx : enOk x) : (cutE (redL (allL t cs)) x).evs.length ≤ (cutE (redL (allL t ds)) x).evs.length := by
  rw [← cut_again h hs hx]
  exact cut_len _ _
theorem batch_cut {t : List Sb} (h : ∀ x ∈ t, filP x.fil) {c : Int} {ds : List Int} (hs : c ∈ ds) {x : En} (hx : enOk x) : batchL t c (cutE (redL (allL t ds)) x) = batchL t c x := by
  by_cases hk : x.kind = 1
  · unfold batchL cutE
    rw [if_pos hk, if_pos hk, if_pos (by exact hk)]
    rw [List.filter_filter]
    apply List.filter_congr
    intro e he
    have hc := chk_evs hx hk e he
    rw [anyM_red h hc]
    cases hm : anyM (allL t [c]) e
    · rfl
    · rw [any_mono (ds := ds) (fun y hy => by simp at hy; subst hy; exact hs) hm]; rfl
  · rw [cut_id hk]
/-- an entry in a value -/
def EnV (y : En) (v : Value) (W : World) : Prop := ∃ fv ev, v = .agg (enC y fv ev).toArray ∧ TV W fv y.fil ∧ EVL W ev y.evs
theorem EnV.keep {y : En} {v : Value} {W W' : World} (h : EnV y v W) (hb : Below W.heap.size W W') : EnV y v W' := by
  obtain ⟨fv, ev, h1, h2, h3⟩ := h
  exact ⟨fv, ev, h1, h2.keep hb, EVL.keepO hb h3⟩
theorem OE.lit0 (E : TypeId) (W : World) (B : Nat) (hB : B ≤ W.heap.size) : OE iv E B (W.alloc (.cells #[] E)) (.slice (some ⟨W.heap.size, 0, none⟩) 0 0) [] := OM.made (e := fun i : Int => [iv i]) (c := 1) (B := B) W #[] 0 (by decide) rfl hB
end PM
theorem ity15 : PM.ElTy Try.prog 23 3 8 := ⟨Try.underlying23, by
  obtain ⟨i, h1, h2, h3, h4⟩ := info_parts (P := Try.prog) (e := 3) (z := .int .i64 0) (size := 1) (bytes := 8) (by kernel_rfl)
  exact ⟨i, _, h1, h2, h3, h4, by kernel_rfl⟩⟩
set_option maxRecDepth 100000 in
set_option maxHeartbeats 32000000 in
theorem tableCuts_walkA (va : Option Addr) (N vc : Nat) (l : List PM.En) (sa : Option Addr) (sn sc : Nat) (ss : List Int) (ma : Option Addr) (mn mc : Nat) (ms : List Int) (c : Int) (x : PM.En) (fa : Option Addr) (F fc : Nat) (ea : Option Addr) (L ec : Nat) (w : World) (hF : F = x.fil.length) (hL : L = x.evs.length) (hv : PM.EnL w (.slice va N vc) l) (hw : ∀ y ∈ l, PM.En.wf y) (hx : x.wf) (hf : PM.TV w (.slice fa F fc) x.fil) (he : PM.EVL w (.slice ea L ec) x.evs) (hcs : PM.ES PM.iv w (.slice sa sn sc) ss) (hcm : PM.ES PM.iv w (.slice ma mn mc) ms) :
    Calls Try.prog 3 #[.slice va N vc, .slice sa sn sc, .slice ma mn mc, .int .i64 c, .agg #[.int .i64 x.kind, .int .i64 x.id.br, .int .u64 (x.id.life : Int), .int .u64 (x.id.ser : Int), .int .i64 x.client, .int .u64 (x.sub : Int), .slice fa F fc, .slice ea L ec]] w fun e w' => e = .returned (.bool true) ∧ Below w.heap.size w w' := by
  have hsl : Hid (sn = ss.length) := PM.hid (by
    obtain ⟨a, d, h⟩ := hcs.len
    injection h)
  have hml : Hid (mn = ms.length) := PM.hid (by
    obtain ⟨a, d, h⟩ := hcm.len
    injection h)
  have hss := PM.hid hcs
  have hms := PM.hid hcm
  clear hcs hcm
  have hNh : Hid (N = l.length) := PM.hid (by
    obtain ⟨a, c, h⟩ := hv.len
    injection h)
  have hFh := PM.hid hF
  have hLh := PM.hid hL
  have hvh := PM.hid hv
  have hwf := PM.hid (And.intro hw hx)
  have hxr := PM.hid (And.intro hf he)
  clear hF hL hv hw hx hf he
  obtain ⟨gx, hgx⟩ : ∃ g, g = w.heap.size := ⟨_, rfl⟩
  obtain ⟨w1, hw1⟩ : ∃ W, W = w.alloc (.cells #[.int .i64 x.kind, .int .i64 x.id.br, .int .u64 (x.id.life : Int), .int .u64 (x.id.ser : Int), .int .i64 x.client, .int .u64 (x.sub : Int), .slice fa F fc, .slice ea L ec] 31) := ⟨_, rfl⟩
  have hal : Below w.heap.size w w1 := by rw [hw1]; exact (Below.refl _ _).alloc (Nat.le_refl _) _
  have kx : PM.BK w1 gx #[.int .i64 x.kind, .int .i64 x.id.br, .int .u64 (x.id.life : Int), .int .u64 (x.id.ser : Int), .int .i64 x.client, .int .u64 (x.sub : Int), .slice fa F fc, .slice ea L ec] 31 := by rw [hw1, hgx]; exact PM.BK.new _ _ _
  have hBB := PM.hid hal
  clear hal
  have hfw : Hid (∀ W : World, Below w.heap.size w W → Calls Try.prog 8 #[.agg #[.int .i64 x.kind, .int .i64 x.id.br, .int .u64 (x.id.life : Int), .int .u64 (x.id.ser : Int), .int .i64 x.client, .int .u64 (x.sub : Int), .slice fa F fc, .slice ea L ec]] W fun e w' => (e = .returned (.bool true) ∧ PM.FewEn x ∨ e = .returned (.bool false) ∧ ¬ PM.FewEn x) ∧ Below W.heap.size W w') := PM.hid fun W hb => by
    have h1 := hxr.out.1
    have h2 := hxr.out.2
    rw [hFh.out] at h1 ⊢
    rw [hLh.out] at h2 ⊢
    exact few11x_any x _ _ W (h1.keep hb) (PM.EVL.keepO hb h2)
  go_enter Try.func3, Try.ntmps3
  go_upto_region 1 with fail
  rw [← hw1, ← hgx]
  clear hw1 hgx
  go_wp2_with fail
  refine (awake15_any w1).mono ?_
  rintro e w2 ⟨rfl, hb⟩
  replace kx := kx.keep hb
  replace hBB := PM.hid (PM.chain hBB.out hb)
  clear hb
  by_cases hsn : sn ≤ 20
  case neg =>
    have q : decide ((20 : Int) < (sn : Int)) = true := by simp; omega
    have q' : (20 : Int) < (sn : Int) := by omega
    clear kx
    go_wp2_with fail
    go_ret
    exact ⟨by first | rfl | simp, hBB.out⟩
  have q1 : decide ((20 : Int) < (sn : Int)) = false := by simp; omega
  have q1' : ¬ (20 : Int) < (sn : Int) := by omega
  by_cases hmn : mn ≤ 20
  case neg =>
    have q : decide ((20 : Int) < (mn : Int)) = true := by simp; omega
    have q' : (20 : Int) < (mn : Int) := by omega
    clear kx
    go_wp2_with fail
    go_ret
    exact ⟨by first | rfl | simp, hBB.out⟩
  have q2 : decide ((20 : Int) < (mn : Int)) = false := by simp; omega
  have q2' : ¬ (20 : Int) < (mn : Int) := by omega
  have c0 : w2.cell? ⟨gx, 0, none⟩ = some (.int .i64 x.kind) := kx.cell 0
  have c1 : w2.cell? ⟨gx, 1, none⟩ = some (.int .i64 x.id.br) := kx.cell 1
  have c2 : w2.cell? ⟨gx, 2, none⟩ = some (.int .u64 (x.id.life : Int)) := kx.cell 2
  have c3 : w2.cell? ⟨gx, 3, none⟩ = some (.int .u64 (x.id.ser : Int)) := kx.cell 3
  have c4 : w2.cell? ⟨gx, 4, none⟩ = some (.int .i64 x.client) := kx.cell 4
  have c5 : w2.cell? ⟨gx, 5, none⟩ = some (.int .u64 (x.sub : Int)) := kx.cell 5
  have c6 : w2.cell? ⟨gx, 6, none⟩ = some (.slice fa F fc) := kx.cell 6
  have c7 : w2.cell? ⟨gx, 7, none⟩ = some (.slice ea L ec) := kx.cell 7
  go_wp2_with fail
  refine (hfw.out w2 hBB.out).mono ?_
  rintro e w3 ⟨hFw, hb⟩
  clear c0 c1 c2 c3 c4 c5 c6 c7
  replace kx := kx.keep hb
  replace hBB := PM.hid (PM.chain hBB.out hb)
  clear hb
  rcases hFw with ⟨rfl, hFw⟩ | ⟨rfl, hFw⟩
  case inr =>
    clear kx hFw
    go_wp2_with fail
    go_ret
    exact ⟨by first | rfl | simp, hBB.out⟩
  have hFwh := PM.hid hFw
  have hEnS := PM.hid hFw.enS
  clear hFw
  have hck : Hid (∀ W : World, Below w.heap.size w W → Calls Try.prog 9 #[.agg #[.int .i64 x.kind, .int .i64 x.id.br, .int .u64 (x.id.life : Int), .int .u64 (x.id.ser : Int), .int .i64 x.client, .int .u64 (x.sub : Int), .slice fa F fc, .slice ea L ec]] W fun e w' => e = .returned (.int .i64 (PM.enE x)) ∧ Below W.heap.size W w') := PM.hid fun W hb => by
    have h1 := hxr.out.1
    have h2 := hxr.out.2
    rw [hFh.out] at h1 ⊢
    rw [hLh.out] at h2 ⊢
    exact encheck_any x _ _ W hwf.out.2 (h1.keep hb) (PM.EVL.keepO hb h2)
  have c0 : w3.cell? ⟨gx, 0, none⟩ = some (.int .i64 x.kind) := kx.cell 0
  have c1 : w3.cell? ⟨gx, 1, none⟩ = some (.int .i64 x.id.br) := kx.cell 1
  have c2 : w3.cell? ⟨gx, 2, none⟩ = some (.int .u64 (x.id.life : Int)) := kx.cell 2
  have c3 : w3.cell? ⟨gx, 3, none⟩ = some (.int .u64 (x.id.ser : Int)) := kx.cell 3
  have c4 : w3.cell? ⟨gx, 4, none⟩ = some (.int .i64 x.client) := kx.cell 4
  have c5 : w3.cell? ⟨gx, 5, none⟩ = some (.int .u64 (x.sub : Int)) := kx.cell 5
  have c6 : w3.cell? ⟨gx, 6, none⟩ = some (.slice fa F fc) := kx.cell 6
  have c7 : w3.cell? ⟨gx, 7, none⟩ = some (.slice ea L ec) := kx.cell 7
  by_cases hok : PM.enOk x
  case neg =>
    have hc := hck.out w3 hBB.out
    rw [show PM.enE x = 110 from by unfold PM.enE; rw [if_neg hok]] at hc
    clear hok hck
    go_wp2_with fail
    refine hc.mono ?_
    rintro e w4 ⟨rfl, hb⟩
    clear hc c0 c1 c2 c3 c4 c5 c6 c7
    replace kx := kx.keep hb
    replace hBB := PM.hid (PM.chain hBB.out hb)
    clear hb
    clear kx
    go_wp2_with fail
    go_ret
    exact ⟨by first | rfl | simp, hBB.out⟩
  have hc := hck.out w3 hBB.out
  rw [PM.enE_yes hok] at hc
  replace hok := PM.hid hok
  clear hck
  go_wp2_with fail
  refine hc.mono ?_
  rintro e w4 ⟨rfl, hb⟩
  clear hc c0 c1 c2 c3 c4 c5 c6 c7 q1 q1' q2 q2'
  replace kx := kx.keep hb
  replace hBB := PM.hid (PM.chain hBB.out hb)
  clear hb
  go_wp2_with fail
  refine (grown15_any (.slice va N vc) l w4 (PM.EnL.keep hvh.out hBB.out) hwf.out.1).mono ?_
  rintro e w5 ⟨u1, rfl, h1, hb⟩
  replace kx := kx.keep hb
  replace hBB := PM.hid (PM.chain hBB.out hb)
  clear hb
  have hG := PM.hid (PM.grL_ok l)
  obtain ⟨t, ht⟩ : ∃ t, t = PM.grL l := ⟨_, rfl⟩
  rw [← ht] at h1 hG
  have hfp : Hid (∀ y ∈ t, PM.filP y.fil) := PM.hid (by rw [ht]; exact PM.grL_filP l)
  clear ht
  have hO0 := PM.OE.lit0 3 w5 w5.heap.size (Nat.le_refl _)
  have hal : ∀ o : Obj, Below w5.heap.size w5 (w5.alloc o) := fun o => (Below.refl _ _).alloc (Nat.le_refl _) _
  have s5 : ∀ o : Obj, PM.ES PM.iv (w5.alloc o) (.slice sa sn sc) ss := fun o => (hss.out.keep hBB.out).keep (hal o)
  have hst : w5.heap.size ≤ (w5.alloc (.cells #[] 3)).heap.size := by simp
  have hl1 : (([] : List Int).length + ss.length) * 8 ≤ 140737488355328 := by rw [← hsl.out]; simp; omega
  have hl2 : ([] : List Int).length + ss.length ≤ maxLen := by rw [← hsl.out]; unfold maxLen; simp; omega
  have m5 : PM.ES PM.iv w5 (.slice ma mn mc) ms := hms.out.keep hBB.out
  have hl3 : (([] ++ ss : List Int).length + ms.length) * 8 ≤ 140737488355328 := by rw [List.nil_append, ← hsl.out, ← hml.out]; omega
  have hl4 : ([] ++ ss : List Int).length + ms.length ≤ maxLen := by rw [List.nil_append, ← hsl.out, ← hml.out]; unfold maxLen; omega
  go_upto_region 8 with (first
    | (at_builtin; refine PM.wpList_es ity15 w5.heap.size rfl _ _ rfl (.slice (some ⟨w5.heap.size, 0, none⟩) 0 0) (.slice sa sn sc) [] ss (by intro u hu; rfl) rfl rfl hO0 (s5 _) hl1 hl2 hst ?_; intro v6 w6 t1 t2 t3 t4; have hB6 := (hal _).trans t2; have hsz6 := hB6.size; clear t2 t3 t4)
    | (at_builtin; refine PM.wpList_es ity15 w5.heap.size rfl _ _ rfl v6 (.slice ma mn mc) ([] ++ ss) ms (by intro u hu; rfl) rfl rfl t1 (m5.keep hB6) hl3 hl4 hsz6 ?_; intro v7 w7 q1 q2 q3 q4; have hB7 := hB6.trans q2; clear q2 q3 q4))
  have hI := q1.es
  rw [List.nil_append] at hI
  obtain ⟨wB, hwB⟩ : ∃ q, q = w7 := ⟨_, rfl⟩
  rw [← hwB] at hI hB7 ⊢
  clear hwB q1 t1 hB6 hsz6 hO0 hal s5 hst hl1 hl2 hl3 hl4 m5
  obtain ⟨ja, jc, hie⟩ := hI.len
  obtain ⟨jN, hiN⟩ : ∃ q, q = (ss ++ ms).length := ⟨_, rfl⟩
  rw [← hiN] at hie
  subst hie
  clear hiN
  replace kx := kx.keep hB7
  replace h1 := PM.SbL.keep h1 hB7
  replace hBB := PM.hid (PM.chain hBB.out hB7)
  clear hB7
  have hIh := PM.hid hI
  clear hI
  have c0 : wB.cell? ⟨gx, 0, none⟩ = some (.int .i64 x.kind) := kx.cell 0
  have c1 : wB.cell? ⟨gx, 1, none⟩ = some (.int .i64 x.id.br) := kx.cell 1
  have c2 : wB.cell? ⟨gx, 2, none⟩ = some (.int .u64 (x.id.life : Int)) := kx.cell 2
  have c3 : wB.cell? ⟨gx, 3, none⟩ = some (.int .u64 (x.id.ser : Int)) := kx.cell 3
  have c4 : wB.cell? ⟨gx, 4, none⟩ = some (.int .i64 x.client) := kx.cell 4
  have c5 : wB.cell? ⟨gx, 5, none⟩ = some (.int .u64 (x.sub : Int)) := kx.cell 5
  have c6 : wB.cell? ⟨gx, 6, none⟩ = some (.slice fa F fc) := kx.cell 6
  have c7 : wB.cell? ⟨gx, 7, none⟩ = some (.slice ea L ec) := kx.cell 7
  go_wp2_with fail
  refine (cut15_any u1 ja jN jc t (ss ++ ms) x.kind x.id.br x.id.life x.id.ser x.client x.sub x.fil x.evs fa F fc ea L ec wB hFh.out hLh.out h1 hG.out.len hG.out.fil hIh.out (hxr.out.1.keep hBB.out) (PM.EVL.keepO hBB.out hxr.out.2) hEnS.out).mono ?_
  rintro e wC ⟨us, rfl, ho, hb⟩
  obtain ⟨y1, hy⟩ : ∃ y, y = PM.cutE (PM.redL (PM.allL t (ss ++ ms))) x := ⟨_, rfl⟩
  have ho' : PM.enO 55 58 60 wB.heap.size wC us y1 := by rw [hy]; exact ho
  have hy1 := PM.hid hy
  obtain ⟨cf, ce, hus, hcf, hce⟩ := ho'
  have yf1 : PM.TV wC cf y1.fil := hcf.em PM.teL_len
  have ye1 : PM.EVL wC ce y1.evs := hce.rr.imp fun cs x ⟨v, q1, q2⟩ => ⟨v, q1, (q2.em PM.attL_len).ev⟩
  obtain ⟨fa1, fc1, hfe⟩ := yf1.len
  obtain ⟨ea1, ec1, hee⟩ := PM.RR.len ye1
  obtain ⟨F1, hF1⟩ : ∃ q, q = y1.fil.length := ⟨_, rfl⟩
  obtain ⟨L1, hL1⟩ : ∃ q, q = y1.evs.length := ⟨_, rfl⟩
  rw [← hF1] at hfe
  rw [← hL1] at hee
  subst hfe hee
  have hF1h := PM.hid hF1
  have hL1h := PM.hid hL1
  unfold PM.enC at hus
  subst hus
  clear hF1 hL1 hy ho hcf hce
  clear c0 c1 c2 c3 c4 c5 c6 c7
  replace kx := kx.keep hb
  replace h1 := PM.SbL.keep h1 hb
  replace hBB := PM.hid (PM.chain hBB.out hb)
  clear hb
  go_upto_region 9 with fail
  obtain ⟨g14, hg14⟩ : ∃ g, g = wC.heap.size := ⟨_, rfl⟩
  obtain ⟨wD, hwD⟩ : ∃ W, W = wC.alloc (.cells #[.int .i64 y1.kind, .int .i64 y1.id.br, .int .u64 (y1.id.life : Int), .int .u64 (y1.id.ser : Int), .int .i64 y1.client, .int .u64 (y1.sub : Int), .slice fa1 F1 fc1, .slice ea1 L1 ec1] 31) := ⟨_, rfl⟩
  have bwD : Below wC.heap.size wC wD := by rw [hwD]; exact (Below.refl _ _).alloc (Nat.le_refl _) _
  have kg14 : PM.BK wD g14 #[.int .i64 y1.kind, .int .i64 y1.id.br, .int .u64 (y1.id.life : Int), .int .u64 (y1.id.ser : Int), .int .i64 y1.client, .int .u64 (y1.sub : Int), .slice fa1 F1 fc1, .slice ea1 L1 ec1] 31 := by rw [hwD, hg14]; exact PM.BK.new _ _ _
  try rw [← hwD]
  try rw [← hg14]
  clear hg14 hwD
  replace yf1 := yf1.keep bwD
  replace ye1 := PM.EVL.keepO bwD ye1
  replace kx := kx.keep bwD
  replace h1 := PM.SbL.keep h1 bwD
  replace hBB := PM.hid (PM.chain hBB.out bwD)
  clear bwD
  have c0 : wD.cell? ⟨gx, 0, none⟩ = some (.int .i64 x.kind) := kx.cell 0
  have c1 : wD.cell? ⟨gx, 1, none⟩ = some (.int .i64 x.id.br) := kx.cell 1
  have c2 : wD.cell? ⟨gx, 2, none⟩ = some (.int .u64 (x.id.life : Int)) := kx.cell 2
  have c3 : wD.cell? ⟨gx, 3, none⟩ = some (.int .u64 (x.id.ser : Int)) := kx.cell 3
  have c4 : wD.cell? ⟨gx, 4, none⟩ = some (.int .i64 x.client) := kx.cell 4
  have c5 : wD.cell? ⟨gx, 5, none⟩ = some (.int .u64 (x.sub : Int)) := kx.cell 5
  have c6 : wD.cell? ⟨gx, 6, none⟩ = some (.slice fa F fc) := kx.cell 6
  have c7 : wD.cell? ⟨gx, 7, none⟩ = some (.slice ea L ec) := kx.cell 7
  go_wp2_with fail
  refine (cut15_any u1 sa sn sc t ss x.kind x.id.br x.id.life x.id.ser x.client x.sub x.fil x.evs fa F fc ea L ec wD hFh.out hLh.out h1 hG.out.len hG.out.fil (hss.out.keep hBB.out) (hxr.out.1.keep hBB.out) (PM.EVL.keepO hBB.out hxr.out.2) hEnS.out).mono ?_
  rintro e wE ⟨us, rfl, ho, hb⟩
  obtain ⟨y2, hy⟩ : ∃ y, y = PM.cutE (PM.redL (PM.allL t ss)) x := ⟨_, rfl⟩
  have ho' : PM.enO 55 58 60 wD.heap.size wE us y2 := by rw [hy]; exact ho
  have hy2 := PM.hid hy
  obtain ⟨cf, ce, hus, hcf, hce⟩ := ho'
  have yf2 : PM.TV wE cf y2.fil := hcf.em PM.teL_len
  have ye2 : PM.EVL wE ce y2.evs := hce.rr.imp fun cs x ⟨v, q1, q2⟩ => ⟨v, q1, (q2.em PM.attL_len).ev⟩
  obtain ⟨fa2, fc2, hfe⟩ := yf2.len
  obtain ⟨ea2, ec2, hee⟩ := PM.RR.len ye2
  obtain ⟨F2, hF2⟩ : ∃ q, q = y2.fil.length := ⟨_, rfl⟩
  obtain ⟨L2, hL2⟩ : ∃ q, q = y2.evs.length := ⟨_, rfl⟩
  rw [← hF2] at hfe
  rw [← hL2] at hee
  subst hfe hee
  have hF2h := PM.hid hF2
  have hL2h := PM.hid hL2
  unfold PM.enC at hus
  subst hus
  clear hF2 hL2 hy ho hcf hce
  clear c0 c1 c2 c3 c4 c5 c6 c7
  replace yf1 := yf1.keep hb
  replace ye1 := PM.EVL.keepO hb ye1
  replace kx := kx.keep hb
  replace kg14 := kg14.keep hb
  replace h1 := PM.SbL.keep h1 hb
  replace hBB := PM.hid (PM.chain hBB.out hb)
  clear hb
  go_upto_region 10 with fail
  obtain ⟨g15, hg15⟩ : ∃ g, g = wE.heap.size := ⟨_, rfl⟩
  obtain ⟨wF, hwF⟩ : ∃ W, W = wE.alloc (.cells #[.int .i64 y2.kind, .int .i64 y2.id.br, .int .u64 (y2.id.life : Int), .int .u64 (y2.id.ser : Int), .int .i64 y2.client, .int .u64 (y2.sub : Int), .slice fa2 F2 fc2, .slice ea2 L2 ec2] 31) := ⟨_, rfl⟩
  have bwF : Below wE.heap.size wE wF := by rw [hwF]; exact (Below.refl _ _).alloc (Nat.le_refl _) _
  have kg15 : PM.BK wF g15 #[.int .i64 y2.kind, .int .i64 y2.id.br, .int .u64 (y2.id.life : Int), .int .u64 (y2.id.ser : Int), .int .i64 y2.client, .int .u64 (y2.sub : Int), .slice fa2 F2 fc2, .slice ea2 L2 ec2] 31 := by rw [hwF, hg15]; exact PM.BK.new _ _ _
  try rw [← hwF]
  try rw [← hg15]
  clear hg15 hwF
  replace yf1 := yf1.keep bwF
  replace ye1 := PM.EVL.keepO bwF ye1
  replace yf2 := yf2.keep bwF
  replace ye2 := PM.EVL.keepO bwF ye2
  replace kx := kx.keep bwF
  replace kg14 := kg14.keep bwF
  replace h1 := PM.SbL.keep h1 bwF
  replace hBB := PM.hid (PM.chain hBB.out bwF)
  clear bwF
  have h1h := PM.hid h1
  have yf1h := PM.hid yf1
  have ye1h := PM.hid ye1
  have yf2h := PM.hid yf2
  have ye2h := PM.hid ye2
  clear h1 yf1 ye1 yf2 ye2
  have hS1 : Hid (PM.EnS y1) := PM.hid (by rw [hy1.out]; exact hEnS.out.cut)
  have hw1 : Hid ((PM.cutE (PM.redL (PM.allL t ss)) y1).wf) := PM.hid (by rw [hy1.out]; exact hwf.out.2.cut.cut)
  have hw2 : Hid (y2.wf) := PM.hid (by rw [hy2.out]; exact hwf.out.2.cut)
  have heq : Hid (PM.cutE (PM.redL (PM.allL t ss)) y1 = y2) := PM.hid (by rw [hy1.out, hy2.out]; exact PM.cut_again hfp.out (fun c hc => List.mem_append.2 (.inl hc)) hok.out)
  have hle2 : Hid (L2 ≤ L1) := PM.hid (by rw [hL1h.out, hL2h.out, hy1.out, hy2.out]; exact PM.cut_fewer hfp.out (fun c hc => List.mem_append.2 (.inl hc)) hok.out)
  have hide : Hid (y2.id = x.id) := PM.hid (by rw [hy2.out]; exact (PM.cut_kind _ _).2.1)
  refine PM.wp_region_st [some 56, some 57, some 58, some 59, some 60, some 61, some 16] [fun vq _ => vq = u1, fun vq _ => vq = .slice sa sn sc, fun vq _ => vq = .agg #[.int .i64 y1.kind, .int .i64 y1.id.br, .int .u64 (y1.id.life : Int), .int .u64 (y1.id.ser : Int), .int .i64 y1.client, .int .u64 (y1.sub : Int), .slice fa1 F1 fc1, .slice ea1 L1 ec1], fun v W => PM.EnV (PM.cutE (PM.redL (PM.allL t ss)) y1) v W, fun vq _ => vq = .agg #[.int .i64 y2.kind, .int .i64 y2.id.br, .int .u64 (y2.id.life : Int), .int .u64 (y2.id.ser : Int), .int .i64 y2.client, .int .u64 (y2.sub : Int), .slice fa2 F2 fc2, .slice ea2 L2 ec2], fun vq _ => vq = .bool true, fun vq _ => vq = .bool true] (by kernel_rfl) (by kernel_rfl) (by kernel_rfl) ?_ ?_ ?_
  · simp only [List.forall_mem_cons]
    refine ⟨?_, ?_, ?_, ?_, ?_, ?_, ?_, by simp⟩
    all_goals (intro vq W W' h hb; first | exact h | exact PM.BS.keep hb h | exact PM.OW.keep hb h | exact PM.EVL.keepO hb h | exact PM.EnV.keep h hb)
  · refine ⟨?_, ?_, ?_, ?_, ?_, ?_, ?_, trivial⟩
    all_goals
      intro a W hB hF hd
      have k1 := hF 1 rfl
      have k12 := hF 12 rfl
      have k14 := hF 14 rfl
      have k15 := hF 15 rfl
      have hBW := PM.chain hBB.out hB
      have x0 : W.cell? ⟨g14, 0, none⟩ = some (.int .i64 y1.kind) := (kg14.keep hB).cell 0
      have x1 : W.cell? ⟨g14, 1, none⟩ = some (.int .i64 y1.id.br) := (kg14.keep hB).cell 1
      have x2 : W.cell? ⟨g14, 2, none⟩ = some (.int .u64 (y1.id.life : Int)) := (kg14.keep hB).cell 2
      have x3 : W.cell? ⟨g14, 3, none⟩ = some (.int .u64 (y1.id.ser : Int)) := (kg14.keep hB).cell 3
      have x4 : W.cell? ⟨g14, 4, none⟩ = some (.int .i64 y1.client) := (kg14.keep hB).cell 4
      have x5 : W.cell? ⟨g14, 5, none⟩ = some (.int .u64 (y1.sub : Int)) := (kg14.keep hB).cell 5
      have x6 : W.cell? ⟨g14, 6, none⟩ = some (.slice fa1 F1 fc1) := (kg14.keep hB).cell 6
      have x7 : W.cell? ⟨g14, 7, none⟩ = some (.slice ea1 L1 ec1) := (kg14.keep hB).cell 7
      have z0 : W.cell? ⟨g15, 0, none⟩ = some (.int .i64 y2.kind) := (kg15.keep hB).cell 0
      have z1 : W.cell? ⟨g15, 1, none⟩ = some (.int .i64 y2.id.br) := (kg15.keep hB).cell 1
      have z2 : W.cell? ⟨g15, 2, none⟩ = some (.int .u64 (y2.id.life : Int)) := (kg15.keep hB).cell 2
      have z3 : W.cell? ⟨g15, 3, none⟩ = some (.int .u64 (y2.id.ser : Int)) := (kg15.keep hB).cell 3
      have z4 : W.cell? ⟨g15, 4, none⟩ = some (.int .i64 y2.client) := (kg15.keep hB).cell 4
      have z5 : W.cell? ⟨g15, 5, none⟩ = some (.int .u64 (y2.sub : Int)) := (kg15.keep hB).cell 5
      have z6 : W.cell? ⟨g15, 6, none⟩ = some (.slice fa2 F2 fc2) := (kg15.keep hB).cell 6
      have z7 : W.cell? ⟨g15, 7, none⟩ = some (.slice ea2 L2 ec2) := (kg15.keep hB).cell 7
      clear hF
      simp [PM.depsL, PM.spec, PM.sl, Region.binds] at hd k1 k12 k14 k15
      simp only [PM.wantL, PM.spec]
      try simp only [PM.sl]
      go_simp
    all_goals try exact Below.refl _ _
    · refine (cut15_any u1 sa sn sc t ss y1.kind y1.id.br y1.id.life y1.id.ser y1.client y1.sub y1.fil y1.evs fa1 F1 fc1 ea1 L1 ec1 W hF1h.out hL1h.out (PM.SbL.keep h1h.out hB) hG.out.len hG.out.fil (hss.out.keep hBW) (yf1h.out.keep hB) (PM.EVL.keepO hB ye1h.out) hS1.out).mono ?_
      rintro e w' ⟨us, rfl, ho, hb⟩
      have hq : PM.EnV (PM.cutE (PM.redL (PM.allL t ss)) y1) (.agg (List.toArray us)) w' := by
        have ho' : PM.enO 55 58 60 W.heap.size w' us (PM.cutE (PM.redL (PM.allL t ss)) y1) := ho
        obtain ⟨cf, ce, hus, hcf, hce⟩ := ho'
        exact ⟨cf, ce, by rw [hus], hcf.em PM.teL_len, hce.rr.imp fun cs x ⟨v, q1, q2⟩ => ⟨v, q1, (q2.em PM.attL_len).ev⟩⟩
      first | exact ⟨hb, hq⟩ | exact ⟨hb, _, rfl, hq⟩
    · obtain ⟨fv, ev, hv9, hv1, hv2⟩ : PM.EnV (PM.cutE (PM.redL (PM.allL t ss)) y1) (a.tmps[59]?.getD undef) W := by first | exact hd.1 | exact hd.2 | exact hd
      simp only [hv9]
      have hsm := same11_any (PM.cutE (PM.redL (PM.allL t ss)) y1) y2 fv ev (.slice fa2 y2.fil.length fc2) (.slice ea2 y2.evs.length ec2) W hw1.out hw2.out hv1 hv2 (by have := yf2h.out.keep hB; rwa [hF2h.out] at this) (by have := PM.EVL.keepO hB ye2h.out; rwa [hL2h.out] at this)
      rw [← hF2h.out, ← hL2h.out] at hsm
      refine hsm.mono ?_
      rintro e w' ⟨hh, hb⟩
      rcases hh with ⟨rfl, -⟩ | ⟨-, hno⟩
      · first | exact ⟨hb, rfl⟩ | exact ⟨hb, _, rfl, rfl⟩
      · exact absurd heq.out hno
  · intro G W hB hF hS
    simp [PM.allSp, PM.spec] at hS
    have g16 : G 16 = .bool true := by simp [hS]
    have k0 := hF 0 rfl
    have k1 := hF 1 rfl
    have k2 := hF 2 rfl
    have k3 := hF 3 rfl
    have k4 := hF 4 rfl
    have k5 := hF 5 rfl
    have k6 := hF 6 rfl
    have k7 := hF 7 rfl
    have k8 := hF 8 rfl
    have k9 := hF 9 rfl
    have k10 := hF 10 rfl
    have k11 := hF 11 rfl
    have k12 := hF 12 rfl
    have k13 := hF 13 rfl
    have k14 := hF 14 rfl
    have k15 := hF 15 rfl
    have k17 := hF 17 rfl
    have k18 := hF 18 rfl
    have k19 := hF 19 rfl
    have k20 := hF 20 rfl
    have k21 := hF 21 rfl
    have k22 := hF 22 rfl
    have k23 := hF 23 rfl
    have k24 := hF 24 rfl
    have k25 := hF 25 rfl
    have k26 := hF 26 rfl
    have k27 := hF 27 rfl
    have k28 := hF 28 rfl
    have k29 := hF 29 rfl
    have k30 := hF 30 rfl
    have k31 := hF 31 rfl
    have k32 := hF 32 rfl
    have k33 := hF 33 rfl
    have k34 := hF 34 rfl
    have k35 := hF 35 rfl
    have k36 := hF 36 rfl
    have k37 := hF 37 rfl
    have k38 := hF 38 rfl
    have k39 := hF 39 rfl
    have k40 := hF 40 rfl
    have k41 := hF 41 rfl
    have k42 := hF 42 rfl
    have k43 := hF 43 rfl
    have k44 := hF 44 rfl
    have k45 := hF 45 rfl
    have k46 := hF 46 rfl
    have k47 := hF 47 rfl
    have k48 := hF 48 rfl
    have k49 := hF 49 rfl
    have k50 := hF 50 rfl
    have k51 := hF 51 rfl
    have k52 := hF 52 rfl
    have k53 := hF 53 rfl
    have k54 := hF 54 rfl
    have k55 := hF 55 rfl
    have k62 := hF 62 rfl
    have k63 := hF 63 rfl
    have k64 := hF 64 rfl
    have k65 := hF 65 rfl
    have k66 := hF 66 rfl
    have k67 := hF 67 rfl
    have k68 := hF 68 rfl
    have k69 := hF 69 rfl
    have k70 := hF 70 rfl
    have k71 := hF 71 rfl
    have k72 := hF 72 rfl
    have k73 := hF 73 rfl
    have k74 := hF 74 rfl
    have k75 := hF 75 rfl
    have k76 := hF 76 rfl
    have k77 := hF 77 rfl
    have k78 := hF 78 rfl
    have k79 := hF 79 rfl
    have k80 := hF 80 rfl
    have k81 := hF 81 rfl
    have k82 := hF 82 rfl
    have k83 := hF 83 rfl
    have k84 := hF 84 rfl
    have k85 := hF 85 rfl
    have k86 := hF 86 rfl
    have k87 := hF 87 rfl
    have k88 := hF 88 rfl
    have k89 := hF 89 rfl
    have k90 := hF 90 rfl
    have k91 := hF 91 rfl
    have k92 := hF 92 rfl
    have k93 := hF 93 rfl
    have k94 := hF 94 rfl
    have k95 := hF 95 rfl
    have k96 := hF 96 rfl
    have k97 := hF 97 rfl
    have k98 := hF 98 rfl
    have k99 := hF 99 rfl
    have k100 := hF 100 rfl
    simp [PM.sl] at k0 k1 k2 k3 k4 k5 k6 k7 k8 k9 k10 k11 k12 k13 k14 k15 k17 k18 k19 k20 k21 k22 k23 k24 k25 k26 k27 k28 k29 k30 k31 k32 k33 k34 k35 k36 k37 k38 k39 k40 k41 k42 k43 k44 k45 k46 k47 k48 k49 k50 k51 k52 k53 k54 k55 k62 k63 k64 k65 k66 k67 k68 k69 k70 k71 k72 k73 k74 k75 k76 k77 k78 k79 k80 k81 k82 k83 k84 k85 k86 k87 k88 k89 k90 k91 k92 k93 k94 k95 k96 k97 k98 k99 k100
    rw [show ((List.range (Array.size _)).map G).toArray = #[G 0, G 1, G 2, G 3, G 4, G 5, G 6, G 7, G 8, G 9, G 10, G 11, G 12, G 13, G 14, G 15, G 16, G 17, G 18, G 19, G 20, G 21, G 22, G 23, G 24, G 25, G 26, G 27, G 28, G 29, G 30, G 31, G 32, G 33, G 34, G 35, G 36, G 37, G 38, G 39, G 40, G 41, G 42, G 43, G 44, G 45, G 46, G 47, G 48, G 49, G 50, G 51, G 52, G 53, G 54, G 55, G 56, G 57, G 58, G 59, G 60, G 61, G 62, G 63, G 64, G 65, G 66, G 67, G 68, G 69, G 70, G 71, G 72, G 73, G 74, G 75, G 76, G 77, G 78, G 79, G 80, G 81, G 82, G 83, G 84, G 85, G 86, G 87, G 88, G 89, G 90, G 91, G 92, G 93, G 94, G 95, G 96, G 97, G 98, G 99, G 100] from rfl]
    clear hF hS
    rw [g16, k0, k1, k2, k3, k4, k5, k6, k7, k8, k9, k10, k11, k12, k13, k14, k15, k17, k18, k19, k20, k21, k22, k23, k24, k25, k26, k27, k28, k29, k30, k31, k32, k33, k34, k35, k36, k37, k38, k39, k40, k41, k42, k43, k44, k45, k46, k47, k48, k49, k50, k51, k52, k53, k54, k55, k62, k63, k64, k65, k66, k67, k68, k69, k70, k71, k72, k73, k74, k75, k76, k77, k78, k79, k80, k81, k82, k83, k84, k85, k86, k87, k88, k89, k90, k91, k92, k93, k94, k95, k96, k97, k98, k99, k100]
    clear g16 k0 k1 k2 k3 k4 k5 k6 k7 k8 k9 k10 k11 k12 k13 k14 k15 k17 k18 k19 k20 k21 k22 k23 k24 k25 k26 k27 k28 k29 k30 k31 k32 k33 k34 k35 k36 k37 k38 k39 k40 k41 k42 k43 k44 k45 k46 k47 k48 k49 k50 k51 k52 k53 k54 k55 k62 k63 k64 k65 k66 k67 k68 k69 k70 k71 k72 k73 k74 k75 k76 k77 k78 k79 k80 k81 k82 k83 k84 k85 k86 k87 k88 k89 k90 k91 k92 k93 k94 k95 k96 k97 k98 k99 k100
    replace kx := kx.keep hB
    replace kg14 := kg14.keep hB
    replace kg15 := kg15.keep hB
    replace h1h := PM.hid (PM.SbL.keep h1h.out hB)
    replace hBB := PM.hid (PM.chain hBB.out hB)
    obtain ⟨wA, hwA⟩ : ∃ q, q = W := ⟨_, rfl⟩
    rw [← hwA] at kx kg14 kg15 h1h hBB ⊢
    clear hwA hB yf1h ye1h yf2h ye2h
    have hO0 := PM.OE.lit0 3 wA wA.heap.size (Nat.le_refl _)
    have hal : ∀ o : Obj, Below wA.heap.size wA (wA.alloc o) := fun o => (Below.refl _ _).alloc (Nat.le_refl _) _
    have s5 : ∀ o : Obj, PM.ES PM.iv (wA.alloc o) (.slice sa sn sc) ss := fun o => (hss.out.keep hBB.out).keep (hal o)
    have hst : wA.heap.size ≤ (wA.alloc (.cells #[] 3)).heap.size := by simp
    have hl1 : (([] : List Int).length + ss.length) * 8 ≤ 140737488355328 := by rw [← hsl.out]; simp; omega
    have hl2 : ([] : List Int).length + ss.length ≤ maxLen := by rw [← hsl.out]; unfold maxLen; simp; omega
    have hl3 : (([] ++ ss : List Int).length + 1) * 8 ≤ 140737488355328 := by rw [List.nil_append, ← hsl.out]; omega
    have hl4 : ([] ++ ss : List Int).length + 1 ≤ maxLen := by rw [List.nil_append, ← hsl.out]; unfold maxLen; omega
    go_upto_region 12 with (first
      | (at_builtin; refine PM.wpList_es ity15 wA.heap.size rfl _ _ rfl (.slice (some ⟨wA.heap.size, 0, none⟩) 0 0) (.slice sa sn sc) [] ss (by intro u hu; rfl) rfl rfl hO0 (s5 _) hl1 hl2 hst ?_; intro v6 w6 t1 t2 t3 t4; have hB6 := (hal _).trans t2; have hsz6 := hB6.size; clear t2 t3 t4)
      | (at_builtin; refine PM.wpList_es1 ity15 wA.heap.size w6 rfl _ _ rfl v6 _ c _ rfl rfl rfl rfl rfl t1 hl3 hl4 hsz6 ?_; intro v7 w7 q1 q2 q3 q4; have hB7 := hB6.trans q2; clear q2 q3 q4))
    have hI := q1.es
    rw [List.nil_append] at hI
    obtain ⟨wB, hwB⟩ : ∃ q, q = w7 := ⟨_, rfl⟩
    rw [← hwB] at hI hB7 ⊢
    clear hwB q1 t1 hB6 hsz6 hO0 hal s5 hst hl1 hl2 hl3 hl4
    obtain ⟨ia, ic, hie⟩ := hI.len
    obtain ⟨iN, hiN⟩ : ∃ q, q = (ss ++ [c]).length := ⟨_, rfl⟩
    rw [← hiN] at hie
    subst hie
    clear hiN
    replace kx := kx.keep hB7
    replace kg14 := kg14.keep hB7
    replace kg15 := kg15.keep hB7
    replace h1h := PM.hid (PM.SbL.keep h1h.out hB7)
    replace hBB := PM.hid (PM.chain hBB.out hB7)
    clear hB7
    have hIh := PM.hid hI
    clear hI
    have h1 := h1h.out
    have c0 : wB.cell? ⟨gx, 0, none⟩ = some (.int .i64 x.kind) := kx.cell 0
    have c1 : wB.cell? ⟨gx, 1, none⟩ = some (.int .i64 x.id.br) := kx.cell 1
    have c2 : wB.cell? ⟨gx, 2, none⟩ = some (.int .u64 (x.id.life : Int)) := kx.cell 2
    have c3 : wB.cell? ⟨gx, 3, none⟩ = some (.int .u64 (x.id.ser : Int)) := kx.cell 3
    have c4 : wB.cell? ⟨gx, 4, none⟩ = some (.int .i64 x.client) := kx.cell 4
    have c5 : wB.cell? ⟨gx, 5, none⟩ = some (.int .u64 (x.sub : Int)) := kx.cell 5
    have c6 : wB.cell? ⟨gx, 6, none⟩ = some (.slice fa F fc) := kx.cell 6
    have c7 : wB.cell? ⟨gx, 7, none⟩ = some (.slice ea L ec) := kx.cell 7
    go_wp2_with fail
    refine (cut15_any u1 ia iN ic t (ss ++ [c]) x.kind x.id.br x.id.life x.id.ser x.client x.sub x.fil x.evs fa F fc ea L ec wB hFh.out hLh.out h1 hG.out.len hG.out.fil hIh.out (hxr.out.1.keep hBB.out) (PM.EVL.keepO hBB.out hxr.out.2) hEnS.out).mono ?_
    rintro e wC ⟨us, rfl, ho, hb⟩
    obtain ⟨y3, hy⟩ : ∃ y, y = PM.cutE (PM.redL (PM.allL t (ss ++ [c]))) x := ⟨_, rfl⟩
    have ho' : PM.enO 55 58 60 wB.heap.size wC us y3 := by rw [hy]; exact ho
    have hy3 := PM.hid hy
    obtain ⟨cf, ce, hus, hcf, hce⟩ := ho'
    have yf3 : PM.TV wC cf y3.fil := hcf.em PM.teL_len
    have ye3 : PM.EVL wC ce y3.evs := hce.rr.imp fun cs x ⟨v, q1, q2⟩ => ⟨v, q1, (q2.em PM.attL_len).ev⟩
    obtain ⟨fa3, fc3, hfe⟩ := yf3.len
    obtain ⟨ea3, ec3, hee⟩ := PM.RR.len ye3
    obtain ⟨F3, hF3⟩ : ∃ q, q = y3.fil.length := ⟨_, rfl⟩
    obtain ⟨L3, hL3⟩ : ∃ q, q = y3.evs.length := ⟨_, rfl⟩
    rw [← hF3] at hfe
    rw [← hL3] at hee
    subst hfe hee
    have hF3h := PM.hid hF3
    have hL3h := PM.hid hL3
    unfold PM.enC at hus
    subst hus
    clear hF3 hL3 hy ho hcf hce
    clear c0 c1 c2 c3 c4 c5 c6 c7 h1
    replace kx := kx.keep hb
    replace kg14 := kg14.keep hb
    replace kg15 := kg15.keep hb
    replace h1h := PM.hid (PM.SbL.keep h1h.out hb)
    replace hBB := PM.hid (PM.chain hBB.out hb)
    clear hb
    go_upto_region 13 with fail
    obtain ⟨g18, hg18⟩ : ∃ g, g = wC.heap.size := ⟨_, rfl⟩
    obtain ⟨wD, hwD⟩ : ∃ W, W = wC.alloc (.cells #[.int .i64 y3.kind, .int .i64 y3.id.br, .int .u64 (y3.id.life : Int), .int .u64 (y3.id.ser : Int), .int .i64 y3.client, .int .u64 (y3.sub : Int), .slice fa3 F3 fc3, .slice ea3 L3 ec3] 31) := ⟨_, rfl⟩
    have bwD : Below wC.heap.size wC wD := by rw [hwD]; exact (Below.refl _ _).alloc (Nat.le_refl _) _
    have kg18 : PM.BK wD g18 #[.int .i64 y3.kind, .int .i64 y3.id.br, .int .u64 (y3.id.life : Int), .int .u64 (y3.id.ser : Int), .int .i64 y3.client, .int .u64 (y3.sub : Int), .slice fa3 F3 fc3, .slice ea3 L3 ec3] 31 := by rw [hwD, hg18]; exact PM.BK.new _ _ _
    try rw [← hwD]
    try rw [← hg18]
    clear hg18 hwD
    replace kx := kx.keep bwD
    replace kg14 := kg14.keep bwD
    replace kg15 := kg15.keep bwD
    replace h1h := PM.hid (PM.SbL.keep h1h.out bwD)
    have ye3h := PM.hid (PM.EVL.keepO bwD ye3)
    replace hBB := PM.hid (PM.chain hBB.out bwD)
    clear bwD yf3 ye3
    have hS3 : Hid (PM.EnS y3) := PM.hid (by rw [hy3.out]; exact hEnS.out.cut)
    have hbq : Hid (PM.batchL t c y3 = PM.batchL t c x) := PM.hid (by rw [hy3.out]; exact PM.batch_cut hfp.out (by simp) hok.out)
    refine PM.wp_region_st [some 72, some 73, some 74, some 75, some 76, some 77, some 78, some 79, some 80, some 19] [fun vq _ => vq = u1, fun vq _ => vq = .int .i64 c, fun vq _ => vq = .agg #[.int .i64 y3.kind, .int .i64 y3.id.br, .int .u64 (y3.id.life : Int), .int .u64 (y3.id.ser : Int), .int .i64 y3.client, .int .u64 (y3.sub : Int), .slice fa3 F3 fc3, .slice ea3 L3 ec3], fun v W => PM.EVL W v (PM.batchL t c y3), fun vq _ => vq = u1, fun vq _ => vq = .int .i64 c, fun vq _ => vq = .agg #[.int .i64 x.kind, .int .i64 x.id.br, .int .u64 (x.id.life : Int), .int .u64 (x.id.ser : Int), .int .i64 x.client, .int .u64 (x.sub : Int), .slice fa F fc, .slice ea L ec], fun v W => PM.EVL W v (PM.batchL t c x), fun vq _ => vq = .bool true, fun vq _ => vq = .bool true] (by kernel_rfl) (by kernel_rfl) (by kernel_rfl) ?_ ?_ ?_
    · simp only [List.forall_mem_cons]
      refine ⟨?_, ?_, ?_, ?_, ?_, ?_, ?_, ?_, ?_, ?_, by simp⟩
      all_goals (intro vq W W' h hb; first | exact h | exact PM.BS.keep hb h | exact PM.OW.keep hb h | exact PM.EVL.keepO hb h | exact PM.EnV.keep h hb)
    · refine ⟨?_, ?_, ?_, ?_, ?_, ?_, ?_, ?_, ?_, ?_, trivial⟩
      all_goals
        intro a W hB hF hd
        have k3 := hF 3 rfl
        have k9 := hF 9 rfl
        have k12 := hF 12 rfl
        have k18 := hF 18 rfl
        have hBW := PM.chain hBB.out hB
        have x0 : W.cell? ⟨g18, 0, none⟩ = some (.int .i64 y3.kind) := (kg18.keep hB).cell 0
        have x1 : W.cell? ⟨g18, 1, none⟩ = some (.int .i64 y3.id.br) := (kg18.keep hB).cell 1
        have x2 : W.cell? ⟨g18, 2, none⟩ = some (.int .u64 (y3.id.life : Int)) := (kg18.keep hB).cell 2
        have x3 : W.cell? ⟨g18, 3, none⟩ = some (.int .u64 (y3.id.ser : Int)) := (kg18.keep hB).cell 3
        have x4 : W.cell? ⟨g18, 4, none⟩ = some (.int .i64 y3.client) := (kg18.keep hB).cell 4
        have x5 : W.cell? ⟨g18, 5, none⟩ = some (.int .u64 (y3.sub : Int)) := (kg18.keep hB).cell 5
        have x6 : W.cell? ⟨g18, 6, none⟩ = some (.slice fa3 F3 fc3) := (kg18.keep hB).cell 6
        have x7 : W.cell? ⟨g18, 7, none⟩ = some (.slice ea3 L3 ec3) := (kg18.keep hB).cell 7
        have z0 : W.cell? ⟨gx, 0, none⟩ = some (.int .i64 x.kind) := (kx.keep hB).cell 0
        have z1 : W.cell? ⟨gx, 1, none⟩ = some (.int .i64 x.id.br) := (kx.keep hB).cell 1
        have z2 : W.cell? ⟨gx, 2, none⟩ = some (.int .u64 (x.id.life : Int)) := (kx.keep hB).cell 2
        have z3 : W.cell? ⟨gx, 3, none⟩ = some (.int .u64 (x.id.ser : Int)) := (kx.keep hB).cell 3
        have z4 : W.cell? ⟨gx, 4, none⟩ = some (.int .i64 x.client) := (kx.keep hB).cell 4
        have z5 : W.cell? ⟨gx, 5, none⟩ = some (.int .u64 (x.sub : Int)) := (kx.keep hB).cell 5
        have z6 : W.cell? ⟨gx, 6, none⟩ = some (.slice fa F fc) := (kx.keep hB).cell 6
        have z7 : W.cell? ⟨gx, 7, none⟩ = some (.slice ea L ec) := (kx.keep hB).cell 7
        clear hF
        simp [PM.depsL, PM.spec, PM.sl, Region.binds] at hd k3 k9 k12 k18
        simp only [PM.wantL, PM.spec]
        try simp only [PM.sl]
        go_simp
      all_goals try exact Below.refl _ _
      · refine (batch15_any u1 c t y3.kind y3.id.br y3.id.life y3.id.ser y3.client y3.sub y3.fil y3.evs fa3 F3 fc3 ea3 L3 ec3 W hL3h.out (PM.SbL.keep h1h.out hB) (by have := hG.out.len; omega) (PM.EVL.keepO hB ye3h.out) ⟨hS3.out.2.1, hS3.out.2.2⟩).mono ?_
        rintro e w' ⟨u', rfl, ho, hb⟩
        have hq : PM.EVL w' u' (PM.batchL t c y3) := ho.rr.imp fun cs x ⟨v, q1, q2⟩ => ⟨v, q1, (q2.em PM.attL_len).ev⟩
        first | exact ⟨hb, hq⟩ | exact ⟨hb, _, rfl, hq⟩
      · refine (batch15_any u1 c t x.kind x.id.br x.id.life x.id.ser x.client x.sub x.fil x.evs fa F fc ea L ec W hLh.out (PM.SbL.keep h1h.out hB) (by have := hG.out.len; omega) (PM.EVL.keepO hBW hxr.out.2) ⟨hEnS.out.2.1, hEnS.out.2.2⟩).mono ?_
        rintro e w' ⟨u', rfl, ho, hb⟩
        have hq : PM.EVL w' u' (PM.batchL t c x) := ho.rr.imp fun cs x ⟨v, q1, q2⟩ => ⟨v, q1, (q2.em PM.attL_len).ev⟩
        first | exact ⟨hb, hq⟩ | exact ⟨hb, _, rfl, hq⟩
      · refine (events15_any _ _ _ _ W hd.1 hd.2).mono ?_
        rintro e w' ⟨hh, hb⟩
        rcases hh with ⟨rfl, -⟩ | ⟨-, hno⟩
        · first | exact ⟨hb, rfl⟩ | exact ⟨hb, _, rfl, rfl⟩
        · exact absurd hbq.out hno
    · intro G W hB hF hS
      simp [PM.allSp, PM.spec] at hS
      have g19 : G 19 = .bool true := by simp [hS]
      have k0 := hF 0 rfl
      have k1 := hF 1 rfl
      have k2 := hF 2 rfl
      have k3 := hF 3 rfl
      have k4 := hF 4 rfl
      have k5 := hF 5 rfl
      have k6 := hF 6 rfl
      have k7 := hF 7 rfl
      have k8 := hF 8 rfl
      have k9 := hF 9 rfl
      have k10 := hF 10 rfl
      have k11 := hF 11 rfl
      have k12 := hF 12 rfl
      have k13 := hF 13 rfl
      have k14 := hF 14 rfl
      have k15 := hF 15 rfl
      have k16 := hF 16 rfl
      have k17 := hF 17 rfl
      have k18 := hF 18 rfl
      have k20 := hF 20 rfl
      have k21 := hF 21 rfl
      have k22 := hF 22 rfl
      have k23 := hF 23 rfl
      have k24 := hF 24 rfl
      have k25 := hF 25 rfl
      have k26 := hF 26 rfl
      have k27 := hF 27 rfl
      have k28 := hF 28 rfl
      have k29 := hF 29 rfl
      have k30 := hF 30 rfl
      have k31 := hF 31 rfl
      have k32 := hF 32 rfl
      have k33 := hF 33 rfl
      have k34 := hF 34 rfl
      have k35 := hF 35 rfl
      have k36 := hF 36 rfl
      have k37 := hF 37 rfl
      have k38 := hF 38 rfl
      have k39 := hF 39 rfl
      have k40 := hF 40 rfl
      have k41 := hF 41 rfl
      have k42 := hF 42 rfl
      have k43 := hF 43 rfl
      have k44 := hF 44 rfl
      have k45 := hF 45 rfl
      have k46 := hF 46 rfl
      have k47 := hF 47 rfl
      have k48 := hF 48 rfl
      have k49 := hF 49 rfl
      have k50 := hF 50 rfl
      have k51 := hF 51 rfl
      have k52 := hF 52 rfl
      have k53 := hF 53 rfl
      have k54 := hF 54 rfl
      have k55 := hF 55 rfl
      have k56 := hF 56 rfl
      have k57 := hF 57 rfl
      have k58 := hF 58 rfl
      have k59 := hF 59 rfl
      have k60 := hF 60 rfl
      have k61 := hF 61 rfl
      have k62 := hF 62 rfl
      have k63 := hF 63 rfl
      have k64 := hF 64 rfl
      have k65 := hF 65 rfl
      have k66 := hF 66 rfl
      have k67 := hF 67 rfl
      have k68 := hF 68 rfl
      have k69 := hF 69 rfl
      have k70 := hF 70 rfl
      have k71 := hF 71 rfl
      have k81 := hF 81 rfl
      have k82 := hF 82 rfl
      have k83 := hF 83 rfl
      have k84 := hF 84 rfl
      have k85 := hF 85 rfl
      have k86 := hF 86 rfl
      have k87 := hF 87 rfl
      have k88 := hF 88 rfl
      have k89 := hF 89 rfl
      have k90 := hF 90 rfl
      have k91 := hF 91 rfl
      have k92 := hF 92 rfl
      have k93 := hF 93 rfl
      have k94 := hF 94 rfl
      have k95 := hF 95 rfl
      have k96 := hF 96 rfl
      have k97 := hF 97 rfl
      have k98 := hF 98 rfl
      have k99 := hF 99 rfl
      have k100 := hF 100 rfl
      simp [PM.sl] at k0 k1 k2 k3 k4 k5 k6 k7 k8 k9 k10 k11 k12 k13 k14 k15 k16 k17 k18 k20 k21 k22 k23 k24 k25 k26 k27 k28 k29 k30 k31 k32 k33 k34 k35 k36 k37 k38 k39 k40 k41 k42 k43 k44 k45 k46 k47 k48 k49 k50 k51 k52 k53 k54 k55 k56 k57 k58 k59 k60 k61 k62 k63 k64 k65 k66 k67 k68 k69 k70 k71 k81 k82 k83 k84 k85 k86 k87 k88 k89 k90 k91 k92 k93 k94 k95 k96 k97 k98 k99 k100
      rw [show ((List.range (Array.size _)).map G).toArray = #[G 0, G 1, G 2, G 3, G 4, G 5, G 6, G 7, G 8, G 9, G 10, G 11, G 12, G 13, G 14, G 15, G 16, G 17, G 18, G 19, G 20, G 21, G 22, G 23, G 24, G 25, G 26, G 27, G 28, G 29, G 30, G 31, G 32, G 33, G 34, G 35, G 36, G 37, G 38, G 39, G 40, G 41, G 42, G 43, G 44, G 45, G 46, G 47, G 48, G 49, G 50, G 51, G 52, G 53, G 54, G 55, G 56, G 57, G 58, G 59, G 60, G 61, G 62, G 63, G 64, G 65, G 66, G 67, G 68, G 69, G 70, G 71, G 72, G 73, G 74, G 75, G 76, G 77, G 78, G 79, G 80, G 81, G 82, G 83, G 84, G 85, G 86, G 87, G 88, G 89, G 90, G 91, G 92, G 93, G 94, G 95, G 96, G 97, G 98, G 99, G 100] from rfl]
      clear hF hS
      rw [g19, k0, k1, k2, k3, k4, k5, k6, k7, k8, k9, k10, k11, k12, k13, k14, k15, k16, k17, k18, k20, k21, k22, k23, k24, k25, k26, k27, k28, k29, k30, k31, k32, k33, k34, k35, k36, k37, k38, k39, k40, k41, k42, k43, k44, k45, k46, k47, k48, k49, k50, k51, k52, k53, k54, k55, k56, k57, k58, k59, k60, k61, k62, k63, k64, k65, k66, k67, k68, k69, k70, k71, k81, k82, k83, k84, k85, k86, k87, k88, k89, k90, k91, k92, k93, k94, k95, k96, k97, k98, k99, k100]
      clear g19 k0 k1 k2 k3 k4 k5 k6 k7 k8 k9 k10 k11 k12 k13 k14 k15 k16 k17 k18 k20 k21 k22 k23 k24 k25 k26 k27 k28 k29 k30 k31 k32 k33 k34 k35 k36 k37 k38 k39 k40 k41 k42 k43 k44 k45 k46 k47 k48 k49 k50 k51 k52 k53 k54 k55 k56 k57 k58 k59 k60 k61 k62 k63 k64 k65 k66 k67 k68 k69 k70 k71 k81 k82 k83 k84 k85 k86 k87 k88 k89 k90 k91 k92 k93 k94 k95 k96 k97 k98 k99 k100
      replace kx := kx.keep hB
      replace kg14 := kg14.keep hB
      replace kg15 := kg15.keep hB
      have hBe := PM.hid (PM.chain hBB.out hB)
      clear hB kg18
      have c0 : W.cell? ⟨gx, 0, none⟩ = some (.int .i64 x.kind) := kx.cell 0
      have c1 : W.cell? ⟨gx, 1, none⟩ = some (.int .i64 x.id.br) := kx.cell 1
      have c2 : W.cell? ⟨gx, 2, none⟩ = some (.int .u64 (x.id.life : Int)) := kx.cell 2
      have c3 : W.cell? ⟨gx, 3, none⟩ = some (.int .u64 (x.id.ser : Int)) := kx.cell 3
      have c4 : W.cell? ⟨gx, 4, none⟩ = some (.int .i64 x.client) := kx.cell 4
      have c5 : W.cell? ⟨gx, 5, none⟩ = some (.int .u64 (x.sub : Int)) := kx.cell 5
      have c6 : W.cell? ⟨gx, 6, none⟩ = some (.slice fa F fc) := kx.cell 6
      have c7 : W.cell? ⟨gx, 7, none⟩ = some (.slice ea L ec) := kx.cell 7
      have d0 : W.cell? ⟨g14, 0, none⟩ = some (.int .i64 y1.kind) := kg14.cell 0
      have d1 : W.cell? ⟨g14, 1, none⟩ = some (.int .i64 y1.id.br) := kg14.cell 1
      have d2 : W.cell? ⟨g14, 2, none⟩ = some (.int .u64 (y1.id.life : Int)) := kg14.cell 2
      have d3 : W.cell? ⟨g14, 3, none⟩ = some (.int .u64 (y1.id.ser : Int)) := kg14.cell 3
      have d4 : W.cell? ⟨g14, 4, none⟩ = some (.int .i64 y1.client) := kg14.cell 4
      have d5 : W.cell? ⟨g14, 5, none⟩ = some (.int .u64 (y1.sub : Int)) := kg14.cell 5
      have d6 : W.cell? ⟨g14, 6, none⟩ = some (.slice fa1 F1 fc1) := kg14.cell 6
      have d7 : W.cell? ⟨g14, 7, none⟩ = some (.slice ea1 L1 ec1) := kg14.cell 7
      have b0 : W.cell? ⟨g15, 0, none⟩ = some (.int .i64 y2.kind) := kg15.cell 0
      have b1 : W.cell? ⟨g15, 1, none⟩ = some (.int .i64 y2.id.br) := kg15.cell 1
      have b2 : W.cell? ⟨g15, 2, none⟩ = some (.int .u64 (y2.id.life : Int)) := kg15.cell 2
      have b3 : W.cell? ⟨g15, 3, none⟩ = some (.int .u64 (y2.id.ser : Int)) := kg15.cell 3
      have b4 : W.cell? ⟨g15, 4, none⟩ = some (.int .i64 y2.client) := kg15.cell 4
      have b5 : W.cell? ⟨g15, 5, none⟩ = some (.int .u64 (y2.sub : Int)) := kg15.cell 5
      have b6 : W.cell? ⟨g15, 6, none⟩ = some (.slice fa2 F2 fc2) := kg15.cell 6
      have b7 : W.cell? ⟨g15, 7, none⟩ = some (.slice ea2 L2 ec2) := kg15.cell 7
      have hle : L2 ≤ L1 := hle2.out
      have q3 : decide ((L2 : Int) ≤ (L1 : Int)) = true := by simp; omega
      have q3' : (L2 : Int) ≤ (L1 : Int) := by omega
      have hq := ideq_run y2.id x.id
      rw [show decide (y2.id = x.id) = true from decide_eq_true hide.out] at hq
      clear kx kg14 kg15 hle
      go_wp2_with fail
      go_ret
      exact ⟨rfl, hBe.out⟩
theorem tableCuts_walk (v : Value) (l : List PM.En) (u1 : Value) (ss : List Int) (u2 : Value) (ms : List Int) (c : Int) (x : PM.En) (fv ev : Value) (hc : (Lit.int .i64 c).wf = true) (hx : x.wf) (w : World) (hv : PM.EnL w v l) (hw : ∀ y ∈ l, PM.En.wf y) (h1 : PM.ES PM.iv w u1 ss) (h2 : PM.ES PM.iv w u2 ms) (hf : PM.TV w fv x.fil) (he : PM.EVL w ev x.evs) :
    Calls Try.prog 3 #[v, u1, u2, .int .i64 c, .agg (PM.enC x fv ev).toArray] w fun e w' => e = .returned (.bool true) ∧ Below w.heap.size w w' := by
  obtain ⟨va, vc, rfl⟩ := hv.len
  obtain ⟨sa, sc, rfl⟩ := h1.len
  obtain ⟨ma, mc, rfl⟩ := h2.len
  obtain ⟨fa, fc, rfl⟩ := hf.len
  obtain ⟨ea, ec, rfl⟩ := PM.RR.len he
  exact tableCuts_walkA va _ vc l sa _ sc ss ma _ mc ms c x fa _ fc ea _ ec w rfl rfl hv hw hx hf he h1 h2
end Go.Proofs.Ytnpbfjkfbobgaaa
