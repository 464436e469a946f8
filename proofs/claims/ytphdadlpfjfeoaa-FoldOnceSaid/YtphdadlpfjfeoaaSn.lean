/-
  READINGS of lists of records that come in; THE WALKS of FoldNames, FoldOnce. (Written by tools/mk_sn.py.)
-/
import Derived.Test.YtphdadlpfjfeoaaSm
import Derived.Test.YtphdadlpfjfeoaaWt
import Derived.Test.YtphdadlpfjfeoaaSi
import Derived.Test.YtphdadlpfjfeoaaJT
namespace Go.Proofs.Ytphdadlpfjfeoaa
open Go.RowKit
set_option linter.unusedVariables false
set_option linter.unusedSimpArgs false
section
variable {H : Type} {enc : TypeId × Value → H} {w : World} {base : Nat} {held : Bool}
theorem rcs_open : ∀ n V x, DataW.trod enc Try.prog w base (fun _ => true) held n 23 [V] = some x → ∃ l, PM.RcL w V l ∧ ∀ y ∈ l, PM.Rc.wf y := fun n V x h =>
  PM.RR.of_trodc (R := PM.rcR) (Pw := PM.Rc.wf) (PM.rcCe ⟨0, 0, PM.En9, PM.Id0⟩ none 0 0 none 0 0) Try.underlying23 (by kernel_rfl) (by decide) (fun n cs x h => by
    obtain ⟨y, fv, ev, hw, hcs, h1, h2⟩ := rc_open n cs x h
    obtain ⟨fa, fc, rfl⟩ := h1.len
    obtain ⟨ea, ec, rfl⟩ := h2.len
    refine ⟨by rw [hcs]; rfl, ?_, y, hw, _, _, hcs, h1, h2⟩
    rw [hcs]
    exact (PM.rcCe y fa y.en.fil.length fc ea y.en.evs.length ec).2.2) h
end
namespace PM
/-- what operations keep that make memory, or write states of the call's own -/
def RT (TS : TypeId) (B : Nat) (W W' : World) : Prop := W.heap.size ≤ W'.heap.size ∧ (B ≤ W.heap.size → Below B W W') ∧ ∀ T, TS ≠ T → KT W W' T
theorem RT.new {TS : TypeId} {B : Nat} {W W' : World} (h : Below W.heap.size W W') : RT TS B W W' := ⟨h.size, fun hb => h.mono hb, fun T _ => KT.of h T⟩
theorem RT.trans {TS : TypeId} {B : Nat} {x y z : World} (h : RT TS B x y) (k : RT TS B y z) : RT TS B x z := ⟨Nat.le_trans h.1 k.1, fun hb => (h.2.1 hb).trans (k.2.1 (Nat.le_trans hb h.1)), fun T hT => (h.2.2 T hT).trans (k.2.2 T hT)⟩
theorem RT.bx {TS : TypeId} {B g : Nat} {W W' : World} {cs : Array Value} (h : Bx g W W') (hb : BK W g cs TS) (hg : B ≤ g) : RT TS B W W' := ⟨h.size, fun hB => h.below (Below.refl _ _) hg hB, fun T hT => KT.ofx h hb hT⟩
theorem EnW.rt {B C : Nat} {W W' : World} {v : Value} {l : List En} (h : EnW B W v l) (k : RT 28 C W W') : EnW B W' v l := OR.kt (enO_ktE (k.2.2 _ (by decide)) (k.2.2 _ (by decide)) (k.2.2 _ (by decide))) h (k.2.2 _ (by decide))
theorem MX.rt {B C : Nat} {s : Fs} {x : Value} {W w : World} (k : RT 28 C W w) (h : MX B s x W) : MX B s x w := by
  obtain ⟨ua, un, uc, pa, pn, pc, ta, tn, tc, he, h1, h2, h3⟩ := h
  exact ⟨ua, un, uc, pa, pn, pc, ta, tn, tc, he, h1.rt k, h2.rt k, h3.kt (k.2.2 _ (by decide))⟩
/-- a state and an error -/
def MC (B : Nat) (s : Fs) (c : Int) (x : Value) (W : World) : Prop := ∃ y, x = .tuple #[y, .int .i64 c] ∧ MX B s y W
theorem MC.keep {B : Nat} {s : Fs} {c : Int} {x : Value} {W w : World} (hb : Below W.heap.size W w) (h : MC B s c x W) : MC B s c x w := by
  obtain ⟨y, he, h⟩ := h
  exact ⟨y, he, h.keep hb⟩
theorem MC.rt {B C : Nat} {s : Fs} {c : Int} {x : Value} {W w : World} (k : RT 28 C W w) (h : MC B s c x W) : MC B s c x w := by
  obtain ⟨y, he, h⟩ := h
  exact ⟨y, he, h.rt k⟩
/-- a state's box of the call's own -/
def PB (B : Nat) (x : Value) (W : World) : Prop := ∃ g, x = .pointer (some ⟨g, 0, none⟩) ∧ B ≤ g ∧ BK W g #[.int .u64 0, .slice none 0 0, .slice none 0 0, .slice none 0 0] 28
theorem PB.keep {B : Nat} {x : Value} {W w : World} (hb : Below W.heap.size W w) (h : PB B x W) : PB B x w := by
  obtain ⟨g, h1, h2, h3⟩ := h
  exact ⟨g, h1, h2, h3.keep hb⟩
/-- the box, filled -/
def PS (B : Nat) (s : Fs) (x : Value) (W : World) : Prop := ∃ g, x = .pointer (some ⟨g, 0, none⟩) ∧ B ≤ g ∧ ∃ ua un uc pa pn pc ta tn tc, BK W g #[.int .u64 (s.lf : Int), .slice ua un uc, .slice pa pn pc, .slice ta tn tc] 28 ∧ EnW B W (.slice ua un uc) s.ls ∧ EnW B W (.slice pa pn pc) s.ps ∧ OM idL 3 39 B W (.slice ta tn tc) s.ab
theorem PS.keep {B : Nat} {s : Fs} {x : Value} {W w : World} (hb : Below W.heap.size W w) (h : PS B s x W) : PS B s x w := by
  obtain ⟨g, h1, h2, ua, un, uc, pa, pn, pc, ta, tn, tc, h3, h4, h5, h6⟩ := h
  exact ⟨g, h1, h2, ua, un, uc, pa, pn, pc, ta, tn, tc, h3.keep hb, h4.keep hb, h5.keep hb, h6.keep hb⟩
end PM
theorem foldNames_walk (w : World) : Calls Try.prog 3 #[] w fun e w' => e = .returned (.bool true) ∧ Below w.heap.size w w' := by
  go_enter Try.func3, Try.ntmps3
  go_wp2_with fail
  refine (awake16_any w).mono ?_
  rintro e w1 ⟨rfl, hB⟩
  have hBB := PM.hid hB
  clear hB
  go_wp2_with fail
  go_ret
  exact ⟨rfl, hBB.out⟩
set_option maxRecDepth 100000 in
set_option maxHeartbeats 16000000 in
theorem foldOnce_walk (v : Value) (l : List PM.Rc) (y : PM.Rc) (fv ev : Value) (hyw : y.wf) (w : World) (hv : PM.RcL w v l) (hwl : ∀ x ∈ l, x.wf) (hf : PM.TV w fv y.en.fil) (he : PM.EVL w ev y.en.evs) :
    Calls Try.prog 5 #[v, .agg (PM.rcC y fv ev).toArray] w fun e w' => e = .returned (.bool true) ∧ Below w.heap.size w w' := by
  obtain ⟨va, vc, hve⟩ := hv.len
  obtain ⟨fa, fc, rfl⟩ := hf.len
  obtain ⟨ea, ec, rfl⟩ := he.len
  obtain ⟨kd, nn, z, i⟩ := y
  simp only at hf he ⊢
  have hsm := fun (W : World) (hb : Below w.heap.size w W) => small16x_any kd nn z fa fc ea ec i W (hf.keep hb) (PM.EVL.keepO hb he)
  obtain ⟨zF, hzF⟩ : ∃ q, q = z.fil.length := ⟨_, rfl⟩
  obtain ⟨zE, hzE⟩ : ∃ q, q = z.evs.length := ⟨_, rfl⟩
  rw [← hzF] at hf hsm ⊢
  rw [← hzE] at he hsm ⊢
  have hfh := PM.hid hf
  have heh := PM.hid he
  have hzh := PM.hid (And.intro hzF hzE)
  clear hf he hzF hzE
  replace hsm := PM.hid hsm
  have hokl := PM.md_ok l hwl
  have hok40 : PM.FsOk 40 (PM.mdP l) := by
    by_cases hl : l.length ≤ 40
    · have := hokl l.length (Nat.le_refl _) hl
      rw [List.take_length] at this
      exact this.mono hl
    · have := hokl 40 (by omega) (Nat.le_refl _)
      rwa [PM.md_end l (.inr rfl)] at this
  have hgd := PM.mdP_gd hwl
  obtain ⟨s2, hs2a⟩ : ∃ q, q = (PM.stp (PM.mdP l) ⟨kd, nn, z, i⟩).1 := ⟨_, rfl⟩
  obtain ⟨c2, hc2a⟩ : ∃ q, q = (PM.stp (PM.mdP l) ⟨kd, nn, z, i⟩).2 := ⟨_, rfl⟩
  have hs2 : Hid (s2 = (PM.stp (PM.mdP l) (PM.rcMk kd nn z i)).1 ∧ c2 = (PM.stp (PM.mdP l) (PM.rcMk kd nn z i)).2) := PM.hid ⟨hs2a, hc2a⟩
  have hcd : Hid (c2 = 0 ∨ c2 ≠ 0) := PM.hid (by omega)
  have hgd2 : PM.Gd s2 := by rw [hs2a]; exact hgd.stp hyw
  have hwf2 : Hid ((∀ x ∈ s2.ls, x.wf) ∧ ∀ x ∈ s2.ps, x.wf) := PM.hid ⟨hgd2.wfL, hgd2.wfP⟩
  have htw : Hid (c2 = 0 → PM.stp s2 (PM.rcMk kd nn z i) = (s2, 160)) := PM.hid (fun h => by have := PM.stp_twice (PM.mdP l) ⟨kd, nn, z, i⟩ (by rw [← hc2a]; exact h); rw [← hs2a] at this; exact this)
  have hok : Hid (Hid (PM.EnsS (PM.mdP l).ls) ∧ Hid (PM.EnsS (PM.mdP l).ps) ∧ Hid ((PM.mdP l).ab.length ≤ 1000)) := PM.hid ⟨PM.hid (hok40.ensL (by decide)), PM.hid (hok40.ensP (by decide)), PM.hid (by have := hok40.2.2.1; omega)⟩
  have hok2f : PM.FewEn z → Hid (Hid (PM.EnsS s2.ls) ∧ Hid (PM.EnsS s2.ps) ∧ Hid (s2.ab.length ≤ 1000)) := fun hfe => by
    have h41 : PM.FsOk 41 s2 := by rw [hs2a]; exact hok40.stp hfe.enS hyw.2.1
    exact PM.hid ⟨PM.hid (h41.ensL (by decide)), PM.hid (h41.ensP (by decide)), PM.hid (by have := h41.2.2.1; omega)⟩
  replace hok2f := PM.hid hok2f
  have hxw : Hid ((PM.rcMk kd nn z i).wf) := PM.hid hyw
  replace hv := PM.hid hv
  replace hwl := PM.hid hwl
  clear hokl hok40 hgd hgd2 hs2a hc2a hyw
  obtain ⟨NV, hNV⟩ : ∃ q, q = l.length := ⟨_, rfl⟩
  rw [← hNV] at hve
  obtain ⟨gr, hgr⟩ : ∃ g, g = w.heap.size := ⟨_, rfl⟩
  obtain ⟨w1, hw1⟩ : ∃ W, W = w.alloc (.cells #[.int .i64 kd, .int .u64 (nn : Int), .int .i64 z.kind, .int .i64 z.id.br, .int .u64 (z.id.life : Int), .int .u64 (z.id.ser : Int), .int .i64 z.client, .int .u64 (z.sub : Int), .slice fa zF fc, .slice ea zE ec, .int .i64 i.br, .int .u64 (i.life : Int), .int .u64 (i.ser : Int)] 46) := ⟨_, rfl⟩
  have hb1 : Below w.heap.size w w1 := by rw [hw1]; exact (Below.refl _ _).alloc (Nat.le_refl _) _
  have kr : PM.BK w1 gr #[.int .i64 kd, .int .u64 (nn : Int), .int .i64 z.kind, .int .i64 z.id.br, .int .u64 (z.id.life : Int), .int .u64 (z.id.ser : Int), .int .i64 z.client, .int .u64 (z.sub : Int), .slice fa zF fc, .slice ea zE ec, .int .i64 i.br, .int .u64 (i.life : Int), .int .u64 (i.ser : Int)] 46 := by rw [hw1, hgr]; exact PM.BK.new _ _ _
  unfold PM.rcC PM.enC PM.idL
  simp only [List.cons_append, List.nil_append]
  clear hNV
  subst hve
  go_enter Try.func5, Try.ntmps5
  go_upto_region 1 with fail
  rw [← hw1, ← hgr]
  clear hw1 hgr
  have hkr0 := PM.hid kr
  have hb1h := PM.hid hb1
  clear kr hb1
  go_wp2_with fail
  refine (awake16_any w1).mono ?_
  rintro e w2 ⟨rfl, hb2⟩
  have hkr1 := PM.hid (hkr0.out.keep hb2)
  have hb2h := PM.hid (PM.chain hb1h.out hb2)
  clear hb2 hkr0 hb1h
  have x0 : w2.cell? ⟨gr, 0, none⟩ = some (.int .i64 kd) := hkr1.out.cell 0
  have x1 : w2.cell? ⟨gr, 1, none⟩ = some (.int .u64 (nn : Int)) := hkr1.out.cell 1
  have x2 : w2.cell? ⟨gr, 2, none⟩ = some (.int .i64 z.kind) := hkr1.out.cell 2
  have x3 : w2.cell? ⟨gr, 3, none⟩ = some (.int .i64 z.id.br) := hkr1.out.cell 3
  have x4 : w2.cell? ⟨gr, 4, none⟩ = some (.int .u64 (z.id.life : Int)) := hkr1.out.cell 4
  have x5 : w2.cell? ⟨gr, 5, none⟩ = some (.int .u64 (z.id.ser : Int)) := hkr1.out.cell 5
  have x6 : w2.cell? ⟨gr, 6, none⟩ = some (.int .i64 z.client) := hkr1.out.cell 6
  have x7 : w2.cell? ⟨gr, 7, none⟩ = some (.int .u64 (z.sub : Int)) := hkr1.out.cell 7
  have x8 : w2.cell? ⟨gr, 8, none⟩ = some (.slice fa zF fc) := hkr1.out.cell 8
  have x9 : w2.cell? ⟨gr, 9, none⟩ = some (.slice ea zE ec) := hkr1.out.cell 9
  have x10 : w2.cell? ⟨gr, 10, none⟩ = some (.int .i64 i.br) := hkr1.out.cell 10
  have x11 : w2.cell? ⟨gr, 11, none⟩ = some (.int .u64 (i.life : Int)) := hkr1.out.cell 11
  have x12 : w2.cell? ⟨gr, 12, none⟩ = some (.int .u64 (i.ser : Int)) := hkr1.out.cell 12
  have ht := hsm.out w2 hb2h.out
  go_wp2_with fail
  refine ht.mono ?_
  rintro e w3 ⟨hh, hb3n⟩
  have hkr := PM.hid (hkr1.out.keep hb3n)
  have hb3 := PM.hid (PM.chain hb2h.out hb3n)
  clear hb3n hkr1 hb2h ht hsm x0 x1 x2 x3 x4 x5 x6 x7 x8 x9 x10 x11 x12
  rcases hh with ⟨rfl, hfe⟩ | ⟨rfl, -⟩
  case inr =>
    go_wp2_with fail
    go_ret
    exact ⟨rfl, hb3.out⟩
  have hok2 := hok2f.out hfe
  have hzz : Hid (zF = z.fil.length ∧ zE = z.evs.length ∧ PM.TV w (.slice fa zF fc) z.fil ∧ PM.EVL w (.slice ea zE ec) z.evs ∧ PM.EnS z) := PM.hid ⟨hzh.out.1, hzh.out.2, hfh.out, heh.out, hfe.enS⟩
  clear hfh heh hzh hok2f hfe
  obtain ⟨v, hve⟩ : ∃ q : Value, q = .slice va NV vc := ⟨_, rfl⟩
  rw [← hve] at hv
  go_upto_region 6 with fail
  rw [← hve]
  clear hve
  refine PM.wp_region_stK (PM.RT 28 w3.heap.size) (fun W W' => Below W.heap.size W W') (fun W => Below w3.heap.size w3 W) (fun _ _ h => h) (fun h => PM.RT.new h) (fun h k => h.trans k) [some 18, some 19, some 20, some 21, some 17, some 22, some 23, some 6, some 6, some 7] [some 18, some 19, some 20, some 21, some 17, some 22, some 23, some 6, none, some 7] [[], [0], [], [0, 1, 2], [0, 1, 2, 3], [0, 1, 2, 3, 4], [0, 1, 2, 3, 4], [], [0, 1, 2, 3, 4, 5, 7], [0, 1, 2, 3, 4, 5, 6, 7, 8]] [false, false, false, false, false, false, false, true, true, false] [8] [([], false), ([0], true), ([], true), ([1, 2], true), ([3], false), ([4], false), ([4], false), ([], true), ([7, 5], false), ([6], false)] [8, 9] [fun x _ => x = v, fun x W => PM.MX w3.heap.size (PM.mdP l) x W, fun x _ => x = .agg #[.int .i64 kd, .int .u64 (nn : Int), .int .i64 z.kind, .int .i64 z.id.br, .int .u64 (z.id.life : Int), .int .u64 (z.id.ser : Int), .int .i64 z.client, .int .u64 (z.sub : Int), .slice fa zF fc, .slice ea zE ec, .int .i64 i.br, .int .u64 (i.life : Int), .int .u64 (i.ser : Int)], fun x W => PM.MC w3.heap.size s2 c2 x W, fun x W => PM.MC w3.heap.size s2 c2 x W, fun x W => PM.MX w3.heap.size s2 x W, fun x _ => x = .int .i64 c2, fun x W => PM.PB w3.heap.size x W, fun x W => PM.PS w3.heap.size s2 x W, fun x _ => x = .int .i64 c2] (by kernel_rfl) (by kernel_rfl) (by kernel_rfl) (by kernel_rfl) (by kernel_rfl) (by kernel_rfl) (by kernel_rfl) (by kernel_rfl) (by kernel_rfl) ?_ ?_ ?_ ?_ ?_ ?_
  · simp only [List.zip_cons_cons, List.zip_nil_right, List.forall_mem_cons]
    refine ⟨?_, ?_, ?_, ?_, ?_, ?_, ?_, ?_, ?_, ?_, by simp⟩
    all_goals (intro hk v W W' h hb; first | exact Bool.noConfusion hk | exact h | exact trivial | exact PM.MC.rt hb h | exact PM.MX.rt hb h)
  · simp only [List.forall_mem_cons]
    refine ⟨?_, ?_, ?_, ?_, ?_, ?_, ?_, ?_, ?_, ?_, by simp⟩
    all_goals (intro v W W' h hb; first | exact h | exact trivial | exact PM.MC.keep hb h | exact PM.MX.keep hb h | exact PM.PB.keep hb h | exact PM.PS.keep hb h)
  · exact fun W W' h hb => PM.chain h hb
  · exact Below.refl _ _
  · refine ⟨?_, ?_, ?_, ?_, ?_, ?_, ?_, ?_, ?_, ?_, trivial⟩
    all_goals
      intro a W hB hF hd hp
      have k0 := hF 0 rfl
      have k3 := hF 3 rfl
      clear hF
      simp [PM.depsK, PM.spec, PM.sl] at hd hp k0 k3
      simp only [PM.wantL, PM.spec, PM.Spv]
      try simp only [PM.sl]
      go_simp
    all_goals try exact Below.refl _ _
    · refine (made_any v l W (PM.RR.keep PM.rcR_lasts (PM.chain' hb3.out hp hb3.out.size) hv.out) hwl.out).mono ?_
      rintro e w' ⟨ua, un, uc, pa, pn, pc, ta, tn, tc, rfl, g1, g2, g3, hb⟩
      have hBs : w3.heap.size ≤ W.heap.size := hp.size
      exact ⟨hb, _, rfl, _, _, _, _, _, _, _, _, _, rfl, PM.EnW.mono hBs g1, PM.EnW.mono hBs g2, PM.OM.mono hBs g3⟩
    · have hbk := hkr.out.keep hp
      have x0 : W.cell? ⟨gr, 0, none⟩ = some (.int .i64 kd) := hbk.cell 0
      have x1 : W.cell? ⟨gr, 1, none⟩ = some (.int .u64 (nn : Int)) := hbk.cell 1
      have x2 : W.cell? ⟨gr, 2, none⟩ = some (.int .i64 z.kind) := hbk.cell 2
      have x3 : W.cell? ⟨gr, 3, none⟩ = some (.int .i64 z.id.br) := hbk.cell 3
      have x4 : W.cell? ⟨gr, 4, none⟩ = some (.int .u64 (z.id.life : Int)) := hbk.cell 4
      have x5 : W.cell? ⟨gr, 5, none⟩ = some (.int .u64 (z.id.ser : Int)) := hbk.cell 5
      have x6 : W.cell? ⟨gr, 6, none⟩ = some (.int .i64 z.client) := hbk.cell 6
      have x7 : W.cell? ⟨gr, 7, none⟩ = some (.int .u64 (z.sub : Int)) := hbk.cell 7
      have x8 : W.cell? ⟨gr, 8, none⟩ = some (.slice fa zF fc) := hbk.cell 8
      have x9 : W.cell? ⟨gr, 9, none⟩ = some (.slice ea zE ec) := hbk.cell 9
      have x10 : W.cell? ⟨gr, 10, none⟩ = some (.int .i64 i.br) := hbk.cell 10
      have x11 : W.cell? ⟨gr, 11, none⟩ = some (.int .u64 (i.life : Int)) := hbk.cell 11
      have x12 : W.cell? ⟨gr, 12, none⟩ = some (.int .u64 (i.ser : Int)) := hbk.cell 12
      go_simp
      first | done | exact Below.refl _ _ | exact ⟨Below.refl _ _, rfl⟩ | exact ⟨Below.refl _ _, _, rfl, rfl⟩ | exact ⟨Below.refl _ _, _, rfl⟩
    · obtain ⟨⟨ua, un, uc, pa, pn, pc, ta, tn, tc, he, j1, j2, j3⟩, e20⟩ := hd
      have hbW := PM.chain' hb3.out hp hb3.out.size
      simp only [he]
      refine (step_any kd nn z fa zF fc ea zE ec i (PM.mdP l) ua un uc pa pn pc ta tn tc W (PM.EnW.enl j1) (PM.EnW.enl j2) (j3.em PM.idL_len) hok.out.1 hok.out.2.1 hok.out.2.2 hxw.out hzz.out.1 hzz.out.2.1 (hzz.out.2.2.1.keep hbW) (PM.EVL.keepO hbW hzz.out.2.2.2.1) hzz.out.2.2.2.2).mono ?_
      rintro e w' ⟨ua', un', uc', pa', pn', pc', ta', tn', tc', rfl, g1, g2, g3', hb⟩
      have hBs : w3.heap.size ≤ W.heap.size := hp.size
      rw [← hs2.out.1] at g1 g2 g3' ⊢
      rw [← hs2.out.2]
      exact ⟨hb, _, rfl, _, rfl, _, _, _, _, _, _, _, _, _, rfl, PM.EnW.mono hBs g1, PM.EnW.mono hBs g2, PM.OM.mono hBs g3'⟩
    · first | exact hd | exact ⟨Below.refl _ _, hd⟩ | exact ⟨Below.refl _ _, _, rfl, hd⟩
    · obtain ⟨y, he', hm⟩ := (hd : PM.MC _ _ _ _ _)
      simp only [he']
      go_simp
      first | exact hm | exact ⟨Below.refl _ _, hm⟩ | exact ⟨Below.refl _ _, _, rfl, hm⟩
    · obtain ⟨y, he', hm⟩ := (hd : PM.MC _ _ _ _ _)
      simp only [he']
      go_simp
      first | done | exact Below.refl _ _ | exact ⟨Below.refl _ _, rfl⟩ | exact ⟨Below.refl _ _, _, rfl, rfl⟩ | exact ⟨Below.refl _ _, _, rfl⟩
    · exact ⟨(Below.refl _ _).alloc (Nat.le_refl _) _, _, rfl, _, rfl, hp.size, PM.BK.new _ _ _⟩
    · obtain ⟨⟨g6, he6, hg6, hbk⟩, ua', un', uc', pa', pn', pc', ta', tn', tc', he', g1, g2, g3'⟩ := (hd : PM.PB _ _ _ ∧ PM.MX _ _ _ _)
      have x0 : W.cell? ⟨g6, 0, none⟩ = some (.int .u64 0) := hbk.cell 0
      have y0 : W.frozen? ⟨g6, 0, none⟩ = false := hbk.free 0
      have x1 : W.cell? ⟨g6, 1, none⟩ = some (.slice none 0 0) := hbk.cell 1
      have y1 : W.frozen? ⟨g6, 1, none⟩ = false := hbk.free 1
      have x2 : W.cell? ⟨g6, 2, none⟩ = some (.slice none 0 0) := hbk.cell 2
      have y2 : W.frozen? ⟨g6, 2, none⟩ = false := hbk.free 2
      have x3 : W.cell? ⟨g6, 3, none⟩ = some (.slice none 0 0) := hbk.cell 3
      have y3 : W.frozen? ⟨g6, 3, none⟩ = false := hbk.free 3
      have hx : PM.Bx g6 W ((((W.setCell ⟨g6, 0, none⟩ (.int .u64 (s2.lf : Int))).setCell ⟨g6, 1, none⟩ (.slice ua' un' uc')).setCell ⟨g6, 2, none⟩ (.slice pa' pn' pc')).setCell ⟨g6, 3, none⟩ (.slice ta' tn' tc')) := (((PM.Bx.set g6 0 _ _).trans (PM.Bx.set g6 1 _ _)).trans (PM.Bx.set g6 2 _ _)).trans (PM.Bx.set g6 3 _ _)
      have hrs : PM.RT 28 w3.heap.size W _ := PM.RT.bx hx hbk hg6
      have hk2 := ((((hbk.set 0 (.int .u64 (s2.lf : Int))).set 1 (.slice ua' un' uc')).set 2 (.slice pa' pn' pc')).set 3 (.slice ta' tn' tc')).seeO (cs' := #[.int .u64 (s2.lf : Int), .slice ua' un' uc', .slice pa' pn' pc', .slice ta' tn' tc']) (by simp)
      simp only [he6, he']
      go_simp
      first | exact ⟨_, rfl, hg6, _, _, _, _, _, _, _, _, _, hk2, g1.rt hrs, g2.rt hrs, g3'.kt (hrs.2.2 _ (by decide))⟩ | exact ⟨hrs, _, rfl, hg6, _, _, _, _, _, _, _, _, _, hk2, g1.rt hrs, g2.rt hrs, g3'.kt (hrs.2.2 _ (by decide))⟩
  · intro G W hB hF hS
    simp only [PM.allK, PM.spec] at hS
    simp at hS
    obtain ⟨⟨g6, e6, hg6, ua, un, uc, pa, pn, pc, ta, tn, tc, k6, j1, j2, j3⟩, hc⟩ := (hS : PM.PS _ _ _ _ ∧ _)
    have u0 := hF 0 rfl
    have u1 := hF 1 rfl
    have u2 := hF 2 rfl
    have u3 := hF 3 rfl
    have u4 := hF 4 rfl
    have u5 := hF 5 rfl
    simp [PM.sl] at u0 u1 u2 u3 u4 u5 e6 hc
    rw [show ((List.range (Array.size _)).map G).toArray = #[G 0, G 1, G 2, G 3, G 4, G 5, G 6, G 7, G 8, G 9, G 10, G 11, G 12, G 13, G 14, G 15, G 16, G 17, G 18, G 19, G 20, G 21, G 22, G 23, G 24, G 25, G 26, G 27, G 28, G 29, G 30, G 31, G 32, G 33, G 34, G 35, G 36, G 37, G 38, G 39] from rfl]
    rw [u0, u1, u2, u3, u4, u5, e6, hc]
    clear u0 u1 u2 u3 u4 u5 hF e6 hc
    have hbw := hB.2.1 (Nat.le_refl _)
    have hbW := PM.chain' hb3.out hbw hb3.out.size
    have hst := PM.hid (And.intro (PM.EnW.enl j1) (And.intro (PM.EnW.enl j2) (j3.em PM.idL_len)))
    have hkr2 := PM.hid (hkr.out.keep hbw)
    have hbWh := PM.hid hbW
    clear hB hbw hbW j1 j2 j3
    have hcode := hcd.out
    rcases hcode with rfl | hne
    case inr =>
      have q1 : (c2 != 0) = true := by simp; exact hne
      go_wp2_with fail
      go_ret
      exact ⟨rfl, hbWh.out⟩
    have htw := htw.out rfl
    have ht := step_any kd nn z fa zF fc ea zE ec i s2 ua un uc pa pn pc ta tn tc W hst.out.1 hst.out.2.1 hst.out.2.2 hok2.out.1 hok2.out.2.1 hok2.out.2.2 hxw.out hzz.out.1 hzz.out.2.1 (hzz.out.2.2.1.keep hbWh.out) (PM.EVL.keepO hbWh.out hzz.out.2.2.2.1) hzz.out.2.2.2.2
    rw [htw] at ht
    have x0 : W.cell? ⟨g6, 0, none⟩ = some (.int .u64 (s2.lf : Int)) := k6.cell 0
    have x1 : W.cell? ⟨g6, 1, none⟩ = some (.slice ua un uc) := k6.cell 1
    have x2 : W.cell? ⟨g6, 2, none⟩ = some (.slice pa pn pc) := k6.cell 2
    have x3 : W.cell? ⟨g6, 3, none⟩ = some (.slice ta tn tc) := k6.cell 3
    have y0 : W.cell? ⟨gr, 0, none⟩ = some (.int .i64 kd) := hkr2.out.cell 0
    have y1 : W.cell? ⟨gr, 1, none⟩ = some (.int .u64 (nn : Int)) := hkr2.out.cell 1
    have y2 : W.cell? ⟨gr, 2, none⟩ = some (.int .i64 z.kind) := hkr2.out.cell 2
    have y3 : W.cell? ⟨gr, 3, none⟩ = some (.int .i64 z.id.br) := hkr2.out.cell 3
    have y4 : W.cell? ⟨gr, 4, none⟩ = some (.int .u64 (z.id.life : Int)) := hkr2.out.cell 4
    have y5 : W.cell? ⟨gr, 5, none⟩ = some (.int .u64 (z.id.ser : Int)) := hkr2.out.cell 5
    have y6 : W.cell? ⟨gr, 6, none⟩ = some (.int .i64 z.client) := hkr2.out.cell 6
    have y7 : W.cell? ⟨gr, 7, none⟩ = some (.int .u64 (z.sub : Int)) := hkr2.out.cell 7
    have y8 : W.cell? ⟨gr, 8, none⟩ = some (.slice fa zF fc) := hkr2.out.cell 8
    have y9 : W.cell? ⟨gr, 9, none⟩ = some (.slice ea zE ec) := hkr2.out.cell 9
    have y10 : W.cell? ⟨gr, 10, none⟩ = some (.int .i64 i.br) := hkr2.out.cell 10
    have y11 : W.cell? ⟨gr, 11, none⟩ = some (.int .u64 (i.life : Int)) := hkr2.out.cell 11
    have y12 : W.cell? ⟨gr, 12, none⟩ = some (.int .u64 (i.ser : Int)) := hkr2.out.cell 12
    go_wp2_with fail
    refine ht.mono ?_
    clear ht
    rintro e W5 ⟨ua', un', uc', pa', pn', pc', ta', tn', tc', rfl, i1, i2, i3, hBn⟩
    clear x0 x1 x2 x3
    clear y0 y1 y2 y3 y4 y5 y6 y7 y8 y9 y10 y11 y12
    go_upto_region 10 with fail
    obtain ⟨g8, hg8⟩ : ∃ g, g = W5.heap.size := ⟨_, rfl⟩
    obtain ⟨W6, hW6⟩ : ∃ q, q = W5.alloc (.cells #[.int .u64 (s2.lf : Int), .slice ua' un' uc', .slice pa' pn' pc', .slice ta' tn' tc'] 28) := ⟨_, rfl⟩
    have hb6 : Below W5.heap.size W5 W6 := by rw [hW6]; exact (Below.refl _ _).alloc (Nat.le_refl _) _
    have k8 : PM.BK W6 g8 #[.int .u64 (s2.lf : Int), .slice ua' un' uc', .slice pa' pn' pc', .slice ta' tn' tc'] 28 := by rw [hW6, hg8]; exact PM.BK.new _ _ _
    rw [← hW6, ← hg8]
    clear hW6 hg8
    have hbn := PM.chain hBn hb6
    have ht := same16_any s2 s2 ua un uc pa pn pc ta tn tc ua' un' uc' pa' pn' pc' ta' tn' tc' W6 hwf2.out hwf2.out ⟨PM.EnL.keep hst.out.1 hbn, PM.EnL.keep hst.out.2.1 hbn, hst.out.2.2.keep hbn⟩ ⟨PM.EnL.keep (PM.EnW.enl i1) hb6, PM.EnL.keep (PM.EnW.enl i2) hb6, (i3.em PM.idL_len).keep hb6⟩
    have k6n := k6.keep hbn
    have hBB := PM.hid (PM.chain hbWh.out hbn)
    clear hBn hb6 i1 i2 i3
    have x0 : W6.cell? ⟨g6, 0, none⟩ = some (.int .u64 (s2.lf : Int)) := k6n.cell 0
    have x1 : W6.cell? ⟨g6, 1, none⟩ = some (.slice ua un uc) := k6n.cell 1
    have x2 : W6.cell? ⟨g6, 2, none⟩ = some (.slice pa pn pc) := k6n.cell 2
    have x3 : W6.cell? ⟨g6, 3, none⟩ = some (.slice ta tn tc) := k6n.cell 3
    have y0 : W6.cell? ⟨g8, 0, none⟩ = some (.int .u64 (s2.lf : Int)) := k8.cell 0
    have y1 : W6.cell? ⟨g8, 1, none⟩ = some (.slice ua' un' uc') := k8.cell 1
    have y2 : W6.cell? ⟨g8, 2, none⟩ = some (.slice pa' pn' pc') := k8.cell 2
    have y3 : W6.cell? ⟨g8, 3, none⟩ = some (.slice ta' tn' tc') := k8.cell 3
    clear k6n k8 k6 hbn
    go_wp2_with fail
    refine ht.mono ?_
    clear ht
    rintro e W7 ⟨hh, hb7⟩
    replace hBB := PM.hid (PM.chain hBB.out hb7)
    rcases hh with ⟨rfl, -⟩ | ⟨rfl, hno⟩
    case inr => first | exact (hno rfl).elim | exact (hno trivial).elim
    clear hb7 x0 y0 x1 y1 x2 y2 x3 y3
    go_wp2_with fail
    go_ret
    exact ⟨rfl, hBB.out⟩
end Go.Proofs.Ytphdadlpfjfeoaa
