/-
  CONTRACT of postilionlaw16.made. (Written by tools/mk_sg.py.)
-/
import Derived.Test.YtphdadlpfjfeoaaSg
namespace Go.Proofs.Ytphdadlpfjfeoaa
open Go.RowKit
set_option linter.unusedVariables false
set_option linter.unusedSimpArgs false
namespace PM
def MX (B : Nat) (s : Fs) (x : Value) (W : World) : Prop := ∃ ua un uc pa pn pc ta tn tc, x = .agg #[.int .u64 (s.lf : Int), .slice ua un uc, .slice pa pn pc, .slice ta tn tc] ∧ EnW B W (.slice ua un uc) s.ls ∧ EnW B W (.slice pa pn pc) s.ps ∧ OM idL 3 39 B W (.slice ta tn tc) s.ab
def MT (B : Nat) (s : Fs) (x : Value) (W : World) : Prop := ∃ y c, x = .tuple #[y, .int .i64 c] ∧ MX B s y W
def MS (B g : Nat) (s : Fs) (x : Value) (W : World) : Prop := ∃ ua un uc pa pn pc ta tn tc, x = .agg #[.int .u64 (s.lf : Int), .slice ua un uc, .slice pa pn pc, .slice ta tn tc] ∧ BK W g #[.int .u64 (s.lf : Int), .slice ua un uc, .slice pa pn pc, .slice ta tn tc] 28 ∧ EnW B W (.slice ua un uc) s.ls ∧ EnW B W (.slice pa pn pc) s.ps ∧ OM idL 3 39 B W (.slice ta tn tc) s.ab
def MI (B g : Nat) (s : Fs) (w0 W : World) : Prop := ∃ ua un uc pa pn pc ta tn tc, BK W g #[.int .u64 (s.lf : Int), .slice ua un uc, .slice pa pn pc, .slice ta tn tc] 28 ∧ EnW B W (.slice ua un uc) s.ls ∧ EnW B W (.slice pa pn pc) s.ps ∧ OM idL 3 39 B W (.slice ta tn tc) s.ab ∧ Below B w0 W
theorem MX.keep {B : Nat} {s : Fs} {x : Value} {W w : World} (hb : Below W.heap.size W w) (h : MX B s x W) : MX B s x w := by
  obtain ⟨ua, un, uc, pa, pn, pc, ta, tn, tc, he, h1, h2, h3⟩ := h
  exact ⟨ua, un, uc, pa, pn, pc, ta, tn, tc, he, h1.keep hb, h2.keep hb, h3.keep hb⟩
theorem MX.rs {B g : Nat} {s : Fs} {x : Value} {W w : World} (hb : RS 28 g W w) (h : MX B s x W) : MX B s x w := by
  obtain ⟨ua, un, uc, pa, pn, pc, ta, tn, tc, he, h1, h2, h3⟩ := h
  exact ⟨ua, un, uc, pa, pn, pc, ta, tn, tc, he, h1.rs hb, h2.rs hb, h3.kt (hb.kt _ (by decide))⟩
theorem MT.keep {B : Nat} {s : Fs} {x : Value} {W w : World} (hb : Below W.heap.size W w) (h : MT B s x W) : MT B s x w := by
  obtain ⟨y, c, he, h⟩ := h
  exact ⟨y, c, he, h.keep hb⟩
theorem MT.rs {B g : Nat} {s : Fs} {x : Value} {W w : World} (hb : RS 28 g W w) (h : MT B s x W) : MT B s x w := by
  obtain ⟨y, c, he, h⟩ := h
  exact ⟨y, c, he, h.rs hb⟩
theorem MS.keep {B g : Nat} {s : Fs} {x : Value} {W w : World} (hb : Below W.heap.size W w) (h : MS B g s x W) : MS B g s x w := by
  obtain ⟨ua, un, uc, pa, pn, pc, ta, tn, tc, he, h0, h1, h2, h3⟩ := h
  exact ⟨ua, un, uc, pa, pn, pc, ta, tn, tc, he, h0.keep hb, h1.keep hb, h2.keep hb, h3.keep hb⟩
theorem MI.keep {B g : Nat} {s : Fs} {w0 W w : World} (hb : Below W.heap.size W w) (hB : B ≤ W.heap.size) (h : MI B g s w0 W) : MI B g s w0 w := by
  obtain ⟨ua, un, uc, pa, pn, pc, ta, tn, tc, h0, h1, h2, h3, h4⟩ := h
  exact ⟨ua, un, uc, pa, pn, pc, ta, tn, tc, h0.keep hb, h1.keep hb, h2.keep hb, h3.keep hb, h4.trans (hb.mono hB)⟩
theorem MI.below {B g : Nat} {s : Fs} {w0 W : World} (h : MI B g s w0 W) : Below B w0 W := by
  obtain ⟨ua, un, uc, pa, pn, pc, ta, tn, tc, h0, h1, h2, h3, h4⟩ := h
  exact h4
end PM
set_option maxRecDepth 100000 in
set_option maxHeartbeats 16000000 in
theorem made_any (v : Value) (l : List PM.Rc) (w : World) (hv : PM.RcL w v l) (hw : ∀ x ∈ l, x.wf) :
    Calls Try.prog 8 #[v] w fun e w' => ∃ ua un uc pa pn pc ta tn tc, e = .returned (.agg #[.int .u64 ((PM.mdP l).lf : Int), .slice ua un uc, .slice pa pn pc, .slice ta tn tc]) ∧ PM.EnW w.heap.size w' (.slice ua un uc) (PM.mdP l).ls ∧ PM.EnW w.heap.size w' (.slice pa pn pc) (PM.mdP l).ps ∧ PM.OM PM.idL 3 39 w.heap.size w' (.slice ta tn tc) (PM.mdP l).ab ∧ Below w.heap.size w w' := by
  have hmax := hv.bound
  unfold maxLen at hmax
  obtain ⟨ad, cap, rfl⟩ := hv.len
  obtain ⟨N, hN⟩ : ∃ L, L = l.length := ⟨_, rfl⟩
  have hNh := PM.hid hN
  have hokh := PM.hid (PM.md_ok l hw)
  have hwh := PM.hid hw
  rw [← hN] at hv hmax ⊢
  replace hv := PM.hid hv
  clear hN hw
  obtain ⟨g2, hg2⟩ : ∃ g, g = w.heap.size := ⟨_, rfl⟩
  obtain ⟨g3, hg3⟩ : ∃ g, g = w.heap.size + 1 := ⟨_, rfl⟩
  obtain ⟨w0, hw0⟩ : ∃ W, W = w.alloc (.cells #[.int .u64 0, .slice none 0 0, .slice none 0 0, .slice none 0 0] 28) := ⟨_, rfl⟩
  obtain ⟨w1, hw1⟩ : ∃ W, W = w0.alloc (.cells #[.int .u64 0, .slice none 0 0, .slice none 0 0, .slice none 0 0] 28) := ⟨_, rfl⟩
  have hs0 : w0.heap.size = w.heap.size + 1 := by rw [hw0]; simp
  have hal : Below w.heap.size w w0 := by rw [hw0]; exact (Below.refl _ _).alloc (Nat.le_refl _) _
  have hal2 : Below w0.heap.size w0 w1 := by rw [hw1]; exact (Below.refl _ _).alloc (Nat.le_refl _) _
  have kz : PM.BK w0 g2 #[.int .u64 0, .slice none 0 0, .slice none 0 0, .slice none 0 0] 28 := by rw [hw0, hg2]; exact PM.BK.new _ _ _
  replace kz := kz.keep hal2
  have k3 : PM.BK w1 g3 #[.int .u64 0, .slice none 0 0, .slice none 0 0, .slice none 0 0] 28 := by rw [hw1, hg3, ← hs0]; exact PM.BK.new _ _ _
  have hM0 : Hid (PM.MI w.heap.size g3 (PM.mdP (l.take 0)) w w1 ∧ PM.BK w1 g2 #[.int .u64 0, .slice none 0 0, .slice none 0 0, .slice none 0 0] 28) := PM.hid ⟨⟨_, _, _, _, _, _, _, _, _, k3, PM.OR.nilrow _, PM.OR.nilrow _, PM.OM.nilrow _, PM.chain hal hal2⟩, kz⟩
  have hgg : Hid (w.heap.size ≤ g3 ∧ g2 ≠ g3 ∧ w.heap.size ≤ g2) := PM.hid (by omega)
  clear hal hal2 kz k3
  go_enter Try.func8, Try.ntmps8
  go_upto_region 2 with fail
  rw [← hw0, ← hw1, ← hg3, ← hg2]
  clear hw0 hw1 hg2 hg3 hs0
  go_wp2_with fail
  go_loopw [4] (fun i wr => ∃ k : Nat, i = .int .i64 k ∧ k ≤ N ∧ k ≤ 40 ∧ Hid (PM.MI w.heap.size g3 (PM.mdP (l.take k)) w wr ∧ PM.BK wr g2 #[.int .u64 0, .slice none 0 0, .slice none 0 0, .slice none 0 0] 28)) (fun i _ => N - (intOf i).toNat)
  case atStart => exact ⟨0, rfl, by omega, by omega, hM0⟩
  case round =>
    obtain ⟨k, rfl, hk, hk40, hM⟩ := hrel
    by_cases hgo : k < N ∧ k < 40
    · obtain ⟨hlt, h40⟩ := hgo
      have hi1 : (k : Int) < (N : Int) := by omega
      have hi2 : (k : Int) < 40 := by omega
      have hB := hM.out.1.below
      obtain ⟨x, hx⟩ : ∃ z, l[k]? = some z := ⟨l[k]'(by rw [← hNh.out]; exact hlt), List.getElem?_eq_getElem _⟩
      have hnx0 := PM.md_snoc hx h40
      have hxw0 := hwh.out x (List.mem_of_getElem? hx)
      obtain ⟨b, off, rfl, hce⟩ := PM.RR.opn hv.out (by rw [← hNh.out]; omega)
      obtain ⟨cs, hl0, hR⟩ := hce k x hx
      obtain ⟨fv, ev, hcs, hzf, hze⟩ := hR
      obtain ⟨fa, fc, rfl⟩ := hzf.len
      obtain ⟨ea, ec, rfl⟩ := hze.len
      obtain ⟨kd, nn, z, i⟩ := x
      simp only at hzf hze hcs
      unfold PM.rcC PM.enC PM.idL at hcs
      simp only [List.cons_append, List.nil_append] at hcs
      replace hl0 := hl0.keep hB
      rw [hcs] at hl0
      have hzf2 := hzf.keep hB
      have hze2 := PM.EVL.keepO hB hze
      have hsm := small16x_any kd nn z fa fc ea ec i wr hzf2 hze2
      obtain ⟨zF, hzF⟩ : ∃ P, P = z.fil.length := ⟨_, rfl⟩
      obtain ⟨zE, hzE⟩ : ∃ P, P = z.evs.length := ⟨_, rfl⟩
      rw [← hzF, ← hzE] at hl0 hsm
      rw [← hzF] at hzf2
      rw [← hzE] at hze2
      have d0 : wr.cell? ⟨b, off + k * 13, none⟩ = some (.int .i64 kd) := hl0 0 _ rfl
      have d1 : wr.cell? ⟨b, off + k * 13 + 1, none⟩ = some (.int .u64 (nn : Int)) := hl0 1 _ rfl
      have d2 : wr.cell? ⟨b, off + k * 13 + 2, none⟩ = some (.int .i64 z.kind) := hl0 2 _ rfl
      have d3 : wr.cell? ⟨b, off + k * 13 + 3, none⟩ = some (.int .i64 z.id.br) := hl0 3 _ rfl
      have d4 : wr.cell? ⟨b, off + k * 13 + 4, none⟩ = some (.int .u64 (z.id.life : Int)) := hl0 4 _ rfl
      have d5 : wr.cell? ⟨b, off + k * 13 + 5, none⟩ = some (.int .u64 (z.id.ser : Int)) := hl0 5 _ rfl
      have d6 : wr.cell? ⟨b, off + k * 13 + 6, none⟩ = some (.int .i64 z.client) := hl0 6 _ rfl
      have d7 : wr.cell? ⟨b, off + k * 13 + 7, none⟩ = some (.int .u64 (z.sub : Int)) := hl0 7 _ rfl
      have d8 : wr.cell? ⟨b, off + k * 13 + 8, none⟩ = some (.slice fa zF fc) := hl0 8 _ rfl
      have d9 : wr.cell? ⟨b, off + k * 13 + 9, none⟩ = some (.slice ea zE ec) := hl0 9 _ rfl
      have d10 : wr.cell? ⟨b, off + k * 13 + 10, none⟩ = some (.int .i64 i.br) := hl0 10 _ rfl
      have d11 : wr.cell? ⟨b, off + k * 13 + 11, none⟩ = some (.int .u64 (i.life : Int)) := hl0 11 _ rfl
      have d12 : wr.cell? ⟨b, off + k * 13 + 12, none⟩ = some (.int .u64 (i.ser : Int)) := hl0 12 _ rfl
      have hzz0 := PM.hid (And.intro hzF (And.intro hzE (And.intro hzf2 hze2)))
      clear hce hl0 hcs hzf hze hzF hzE hzf2 hze2 hx cs
      replace hnx0 := PM.hid hnx0
      replace hxw0 := PM.hid hxw0
      go_wp2_with fail
      refine hsm.mono ?_
      rintro e w2 ⟨hfew, hBs⟩
      clear hsm
      have hdd := PM.hid (And.intro (PM.cellA hBs d0) (And.intro (PM.cellA hBs d1) (And.intro (PM.cellA hBs d2) (And.intro (PM.cellA hBs d3) (And.intro (PM.cellA hBs d4) (And.intro (PM.cellA hBs d5) (And.intro (PM.cellA hBs d6) (And.intro (PM.cellA hBs d7) (And.intro (PM.cellA hBs d8) (And.intro (PM.cellA hBs d9) (And.intro (PM.cellA hBs d10) (And.intro (PM.cellA hBs d11) (PM.cellA hBs d12)))))))))))))
      clear d0 d1 d2 d3 d4 d5 d6 d7 d8 d9 d10 d11 d12
      have hM2 := PM.hid (And.intro (hM.out.1.keep hBs hB.size) (hM.out.2.keep hBs))
      have hb2 := PM.hid (PM.chain hB hBs)
      have hsz2 : Hid (w.heap.size ≤ w2.heap.size) := PM.hid hb2.out.size
      have hzz1 := PM.hid (And.intro hzz0.out.1 (And.intro hzz0.out.2.1 (And.intro (hzz0.out.2.2.1.keep hBs) (PM.EVL.keepO hBs hzz0.out.2.2.2))))
      clear hBs hB hM hzz0
      rcases hfew with ⟨rfl, hf⟩ | ⟨rfl, hf⟩
      · have hok := hokh.out k (by rw [← hNh.out]; exact hk) hk40
        obtain ⟨s, hs⟩ : ∃ s, s = PM.mdP (l.take k) := ⟨_, rfl⟩
        obtain ⟨s2, hs2⟩ : ∃ s2, s2 = (PM.stp s (PM.rcMk kd nn z i)).1 := ⟨_, rfl⟩
        have hnx : Hid (PM.mdP (l.take (k + 1)) = s2) := PM.hid (by rw [hnx0.out, hs2, hs]; unfold PM.md1; rw [if_pos hf]; rfl)
        rw [← hs] at hok hM2
        replace hs2 := PM.hid hs2
        have hokS : Hid (Hid (PM.EnsS s.ls) ∧ Hid (PM.EnsS s.ps) ∧ Hid (s.ab.length ≤ 1000)) := PM.hid ⟨PM.hid (hok.ensL (by omega)), PM.hid (hok.ensP (by omega)), PM.hid (Nat.le_trans hok.2.2.1 (by omega))⟩
        have hxw : Hid ((PM.rcMk kd nn z i).wf) := PM.hid hxw0.out
        have hzz := PM.hid (And.intro hzz1.out.1 (And.intro hzz1.out.2.1 (And.intro hzz1.out.2.2.1 (And.intro hzz1.out.2.2.2 hf.enS))))
        have hZ2 := PM.hid hM2.out.2
        obtain ⟨ua, un, uc, pa, pn, pc, ta, tn, tc, m0, m1, m2, m3, -⟩ := hM2.out.1
        have hMp := PM.hid (And.intro m0 (And.intro m1 (And.intro m2 m3)))
        clear m0 m1 m2 m3 hM2 hf hok hs hnx0 hxw0 hzz1
        go_upto_region 6 with fail
        refine PM.wp_region_stK (PM.RS 28 g3) (fun W W' => Below W.heap.size W W') (fun W => Below w2.heap.size w2 W) (fun _ _ h => h) (fun h => PM.RS.new h) (fun h k => h.trans k) [some 21, some 22, some 23, some 24, some 25, some 26, some 20, some 27, some 28, some 27] [some 21, some 22, some 23, some 24, some 25, some 26, some 20, some 27, some 28, none] [[], [], [], [1, 2], [1, 2, 3], [0, 1, 2, 3, 4], [0, 1, 2, 3, 4, 5], [0, 1, 2, 3, 4, 5, 6], [0, 1, 2, 3, 4, 5, 6], [0, 1, 2, 3, 4, 5, 6, 7]] [false, false, false, false, false, false, false, false, false, true] [9] [([], true), ([], false), ([], false), ([1, 2], false), ([3], true), ([0, 4], true), ([5], false), ([6], false), ([6], false), ([7], true)] [9] [fun x _ => x = .agg #[.int .u64 (s.lf : Int), .slice ua un uc, .slice pa pn pc, .slice ta tn tc], fun x _ => x = .slice (some ⟨b, off, none⟩) N cap, fun x _ => x = .int .i64 (k : Int), fun x _ => x = .pointer (some ⟨b, off + k * 13, none⟩), fun x _ => x = .agg #[.int .i64 kd, .int .u64 (nn : Int), .int .i64 z.kind, .int .i64 z.id.br, .int .u64 (z.id.life : Int), .int .u64 (z.id.ser : Int), .int .i64 z.client, .int .u64 (z.sub : Int), .slice fa zF fc, .slice ea zE ec, .int .i64 i.br, .int .u64 (i.life : Int), .int .u64 (i.ser : Int)], fun x W => PM.MT w.heap.size s2 x W, fun x W => PM.MT w.heap.size s2 x W, fun x W => PM.MX w.heap.size s2 x W, fun _ _ => True, fun x W => PM.MS w.heap.size g3 s2 x W] (by kernel_rfl) (by kernel_rfl) (by kernel_rfl) (by kernel_rfl) (by kernel_rfl) (by kernel_rfl) (by kernel_rfl) (by kernel_rfl) (by kernel_rfl) ?_ ?_ ?_ ?_ ?_ ?_
        · simp only [List.zip_cons_cons, List.zip_nil_right, List.forall_mem_cons]
          refine ⟨?_, ?_, ?_, ?_, ?_, ?_, ?_, ?_, ?_, ?_, by simp⟩
          all_goals (intro hk v W W' h hb; first | exact Bool.noConfusion hk | exact h | exact trivial | exact PM.MT.rs hb h | exact PM.MX.rs hb h)
        · simp only [List.forall_mem_cons]
          refine ⟨?_, ?_, ?_, ?_, ?_, ?_, ?_, ?_, ?_, ?_, by simp⟩
          all_goals (intro v W W' h hb; first | exact h | exact trivial | exact PM.MT.keep hb h | exact PM.MX.keep hb h | exact PM.MS.keep hb h)
        · exact fun W W' h hb => PM.chain h hb
        · exact Below.refl _ _
        · refine ⟨?_, ?_, ?_, ?_, ?_, ?_, ?_, ?_, ?_, ?_, trivial⟩
          all_goals
            intro a W hB hF hd hp
            have k0 := hF 0 rfl
            have k3 := hF 3 rfl
            have k4 := hF 4 rfl
            clear hF
            simp [PM.depsK, PM.spec, PM.sl] at hd hp k0 k3 k4
            simp only [PM.wantL, PM.spec, PM.Spv]
            try simp only [PM.sl]
            go_simp
          all_goals try exact Below.refl _ _
          · have hbk := hMp.out.1.keep hp
            have x0 : W.cell? ⟨g3, 0, none⟩ = some (.int .u64 (s.lf : Int)) := hbk.cell 0
            have x1 : W.cell? ⟨g3, 1, none⟩ = some (.slice ua un uc) := hbk.cell 1
            have x2 : W.cell? ⟨g3, 2, none⟩ = some (.slice pa pn pc) := hbk.cell 2
            have x3 : W.cell? ⟨g3, 3, none⟩ = some (.slice ta tn tc) := hbk.cell 3
            go_simp
            first | done | exact Below.refl _ _ | exact ⟨Below.refl _ _, _, rfl, rfl⟩ | exact ⟨Below.refl _ _, rfl⟩
          · have x0 : W.cell? ⟨b, off + k * 13, none⟩ = some (.int .i64 kd) := PM.cellA hp (hdd.out.1)
            have x1 : W.cell? ⟨b, off + k * 13 + 1, none⟩ = some (.int .u64 (nn : Int)) := PM.cellA hp (hdd.out.2.1)
            have x2 : W.cell? ⟨b, off + k * 13 + 2, none⟩ = some (.int .i64 z.kind) := PM.cellA hp (hdd.out.2.2.1)
            have x3 : W.cell? ⟨b, off + k * 13 + 3, none⟩ = some (.int .i64 z.id.br) := PM.cellA hp (hdd.out.2.2.2.1)
            have x4 : W.cell? ⟨b, off + k * 13 + 4, none⟩ = some (.int .u64 (z.id.life : Int)) := PM.cellA hp (hdd.out.2.2.2.2.1)
            have x5 : W.cell? ⟨b, off + k * 13 + 5, none⟩ = some (.int .u64 (z.id.ser : Int)) := PM.cellA hp (hdd.out.2.2.2.2.2.1)
            have x6 : W.cell? ⟨b, off + k * 13 + 6, none⟩ = some (.int .i64 z.client) := PM.cellA hp (hdd.out.2.2.2.2.2.2.1)
            have x7 : W.cell? ⟨b, off + k * 13 + 7, none⟩ = some (.int .u64 (z.sub : Int)) := PM.cellA hp (hdd.out.2.2.2.2.2.2.2.1)
            have x8 : W.cell? ⟨b, off + k * 13 + 8, none⟩ = some (.slice fa zF fc) := PM.cellA hp (hdd.out.2.2.2.2.2.2.2.2.1)
            have x9 : W.cell? ⟨b, off + k * 13 + 9, none⟩ = some (.slice ea zE ec) := PM.cellA hp (hdd.out.2.2.2.2.2.2.2.2.2.1)
            have x10 : W.cell? ⟨b, off + k * 13 + 10, none⟩ = some (.int .i64 i.br) := PM.cellA hp (hdd.out.2.2.2.2.2.2.2.2.2.2.1)
            have x11 : W.cell? ⟨b, off + k * 13 + 11, none⟩ = some (.int .u64 (i.life : Int)) := PM.cellA hp (hdd.out.2.2.2.2.2.2.2.2.2.2.2.1)
            have x12 : W.cell? ⟨b, off + k * 13 + 12, none⟩ = some (.int .u64 (i.ser : Int)) := PM.cellA hp (hdd.out.2.2.2.2.2.2.2.2.2.2.2.2)
            go_simp
            first | done | exact Below.refl _ _ | exact ⟨Below.refl _ _, _, rfl, rfl⟩ | exact ⟨Below.refl _ _, rfl⟩
          · refine (step_any kd nn z fa zF fc ea zE ec i s ua un uc pa pn pc ta tn tc W (PM.EnL.keep hMp.out.2.1.enl hp) (PM.EnL.keep hMp.out.2.2.1.enl hp) ((hMp.out.2.2.2.em PM.idL_len).keep hp) hokS.out.1 hokS.out.2.1 hokS.out.2.2 hxw.out hzz.out.1 hzz.out.2.1 ((hzz.out.2.2.1).keep hp) (PM.EVL.keepO hp hzz.out.2.2.2.1) hzz.out.2.2.2.2).mono ?_
            rintro e w' ⟨ua', un', uc', pa', pn', pc', ta', tn', tc', rfl, g1, g2, g3', hb⟩
            have hBs : w.heap.size ≤ W.heap.size := Nat.le_trans hsz2.out hp.size
            rw [← hs2.out] at g1 g2 g3' ⊢
            exact ⟨hb, _, rfl, _, _, rfl, _, _, _, _, _, _, _, _, _, rfl, PM.EnW.mono hBs g1, PM.EnW.mono hBs g2, PM.OM.mono hBs g3'⟩
          · first | exact hd | exact ⟨Below.refl _ _, hd⟩ | exact ⟨Below.refl _ _, _, rfl, hd⟩
          · obtain ⟨y, c, he', hm⟩ := (hd : PM.MT _ _ _ _)
            simp only [he']
            go_simp
            first | exact hm | exact ⟨Below.refl _ _, hm⟩ | exact ⟨Below.refl _ _, _, rfl, hm⟩
          · obtain ⟨y, c, he', hm⟩ := (hd : PM.MT _ _ _ _)
            simp only [he']
            go_simp
            first | done | exact Below.refl _ _ | exact ⟨Below.refl _ _, rfl⟩ | exact ⟨Below.refl _ _, _, rfl, trivial⟩ | exact ⟨Below.refl _ _, _, rfl⟩ | exact ⟨_, rfl⟩ | exact rfl
          · have hbk := hMp.out.1.keep hp
            obtain ⟨ua', un', uc', pa', pn', pc', ta', tn', tc', he', g1, g2, g3'⟩ := (hd : PM.MX _ _ _ _)
            have x0 : W.cell? ⟨g3, 0, none⟩ = some (.int .u64 (s.lf : Int)) := hbk.cell 0
            have y0 : W.frozen? ⟨g3, 0, none⟩ = false := hbk.free 0
            have x1 : W.cell? ⟨g3, 1, none⟩ = some (.slice ua un uc) := hbk.cell 1
            have y1 : W.frozen? ⟨g3, 1, none⟩ = false := hbk.free 1
            have x2 : W.cell? ⟨g3, 2, none⟩ = some (.slice pa pn pc) := hbk.cell 2
            have y2 : W.frozen? ⟨g3, 2, none⟩ = false := hbk.free 2
            have x3 : W.cell? ⟨g3, 3, none⟩ = some (.slice ta tn tc) := hbk.cell 3
            have y3 : W.frozen? ⟨g3, 3, none⟩ = false := hbk.free 3
            have hx : PM.Bx g3 W ((((W.setCell ⟨g3, 0, none⟩ (.int .u64 (s2.lf : Int))).setCell ⟨g3, 1, none⟩ (.slice ua' un' uc')).setCell ⟨g3, 2, none⟩ (.slice pa' pn' pc')).setCell ⟨g3, 3, none⟩ (.slice ta' tn' tc')) := (((PM.Bx.set g3 0 _ _).trans (PM.Bx.set g3 1 _ _)).trans (PM.Bx.set g3 2 _ _)).trans (PM.Bx.set g3 3 _ _)
            have hrs : PM.RS 28 g3 W _ := ⟨hx, fun T hT => PM.KT.ofx hx hbk hT⟩
            have hk2 := ((((hbk.set 0 (.int .u64 (s2.lf : Int))).set 1 (.slice ua' un' uc')).set 2 (.slice pa' pn' pc')).set 3 (.slice ta' tn' tc')).seeO (cs' := #[.int .u64 (s2.lf : Int), .slice ua' un' uc', .slice pa' pn' pc', .slice ta' tn' tc']) (by simp)
            simp only [he']
            go_simp
            first | exact ⟨hrs, _, _, _, _, _, _, _, _, _, rfl, hk2, g1.rs hrs, g2.rs hrs, g3'.kt (hrs.kt _ (by decide))⟩ | exact ⟨_, _, _, _, _, _, _, _, _, rfl, hk2, g1.rs hrs, g2.rs hrs, g3'.kt (hrs.kt _ (by decide))⟩
        · intro G W hB hF hS
          simp only [PM.allK, PM.spec] at hS
          simp at hS
          obtain ⟨ua', un', uc', pa', pn', pc', ta', tn', tc', -, j0, j1, j2, j3⟩ := (hS : PM.MS _ _ _ _ _)
          have u0 := hF 0 rfl
          have u1 := hF 1 rfl
          have u2 := hF 2 rfl
          have u3 := hF 3 rfl
          have u4 := hF 4 rfl
          have u29 := hF 29 rfl
          simp [PM.sl] at u0 u1 u2 u3 u4 u29
          rw [show ((List.range (Array.size _)).map G).toArray = #[G 0, G 1, G 2, G 3, G 4, G 5, G 6, G 7, G 8, G 9, G 10, G 11, G 12, G 13, G 14, G 15, G 16, G 17, G 18, G 19, G 20, G 21, G 22, G 23, G 24, G 25, G 26, G 27, G 28, G 29] from rfl]
          rw [u0, u1, u2, u3, u4, u29]
          clear u0 u1 u2 u3 u4 u29 hF
          have hbw : Below w.heap.size w W := hB.bx.below hb2.out hgg.out.1 hsz2.out
          have hMn : Hid (PM.MI w.heap.size g3 (PM.mdP (l.take (k + 1))) w W ∧ PM.BK W g2 #[.int .u64 0, .slice none 0 0, .slice none 0 0, .slice none 0 0] 28) := PM.hid ⟨by rw [hnx.out]; exact ⟨_, _, _, _, _, _, _, _, _, j0, j1, j2, j3, hbw⟩, hZ2.out.keepx hB.bx hgg.out.2.1⟩
          clear j0 j1 j2 j3 hbw hB
          go_wp2_with fail
          exact ⟨⟨k + 1, by go_num, by omega, by omega, hMn⟩, by simp only [intOf]; omega⟩
      · have hnx : PM.mdP (l.take (k + 1)) = PM.mdP (l.take k) := by rw [hnx0.out]; unfold PM.md1; rw [if_neg hf]
        have hMn : Hid (PM.MI w.heap.size g3 (PM.mdP (l.take (k + 1))) w w2 ∧ PM.BK w2 g2 #[.int .u64 0, .slice none 0 0, .slice none 0 0, .slice none 0 0] 28) := PM.hid (by rw [hnx]; exact hM2.out)
        clear hnx hM2 hf hnx0 hdd hzz1 hb2
        go_wp2_with fail
        exact ⟨⟨k + 1, by go_num, by omega, by omega, hMn⟩, by simp only [intOf]; omega⟩
    · have hend : k = l.length ∨ k = 40 := by rw [← hNh.out]; omega
      have hme := PM.md_end l hend
      rw [hme] at hM
      have hcond : k = N ∨ (k < N ∧ k = 40) := by omega
      obtain ⟨⟨ua, un, uc, pa, pn, pc, ta, tn, tc, m0, m1, m2, m3, m4⟩, kz⟩ := hM.out
      have x0 : wr.cell? ⟨g3, 0, none⟩ = some (.int .u64 ((PM.mdP l).lf : Int)) := m0.cell 0
      have x1 : wr.cell? ⟨g3, 1, none⟩ = some (.slice ua un uc) := m0.cell 1
      have x2 : wr.cell? ⟨g3, 2, none⟩ = some (.slice pa pn pc) := m0.cell 2
      have x3 : wr.cell? ⟨g3, 3, none⟩ = some (.slice ta tn tc) := m0.cell 3
      have z0 : wr.cell? ⟨g2, 0, none⟩ = some (.int .u64 0) := kz.cell 0
      have y0 : wr.frozen? ⟨g2, 0, none⟩ = false := kz.free 0
      have z1 : wr.cell? ⟨g2, 1, none⟩ = some (.slice none 0 0) := kz.cell 1
      have y1 : wr.frozen? ⟨g2, 1, none⟩ = false := kz.free 1
      have z2 : wr.cell? ⟨g2, 2, none⟩ = some (.slice none 0 0) := kz.cell 2
      have y2 : wr.frozen? ⟨g2, 2, none⟩ = false := kz.free 2
      have z3 : wr.cell? ⟨g2, 3, none⟩ = some (.slice none 0 0) := kz.cell 3
      have y3 : wr.frozen? ⟨g2, 3, none⟩ = false := kz.free 3
      have hx : PM.Bx g2 wr ((((wr.setCell ⟨g2, 0, none⟩ (.int .u64 ((PM.mdP l).lf : Int))).setCell ⟨g2, 1, none⟩ (.slice ua un uc)).setCell ⟨g2, 2, none⟩ (.slice pa pn pc)).setCell ⟨g2, 3, none⟩ (.slice ta tn tc)) := (((PM.Bx.set g2 0 _ _).trans (PM.Bx.set g2 1 _ _)).trans (PM.Bx.set g2 2 _ _)).trans (PM.Bx.set g2 3 _ _)
      have hrs : PM.RS 28 g2 wr _ := ⟨hx, fun T hT => PM.KT.ofx hx kz hT⟩
      have ZF := (((kz.set 0 (.int .u64 ((PM.mdP l).lf : Int))).set 1 (.slice ua un uc)).set 2 (.slice pa pn pc)).set 3 (.slice ta tn tc)
      have hfin := PM.hid (And.intro (m1.rs hrs) (And.intro (m2.rs hrs) (And.intro (m3.kt (hrs.kt _ (by decide))) (hx.below m4 hgg.out.2.2 m4.size))))
      clear hx hrs m0 m1 m2 m3 m4 kz hM hme hend
      rcases hcond with rfl | ⟨hlt, rfl⟩
      all_goals try have hi1 : (40 : Int) < (N : Int) := by omega
      all_goals go_wp2_with fail
      all_goals generalize ((((wr.setCell ⟨g2, 0, none⟩ (.int .u64 ((PM.mdP l).lf : Int))).setCell ⟨g2, 1, none⟩ (.slice ua un uc)).setCell ⟨g2, 2, none⟩ (.slice pa pn pc)).setCell ⟨g2, 3, none⟩ (.slice ta tn tc)) = wf at *
      all_goals have q0 : wf.cell? ⟨g2, 0, none⟩ = some (.int .u64 ((PM.mdP l).lf : Int)) := ZF.cell 0
      all_goals have q1 : wf.cell? ⟨g2, 1, none⟩ = some (.slice ua un uc) := ZF.cell 1
      all_goals have q2 : wf.cell? ⟨g2, 2, none⟩ = some (.slice pa pn pc) := ZF.cell 2
      all_goals have q3 : wf.cell? ⟨g2, 3, none⟩ = some (.slice ta tn tc) := ZF.cell 3
      all_goals refine bodyPost_ret (v := .agg #[.int .u64 ((PM.mdP l).lf : Int), .slice ua un uc, .slice pa pn pc, .slice ta tn tc]) (by simp [results, Try.results8, go_sem, q0, q1, q2, q3]) rfl ?_
      all_goals exact ⟨_, _, _, _, _, _, _, _, _, rfl, hfin.out.1, hfin.out.2.1, hfin.out.2.2.1, hfin.out.2.2.2⟩
end Go.Proofs.Ytphdadlpfjfeoaa
