/-
  CONTRACT of fold.All. (Written by tools/mk_sk.py.)
-/
import Derived.Test.YtphdadlpfjfeoaaSj
import Derived.Test.YtphdadlpfjfeoaaSf
import Derived.Test.YtphdadlpfjfeoaaJQ
namespace Go.Proofs.Ytphdadlpfjfeoaa
open Go.RowKit
set_option linter.unusedVariables false
set_option linter.unusedSimpArgs false
namespace PM
theorem OEv.or {TE TA : TypeId} {B : Nat} {w : World} {v : Value} {es : List (List At)} (h : OEv TE TA B w v es) : OR (evO TA B) 1 TE B w v es := by
  obtain ⟨svs, h1, h2, h3⟩ := h
  refine ⟨svs.map fun s => ⟨[s.v], rfl, by intro u hu; simp at hu; subst hu; exact s.one⟩, ?_, by simp [h2], fun i cs x hi hx => ?_⟩
  · have hf : (svs.map fun s => (⟨[s.v], rfl, by intro u hu; simp at hu; subst hu; exact s.one⟩ : Ce 1)).flatMap ceL = svs.flatMap svL := by
      rw [List.flatMap_map]
      rfl
    unfold OM at h1 ⊢
    rw [hf, List.length_map]
    exact h1
  · rw [List.getElem?_map] at hi
    obtain ⟨y, hy, rfl⟩ := Option.map_eq_some_iff.1 hi
    exact ⟨y.v, rfl, h3 i y x hy hx⟩
/-- a member's bytes -/
def bsR (w : World) (cs : List Value) (l : List UInt8) : Prop := ∃ v, cs = [v] ∧ BS w v l
theorem bsR_lasts : Lasts bsR := fun W w cs x hb ⟨v, h1, h2⟩ => ⟨v, h1, h2.keep hb⟩
theorem bbO_bsR {B : Nat} {w : World} {cs : List Value} {x : List UInt8} (h : bbO B w cs x) : bsR w cs x := by
  obtain ⟨v, h1, h2⟩ := h
  exact ⟨v, h1, h2.bs⟩
/-- the state that bytes make -/
noncomputable def al1 (s : Fs) (b : List UInt8) : Fs × Int := match decRc b with | none => (Fs0, 110) | some x => stp s x
noncomputable def allL : List (List UInt8) → Fs → Fs × Int
  | [], s => (s, 0)
  | b :: l, s => if (al1 s b).2 = 0 then allL l (al1 s b).1 else (Fs0, (al1 s b).2)
noncomputable def allP (l : List (List UInt8)) : Fs × Int := allL l Fs0
theorem allL_at {l : List (List UInt8)} {k : Nat} {b : List UInt8} (h : l[k]? = some b) (s : Fs) : allL (l.drop k) s = if (al1 s b).2 = 0 then allL (l.drop (k + 1)) (al1 s b).1 else (Fs0, (al1 s b).2) := by
  obtain ⟨hk, hb⟩ := List.getElem?_eq_some_iff.1 h
  rw [List.drop_eq_getElem_cons hk, hb]
  rfl
theorem al1_bad {b : List UInt8} (h : decRc b = none) (s : Fs) : al1 s b = (Fs0, 110) := by unfold al1; rw [h]
theorem al1_ok {b : List UInt8} {x : Rc} (h : decRc b = some x) (s : Fs) : al1 s b = stp s x := by unfold al1; rw [h]
/-- few members -/
def FsN (N : Nat) (s : Fs) : Prop := s.ls.length ≤ N ∧ s.ps.length ≤ N ∧ s.ab.length ≤ N
theorem FsN.stK {N : Nat} {s : Fs} (h : FsN N s) (kd : Int) (n : Nat) (z : En) (i : Id) : FsN (N + 1) (stK s kd n z i).1 := by
  obtain ⟨h1, h2, h3⟩ := h
  have hp := noId_len z.id s.ps
  have hq := noId_len i s.ps
  unfold PM.stK stL stE stP stA stF
  repeat' split
  all_goals (refine ⟨?_, ?_, ?_⟩ <;> first | (simp only [List.length_append, List.length_singleton]; omega) | (simp only; omega))
/-- where the loop stands -/
def AI (B gs : Nat) (l : List (List UInt8)) (k : Nat) (w1 wr : World) : Prop := ∃ s, SI B gs s w1 wr ∧ FsN k s ∧ allP l = allL (l.drop k) s
theorem EnW.nilrow {B : Nat} {w : World} : EnW B w (.slice none 0 0) [] := OR.nilrow _
end PM
namespace PM
theorem BK.trans' {w1 W : World} {g B : Nat} {cs : Array Value} {T : TypeId} (h : BK w1 g cs T) (hb : Below B w1 W) (hg : g < B) : BK W g cs T := (hb.block g hg).trans h
end PM
set_option maxRecDepth 100000 in
set_option maxHeartbeats 16000000 in
theorem all_any (v : Value) (l : List (List UInt8)) (w : World) (hv : PM.RR PM.bsR 1 w v l) (hN1 : l.length ≤ 1000) (hbl : ∀ b ∈ l, b.length ≤ 70368744177664) :
    Calls Try.prog 10 #[v] w fun e w' => PM.RetSt w.heap.size (PM.allP l).1 (PM.allP l).2 e w w' := by
  obtain ⟨ad, cap, rfl⟩ := hv.len
  obtain ⟨N, hN⟩ : ∃ L, L = l.length := ⟨_, rfl⟩
  have hNh := PM.hid hN
  rw [← hN] at hv hN1 ⊢
  replace hv := PM.hid hv
  replace hbl := PM.hid hbl
  clear hN
  obtain ⟨g2, hg2⟩ : ∃ g, g = w.heap.size := ⟨_, rfl⟩
  obtain ⟨w1, hw1⟩ : ∃ W, W = w.alloc (.cells #[.int .u64 0, .slice none 0 0, .slice none 0 0, .slice none 0 0] 28) := ⟨_, rfl⟩
  have hs1 : w1.heap.size = w.heap.size + 1 := by rw [hw1]; simp
  obtain ⟨gs, hgs⟩ : ∃ g, g = w.heap.size + 1 := ⟨_, rfl⟩
  obtain ⟨w2, hw2⟩ : ∃ W, W = w1.alloc (.cells #[.int .u64 0, .slice none 0 0, .slice none 0 0, .slice none 0 0] 28) := ⟨_, rfl⟩
  have bb1 : Below w.heap.size w w1 := by rw [hw1]; exact (Below.refl _ _).alloc (Nat.le_refl _) _
  have bb2 : Below w1.heap.size w1 w2 := by rw [hw2]; exact (Below.refl _ _).alloc (Nat.le_refl _) _
  have k2 : PM.BK w1 g2 #[.int .u64 0, .slice none 0 0, .slice none 0 0, .slice none 0 0] 28 := by rw [hw1, hg2]; exact PM.BK.new _ _ _
  have ks : PM.BK w2 gs #[.int .u64 0, .slice none 0 0, .slice none 0 0, .slice none 0 0] 28 := by rw [hw2, hgs, ← hs1]; exact PM.BK.new _ _ _
  have hk2 := PM.hid k2
  have hgB : Hid (w.heap.size ≤ g2 ∧ w.heap.size ≤ w1.heap.size) := PM.hid (by omega)
  have hg2lt : Hid (g2 < w1.heap.size) := PM.hid (by omega)
  have hBgs : Hid (w1.heap.size ≤ gs) := PM.hid (by omega)
  have hb01 := PM.hid bb1
  have hA0 : Hid (PM.AI w1.heap.size gs l 0 w1 w2) := PM.hid ⟨PM.Fs0, ⟨_, _, _, ks, PM.OR.nilrow _, PM.OR.nilrow _, PM.OM.nilrow _, PM.Apart.nil _ 0 0, bb2⟩, ⟨Nat.le_refl _, Nat.le_refl _, Nat.le_refl _⟩, rfl⟩
  clear k2 ks bb1 bb2
  go_enter Try.func10, Try.ntmps10
  go_upto_region 1 with fail
  go_step3
  go_upto_region 2 with fail
  rw [← hw1, ← hw2, ← hgs, ← hg2]
  clear hw1 hw2 hg2 hgs hs1
  go_wp2_with fail
  go_step3
  go_wp2_with fail
  go_loopw [5, 11] (fun a i wr => a = .int .i64 0 ∧ ∃ k : Nat, i = .int .i64 k ∧ k ≤ N ∧ Hid (PM.AI w1.heap.size gs l k w1 wr)) (fun _ i _ => N - (intOf i).toNat)
  case atStart => exact ⟨rfl, 0, rfl, by omega, hA0⟩
  case round =>
    obtain ⟨rfl, k, rfl, hk, hI⟩ := hrel
    by_cases hlt : k < N
    · obtain ⟨y, hy⟩ : ∃ z, l[k]? = some z := ⟨l[k]'(by rw [← hNh.out]; exact hlt), List.getElem?_eq_getElem _⟩
      obtain ⟨b, off, rfl, hce⟩ := PM.RR.opn hv.out (by rw [← hNh.out]; omega)
      obtain ⟨s, hSI, hfn, hal⟩ := hI.out
      have hBr := hSI.below
      have hBw : Below w.heap.size w wr := PM.chain' hb01.out hBr hgB.out.2
      obtain ⟨cs, hl0, xv, hcs, hxs⟩ := hce k y hy
      obtain ⟨xa, xc, rfl⟩ := hxs.len
      have hyl := hbl.out y (List.mem_of_getElem? hy)
      obtain ⟨X, hX⟩ : ∃ q, q = y.length := ⟨_, rfl⟩
      replace hl0 := hl0.keep hBw
      rw [hcs] at hl0
      have d0 : wr.cell? ⟨b, off + k, none⟩ = some (.slice xa X xc) := by have := hl0 0 _ rfl; rwa [Nat.mul_one, Nat.add_zero, ← hX] at this
      have hun := fun (W : World) (hb : Below w.heap.size w W) => unpack_any (.slice xa y.length xc) y W (hxs.keep hb) hyl
      rw [← hX] at hun
      unfold RetUN at hun
      replace hun := PM.hid hun
      rw [PM.allL_at hy] at hal
      replace hal := PM.hid hal
      replace hfn := PM.hid hfn
      have hlen : Hid (s.ls.length ≤ 1000 ∧ s.ps.length ≤ 1000 ∧ s.ab.length ≤ 1000) := PM.hid (by obtain ⟨h1, h2, h3⟩ := hfn.out; omega)
      clear hI hce hl0 hcs hxs hyl hX hy cs
      go_upto_region 7 with fail
      clear d0
      obtain ⟨gx, hgx⟩ : ∃ g, g = wr.heap.size := ⟨_, rfl⟩
      obtain ⟨w3, hw3⟩ : ∃ W, W = wr.alloc (.cells #[.int .i64 0, .int .u64 0, .int .i64 0, .int .i64 0, .int .u64 0, .int .u64 0, .int .i64 0, .int .u64 0, .slice none 0 0, .slice none 0 0, .int .i64 0, .int .u64 0, .int .u64 0] 46) := ⟨_, rfl⟩
      have hBn : Below wr.heap.size wr w3 := by rw [hw3]; exact (Below.refl _ _).alloc (Nat.le_refl _) _
      have kx : PM.BK w3 gx #[.int .i64 0, .int .u64 0, .int .i64 0, .int .i64 0, .int .u64 0, .int .u64 0, .int .i64 0, .int .u64 0, .slice none 0 0, .slice none 0 0, .int .i64 0, .int .u64 0, .int .u64 0] 46 := by rw [hw3, hgx]; exact PM.BK.new _ _ _
      have hB1r : w1.heap.size ≤ wr.heap.size := hBr.size
      have hBgx : Hid (w1.heap.size ≤ gx) := PM.hid (by rw [hgx]; exact hB1r)
      rw [← hw3, ← hgx]
      clear hw3 hgx
      replace hSI := hSI.keep hBn hB1r
      have hBw3 := PM.chain hBw hBn
      have hB3 : w1.heap.size ≤ w3.heap.size := Nat.le_trans hB1r hBn.size
      replace hun := hun.out w3 hBw3
      clear hBn hBr hBw hB1r
      replace hSI := PM.hid hSI
      go_wp2_with fail
      refine hun.mono ?_
      rintro e w5 ⟨x, fv, ev, n, rfl, hor, ho, hoe, hB5⟩
      clear hun hBw3
      have hst := hSI.out.keep hB5 hB3
      have kx5 := kx.keep hB5
      have hB35 : w1.heap.size ≤ w5.heap.size := Nat.le_trans hB3 hB5.size
      have hzo : PM.enO 114 112 84 w1.heap.size w5 (PM.enC x.en fv ev) x.en := ⟨fv, ev, rfl, ho.mono hB3, PM.evOr_mono hB3 (PM.OEv.or hoe)⟩
      obtain ⟨fb, fd, rfl⟩ := (ho.em PM.teL_len).len
      obtain ⟨eb, ed, rfl⟩ := (PM.evOr_evl (PM.OEv.or hoe)).len
      have hoX : Hid (n = 0 ∧ PM.decRc y = some x ∨ n = 110 ∧ PM.decRc y = none) := PM.hid (by rcases hor with h | h; exact .inl h; exact .inr ⟨h.1, h.2.1⟩)
      clear hor ho hoe kx hSI hB5 hB3
      obtain ⟨kd, nn, z, i⟩ := x
      simp only at hzo ⊢
      obtain ⟨zF, hzF⟩ : ∃ q, q = z.fil.length := ⟨_, rfl⟩
      obtain ⟨zE, hzE⟩ : ∃ q, q = z.evs.length := ⟨_, rfl⟩
      rw [← hzF, ← hzE] at hzo ⊢
      clear hzF hzE
      unfold PM.rcC PM.enC PM.idL
      unfold PM.enC at hzo
      simp only [List.cons_append, List.nil_append, PM.idL] at hzo ⊢
      have f0 : w5.frozen? ⟨gx, 0, none⟩ = false := kx5.free 0
      have r0 : w5.cell? ⟨gx, 0, none⟩ = some (.int .i64 0) := kx5.cell 0
      have f1 : w5.frozen? ⟨gx, 1, none⟩ = false := kx5.free 1
      have r1 : w5.cell? ⟨gx, 1, none⟩ = some (.int .u64 0) := kx5.cell 1
      have f2 : w5.frozen? ⟨gx, 2, none⟩ = false := kx5.free 2
      have r2 : w5.cell? ⟨gx, 2, none⟩ = some (.int .i64 0) := kx5.cell 2
      have f3 : w5.frozen? ⟨gx, 3, none⟩ = false := kx5.free 3
      have r3 : w5.cell? ⟨gx, 3, none⟩ = some (.int .i64 0) := kx5.cell 3
      have f4 : w5.frozen? ⟨gx, 4, none⟩ = false := kx5.free 4
      have r4 : w5.cell? ⟨gx, 4, none⟩ = some (.int .u64 0) := kx5.cell 4
      have f5 : w5.frozen? ⟨gx, 5, none⟩ = false := kx5.free 5
      have r5 : w5.cell? ⟨gx, 5, none⟩ = some (.int .u64 0) := kx5.cell 5
      have f6 : w5.frozen? ⟨gx, 6, none⟩ = false := kx5.free 6
      have r6 : w5.cell? ⟨gx, 6, none⟩ = some (.int .i64 0) := kx5.cell 6
      have f7 : w5.frozen? ⟨gx, 7, none⟩ = false := kx5.free 7
      have r7 : w5.cell? ⟨gx, 7, none⟩ = some (.int .u64 0) := kx5.cell 7
      have f8 : w5.frozen? ⟨gx, 8, none⟩ = false := kx5.free 8
      have r8 : w5.cell? ⟨gx, 8, none⟩ = some (.slice none 0 0) := kx5.cell 8
      have f9 : w5.frozen? ⟨gx, 9, none⟩ = false := kx5.free 9
      have r9 : w5.cell? ⟨gx, 9, none⟩ = some (.slice none 0 0) := kx5.cell 9
      have f10 : w5.frozen? ⟨gx, 10, none⟩ = false := kx5.free 10
      have r10 : w5.cell? ⟨gx, 10, none⟩ = some (.int .i64 0) := kx5.cell 10
      have f11 : w5.frozen? ⟨gx, 11, none⟩ = false := kx5.free 11
      have r11 : w5.cell? ⟨gx, 11, none⟩ = some (.int .u64 0) := kx5.cell 11
      have f12 : w5.frozen? ⟨gx, 12, none⟩ = false := kx5.free 12
      have r12 : w5.cell? ⟨gx, 12, none⟩ = some (.int .u64 0) := kx5.cell 12
      go_upto_region 8 with fail
      obtain ⟨w4, hw4⟩ : ∃ W, W = (((((((((((((w5.setCell ⟨gx, 0, none⟩ (.int .i64 kd)).setCell ⟨gx, 1, none⟩ (.int .u64 (nn : Int))).setCell ⟨gx, 2, none⟩ (.int .i64 z.kind)).setCell ⟨gx, 3, none⟩ (.int .i64 z.id.br)).setCell ⟨gx, 4, none⟩ (.int .u64 (z.id.life : Int))).setCell ⟨gx, 5, none⟩ (.int .u64 (z.id.ser : Int))).setCell ⟨gx, 6, none⟩ (.int .i64 z.client)).setCell ⟨gx, 7, none⟩ (.int .u64 (z.sub : Int))).setCell ⟨gx, 8, none⟩ (.slice fb zF fd)).setCell ⟨gx, 9, none⟩ (.slice eb zE ed)).setCell ⟨gx, 10, none⟩ (.int .i64 i.br)).setCell ⟨gx, 11, none⟩ (.int .u64 (i.life : Int))).setCell ⟨gx, 12, none⟩ (.int .u64 (i.ser : Int))) := ⟨_, rfl⟩
      have hx4 : PM.Bx gx w5 w4 := by rw [hw4]; exact ((((((((((((PM.Bx.set gx 0 _ _).trans (PM.Bx.set gx 1 _ _)).trans (PM.Bx.set gx 2 _ _)).trans (PM.Bx.set gx 3 _ _)).trans (PM.Bx.set gx 4 _ _)).trans (PM.Bx.set gx 5 _ _)).trans (PM.Bx.set gx 6 _ _)).trans (PM.Bx.set gx 7 _ _)).trans (PM.Bx.set gx 8 _ _)).trans (PM.Bx.set gx 9 _ _)).trans (PM.Bx.set gx 10 _ _)).trans (PM.Bx.set gx 11 _ _)).trans (PM.Bx.set gx 12 _ _)
      have kx4 : PM.BK w4 gx #[.int .i64 kd, .int .u64 (nn : Int), .int .i64 z.kind, .int .i64 z.id.br, .int .u64 (z.id.life : Int), .int .u64 (z.id.ser : Int), .int .i64 z.client, .int .u64 (z.sub : Int), .slice fb zF fd, .slice eb zE ed, .int .i64 i.br, .int .u64 (i.life : Int), .int .u64 (i.ser : Int)] 46 := by rw [hw4]; exact ((((((((((((((kx5.set 0 (.int .i64 kd)).set 1 (.int .u64 (nn : Int))).set 2 (.int .i64 z.kind)).set 3 (.int .i64 z.id.br)).set 4 (.int .u64 (z.id.life : Int))).set 5 (.int .u64 (z.id.ser : Int))).set 6 (.int .i64 z.client)).set 7 (.int .u64 (z.sub : Int))).set 8 (.slice fb zF fd)).set 9 (.slice eb zE ed)).set 10 (.int .i64 i.br)).set 11 (.int .u64 (i.life : Int))).set 12 (.int .u64 (i.ser : Int)))).seeO (by simp)
      rw [← hw4]
      clear hw4 r0 f0 r1 f1 r2 f2 r3 f3 r4 f4 r5 f5 r6 f6 r7 f7 r8 f8 r9 f9 r10 f10 r11 f11 r12 f12
      have kt4 := fun (T : TypeId) (hT : 46 ≠ T) => PM.KT.ofx hx4 kx5 hT
      have hb4 : Hid (Below w1.heap.size w1 w4) := PM.hid (hx4.below hst.below hBgx.out hst.below.size)
      have hSI := PM.hid (PM.SI.kts hst kt4)
      replace hzo := PM.hid (PM.enO_kt (kt4 _ (by decide)) (kt4 _ (by decide)) (kt4 _ (by decide)) _ _ hzo)
      have hsz4 : Hid (w1.heap.size ≤ w4.heap.size) := PM.hid (Nat.le_trans hB35 hx4.size)
      have hbx := PM.hid kx4
      clear kt4 hx4 kx5 kx4 hst hB35
      rcases hoX.out with ⟨rfl, hdx⟩ | ⟨rfl, hdx⟩
      · have hal2 := hal.out
        rw [PM.al1_ok hdx] at hal2
        have hP := (PM.decRc_back hdx).2.1
        have hkd : kd = 1 ∨ kd = 2 ∨ kd = 3 ∨ kd = 4 ∨ kd = 5 := PM.rcP_kind hP
        have hstp : PM.stp s ⟨kd, nn, z, i⟩ = PM.stK s kd nn z i := by unfold PM.stp; rw [if_pos hP]
        rw [hstp] at hal2
        have hres := PM.hid hal2
        clear hal hal2 hP hstp hdx hoX
        rcases hkd with rfl | rfl | rfl | rfl | rfl
        · replace hres : Hid (PM.allP l = if (PM.stL s nn).2 = 0 then PM.allL (l.drop (k + 1)) (PM.stL s nn).1 else (PM.Fs0, (PM.stL s nn).2)) := hres
          go_wp2_with fail
          refine PM.wp_region_stK (PM.RW w1.heap.size) (fun W W' => Below W.heap.size W W') (fun W => PM.SI w1.heap.size gs s W W ∧ PM.enO 114 112 84 w1.heap.size W [.int .i64 z.kind, .int .i64 z.id.br, .int .u64 (z.id.life : Int), .int .u64 (z.id.ser : Int), .int .i64 z.client, .int .u64 (z.sub : Int), .slice fb zF fd, .slice eb zE ed] z ∧ PM.BK W gx #[.int .i64 1, .int .u64 (nn : Int), .int .i64 z.kind, .int .i64 z.id.br, .int .u64 (z.id.life : Int), .int .u64 (z.id.ser : Int), .int .i64 z.client, .int .u64 (z.sub : Int), .slice fb zF fd, .slice eb zE ed, .int .i64 i.br, .int .u64 (i.life : Int), .int .u64 (i.ser : Int)] 46) (fun _ _ h => h) (fun h => PM.RW.new h) (fun h k => h.trans k) [some 22, some 23, some 24, some 25, some 26, some 27, some 5] [some 22, some 23, some 24, some 25, some 26, some 27, some 5] [[], [0], [], [2], [0, 1, 2, 3], [0, 1, 2, 3, 4], [0, 1, 2, 3, 4, 5]] [false, true, false, false, true, true, false] [5] [([], true), ([0], false), ([], false), ([2], true), ([1, 3], false), ([4], true), ([5], false)] [5, 6] [fun x _ => x = .agg #[.int .i64 1, .int .u64 (nn : Int), .int .i64 z.kind, .int .i64 z.id.br, .int .u64 (z.id.life : Int), .int .u64 (z.id.ser : Int), .int .i64 z.client, .int .u64 (z.sub : Int), .slice fb zF fd, .slice eb zE ed, .int .i64 i.br, .int .u64 (i.life : Int), .int .u64 (i.ser : Int)], fun x W => PM.SMs gs #[.int .i64 1, .int .u64 (nn : Int), .int .i64 z.kind, .int .i64 z.id.br, .int .u64 (z.id.life : Int), .int .u64 (z.id.ser : Int), .int .i64 z.client, .int .u64 (z.sub : Int), .slice fb zF fd, .slice eb zE ed, .int .i64 i.br, .int .u64 (i.life : Int), .int .u64 (i.ser : Int)] x W, fun x _ => x = .pointer (some ⟨gx, 0, none⟩), fun x _ => x = .int .i64 1, fun x W => PM.SFn gs 1 #[.int .i64 1, .int .u64 (nn : Int), .int .i64 z.kind, .int .i64 z.id.br, .int .u64 (z.id.life : Int), .int .u64 (z.id.ser : Int), .int .i64 z.client, .int .u64 (z.sub : Int), .slice fb zF fd, .slice eb zE ed, .int .i64 i.br, .int .u64 (i.life : Int), .int .u64 (i.ser : Int)] x W, fun x W => PM.SRt w1.heap.size gs (PM.stL s nn) w4 x W, fun x _ => x = .int .i64 (PM.stL s nn).2] (by kernel_rfl) (by kernel_rfl) (by kernel_rfl) (by kernel_rfl) (by kernel_rfl) (by kernel_rfl) (by kernel_rfl) (by kernel_rfl) (by kernel_rfl) ?_ ?_ ?_ ?_ ?_ ?_
          · simp only [List.zip_cons_cons, List.zip_nil_right, List.forall_mem_cons]
            refine ⟨?_, ?_, ?_, ?_, ?_, ?_, ?_, by simp⟩
            all_goals (intro hk v W W' h hb; first | exact Bool.noConfusion hk | exact h)
          · simp only [List.forall_mem_cons]
            refine ⟨?_, ?_, ?_, ?_, ?_, ?_, ?_, by simp⟩
            all_goals (intro v W W' h hb; first | exact h | exact PM.SMs.keep hb h | exact PM.SFn.keep hb h | exact PM.SRt.keep hb hBgs.out h)
          · exact fun W W' h hb => ⟨(h.1.keep hb (Nat.le_trans hBgs.out (Nat.le_of_lt h.1.lt))).here, PM.enO_lasts _ _ _ _ hb h.2.1, h.2.2.keep hb⟩
          · exact ⟨hSI.out, hzo.out, hbx.out⟩
          · refine ⟨?_, ?_, ?_, ?_, ?_, ?_, ?_, trivial⟩
            all_goals
              intro a W hB hF hd hp
              have k4 := hF 4 rfl
              have k8 := hF 8 rfl
              clear hF
              simp [PM.depsK, PM.spec, PM.sl] at hd hp k4 k8
              simp only [PM.wantL, PM.spec, PM.Spv]
              try simp only [PM.sl]
              go_simp
            all_goals try exact Below.refl _ _
            · have hbk := hp.2.2
              have r0 : W.cell? ⟨gx, 0, none⟩ = some (.int .i64 1) := PM.BK.cell hbk 0
              have r1 : W.cell? ⟨gx, 1, none⟩ = some (.int .u64 (nn : Int)) := PM.BK.cell hbk 1
              have r2 : W.cell? ⟨gx, 2, none⟩ = some (.int .i64 z.kind) := PM.BK.cell hbk 2
              have r3 : W.cell? ⟨gx, 3, none⟩ = some (.int .i64 z.id.br) := PM.BK.cell hbk 3
              have r4 : W.cell? ⟨gx, 4, none⟩ = some (.int .u64 (z.id.life : Int)) := PM.BK.cell hbk 4
              have r5 : W.cell? ⟨gx, 5, none⟩ = some (.int .u64 (z.id.ser : Int)) := PM.BK.cell hbk 5
              have r6 : W.cell? ⟨gx, 6, none⟩ = some (.int .i64 z.client) := PM.BK.cell hbk 6
              have r7 : W.cell? ⟨gx, 7, none⟩ = some (.int .u64 (z.sub : Int)) := PM.BK.cell hbk 7
              have r8 : W.cell? ⟨gx, 8, none⟩ = some (.slice fb zF fd) := PM.BK.cell hbk 8
              have r9 : W.cell? ⟨gx, 9, none⟩ = some (.slice eb zE ed) := PM.BK.cell hbk 9
              have r10 : W.cell? ⟨gx, 10, none⟩ = some (.int .i64 i.br) := PM.BK.cell hbk 10
              have r11 : W.cell? ⟨gx, 11, none⟩ = some (.int .u64 (i.life : Int)) := PM.BK.cell hbk 11
              have r12 : W.cell? ⟨gx, 12, none⟩ = some (.int .u64 (i.ser : Int)) := PM.BK.cell hbk 12
              go_simp
              first | done | exact Below.refl _ _ | exact ⟨Below.refl _ _, _, rfl, rfl⟩ | exact ⟨Below.refl _ _, rfl⟩
            · refine (steps_any 1 nn z fb zF fd eb zE ed i gs W).mono ?_
              rintro e w' ⟨v, rfl, hs2, hb⟩
              exact ⟨hb, _, rfl, hs2⟩
            · have hbk := hp.2.2
              have r0 : W.cell? ⟨gx, 0, none⟩ = some (.int .i64 1) := PM.BK.cell hbk 0
              go_simp
              first | done | exact Below.refl _ _ | exact ⟨Below.refl _ _, _, rfl, rfl⟩ | exact ⟨Below.refl _ _, rfl⟩
            · obtain ⟨⟨gm, gr2, gp, he, hIM, j1, j2⟩, e25⟩ := hd
              have kl := PM.run_lookup_int (P := Try.prog) (T := 60) Try.underlying60 Try.underlying3 hIM 1 (zeroFnF W)
              simp only [he, kl]
              go_simp
              exact ⟨Below.refl _ _, _, rfl, gr2, gp, rfl, j1, j2⟩
            · obtain ⟨gr2, gp, he, j1, j2⟩ := hd
              have he2 : _ = (.func (.func 40) #[] #[.pointer (some ⟨gr2, 0, none⟩), .pointer (some ⟨gp, 0, none⟩)] : Value) := he
              have hBw := hB.2 hsz4.out
              have hcl := stL_any 1 nn z fb zF fd eb zE ed i w1.heap.size gs gr2 gp s W W hp.1 hBgs j1 j2 hp.2.1 hlen
              simp only [he2]
              go_simp
              refine hcl.mono ?_
              rintro e w' ⟨rfl, hs2⟩
              exact ⟨⟨PM.SI.size hs2 hp.1, fun _ => hs2.below⟩, _, rfl, rfl, hs2.from hBw⟩
            · first | exact hd.1 | exact ⟨Below.refl _ _, by rw [hd.1]⟩ | (rw [hd.1]; exact ⟨Below.refl _ _, rfl⟩) | (simp only [hd.1]; exact Below.refl _ _) | (simp [hd.1]; exact Below.refl _ _) | exact ⟨Below.refl _ _, _, rfl, hd.1⟩ | (simp [hd.1]; done)
          · intro G W hB hF hS
            simp only [PM.allK, PM.spec] at hS
            simp at hS
            have u0 := hF 0 rfl
            have u1 := hF 1 rfl
            have u2 := hF 2 rfl
            have u3 := hF 3 rfl
            have u4 := hF 4 rfl
            have u6 := hF 6 rfl
            have u9 := hF 9 rfl
            have u10 := hF 10 rfl
            have u31 := hF 31 rfl
            have u32 := hF 32 rfl
            have u33 := hF 33 rfl
            have u34 := hF 34 rfl
            have u35 := hF 35 rfl
            have u11 := hF 11 rfl
            simp [PM.sl] at u0 u1 u2 u3 u4 u6 u9 u10 u31 u32 u33 u34 u35 u11
            obtain ⟨hs1, hs2⟩ := hS
            rw [show ((List.range (Array.size _)).map G).toArray = #[G 0, G 1, G 2, G 3, G 4, G 5, G 6, G 7, G 8, G 9, G 10, G 11, G 12, G 13, G 14, G 15, G 16, G 17, G 18, G 19, G 20, G 21, G 22, G 23, G 24, G 25, G 26, G 27, G 28, G 29, G 30, G 31, G 32, G 33, G 34, G 35] from rfl]
            rw [u0, u1, u2, u3, u4, u6, u9, u10, u31, u32, u33, u34, u35, u11, hs2]
            clear u0 u1 u2 u3 u4 u6 u9 u10 u31 u32 u33 u34 u35 u11 hF hs2
            have hsi := hs1.2
            have hcode : (PM.stL s nn).2 = 0 ∨ (PM.stL s nn).2 = 160 := by
              have := PM.stK_code s 1 nn z i
              simp [PM.stK] at this
              rcases this with h | h
              · exact .inl h
              · exact .inr (by rw [h])
            have hfn2 : PM.FsN (k + 1) (PM.stL s nn).1 := by
              have := hfn.out.stK 1 nn z i
              simpa [PM.stK] using this
            have hnx := hres.out
            obtain ⟨s2, hs2⟩ : ∃ q, q = (PM.stL s nn) := ⟨_, rfl⟩
            rw [← hs2] at hsi hnx hcode hfn2 ⊢
            clear hs1 hB hs2 hSI hzo hbx hres
            obtain ⟨t, c⟩ := s2
            simp only at hsi hcode hnx hfn2 ⊢
            rcases hcode with rfl | rfl
            · rw [if_pos rfl] at hnx
              have hnew : Hid (PM.AI w1.heap.size gs l (k + 1) w1 W) := PM.hid ⟨t, hsi.from hb4.out, hfn2, hnx⟩
              clear hsi hfn2 hnx
              go_wp2_with fail
              exact ⟨⟨rfl, k + 1, by go_num, by omega, hnew⟩, by simp only [intOf]; omega⟩
            · rw [if_neg (by decide)] at hnx
              have hq := PM.hid hnx
              have hbw := hb4.out.trans hsi.below
              have hbw2 := PM.chain' hb01.out hbw hgB.out.2
              have k2 := hk2.out.trans' hbw hg2lt.out
              clear hsi hfn2 hnx hbw
              have z0 : W.cell? ⟨g2, 0, none⟩ = some (.int .u64 0) := k2.cell 0
              have y0 : W.frozen? ⟨g2, 0, none⟩ = false := k2.free 0
              have z1 : W.cell? ⟨g2, 1, none⟩ = some (.slice none 0 0) := k2.cell 1
              have y1 : W.frozen? ⟨g2, 1, none⟩ = false := k2.free 1
              have z2 : W.cell? ⟨g2, 2, none⟩ = some (.slice none 0 0) := k2.cell 2
              have y2 : W.frozen? ⟨g2, 2, none⟩ = false := k2.free 2
              have z3 : W.cell? ⟨g2, 3, none⟩ = some (.slice none 0 0) := k2.cell 3
              have y3 : W.frozen? ⟨g2, 3, none⟩ = false := k2.free 3
              have hx : PM.Bx g2 W ((((W.setCell ⟨g2, 0, none⟩ (.int .u64 0)).setCell ⟨g2, 1, none⟩ (.slice none 0 0)).setCell ⟨g2, 2, none⟩ (.slice none 0 0)).setCell ⟨g2, 3, none⟩ (.slice none 0 0)) := (((PM.Bx.set g2 0 _ _).trans (PM.Bx.set g2 1 _ _)).trans (PM.Bx.set g2 2 _ _)).trans (PM.Bx.set g2 3 _ _)
              have hrs : PM.RS 28 g2 W _ := ⟨hx, fun T hT => PM.KT.ofx hx k2 hT⟩
              have ZF := (((((k2.set 0 (.int .u64 0)).set 1 (.slice none 0 0)).set 2 (.slice none 0 0)).set 3 (.slice none 0 0))).seeO (cs' := #[.int .u64 0, .slice none 0 0, .slice none 0 0, .slice none 0 0]) (by simp)
              have hend := PM.hid (hx.below hbw2 hgB.out.1 hbw2.size)
              clear hx hrs k2 
              replace ZF := PM.hid ZF
              go_wp2_with fail
              generalize ((((W.setCell ⟨g2, 0, none⟩ (.int .u64 0)).setCell ⟨g2, 1, none⟩ (.slice none 0 0)).setCell ⟨g2, 2, none⟩ (.slice none 0 0)).setCell ⟨g2, 3, none⟩ (.slice none 0 0)) = wf at *
              have q0 : wf.cell? ⟨g2, 0, none⟩ = some (.int .u64 0) := ZF.out.cell 0
              have q1 : wf.cell? ⟨g2, 1, none⟩ = some (.slice none 0 0) := ZF.out.cell 1
              have q2 : wf.cell? ⟨g2, 2, none⟩ = some (.slice none 0 0) := ZF.out.cell 2
              have q3 : wf.cell? ⟨g2, 3, none⟩ = some (.slice none 0 0) := ZF.out.cell 3
              try rw [Exit.noGoto_ret]
              refine bodyPost_ret (v := .tuple #[.agg #[.int .u64 0, .slice none 0 0, .slice none 0 0, .slice none 0 0], .int .i64 160]) (by simp [results, Try.results10, go_sem, q0, q1, q2, q3]) rfl ?_
              rw [hq.out]
              exact ⟨_, _, _, _, _, _, _, _, _, rfl, PM.EnW.nilrow, PM.EnW.nilrow, PM.OM.nilrow _, hend.out⟩
        · replace hres : Hid (PM.allP l = if (PM.stE s nn z).2 = 0 then PM.allL (l.drop (k + 1)) (PM.stE s nn z).1 else (PM.Fs0, (PM.stE s nn z).2)) := hres
          go_wp2_with fail
          refine PM.wp_region_stK (PM.RW w1.heap.size) (fun W W' => Below W.heap.size W W') (fun W => PM.SI w1.heap.size gs s W W ∧ PM.enO 114 112 84 w1.heap.size W [.int .i64 z.kind, .int .i64 z.id.br, .int .u64 (z.id.life : Int), .int .u64 (z.id.ser : Int), .int .i64 z.client, .int .u64 (z.sub : Int), .slice fb zF fd, .slice eb zE ed] z ∧ PM.BK W gx #[.int .i64 2, .int .u64 (nn : Int), .int .i64 z.kind, .int .i64 z.id.br, .int .u64 (z.id.life : Int), .int .u64 (z.id.ser : Int), .int .i64 z.client, .int .u64 (z.sub : Int), .slice fb zF fd, .slice eb zE ed, .int .i64 i.br, .int .u64 (i.life : Int), .int .u64 (i.ser : Int)] 46) (fun _ _ h => h) (fun h => PM.RW.new h) (fun h k => h.trans k) [some 22, some 23, some 24, some 25, some 26, some 27, some 5] [some 22, some 23, some 24, some 25, some 26, some 27, some 5] [[], [0], [], [2], [0, 1, 2, 3], [0, 1, 2, 3, 4], [0, 1, 2, 3, 4, 5]] [false, true, false, false, true, true, false] [5] [([], true), ([0], false), ([], false), ([2], true), ([1, 3], false), ([4], true), ([5], false)] [5, 6] [fun x _ => x = .agg #[.int .i64 2, .int .u64 (nn : Int), .int .i64 z.kind, .int .i64 z.id.br, .int .u64 (z.id.life : Int), .int .u64 (z.id.ser : Int), .int .i64 z.client, .int .u64 (z.sub : Int), .slice fb zF fd, .slice eb zE ed, .int .i64 i.br, .int .u64 (i.life : Int), .int .u64 (i.ser : Int)], fun x W => PM.SMs gs #[.int .i64 2, .int .u64 (nn : Int), .int .i64 z.kind, .int .i64 z.id.br, .int .u64 (z.id.life : Int), .int .u64 (z.id.ser : Int), .int .i64 z.client, .int .u64 (z.sub : Int), .slice fb zF fd, .slice eb zE ed, .int .i64 i.br, .int .u64 (i.life : Int), .int .u64 (i.ser : Int)] x W, fun x _ => x = .pointer (some ⟨gx, 0, none⟩), fun x _ => x = .int .i64 2, fun x W => PM.SFn gs 2 #[.int .i64 2, .int .u64 (nn : Int), .int .i64 z.kind, .int .i64 z.id.br, .int .u64 (z.id.life : Int), .int .u64 (z.id.ser : Int), .int .i64 z.client, .int .u64 (z.sub : Int), .slice fb zF fd, .slice eb zE ed, .int .i64 i.br, .int .u64 (i.life : Int), .int .u64 (i.ser : Int)] x W, fun x W => PM.SRt w1.heap.size gs (PM.stE s nn z) w4 x W, fun x _ => x = .int .i64 (PM.stE s nn z).2] (by kernel_rfl) (by kernel_rfl) (by kernel_rfl) (by kernel_rfl) (by kernel_rfl) (by kernel_rfl) (by kernel_rfl) (by kernel_rfl) (by kernel_rfl) ?_ ?_ ?_ ?_ ?_ ?_
          · simp only [List.zip_cons_cons, List.zip_nil_right, List.forall_mem_cons]
            refine ⟨?_, ?_, ?_, ?_, ?_, ?_, ?_, by simp⟩
            all_goals (intro hk v W W' h hb; first | exact Bool.noConfusion hk | exact h)
          · simp only [List.forall_mem_cons]
            refine ⟨?_, ?_, ?_, ?_, ?_, ?_, ?_, by simp⟩
            all_goals (intro v W W' h hb; first | exact h | exact PM.SMs.keep hb h | exact PM.SFn.keep hb h | exact PM.SRt.keep hb hBgs.out h)
          · exact fun W W' h hb => ⟨(h.1.keep hb (Nat.le_trans hBgs.out (Nat.le_of_lt h.1.lt))).here, PM.enO_lasts _ _ _ _ hb h.2.1, h.2.2.keep hb⟩
          · exact ⟨hSI.out, hzo.out, hbx.out⟩
          · refine ⟨?_, ?_, ?_, ?_, ?_, ?_, ?_, trivial⟩
            all_goals
              intro a W hB hF hd hp
              have k4 := hF 4 rfl
              have k8 := hF 8 rfl
              clear hF
              simp [PM.depsK, PM.spec, PM.sl] at hd hp k4 k8
              simp only [PM.wantL, PM.spec, PM.Spv]
              try simp only [PM.sl]
              go_simp
            all_goals try exact Below.refl _ _
            · have hbk := hp.2.2
              have r0 : W.cell? ⟨gx, 0, none⟩ = some (.int .i64 2) := PM.BK.cell hbk 0
              have r1 : W.cell? ⟨gx, 1, none⟩ = some (.int .u64 (nn : Int)) := PM.BK.cell hbk 1
              have r2 : W.cell? ⟨gx, 2, none⟩ = some (.int .i64 z.kind) := PM.BK.cell hbk 2
              have r3 : W.cell? ⟨gx, 3, none⟩ = some (.int .i64 z.id.br) := PM.BK.cell hbk 3
              have r4 : W.cell? ⟨gx, 4, none⟩ = some (.int .u64 (z.id.life : Int)) := PM.BK.cell hbk 4
              have r5 : W.cell? ⟨gx, 5, none⟩ = some (.int .u64 (z.id.ser : Int)) := PM.BK.cell hbk 5
              have r6 : W.cell? ⟨gx, 6, none⟩ = some (.int .i64 z.client) := PM.BK.cell hbk 6
              have r7 : W.cell? ⟨gx, 7, none⟩ = some (.int .u64 (z.sub : Int)) := PM.BK.cell hbk 7
              have r8 : W.cell? ⟨gx, 8, none⟩ = some (.slice fb zF fd) := PM.BK.cell hbk 8
              have r9 : W.cell? ⟨gx, 9, none⟩ = some (.slice eb zE ed) := PM.BK.cell hbk 9
              have r10 : W.cell? ⟨gx, 10, none⟩ = some (.int .i64 i.br) := PM.BK.cell hbk 10
              have r11 : W.cell? ⟨gx, 11, none⟩ = some (.int .u64 (i.life : Int)) := PM.BK.cell hbk 11
              have r12 : W.cell? ⟨gx, 12, none⟩ = some (.int .u64 (i.ser : Int)) := PM.BK.cell hbk 12
              go_simp
              first | done | exact Below.refl _ _ | exact ⟨Below.refl _ _, _, rfl, rfl⟩ | exact ⟨Below.refl _ _, rfl⟩
            · refine (steps_any 2 nn z fb zF fd eb zE ed i gs W).mono ?_
              rintro e w' ⟨v, rfl, hs2, hb⟩
              exact ⟨hb, _, rfl, hs2⟩
            · have hbk := hp.2.2
              have r0 : W.cell? ⟨gx, 0, none⟩ = some (.int .i64 2) := PM.BK.cell hbk 0
              go_simp
              first | done | exact Below.refl _ _ | exact ⟨Below.refl _ _, _, rfl, rfl⟩ | exact ⟨Below.refl _ _, rfl⟩
            · obtain ⟨⟨gm, gr2, gp, he, hIM, j1, j2⟩, e25⟩ := hd
              have kl := PM.run_lookup_int (P := Try.prog) (T := 60) Try.underlying60 Try.underlying3 hIM 2 (zeroFnF W)
              simp only [he, kl]
              go_simp
              exact ⟨Below.refl _ _, _, rfl, gr2, gp, rfl, j1, j2⟩
            · obtain ⟨gr2, gp, he, j1, j2⟩ := hd
              have he2 : _ = (.func (.func 41) #[] #[.pointer (some ⟨gr2, 0, none⟩), .pointer (some ⟨gp, 0, none⟩)] : Value) := he
              have hBw := hB.2 hsz4.out
              have hcl := stE_any 2 nn z fb zF fd eb zE ed i w1.heap.size gs gr2 gp s W W hp.1 hBgs j1 j2 hp.2.1 hlen
              simp only [he2]
              go_simp
              refine hcl.mono ?_
              rintro e w' ⟨rfl, hs2⟩
              exact ⟨⟨PM.SI.size hs2 hp.1, fun _ => hs2.below⟩, _, rfl, rfl, hs2.from hBw⟩
            · first | exact hd.1 | exact ⟨Below.refl _ _, by rw [hd.1]⟩ | (rw [hd.1]; exact ⟨Below.refl _ _, rfl⟩) | (simp only [hd.1]; exact Below.refl _ _) | (simp [hd.1]; exact Below.refl _ _) | exact ⟨Below.refl _ _, _, rfl, hd.1⟩ | (simp [hd.1]; done)
          · intro G W hB hF hS
            simp only [PM.allK, PM.spec] at hS
            simp at hS
            have u0 := hF 0 rfl
            have u1 := hF 1 rfl
            have u2 := hF 2 rfl
            have u3 := hF 3 rfl
            have u4 := hF 4 rfl
            have u6 := hF 6 rfl
            have u9 := hF 9 rfl
            have u10 := hF 10 rfl
            have u31 := hF 31 rfl
            have u32 := hF 32 rfl
            have u33 := hF 33 rfl
            have u34 := hF 34 rfl
            have u35 := hF 35 rfl
            have u11 := hF 11 rfl
            simp [PM.sl] at u0 u1 u2 u3 u4 u6 u9 u10 u31 u32 u33 u34 u35 u11
            obtain ⟨hs1, hs2⟩ := hS
            rw [show ((List.range (Array.size _)).map G).toArray = #[G 0, G 1, G 2, G 3, G 4, G 5, G 6, G 7, G 8, G 9, G 10, G 11, G 12, G 13, G 14, G 15, G 16, G 17, G 18, G 19, G 20, G 21, G 22, G 23, G 24, G 25, G 26, G 27, G 28, G 29, G 30, G 31, G 32, G 33, G 34, G 35] from rfl]
            rw [u0, u1, u2, u3, u4, u6, u9, u10, u31, u32, u33, u34, u35, u11, hs2]
            clear u0 u1 u2 u3 u4 u6 u9 u10 u31 u32 u33 u34 u35 u11 hF hs2
            have hsi := hs1.2
            have hcode : (PM.stE s nn z).2 = 0 ∨ (PM.stE s nn z).2 = 160 := by
              have := PM.stK_code s 2 nn z i
              simp [PM.stK] at this
              rcases this with h | h
              · exact .inl h
              · exact .inr (by rw [h])
            have hfn2 : PM.FsN (k + 1) (PM.stE s nn z).1 := by
              have := hfn.out.stK 2 nn z i
              simpa [PM.stK] using this
            have hnx := hres.out
            obtain ⟨s2, hs2⟩ : ∃ q, q = (PM.stE s nn z) := ⟨_, rfl⟩
            rw [← hs2] at hsi hnx hcode hfn2 ⊢
            clear hs1 hB hs2 hSI hzo hbx hres
            obtain ⟨t, c⟩ := s2
            simp only at hsi hcode hnx hfn2 ⊢
            rcases hcode with rfl | rfl
            · rw [if_pos rfl] at hnx
              have hnew : Hid (PM.AI w1.heap.size gs l (k + 1) w1 W) := PM.hid ⟨t, hsi.from hb4.out, hfn2, hnx⟩
              clear hsi hfn2 hnx
              go_wp2_with fail
              exact ⟨⟨rfl, k + 1, by go_num, by omega, hnew⟩, by simp only [intOf]; omega⟩
            · rw [if_neg (by decide)] at hnx
              have hq := PM.hid hnx
              have hbw := hb4.out.trans hsi.below
              have hbw2 := PM.chain' hb01.out hbw hgB.out.2
              have k2 := hk2.out.trans' hbw hg2lt.out
              clear hsi hfn2 hnx hbw
              have z0 : W.cell? ⟨g2, 0, none⟩ = some (.int .u64 0) := k2.cell 0
              have y0 : W.frozen? ⟨g2, 0, none⟩ = false := k2.free 0
              have z1 : W.cell? ⟨g2, 1, none⟩ = some (.slice none 0 0) := k2.cell 1
              have y1 : W.frozen? ⟨g2, 1, none⟩ = false := k2.free 1
              have z2 : W.cell? ⟨g2, 2, none⟩ = some (.slice none 0 0) := k2.cell 2
              have y2 : W.frozen? ⟨g2, 2, none⟩ = false := k2.free 2
              have z3 : W.cell? ⟨g2, 3, none⟩ = some (.slice none 0 0) := k2.cell 3
              have y3 : W.frozen? ⟨g2, 3, none⟩ = false := k2.free 3
              have hx : PM.Bx g2 W ((((W.setCell ⟨g2, 0, none⟩ (.int .u64 0)).setCell ⟨g2, 1, none⟩ (.slice none 0 0)).setCell ⟨g2, 2, none⟩ (.slice none 0 0)).setCell ⟨g2, 3, none⟩ (.slice none 0 0)) := (((PM.Bx.set g2 0 _ _).trans (PM.Bx.set g2 1 _ _)).trans (PM.Bx.set g2 2 _ _)).trans (PM.Bx.set g2 3 _ _)
              have hrs : PM.RS 28 g2 W _ := ⟨hx, fun T hT => PM.KT.ofx hx k2 hT⟩
              have ZF := (((((k2.set 0 (.int .u64 0)).set 1 (.slice none 0 0)).set 2 (.slice none 0 0)).set 3 (.slice none 0 0))).seeO (cs' := #[.int .u64 0, .slice none 0 0, .slice none 0 0, .slice none 0 0]) (by simp)
              have hend := PM.hid (hx.below hbw2 hgB.out.1 hbw2.size)
              clear hx hrs k2 
              replace ZF := PM.hid ZF
              go_wp2_with fail
              generalize ((((W.setCell ⟨g2, 0, none⟩ (.int .u64 0)).setCell ⟨g2, 1, none⟩ (.slice none 0 0)).setCell ⟨g2, 2, none⟩ (.slice none 0 0)).setCell ⟨g2, 3, none⟩ (.slice none 0 0)) = wf at *
              have q0 : wf.cell? ⟨g2, 0, none⟩ = some (.int .u64 0) := ZF.out.cell 0
              have q1 : wf.cell? ⟨g2, 1, none⟩ = some (.slice none 0 0) := ZF.out.cell 1
              have q2 : wf.cell? ⟨g2, 2, none⟩ = some (.slice none 0 0) := ZF.out.cell 2
              have q3 : wf.cell? ⟨g2, 3, none⟩ = some (.slice none 0 0) := ZF.out.cell 3
              try rw [Exit.noGoto_ret]
              refine bodyPost_ret (v := .tuple #[.agg #[.int .u64 0, .slice none 0 0, .slice none 0 0, .slice none 0 0], .int .i64 160]) (by simp [results, Try.results10, go_sem, q0, q1, q2, q3]) rfl ?_
              rw [hq.out]
              exact ⟨_, _, _, _, _, _, _, _, _, rfl, PM.EnW.nilrow, PM.EnW.nilrow, PM.OM.nilrow _, hend.out⟩
        · replace hres : Hid (PM.allP l = if (PM.stP s z).2 = 0 then PM.allL (l.drop (k + 1)) (PM.stP s z).1 else (PM.Fs0, (PM.stP s z).2)) := hres
          go_wp2_with fail
          refine PM.wp_region_stK (PM.RW w1.heap.size) (fun W W' => Below W.heap.size W W') (fun W => PM.SI w1.heap.size gs s W W ∧ PM.enO 114 112 84 w1.heap.size W [.int .i64 z.kind, .int .i64 z.id.br, .int .u64 (z.id.life : Int), .int .u64 (z.id.ser : Int), .int .i64 z.client, .int .u64 (z.sub : Int), .slice fb zF fd, .slice eb zE ed] z ∧ PM.BK W gx #[.int .i64 3, .int .u64 (nn : Int), .int .i64 z.kind, .int .i64 z.id.br, .int .u64 (z.id.life : Int), .int .u64 (z.id.ser : Int), .int .i64 z.client, .int .u64 (z.sub : Int), .slice fb zF fd, .slice eb zE ed, .int .i64 i.br, .int .u64 (i.life : Int), .int .u64 (i.ser : Int)] 46) (fun _ _ h => h) (fun h => PM.RW.new h) (fun h k => h.trans k) [some 22, some 23, some 24, some 25, some 26, some 27, some 5] [some 22, some 23, some 24, some 25, some 26, some 27, some 5] [[], [0], [], [2], [0, 1, 2, 3], [0, 1, 2, 3, 4], [0, 1, 2, 3, 4, 5]] [false, true, false, false, true, true, false] [5] [([], true), ([0], false), ([], false), ([2], true), ([1, 3], false), ([4], true), ([5], false)] [5, 6] [fun x _ => x = .agg #[.int .i64 3, .int .u64 (nn : Int), .int .i64 z.kind, .int .i64 z.id.br, .int .u64 (z.id.life : Int), .int .u64 (z.id.ser : Int), .int .i64 z.client, .int .u64 (z.sub : Int), .slice fb zF fd, .slice eb zE ed, .int .i64 i.br, .int .u64 (i.life : Int), .int .u64 (i.ser : Int)], fun x W => PM.SMs gs #[.int .i64 3, .int .u64 (nn : Int), .int .i64 z.kind, .int .i64 z.id.br, .int .u64 (z.id.life : Int), .int .u64 (z.id.ser : Int), .int .i64 z.client, .int .u64 (z.sub : Int), .slice fb zF fd, .slice eb zE ed, .int .i64 i.br, .int .u64 (i.life : Int), .int .u64 (i.ser : Int)] x W, fun x _ => x = .pointer (some ⟨gx, 0, none⟩), fun x _ => x = .int .i64 3, fun x W => PM.SFn gs 3 #[.int .i64 3, .int .u64 (nn : Int), .int .i64 z.kind, .int .i64 z.id.br, .int .u64 (z.id.life : Int), .int .u64 (z.id.ser : Int), .int .i64 z.client, .int .u64 (z.sub : Int), .slice fb zF fd, .slice eb zE ed, .int .i64 i.br, .int .u64 (i.life : Int), .int .u64 (i.ser : Int)] x W, fun x W => PM.SRt w1.heap.size gs (PM.stP s z) w4 x W, fun x _ => x = .int .i64 (PM.stP s z).2] (by kernel_rfl) (by kernel_rfl) (by kernel_rfl) (by kernel_rfl) (by kernel_rfl) (by kernel_rfl) (by kernel_rfl) (by kernel_rfl) (by kernel_rfl) ?_ ?_ ?_ ?_ ?_ ?_
          · simp only [List.zip_cons_cons, List.zip_nil_right, List.forall_mem_cons]
            refine ⟨?_, ?_, ?_, ?_, ?_, ?_, ?_, by simp⟩
            all_goals (intro hk v W W' h hb; first | exact Bool.noConfusion hk | exact h)
          · simp only [List.forall_mem_cons]
            refine ⟨?_, ?_, ?_, ?_, ?_, ?_, ?_, by simp⟩
            all_goals (intro v W W' h hb; first | exact h | exact PM.SMs.keep hb h | exact PM.SFn.keep hb h | exact PM.SRt.keep hb hBgs.out h)
          · exact fun W W' h hb => ⟨(h.1.keep hb (Nat.le_trans hBgs.out (Nat.le_of_lt h.1.lt))).here, PM.enO_lasts _ _ _ _ hb h.2.1, h.2.2.keep hb⟩
          · exact ⟨hSI.out, hzo.out, hbx.out⟩
          · refine ⟨?_, ?_, ?_, ?_, ?_, ?_, ?_, trivial⟩
            all_goals
              intro a W hB hF hd hp
              have k4 := hF 4 rfl
              have k8 := hF 8 rfl
              clear hF
              simp [PM.depsK, PM.spec, PM.sl] at hd hp k4 k8
              simp only [PM.wantL, PM.spec, PM.Spv]
              try simp only [PM.sl]
              go_simp
            all_goals try exact Below.refl _ _
            · have hbk := hp.2.2
              have r0 : W.cell? ⟨gx, 0, none⟩ = some (.int .i64 3) := PM.BK.cell hbk 0
              have r1 : W.cell? ⟨gx, 1, none⟩ = some (.int .u64 (nn : Int)) := PM.BK.cell hbk 1
              have r2 : W.cell? ⟨gx, 2, none⟩ = some (.int .i64 z.kind) := PM.BK.cell hbk 2
              have r3 : W.cell? ⟨gx, 3, none⟩ = some (.int .i64 z.id.br) := PM.BK.cell hbk 3
              have r4 : W.cell? ⟨gx, 4, none⟩ = some (.int .u64 (z.id.life : Int)) := PM.BK.cell hbk 4
              have r5 : W.cell? ⟨gx, 5, none⟩ = some (.int .u64 (z.id.ser : Int)) := PM.BK.cell hbk 5
              have r6 : W.cell? ⟨gx, 6, none⟩ = some (.int .i64 z.client) := PM.BK.cell hbk 6
              have r7 : W.cell? ⟨gx, 7, none⟩ = some (.int .u64 (z.sub : Int)) := PM.BK.cell hbk 7
              have r8 : W.cell? ⟨gx, 8, none⟩ = some (.slice fb zF fd) := PM.BK.cell hbk 8
              have r9 : W.cell? ⟨gx, 9, none⟩ = some (.slice eb zE ed) := PM.BK.cell hbk 9
              have r10 : W.cell? ⟨gx, 10, none⟩ = some (.int .i64 i.br) := PM.BK.cell hbk 10
              have r11 : W.cell? ⟨gx, 11, none⟩ = some (.int .u64 (i.life : Int)) := PM.BK.cell hbk 11
              have r12 : W.cell? ⟨gx, 12, none⟩ = some (.int .u64 (i.ser : Int)) := PM.BK.cell hbk 12
              go_simp
              first | done | exact Below.refl _ _ | exact ⟨Below.refl _ _, _, rfl, rfl⟩ | exact ⟨Below.refl _ _, rfl⟩
            · refine (steps_any 3 nn z fb zF fd eb zE ed i gs W).mono ?_
              rintro e w' ⟨v, rfl, hs2, hb⟩
              exact ⟨hb, _, rfl, hs2⟩
            · have hbk := hp.2.2
              have r0 : W.cell? ⟨gx, 0, none⟩ = some (.int .i64 3) := PM.BK.cell hbk 0
              go_simp
              first | done | exact Below.refl _ _ | exact ⟨Below.refl _ _, _, rfl, rfl⟩ | exact ⟨Below.refl _ _, rfl⟩
            · obtain ⟨⟨gm, gr2, gp, he, hIM, j1, j2⟩, e25⟩ := hd
              have kl := PM.run_lookup_int (P := Try.prog) (T := 60) Try.underlying60 Try.underlying3 hIM 3 (zeroFnF W)
              simp only [he, kl]
              go_simp
              exact ⟨Below.refl _ _, _, rfl, gr2, gp, rfl, j1, j2⟩
            · obtain ⟨gr2, gp, he, j1, j2⟩ := hd
              have he2 : _ = (.func (.func 43) #[] #[.pointer (some ⟨gp, 0, none⟩), .pointer (some ⟨gr2, 0, none⟩)] : Value) := he
              have hBw := hB.2 hsz4.out
              have hcl := stP_any 3 nn z fb zF fd eb zE ed i w1.heap.size gs gr2 gp s W W hp.1 hBgs j1 j2 hp.2.1 hlen
              simp only [he2]
              go_simp
              refine hcl.mono ?_
              rintro e w' ⟨rfl, hs2⟩
              exact ⟨⟨PM.SI.size hs2 hp.1, fun _ => hs2.below⟩, _, rfl, rfl, hs2.from hBw⟩
            · first | exact hd.1 | exact ⟨Below.refl _ _, by rw [hd.1]⟩ | (rw [hd.1]; exact ⟨Below.refl _ _, rfl⟩) | (simp only [hd.1]; exact Below.refl _ _) | (simp [hd.1]; exact Below.refl _ _) | exact ⟨Below.refl _ _, _, rfl, hd.1⟩ | (simp [hd.1]; done)
          · intro G W hB hF hS
            simp only [PM.allK, PM.spec] at hS
            simp at hS
            have u0 := hF 0 rfl
            have u1 := hF 1 rfl
            have u2 := hF 2 rfl
            have u3 := hF 3 rfl
            have u4 := hF 4 rfl
            have u6 := hF 6 rfl
            have u9 := hF 9 rfl
            have u10 := hF 10 rfl
            have u31 := hF 31 rfl
            have u32 := hF 32 rfl
            have u33 := hF 33 rfl
            have u34 := hF 34 rfl
            have u35 := hF 35 rfl
            have u11 := hF 11 rfl
            simp [PM.sl] at u0 u1 u2 u3 u4 u6 u9 u10 u31 u32 u33 u34 u35 u11
            obtain ⟨hs1, hs2⟩ := hS
            rw [show ((List.range (Array.size _)).map G).toArray = #[G 0, G 1, G 2, G 3, G 4, G 5, G 6, G 7, G 8, G 9, G 10, G 11, G 12, G 13, G 14, G 15, G 16, G 17, G 18, G 19, G 20, G 21, G 22, G 23, G 24, G 25, G 26, G 27, G 28, G 29, G 30, G 31, G 32, G 33, G 34, G 35] from rfl]
            rw [u0, u1, u2, u3, u4, u6, u9, u10, u31, u32, u33, u34, u35, u11, hs2]
            clear u0 u1 u2 u3 u4 u6 u9 u10 u31 u32 u33 u34 u35 u11 hF hs2
            have hsi := hs1.2
            have hcode : (PM.stP s z).2 = 0 ∨ (PM.stP s z).2 = 160 := by
              have := PM.stK_code s 3 nn z i
              simp [PM.stK] at this
              rcases this with h | h
              · exact .inl h
              · exact .inr (by rw [h])
            have hfn2 : PM.FsN (k + 1) (PM.stP s z).1 := by
              have := hfn.out.stK 3 nn z i
              simpa [PM.stK] using this
            have hnx := hres.out
            obtain ⟨s2, hs2⟩ : ∃ q, q = (PM.stP s z) := ⟨_, rfl⟩
            rw [← hs2] at hsi hnx hcode hfn2 ⊢
            clear hs1 hB hs2 hSI hzo hbx hres
            obtain ⟨t, c⟩ := s2
            simp only at hsi hcode hnx hfn2 ⊢
            rcases hcode with rfl | rfl
            · rw [if_pos rfl] at hnx
              have hnew : Hid (PM.AI w1.heap.size gs l (k + 1) w1 W) := PM.hid ⟨t, hsi.from hb4.out, hfn2, hnx⟩
              clear hsi hfn2 hnx
              go_wp2_with fail
              exact ⟨⟨rfl, k + 1, by go_num, by omega, hnew⟩, by simp only [intOf]; omega⟩
            · rw [if_neg (by decide)] at hnx
              have hq := PM.hid hnx
              have hbw := hb4.out.trans hsi.below
              have hbw2 := PM.chain' hb01.out hbw hgB.out.2
              have k2 := hk2.out.trans' hbw hg2lt.out
              clear hsi hfn2 hnx hbw
              have z0 : W.cell? ⟨g2, 0, none⟩ = some (.int .u64 0) := k2.cell 0
              have y0 : W.frozen? ⟨g2, 0, none⟩ = false := k2.free 0
              have z1 : W.cell? ⟨g2, 1, none⟩ = some (.slice none 0 0) := k2.cell 1
              have y1 : W.frozen? ⟨g2, 1, none⟩ = false := k2.free 1
              have z2 : W.cell? ⟨g2, 2, none⟩ = some (.slice none 0 0) := k2.cell 2
              have y2 : W.frozen? ⟨g2, 2, none⟩ = false := k2.free 2
              have z3 : W.cell? ⟨g2, 3, none⟩ = some (.slice none 0 0) := k2.cell 3
              have y3 : W.frozen? ⟨g2, 3, none⟩ = false := k2.free 3
              have hx : PM.Bx g2 W ((((W.setCell ⟨g2, 0, none⟩ (.int .u64 0)).setCell ⟨g2, 1, none⟩ (.slice none 0 0)).setCell ⟨g2, 2, none⟩ (.slice none 0 0)).setCell ⟨g2, 3, none⟩ (.slice none 0 0)) := (((PM.Bx.set g2 0 _ _).trans (PM.Bx.set g2 1 _ _)).trans (PM.Bx.set g2 2 _ _)).trans (PM.Bx.set g2 3 _ _)
              have hrs : PM.RS 28 g2 W _ := ⟨hx, fun T hT => PM.KT.ofx hx k2 hT⟩
              have ZF := (((((k2.set 0 (.int .u64 0)).set 1 (.slice none 0 0)).set 2 (.slice none 0 0)).set 3 (.slice none 0 0))).seeO (cs' := #[.int .u64 0, .slice none 0 0, .slice none 0 0, .slice none 0 0]) (by simp)
              have hend := PM.hid (hx.below hbw2 hgB.out.1 hbw2.size)
              clear hx hrs k2 
              replace ZF := PM.hid ZF
              go_wp2_with fail
              generalize ((((W.setCell ⟨g2, 0, none⟩ (.int .u64 0)).setCell ⟨g2, 1, none⟩ (.slice none 0 0)).setCell ⟨g2, 2, none⟩ (.slice none 0 0)).setCell ⟨g2, 3, none⟩ (.slice none 0 0)) = wf at *
              have q0 : wf.cell? ⟨g2, 0, none⟩ = some (.int .u64 0) := ZF.out.cell 0
              have q1 : wf.cell? ⟨g2, 1, none⟩ = some (.slice none 0 0) := ZF.out.cell 1
              have q2 : wf.cell? ⟨g2, 2, none⟩ = some (.slice none 0 0) := ZF.out.cell 2
              have q3 : wf.cell? ⟨g2, 3, none⟩ = some (.slice none 0 0) := ZF.out.cell 3
              try rw [Exit.noGoto_ret]
              refine bodyPost_ret (v := .tuple #[.agg #[.int .u64 0, .slice none 0 0, .slice none 0 0, .slice none 0 0], .int .i64 160]) (by simp [results, Try.results10, go_sem, q0, q1, q2, q3]) rfl ?_
              rw [hq.out]
              exact ⟨_, _, _, _, _, _, _, _, _, rfl, PM.EnW.nilrow, PM.EnW.nilrow, PM.OM.nilrow _, hend.out⟩
        · replace hres : Hid (PM.allP l = if (PM.stA s i).2 = 0 then PM.allL (l.drop (k + 1)) (PM.stA s i).1 else (PM.Fs0, (PM.stA s i).2)) := hres
          go_wp2_with fail
          refine PM.wp_region_stK (PM.RW w1.heap.size) (fun W W' => Below W.heap.size W W') (fun W => PM.SI w1.heap.size gs s W W ∧ PM.enO 114 112 84 w1.heap.size W [.int .i64 z.kind, .int .i64 z.id.br, .int .u64 (z.id.life : Int), .int .u64 (z.id.ser : Int), .int .i64 z.client, .int .u64 (z.sub : Int), .slice fb zF fd, .slice eb zE ed] z ∧ PM.BK W gx #[.int .i64 4, .int .u64 (nn : Int), .int .i64 z.kind, .int .i64 z.id.br, .int .u64 (z.id.life : Int), .int .u64 (z.id.ser : Int), .int .i64 z.client, .int .u64 (z.sub : Int), .slice fb zF fd, .slice eb zE ed, .int .i64 i.br, .int .u64 (i.life : Int), .int .u64 (i.ser : Int)] 46) (fun _ _ h => h) (fun h => PM.RW.new h) (fun h k => h.trans k) [some 22, some 23, some 24, some 25, some 26, some 27, some 5] [some 22, some 23, some 24, some 25, some 26, some 27, some 5] [[], [0], [], [2], [0, 1, 2, 3], [0, 1, 2, 3, 4], [0, 1, 2, 3, 4, 5]] [false, true, false, false, true, true, false] [5] [([], true), ([0], false), ([], false), ([2], true), ([1, 3], false), ([4], true), ([5], false)] [5, 6] [fun x _ => x = .agg #[.int .i64 4, .int .u64 (nn : Int), .int .i64 z.kind, .int .i64 z.id.br, .int .u64 (z.id.life : Int), .int .u64 (z.id.ser : Int), .int .i64 z.client, .int .u64 (z.sub : Int), .slice fb zF fd, .slice eb zE ed, .int .i64 i.br, .int .u64 (i.life : Int), .int .u64 (i.ser : Int)], fun x W => PM.SMs gs #[.int .i64 4, .int .u64 (nn : Int), .int .i64 z.kind, .int .i64 z.id.br, .int .u64 (z.id.life : Int), .int .u64 (z.id.ser : Int), .int .i64 z.client, .int .u64 (z.sub : Int), .slice fb zF fd, .slice eb zE ed, .int .i64 i.br, .int .u64 (i.life : Int), .int .u64 (i.ser : Int)] x W, fun x _ => x = .pointer (some ⟨gx, 0, none⟩), fun x _ => x = .int .i64 4, fun x W => PM.SFn gs 4 #[.int .i64 4, .int .u64 (nn : Int), .int .i64 z.kind, .int .i64 z.id.br, .int .u64 (z.id.life : Int), .int .u64 (z.id.ser : Int), .int .i64 z.client, .int .u64 (z.sub : Int), .slice fb zF fd, .slice eb zE ed, .int .i64 i.br, .int .u64 (i.life : Int), .int .u64 (i.ser : Int)] x W, fun x W => PM.SRt w1.heap.size gs (PM.stA s i) w4 x W, fun x _ => x = .int .i64 (PM.stA s i).2] (by kernel_rfl) (by kernel_rfl) (by kernel_rfl) (by kernel_rfl) (by kernel_rfl) (by kernel_rfl) (by kernel_rfl) (by kernel_rfl) (by kernel_rfl) ?_ ?_ ?_ ?_ ?_ ?_
          · simp only [List.zip_cons_cons, List.zip_nil_right, List.forall_mem_cons]
            refine ⟨?_, ?_, ?_, ?_, ?_, ?_, ?_, by simp⟩
            all_goals (intro hk v W W' h hb; first | exact Bool.noConfusion hk | exact h)
          · simp only [List.forall_mem_cons]
            refine ⟨?_, ?_, ?_, ?_, ?_, ?_, ?_, by simp⟩
            all_goals (intro v W W' h hb; first | exact h | exact PM.SMs.keep hb h | exact PM.SFn.keep hb h | exact PM.SRt.keep hb hBgs.out h)
          · exact fun W W' h hb => ⟨(h.1.keep hb (Nat.le_trans hBgs.out (Nat.le_of_lt h.1.lt))).here, PM.enO_lasts _ _ _ _ hb h.2.1, h.2.2.keep hb⟩
          · exact ⟨hSI.out, hzo.out, hbx.out⟩
          · refine ⟨?_, ?_, ?_, ?_, ?_, ?_, ?_, trivial⟩
            all_goals
              intro a W hB hF hd hp
              have k4 := hF 4 rfl
              have k8 := hF 8 rfl
              clear hF
              simp [PM.depsK, PM.spec, PM.sl] at hd hp k4 k8
              simp only [PM.wantL, PM.spec, PM.Spv]
              try simp only [PM.sl]
              go_simp
            all_goals try exact Below.refl _ _
            · have hbk := hp.2.2
              have r0 : W.cell? ⟨gx, 0, none⟩ = some (.int .i64 4) := PM.BK.cell hbk 0
              have r1 : W.cell? ⟨gx, 1, none⟩ = some (.int .u64 (nn : Int)) := PM.BK.cell hbk 1
              have r2 : W.cell? ⟨gx, 2, none⟩ = some (.int .i64 z.kind) := PM.BK.cell hbk 2
              have r3 : W.cell? ⟨gx, 3, none⟩ = some (.int .i64 z.id.br) := PM.BK.cell hbk 3
              have r4 : W.cell? ⟨gx, 4, none⟩ = some (.int .u64 (z.id.life : Int)) := PM.BK.cell hbk 4
              have r5 : W.cell? ⟨gx, 5, none⟩ = some (.int .u64 (z.id.ser : Int)) := PM.BK.cell hbk 5
              have r6 : W.cell? ⟨gx, 6, none⟩ = some (.int .i64 z.client) := PM.BK.cell hbk 6
              have r7 : W.cell? ⟨gx, 7, none⟩ = some (.int .u64 (z.sub : Int)) := PM.BK.cell hbk 7
              have r8 : W.cell? ⟨gx, 8, none⟩ = some (.slice fb zF fd) := PM.BK.cell hbk 8
              have r9 : W.cell? ⟨gx, 9, none⟩ = some (.slice eb zE ed) := PM.BK.cell hbk 9
              have r10 : W.cell? ⟨gx, 10, none⟩ = some (.int .i64 i.br) := PM.BK.cell hbk 10
              have r11 : W.cell? ⟨gx, 11, none⟩ = some (.int .u64 (i.life : Int)) := PM.BK.cell hbk 11
              have r12 : W.cell? ⟨gx, 12, none⟩ = some (.int .u64 (i.ser : Int)) := PM.BK.cell hbk 12
              go_simp
              first | done | exact Below.refl _ _ | exact ⟨Below.refl _ _, _, rfl, rfl⟩ | exact ⟨Below.refl _ _, rfl⟩
            · refine (steps_any 4 nn z fb zF fd eb zE ed i gs W).mono ?_
              rintro e w' ⟨v, rfl, hs2, hb⟩
              exact ⟨hb, _, rfl, hs2⟩
            · have hbk := hp.2.2
              have r0 : W.cell? ⟨gx, 0, none⟩ = some (.int .i64 4) := PM.BK.cell hbk 0
              go_simp
              first | done | exact Below.refl _ _ | exact ⟨Below.refl _ _, _, rfl, rfl⟩ | exact ⟨Below.refl _ _, rfl⟩
            · obtain ⟨⟨gm, gr2, gp, he, hIM, j1, j2⟩, e25⟩ := hd
              have kl := PM.run_lookup_int (P := Try.prog) (T := 60) Try.underlying60 Try.underlying3 hIM 4 (zeroFnF W)
              simp only [he, kl]
              go_simp
              exact ⟨Below.refl _ _, _, rfl, gr2, gp, rfl, j1, j2⟩
            · obtain ⟨gr2, gp, he, j1, j2⟩ := hd
              have he2 : _ = (.func (.func 44) #[] #[.pointer (some ⟨gp, 0, none⟩), .pointer (some ⟨gr2, 0, none⟩)] : Value) := he
              have hBw := hB.2 hsz4.out
              have hcl := stA_any 4 nn z fb zF fd eb zE ed i w1.heap.size gs gr2 gp s W W hp.1 hBgs j1 j2 hp.2.1 hlen
              simp only [he2]
              go_simp
              refine hcl.mono ?_
              rintro e w' ⟨rfl, hs2⟩
              exact ⟨⟨PM.SI.size hs2 hp.1, fun _ => hs2.below⟩, _, rfl, rfl, hs2.from hBw⟩
            · first | exact hd.1 | exact ⟨Below.refl _ _, by rw [hd.1]⟩ | (rw [hd.1]; exact ⟨Below.refl _ _, rfl⟩) | (simp only [hd.1]; exact Below.refl _ _) | (simp [hd.1]; exact Below.refl _ _) | exact ⟨Below.refl _ _, _, rfl, hd.1⟩ | (simp [hd.1]; done)
          · intro G W hB hF hS
            simp only [PM.allK, PM.spec] at hS
            simp at hS
            have u0 := hF 0 rfl
            have u1 := hF 1 rfl
            have u2 := hF 2 rfl
            have u3 := hF 3 rfl
            have u4 := hF 4 rfl
            have u6 := hF 6 rfl
            have u9 := hF 9 rfl
            have u10 := hF 10 rfl
            have u31 := hF 31 rfl
            have u32 := hF 32 rfl
            have u33 := hF 33 rfl
            have u34 := hF 34 rfl
            have u35 := hF 35 rfl
            have u11 := hF 11 rfl
            simp [PM.sl] at u0 u1 u2 u3 u4 u6 u9 u10 u31 u32 u33 u34 u35 u11
            obtain ⟨hs1, hs2⟩ := hS
            rw [show ((List.range (Array.size _)).map G).toArray = #[G 0, G 1, G 2, G 3, G 4, G 5, G 6, G 7, G 8, G 9, G 10, G 11, G 12, G 13, G 14, G 15, G 16, G 17, G 18, G 19, G 20, G 21, G 22, G 23, G 24, G 25, G 26, G 27, G 28, G 29, G 30, G 31, G 32, G 33, G 34, G 35] from rfl]
            rw [u0, u1, u2, u3, u4, u6, u9, u10, u31, u32, u33, u34, u35, u11, hs2]
            clear u0 u1 u2 u3 u4 u6 u9 u10 u31 u32 u33 u34 u35 u11 hF hs2
            have hsi := hs1.2
            have hcode : (PM.stA s i).2 = 0 ∨ (PM.stA s i).2 = 160 := by
              have := PM.stK_code s 4 nn z i
              simp [PM.stK] at this
              rcases this with h | h
              · exact .inl h
              · exact .inr (by rw [h])
            have hfn2 : PM.FsN (k + 1) (PM.stA s i).1 := by
              have := hfn.out.stK 4 nn z i
              simpa [PM.stK] using this
            have hnx := hres.out
            obtain ⟨s2, hs2⟩ : ∃ q, q = (PM.stA s i) := ⟨_, rfl⟩
            rw [← hs2] at hsi hnx hcode hfn2 ⊢
            clear hs1 hB hs2 hSI hzo hbx hres
            obtain ⟨t, c⟩ := s2
            simp only at hsi hcode hnx hfn2 ⊢
            rcases hcode with rfl | rfl
            · rw [if_pos rfl] at hnx
              have hnew : Hid (PM.AI w1.heap.size gs l (k + 1) w1 W) := PM.hid ⟨t, hsi.from hb4.out, hfn2, hnx⟩
              clear hsi hfn2 hnx
              go_wp2_with fail
              exact ⟨⟨rfl, k + 1, by go_num, by omega, hnew⟩, by simp only [intOf]; omega⟩
            · rw [if_neg (by decide)] at hnx
              have hq := PM.hid hnx
              have hbw := hb4.out.trans hsi.below
              have hbw2 := PM.chain' hb01.out hbw hgB.out.2
              have k2 := hk2.out.trans' hbw hg2lt.out
              clear hsi hfn2 hnx hbw
              have z0 : W.cell? ⟨g2, 0, none⟩ = some (.int .u64 0) := k2.cell 0
              have y0 : W.frozen? ⟨g2, 0, none⟩ = false := k2.free 0
              have z1 : W.cell? ⟨g2, 1, none⟩ = some (.slice none 0 0) := k2.cell 1
              have y1 : W.frozen? ⟨g2, 1, none⟩ = false := k2.free 1
              have z2 : W.cell? ⟨g2, 2, none⟩ = some (.slice none 0 0) := k2.cell 2
              have y2 : W.frozen? ⟨g2, 2, none⟩ = false := k2.free 2
              have z3 : W.cell? ⟨g2, 3, none⟩ = some (.slice none 0 0) := k2.cell 3
              have y3 : W.frozen? ⟨g2, 3, none⟩ = false := k2.free 3
              have hx : PM.Bx g2 W ((((W.setCell ⟨g2, 0, none⟩ (.int .u64 0)).setCell ⟨g2, 1, none⟩ (.slice none 0 0)).setCell ⟨g2, 2, none⟩ (.slice none 0 0)).setCell ⟨g2, 3, none⟩ (.slice none 0 0)) := (((PM.Bx.set g2 0 _ _).trans (PM.Bx.set g2 1 _ _)).trans (PM.Bx.set g2 2 _ _)).trans (PM.Bx.set g2 3 _ _)
              have hrs : PM.RS 28 g2 W _ := ⟨hx, fun T hT => PM.KT.ofx hx k2 hT⟩
              have ZF := (((((k2.set 0 (.int .u64 0)).set 1 (.slice none 0 0)).set 2 (.slice none 0 0)).set 3 (.slice none 0 0))).seeO (cs' := #[.int .u64 0, .slice none 0 0, .slice none 0 0, .slice none 0 0]) (by simp)
              have hend := PM.hid (hx.below hbw2 hgB.out.1 hbw2.size)
              clear hx hrs k2 
              replace ZF := PM.hid ZF
              go_wp2_with fail
              generalize ((((W.setCell ⟨g2, 0, none⟩ (.int .u64 0)).setCell ⟨g2, 1, none⟩ (.slice none 0 0)).setCell ⟨g2, 2, none⟩ (.slice none 0 0)).setCell ⟨g2, 3, none⟩ (.slice none 0 0)) = wf at *
              have q0 : wf.cell? ⟨g2, 0, none⟩ = some (.int .u64 0) := ZF.out.cell 0
              have q1 : wf.cell? ⟨g2, 1, none⟩ = some (.slice none 0 0) := ZF.out.cell 1
              have q2 : wf.cell? ⟨g2, 2, none⟩ = some (.slice none 0 0) := ZF.out.cell 2
              have q3 : wf.cell? ⟨g2, 3, none⟩ = some (.slice none 0 0) := ZF.out.cell 3
              try rw [Exit.noGoto_ret]
              refine bodyPost_ret (v := .tuple #[.agg #[.int .u64 0, .slice none 0 0, .slice none 0 0, .slice none 0 0], .int .i64 160]) (by simp [results, Try.results10, go_sem, q0, q1, q2, q3]) rfl ?_
              rw [hq.out]
              exact ⟨_, _, _, _, _, _, _, _, _, rfl, PM.EnW.nilrow, PM.EnW.nilrow, PM.OM.nilrow _, hend.out⟩
        · replace hres : Hid (PM.allP l = if (PM.stF s i).2 = 0 then PM.allL (l.drop (k + 1)) (PM.stF s i).1 else (PM.Fs0, (PM.stF s i).2)) := hres
          go_wp2_with fail
          refine PM.wp_region_stK (PM.RW w1.heap.size) (fun W W' => Below W.heap.size W W') (fun W => PM.SI w1.heap.size gs s W W ∧ PM.enO 114 112 84 w1.heap.size W [.int .i64 z.kind, .int .i64 z.id.br, .int .u64 (z.id.life : Int), .int .u64 (z.id.ser : Int), .int .i64 z.client, .int .u64 (z.sub : Int), .slice fb zF fd, .slice eb zE ed] z ∧ PM.BK W gx #[.int .i64 5, .int .u64 (nn : Int), .int .i64 z.kind, .int .i64 z.id.br, .int .u64 (z.id.life : Int), .int .u64 (z.id.ser : Int), .int .i64 z.client, .int .u64 (z.sub : Int), .slice fb zF fd, .slice eb zE ed, .int .i64 i.br, .int .u64 (i.life : Int), .int .u64 (i.ser : Int)] 46) (fun _ _ h => h) (fun h => PM.RW.new h) (fun h k => h.trans k) [some 22, some 23, some 24, some 25, some 26, some 27, some 5] [some 22, some 23, some 24, some 25, some 26, some 27, some 5] [[], [0], [], [2], [0, 1, 2, 3], [0, 1, 2, 3, 4], [0, 1, 2, 3, 4, 5]] [false, true, false, false, true, true, false] [5] [([], true), ([0], false), ([], false), ([2], true), ([1, 3], false), ([4], true), ([5], false)] [5, 6] [fun x _ => x = .agg #[.int .i64 5, .int .u64 (nn : Int), .int .i64 z.kind, .int .i64 z.id.br, .int .u64 (z.id.life : Int), .int .u64 (z.id.ser : Int), .int .i64 z.client, .int .u64 (z.sub : Int), .slice fb zF fd, .slice eb zE ed, .int .i64 i.br, .int .u64 (i.life : Int), .int .u64 (i.ser : Int)], fun x W => PM.SMs gs #[.int .i64 5, .int .u64 (nn : Int), .int .i64 z.kind, .int .i64 z.id.br, .int .u64 (z.id.life : Int), .int .u64 (z.id.ser : Int), .int .i64 z.client, .int .u64 (z.sub : Int), .slice fb zF fd, .slice eb zE ed, .int .i64 i.br, .int .u64 (i.life : Int), .int .u64 (i.ser : Int)] x W, fun x _ => x = .pointer (some ⟨gx, 0, none⟩), fun x _ => x = .int .i64 5, fun x W => PM.SFn gs 5 #[.int .i64 5, .int .u64 (nn : Int), .int .i64 z.kind, .int .i64 z.id.br, .int .u64 (z.id.life : Int), .int .u64 (z.id.ser : Int), .int .i64 z.client, .int .u64 (z.sub : Int), .slice fb zF fd, .slice eb zE ed, .int .i64 i.br, .int .u64 (i.life : Int), .int .u64 (i.ser : Int)] x W, fun x W => PM.SRt w1.heap.size gs (PM.stF s i) w4 x W, fun x _ => x = .int .i64 (PM.stF s i).2] (by kernel_rfl) (by kernel_rfl) (by kernel_rfl) (by kernel_rfl) (by kernel_rfl) (by kernel_rfl) (by kernel_rfl) (by kernel_rfl) (by kernel_rfl) ?_ ?_ ?_ ?_ ?_ ?_
          · simp only [List.zip_cons_cons, List.zip_nil_right, List.forall_mem_cons]
            refine ⟨?_, ?_, ?_, ?_, ?_, ?_, ?_, by simp⟩
            all_goals (intro hk v W W' h hb; first | exact Bool.noConfusion hk | exact h)
          · simp only [List.forall_mem_cons]
            refine ⟨?_, ?_, ?_, ?_, ?_, ?_, ?_, by simp⟩
            all_goals (intro v W W' h hb; first | exact h | exact PM.SMs.keep hb h | exact PM.SFn.keep hb h | exact PM.SRt.keep hb hBgs.out h)
          · exact fun W W' h hb => ⟨(h.1.keep hb (Nat.le_trans hBgs.out (Nat.le_of_lt h.1.lt))).here, PM.enO_lasts _ _ _ _ hb h.2.1, h.2.2.keep hb⟩
          · exact ⟨hSI.out, hzo.out, hbx.out⟩
          · refine ⟨?_, ?_, ?_, ?_, ?_, ?_, ?_, trivial⟩
            all_goals
              intro a W hB hF hd hp
              have k4 := hF 4 rfl
              have k8 := hF 8 rfl
              clear hF
              simp [PM.depsK, PM.spec, PM.sl] at hd hp k4 k8
              simp only [PM.wantL, PM.spec, PM.Spv]
              try simp only [PM.sl]
              go_simp
            all_goals try exact Below.refl _ _
            · have hbk := hp.2.2
              have r0 : W.cell? ⟨gx, 0, none⟩ = some (.int .i64 5) := PM.BK.cell hbk 0
              have r1 : W.cell? ⟨gx, 1, none⟩ = some (.int .u64 (nn : Int)) := PM.BK.cell hbk 1
              have r2 : W.cell? ⟨gx, 2, none⟩ = some (.int .i64 z.kind) := PM.BK.cell hbk 2
              have r3 : W.cell? ⟨gx, 3, none⟩ = some (.int .i64 z.id.br) := PM.BK.cell hbk 3
              have r4 : W.cell? ⟨gx, 4, none⟩ = some (.int .u64 (z.id.life : Int)) := PM.BK.cell hbk 4
              have r5 : W.cell? ⟨gx, 5, none⟩ = some (.int .u64 (z.id.ser : Int)) := PM.BK.cell hbk 5
              have r6 : W.cell? ⟨gx, 6, none⟩ = some (.int .i64 z.client) := PM.BK.cell hbk 6
              have r7 : W.cell? ⟨gx, 7, none⟩ = some (.int .u64 (z.sub : Int)) := PM.BK.cell hbk 7
              have r8 : W.cell? ⟨gx, 8, none⟩ = some (.slice fb zF fd) := PM.BK.cell hbk 8
              have r9 : W.cell? ⟨gx, 9, none⟩ = some (.slice eb zE ed) := PM.BK.cell hbk 9
              have r10 : W.cell? ⟨gx, 10, none⟩ = some (.int .i64 i.br) := PM.BK.cell hbk 10
              have r11 : W.cell? ⟨gx, 11, none⟩ = some (.int .u64 (i.life : Int)) := PM.BK.cell hbk 11
              have r12 : W.cell? ⟨gx, 12, none⟩ = some (.int .u64 (i.ser : Int)) := PM.BK.cell hbk 12
              go_simp
              first | done | exact Below.refl _ _ | exact ⟨Below.refl _ _, _, rfl, rfl⟩ | exact ⟨Below.refl _ _, rfl⟩
            · refine (steps_any 5 nn z fb zF fd eb zE ed i gs W).mono ?_
              rintro e w' ⟨v, rfl, hs2, hb⟩
              exact ⟨hb, _, rfl, hs2⟩
            · have hbk := hp.2.2
              have r0 : W.cell? ⟨gx, 0, none⟩ = some (.int .i64 5) := PM.BK.cell hbk 0
              go_simp
              first | done | exact Below.refl _ _ | exact ⟨Below.refl _ _, _, rfl, rfl⟩ | exact ⟨Below.refl _ _, rfl⟩
            · obtain ⟨⟨gm, gr2, gp, he, hIM, j1, j2⟩, e25⟩ := hd
              have kl := PM.run_lookup_int (P := Try.prog) (T := 60) Try.underlying60 Try.underlying3 hIM 5 (zeroFnF W)
              simp only [he, kl]
              go_simp
              exact ⟨Below.refl _ _, _, rfl, gr2, gp, rfl, j1, j2⟩
            · obtain ⟨gr2, gp, he, j1, j2⟩ := hd
              have he2 : _ = (.func (.func 45) #[] #[.pointer (some ⟨gp, 0, none⟩), .pointer (some ⟨gr2, 0, none⟩)] : Value) := he
              have hBw := hB.2 hsz4.out
              have hcl := stF_any 5 nn z fb zF fd eb zE ed i w1.heap.size gs gr2 gp s W W hp.1 hBgs j1 j2 hp.2.1 hlen
              simp only [he2]
              go_simp
              refine hcl.mono ?_
              rintro e w' ⟨rfl, hs2⟩
              exact ⟨⟨PM.SI.size hs2 hp.1, fun _ => hs2.below⟩, _, rfl, rfl, hs2.from hBw⟩
            · first | exact hd.1 | exact ⟨Below.refl _ _, by rw [hd.1]⟩ | (rw [hd.1]; exact ⟨Below.refl _ _, rfl⟩) | (simp only [hd.1]; exact Below.refl _ _) | (simp [hd.1]; exact Below.refl _ _) | exact ⟨Below.refl _ _, _, rfl, hd.1⟩ | (simp [hd.1]; done)
          · intro G W hB hF hS
            simp only [PM.allK, PM.spec] at hS
            simp at hS
            have u0 := hF 0 rfl
            have u1 := hF 1 rfl
            have u2 := hF 2 rfl
            have u3 := hF 3 rfl
            have u4 := hF 4 rfl
            have u6 := hF 6 rfl
            have u9 := hF 9 rfl
            have u10 := hF 10 rfl
            have u31 := hF 31 rfl
            have u32 := hF 32 rfl
            have u33 := hF 33 rfl
            have u34 := hF 34 rfl
            have u35 := hF 35 rfl
            have u11 := hF 11 rfl
            simp [PM.sl] at u0 u1 u2 u3 u4 u6 u9 u10 u31 u32 u33 u34 u35 u11
            obtain ⟨hs1, hs2⟩ := hS
            rw [show ((List.range (Array.size _)).map G).toArray = #[G 0, G 1, G 2, G 3, G 4, G 5, G 6, G 7, G 8, G 9, G 10, G 11, G 12, G 13, G 14, G 15, G 16, G 17, G 18, G 19, G 20, G 21, G 22, G 23, G 24, G 25, G 26, G 27, G 28, G 29, G 30, G 31, G 32, G 33, G 34, G 35] from rfl]
            rw [u0, u1, u2, u3, u4, u6, u9, u10, u31, u32, u33, u34, u35, u11, hs2]
            clear u0 u1 u2 u3 u4 u6 u9 u10 u31 u32 u33 u34 u35 u11 hF hs2
            have hsi := hs1.2
            have hcode : (PM.stF s i).2 = 0 ∨ (PM.stF s i).2 = 160 := by
              have := PM.stK_code s 5 nn z i
              simp [PM.stK] at this
              rcases this with h | h
              · exact .inl h
              · exact .inr (by rw [h])
            have hfn2 : PM.FsN (k + 1) (PM.stF s i).1 := by
              have := hfn.out.stK 5 nn z i
              simpa [PM.stK] using this
            have hnx := hres.out
            obtain ⟨s2, hs2⟩ : ∃ q, q = (PM.stF s i) := ⟨_, rfl⟩
            rw [← hs2] at hsi hnx hcode hfn2 ⊢
            clear hs1 hB hs2 hSI hzo hbx hres
            obtain ⟨t, c⟩ := s2
            simp only at hsi hcode hnx hfn2 ⊢
            rcases hcode with rfl | rfl
            · rw [if_pos rfl] at hnx
              have hnew : Hid (PM.AI w1.heap.size gs l (k + 1) w1 W) := PM.hid ⟨t, hsi.from hb4.out, hfn2, hnx⟩
              clear hsi hfn2 hnx
              go_wp2_with fail
              exact ⟨⟨rfl, k + 1, by go_num, by omega, hnew⟩, by simp only [intOf]; omega⟩
            · rw [if_neg (by decide)] at hnx
              have hq := PM.hid hnx
              have hbw := hb4.out.trans hsi.below
              have hbw2 := PM.chain' hb01.out hbw hgB.out.2
              have k2 := hk2.out.trans' hbw hg2lt.out
              clear hsi hfn2 hnx hbw
              have z0 : W.cell? ⟨g2, 0, none⟩ = some (.int .u64 0) := k2.cell 0
              have y0 : W.frozen? ⟨g2, 0, none⟩ = false := k2.free 0
              have z1 : W.cell? ⟨g2, 1, none⟩ = some (.slice none 0 0) := k2.cell 1
              have y1 : W.frozen? ⟨g2, 1, none⟩ = false := k2.free 1
              have z2 : W.cell? ⟨g2, 2, none⟩ = some (.slice none 0 0) := k2.cell 2
              have y2 : W.frozen? ⟨g2, 2, none⟩ = false := k2.free 2
              have z3 : W.cell? ⟨g2, 3, none⟩ = some (.slice none 0 0) := k2.cell 3
              have y3 : W.frozen? ⟨g2, 3, none⟩ = false := k2.free 3
              have hx : PM.Bx g2 W ((((W.setCell ⟨g2, 0, none⟩ (.int .u64 0)).setCell ⟨g2, 1, none⟩ (.slice none 0 0)).setCell ⟨g2, 2, none⟩ (.slice none 0 0)).setCell ⟨g2, 3, none⟩ (.slice none 0 0)) := (((PM.Bx.set g2 0 _ _).trans (PM.Bx.set g2 1 _ _)).trans (PM.Bx.set g2 2 _ _)).trans (PM.Bx.set g2 3 _ _)
              have hrs : PM.RS 28 g2 W _ := ⟨hx, fun T hT => PM.KT.ofx hx k2 hT⟩
              have ZF := (((((k2.set 0 (.int .u64 0)).set 1 (.slice none 0 0)).set 2 (.slice none 0 0)).set 3 (.slice none 0 0))).seeO (cs' := #[.int .u64 0, .slice none 0 0, .slice none 0 0, .slice none 0 0]) (by simp)
              have hend := PM.hid (hx.below hbw2 hgB.out.1 hbw2.size)
              clear hx hrs k2 
              replace ZF := PM.hid ZF
              go_wp2_with fail
              generalize ((((W.setCell ⟨g2, 0, none⟩ (.int .u64 0)).setCell ⟨g2, 1, none⟩ (.slice none 0 0)).setCell ⟨g2, 2, none⟩ (.slice none 0 0)).setCell ⟨g2, 3, none⟩ (.slice none 0 0)) = wf at *
              have q0 : wf.cell? ⟨g2, 0, none⟩ = some (.int .u64 0) := ZF.out.cell 0
              have q1 : wf.cell? ⟨g2, 1, none⟩ = some (.slice none 0 0) := ZF.out.cell 1
              have q2 : wf.cell? ⟨g2, 2, none⟩ = some (.slice none 0 0) := ZF.out.cell 2
              have q3 : wf.cell? ⟨g2, 3, none⟩ = some (.slice none 0 0) := ZF.out.cell 3
              try rw [Exit.noGoto_ret]
              refine bodyPost_ret (v := .tuple #[.agg #[.int .u64 0, .slice none 0 0, .slice none 0 0, .slice none 0 0], .int .i64 160]) (by simp [results, Try.results10, go_sem, q0, q1, q2, q3]) rfl ?_
              rw [hq.out]
              exact ⟨_, _, _, _, _, _, _, _, _, rfl, PM.EnW.nilrow, PM.EnW.nilrow, PM.OM.nilrow _, hend.out⟩
      · have hq : Hid (PM.allP l = (PM.Fs0, 110)) := PM.hid (by have := hal.out; rw [PM.al1_bad hdx, if_neg (by decide)] at this; exact this)
        have hbw := hb4.out
        have hbw2 := PM.chain' hb01.out hbw hgB.out.2
        have k2 := hk2.out.trans' hbw hg2lt.out
        clear hSI hzo hbx hal hdx hoX hbw
        have z0 : w4.cell? ⟨g2, 0, none⟩ = some (.int .u64 0) := k2.cell 0
        have y0 : w4.frozen? ⟨g2, 0, none⟩ = false := k2.free 0
        have z1 : w4.cell? ⟨g2, 1, none⟩ = some (.slice none 0 0) := k2.cell 1
        have y1 : w4.frozen? ⟨g2, 1, none⟩ = false := k2.free 1
        have z2 : w4.cell? ⟨g2, 2, none⟩ = some (.slice none 0 0) := k2.cell 2
        have y2 : w4.frozen? ⟨g2, 2, none⟩ = false := k2.free 2
        have z3 : w4.cell? ⟨g2, 3, none⟩ = some (.slice none 0 0) := k2.cell 3
        have y3 : w4.frozen? ⟨g2, 3, none⟩ = false := k2.free 3
        have hx : PM.Bx g2 w4 ((((w4.setCell ⟨g2, 0, none⟩ (.int .u64 0)).setCell ⟨g2, 1, none⟩ (.slice none 0 0)).setCell ⟨g2, 2, none⟩ (.slice none 0 0)).setCell ⟨g2, 3, none⟩ (.slice none 0 0)) := (((PM.Bx.set g2 0 _ _).trans (PM.Bx.set g2 1 _ _)).trans (PM.Bx.set g2 2 _ _)).trans (PM.Bx.set g2 3 _ _)
        have hrs : PM.RS 28 g2 w4 _ := ⟨hx, fun T hT => PM.KT.ofx hx k2 hT⟩
        have ZF := (((((k2.set 0 (.int .u64 0)).set 1 (.slice none 0 0)).set 2 (.slice none 0 0)).set 3 (.slice none 0 0))).seeO (cs' := #[.int .u64 0, .slice none 0 0, .slice none 0 0, .slice none 0 0]) (by simp)
        have hend := PM.hid (hx.below hbw2 hgB.out.1 hbw2.size)
        clear hx hrs k2 
        replace ZF := PM.hid ZF
        go_wp2_with fail
        generalize ((((w4.setCell ⟨g2, 0, none⟩ (.int .u64 0)).setCell ⟨g2, 1, none⟩ (.slice none 0 0)).setCell ⟨g2, 2, none⟩ (.slice none 0 0)).setCell ⟨g2, 3, none⟩ (.slice none 0 0)) = wf at *
        have q0 : wf.cell? ⟨g2, 0, none⟩ = some (.int .u64 0) := ZF.out.cell 0
        have q1 : wf.cell? ⟨g2, 1, none⟩ = some (.slice none 0 0) := ZF.out.cell 1
        have q2 : wf.cell? ⟨g2, 2, none⟩ = some (.slice none 0 0) := ZF.out.cell 2
        have q3 : wf.cell? ⟨g2, 3, none⟩ = some (.slice none 0 0) := ZF.out.cell 3
        try rw [Exit.noGoto_ret]
        refine bodyPost_ret (v := .tuple #[.agg #[.int .u64 0, .slice none 0 0, .slice none 0 0, .slice none 0 0], .int .i64 110]) (by simp [results, Try.results10, go_sem, q0, q1, q2, q3]) rfl ?_
        rw [hq.out]
        exact ⟨_, _, _, _, _, _, _, _, _, rfl, PM.EnW.nilrow, PM.EnW.nilrow, PM.OM.nilrow _, hend.out⟩
    · obtain rfl : N = k := by omega
      obtain ⟨s, hSI, hfn, hal⟩ := hI.out
      have hq : Hid (PM.allP l = (s, 0)) := PM.hid (by rw [hal, hNh.out, List.drop_length]; rfl)
      have hbw := hSI.below
      have hbw2 := PM.chain' hb01.out hbw hgB.out.2
      have k2 := hk2.out.trans' hbw hg2lt.out
      obtain ⟨vl, vp, va, ks, r1, r2, r3, -, -⟩ := hSI
      obtain ⟨ua, uc, hle⟩ := r1.len
      obtain ⟨pa, pc, hqe⟩ := r2.len
      obtain ⟨ta, tc, hae⟩ := (r3.em PM.idL_len).len
      generalize s.ls.length = un at hle
      generalize s.ps.length = pn at hqe
      generalize s.ab.length = tn at hae
      subst hle hqe hae
      clear hal hfn hI hbw
      have d0 : wr.cell? ⟨gs, 0, none⟩ = some (.int .u64 (s.lf : Int)) := ks.cell 0
      have d1 : wr.cell? ⟨gs, 1, none⟩ = some (.slice ua un uc) := ks.cell 1
      have d2 : wr.cell? ⟨gs, 2, none⟩ = some (.slice pa pn pc) := ks.cell 2
      have d3 : wr.cell? ⟨gs, 3, none⟩ = some (.slice ta tn tc) := ks.cell 3
      have z0 : wr.cell? ⟨g2, 0, none⟩ = some (.int .u64 0) := k2.cell 0
      have y0 : wr.frozen? ⟨g2, 0, none⟩ = false := k2.free 0
      have z1 : wr.cell? ⟨g2, 1, none⟩ = some (.slice none 0 0) := k2.cell 1
      have y1 : wr.frozen? ⟨g2, 1, none⟩ = false := k2.free 1
      have z2 : wr.cell? ⟨g2, 2, none⟩ = some (.slice none 0 0) := k2.cell 2
      have y2 : wr.frozen? ⟨g2, 2, none⟩ = false := k2.free 2
      have z3 : wr.cell? ⟨g2, 3, none⟩ = some (.slice none 0 0) := k2.cell 3
      have y3 : wr.frozen? ⟨g2, 3, none⟩ = false := k2.free 3
      have hx : PM.Bx g2 wr ((((wr.setCell ⟨g2, 0, none⟩ (.int .u64 (s.lf : Int))).setCell ⟨g2, 1, none⟩ (.slice ua un uc)).setCell ⟨g2, 2, none⟩ (.slice pa pn pc)).setCell ⟨g2, 3, none⟩ (.slice ta tn tc)) := (((PM.Bx.set g2 0 _ _).trans (PM.Bx.set g2 1 _ _)).trans (PM.Bx.set g2 2 _ _)).trans (PM.Bx.set g2 3 _ _)
      have hrs : PM.RS 28 g2 wr _ := ⟨hx, fun T hT => PM.KT.ofx hx k2 hT⟩
      have ZF := (((((k2.set 0 (.int .u64 (s.lf : Int))).set 1 (.slice ua un uc)).set 2 (.slice pa pn pc)).set 3 (.slice ta tn tc))).seeO (cs' := #[.int .u64 (s.lf : Int), .slice ua un uc, .slice pa pn pc, .slice ta tn tc]) (by simp)
      have hend := PM.hid (And.intro (PM.EnW.mono hgB.out.2 (r1.rs hrs)) (And.intro (PM.EnW.mono hgB.out.2 (r2.rs hrs)) (And.intro (PM.OM.mono hgB.out.2 (r3.kt (hrs.kt _ (by decide)))) (hx.below hbw2 hgB.out.1 hbw2.size))))
      clear hx hrs k2 r1 r2 r3 ks
      replace ZF := PM.hid ZF
      go_wp2_with fail
      generalize ((((wr.setCell ⟨g2, 0, none⟩ (.int .u64 (s.lf : Int))).setCell ⟨g2, 1, none⟩ (.slice ua un uc)).setCell ⟨g2, 2, none⟩ (.slice pa pn pc)).setCell ⟨g2, 3, none⟩ (.slice ta tn tc)) = wf at *
      have q0 : wf.cell? ⟨g2, 0, none⟩ = some (.int .u64 (s.lf : Int)) := ZF.out.cell 0
      have q1 : wf.cell? ⟨g2, 1, none⟩ = some (.slice ua un uc) := ZF.out.cell 1
      have q2 : wf.cell? ⟨g2, 2, none⟩ = some (.slice pa pn pc) := ZF.out.cell 2
      have q3 : wf.cell? ⟨g2, 3, none⟩ = some (.slice ta tn tc) := ZF.out.cell 3
      try rw [Exit.noGoto_ret]
      refine bodyPost_ret (v := .tuple #[.agg #[.int .u64 (s.lf : Int), .slice ua un uc, .slice pa pn pc, .slice ta tn tc], .int .i64 0]) (by simp [results, Try.results10, go_sem, q0, q1, q2, q3]) rfl ?_
      rw [hq.out]
      exact ⟨_, _, _, _, _, _, _, _, _, rfl, hend.out.1, hend.out.2.1, hend.out.2.2.1, hend.out.2.2.2⟩
end Go.Proofs.Ytphdadlpfjfeoaa
