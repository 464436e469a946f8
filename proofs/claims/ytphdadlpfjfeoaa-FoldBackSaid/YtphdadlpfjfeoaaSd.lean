/-
  CONTRACT of own.State. (Written by tools/mk_sd.py.)
-/
import Derived.Test.YtphdadlpfjfeoaaSc
import Derived.Test.YtphdadlpfjfeoaaRm
import Derived.Test.YtphdadlpfjfeoaaOa
namespace Go.Proofs.Ytphdadlpfjfeoaa
open Go.RowKit
set_option linter.unusedVariables false
set_option linter.unusedSimpArgs false
namespace PM
/-- just a state's block turns -/
structure RS (E : TypeId) (g : Nat) (W W' : World) : Prop where
  bx : Bx g W W'
  kt : ∀ T, E ≠ T → KT W W' T
theorem RS.new {E : TypeId} {g : Nat} {W W' : World} (h : Below W.heap.size W W') : RS E g W W' := ⟨Bx.of h, fun T _ => KT.of h T⟩
theorem RS.trans {E : TypeId} {g : Nat} {x y z : World} (h : RS E g x y) (k : RS E g y z) : RS E g x z := ⟨h.bx.trans k.bx, fun T hT => (h.kt T hT).trans (k.kt T hT)⟩
theorem RS.set {E : TypeId} {g : Nat} {W : World} {cs : Array Value} (h : BK W g cs E) (i : Nat) (u : Value) : RS E g W (W.setCell ⟨g, i, none⟩ u) := ⟨Bx.set g i W u, fun T hT => KT.ofx (Bx.set g i W u) h hT⟩
theorem EnW.rs {B g : Nat} {W W' : World} {v : Value} {l : List En} (h : EnW B W v l) (k : RS 28 g W W') : EnW B W' v l := OR.kt (enO_ktE (k.kt _ (by decide)) (k.kt _ (by decide)) (k.kt _ (by decide))) h (k.kt _ (by decide))
theorem EnW.keep {B : Nat} {W W' : World} {v : Value} {l : List En} (h : EnW B W v l) (k : Below W.heap.size W W') : EnW B W' v l := OR.keep enO_lasts k h
theorem EnW.mono {B B' : Nat} {W : World} {v : Value} {l : List En} (hb : B' ≤ B) (h : EnW B W v l) : EnW B' W v l := by
  obtain ⟨css, h1, h2, h3⟩ := h
  exact ⟨css, h1.mono hb, h2, fun i cs x a b => enO_mono hb (h3 i cs x a b)⟩
theorem EnW.lt {B : Nat} {W : World} {v : Value} {l : List En} (h : EnW B W v l) : ∀ k, v.ownBlock = some k → B ≤ k ∧ k < W.heap.size := by
  obtain ⟨css, q, _⟩ := h
  exact q.lt
theorem EnW.enl {B : Nat} {W : World} {v : Value} {l : List En} (h : EnW B W v l) : EnL W v l := RR.imp h.rr fun cs x ⟨fv, ev, g1, g2, g3⟩ => ⟨fv, ev, g1, g2.em teL_len, evOr_evl g3⟩
theorem EnW.len {B : Nat} {W : World} {v : Value} {l : List En} (h : EnW B W v l) : ∃ a c, v = .slice a l.length c := h.rr.len
def OS5 (B : Nat) (L : List En) (x : Value) (W : World) : Prop := EnW B W x L
def OS8 (B : Nat) (Q L : List En) (x : Value) (W : World) : Prop := ∃ u v, x = .tuple #[u, v] ∧ EnW B W u Q ∧ EnW B W v L ∧ Apart v u
def OSI (B : Nat) (A : List Id) (x : Value) (W : World) : Prop := OM idL 3 39 B W x A
theorem OS8.get {B : Nat} {Q L : List En} {u v : Value} {W : World} (h : OS8 B Q L (.tuple #[u, v]) W) : EnW B W u Q ∧ EnW B W v L ∧ Apart v u := by
  obtain ⟨u', v', he, h1, h2, h3⟩ := h
  simp at he
  obtain ⟨rfl, rfl⟩ := he
  exact ⟨h1, h2, h3⟩
def OB1 (g : Nat) (x0 x2 x3 : Value) (x : Value) (W : World) : Prop := BK W g #[x0, x, x2, x3] 28
def OB2 (g : Nat) (x0 x3 : Value) (x : Value) (W : World) : Prop := ∃ u v, x = .tuple #[u, v] ∧ BK W g #[x0, v, u, x3] 28
def OB3 (g : Nat) (x0 : Value) (x : Value) (W : World) : Prop := ∃ t u v, x = .tuple #[t, u, v] ∧ BK W g #[x0, v, u, t] 28
theorem OB2.get {g : Nat} {x0 x3 u v : Value} {W : World} (h : OB2 g x0 x3 (.tuple #[u, v]) W) : BK W g #[x0, v, u, x3] 28 := by
  obtain ⟨u', v', he, h1⟩ := h
  simp at he
  obtain ⟨rfl, rfl⟩ := he
  exact h1
theorem OB3.get {g : Nat} {x0 t u v : Value} {W : World} (h : OB3 g x0 (.tuple #[t, u, v]) W) : BK W g #[x0, v, u, t] 28 := by
  obtain ⟨t', u', v', he, h1⟩ := h
  simp at he
  obtain ⟨rfl, rfl, rfl⟩ := he
  exact h1
/-- a state's parts ahead of the copy -/
def OP (g : Nat) (x0 x1 x2 x3 : Value) (L Q : List En) (A : List Id) (W : World) : Prop := BK W g #[x0, x1, x2, x3] 28 ∧ EnL W x1 L ∧ EnL W x2 Q ∧ EM idL 3 W x3 A
theorem OP.keep {g : Nat} {x0 x1 x2 x3 : Value} {L Q : List En} {A : List Id} {W W' : World} (h : OP g x0 x1 x2 x3 L Q A W) (hb : Below W.heap.size W W') : OP g x0 x1 x2 x3 L Q A W' := ⟨h.1.keep hb, EnL.keep h.2.1 hb, EnL.keep h.2.2.1 hb, h.2.2.2.keep hb⟩
end PM
set_option maxRecDepth 100000 in
set_option maxHeartbeats 8000000 in
theorem ownSt_any (lf : Nat) (a0 : Option Addr) (n0 c0 : Nat) (a1 : Option Addr) (n1 c1 : Nat) (a2 : Option Addr) (n2 c2 : Nat) (L Q : List PM.En) (A : List PM.Id) (w : World) (h0 : PM.EnL w (.slice a0 n0 c0) L) (h1 : PM.EnL w (.slice a1 n1 c1) Q) (h2 : PM.EM PM.idL 3 w (.slice a2 n2 c2) A) (hsL : Hid (PM.EnsS L)) (hsQ : Hid (PM.EnsS Q)) (hlA : Hid (A.length ≤ 1000)) :
    Calls Try.prog 23 #[.agg #[.int .u64 (lf : Int), .slice a0 n0 c0, .slice a1 n1 c1, .slice a2 n2 c2]] w fun e w' => ∃ ua un uc pa pn pc ta tn tc, e = .returned (.agg #[.int .u64 (lf : Int), .slice ua un uc, .slice pa pn pc, .slice ta tn tc]) ∧ PM.EnW w.heap.size w' (.slice ua un uc) L ∧ PM.EnW w.heap.size w' (.slice pa pn pc) Q ∧ PM.OM PM.idL 3 39 w.heap.size w' (.slice ta tn tc) A ∧ PM.Apart (.slice ua un uc) (.slice pa pn pc) ∧ Below w.heap.size w w' := by
  obtain ⟨g1, hg1⟩ : ∃ g, g = w.heap.size := ⟨_, rfl⟩
  obtain ⟨g2, hg2⟩ : ∃ g, g = w.heap.size + 1 := ⟨_, rfl⟩
  obtain ⟨w1, hw1⟩ : ∃ W, W = w.alloc (.cells #[.int .u64 (lf : Int), .slice a0 n0 c0, .slice a1 n1 c1, .slice a2 n2 c2] 28) := ⟨_, rfl⟩
  obtain ⟨w2, hw2⟩ : ∃ W, W = w1.alloc (.cells #[.int .u64 0, .slice none 0 0, .slice none 0 0, .slice none 0 0] 28) := ⟨_, rfl⟩
  have hs1 : w1.heap.size = w.heap.size + 1 := by rw [hw1]; simp
  have hal : Below w.heap.size w w1 := by rw [hw1]; exact (Below.refl _ _).alloc (Nat.le_refl _) _
  have hal2 : Below w1.heap.size w1 w2 := by rw [hw2]; exact (Below.refl _ _).alloc (Nat.le_refl _) _
  have kg : PM.BK w1 g1 #[.int .u64 (lf : Int), .slice a0 n0 c0, .slice a1 n1 c1, .slice a2 n2 c2] 28 := by rw [hw1, hg1]; exact PM.BK.new _ _ _
  replace kg := kg.keep hal2
  have kz : PM.BK w2 g2 #[.int .u64 0, .slice none 0 0, .slice none 0 0, .slice none 0 0] 28 := by rw [hw2, hg2, ← hs1]; exact PM.BK.new _ _ _
  have hne : g2 ≠ g1 := by omega
  have hg1w : w.heap.size ≤ g1 := by omega
  have hg2w : w.heap.size ≤ g2 := by omega
  have hBW := PM.chain hal hal2
  have hP : Hid (PM.OP g1 (.int .u64 (lf : Int)) (.slice a0 n0 c0) (.slice a1 n1 c1) (.slice a2 n2 c2) L Q A w2) := PM.hid ⟨kg, PM.EnL.keep h0 hBW, PM.EnL.keep h1 hBW, h2.keep hBW⟩
  have hBB : Hid (w.heap.size ≤ w2.heap.size) := PM.hid hBW.size
  have hK := PM.hid (And.intro kz (And.intro hBW (And.intro hne (And.intro hg1w hg2w))))
  clear hal hal2 hs1 h0 h1 h2 kg kz hne hg1w hg2w hBW
  go_enter Try.func23, Try.ntmps23
  go_upto_region 1 with fail
  rw [← hw1, ← hw2, ← hg2, ← hg1]
  clear hw1 hw2 hg1 hg2
  refine PM.wp_region_stM (PM.RS 28 g1) (fun W W' => Below W.heap.size W W') (PM.OP g1 (.int .u64 (lf : Int)) (.slice a0 n0 c0) (.slice a1 n1 c1) (.slice a2 n2 c2) L Q A) (fun _ _ h => h) (fun h => PM.RS.new h) (fun h k => h.trans k) [[3], [4], [5], [6], [7], [8, 5], [9], [10], [11], [12], [5], [13], [8, 5], [14], [11, 8, 5]] [some 3, some 4, some 5, some 6, some 7, some 8, some 9, some 10, some 11, some 12, none, some 13, none, some 14, none] [[], [0], [0, 1], [], [3], [0, 1, 2, 3, 4], [], [6], [0, 1, 2, 3, 4, 5, 6, 7], [0, 1, 2, 3, 4, 6, 7], [0, 1, 2, 3, 4, 5, 6, 7, 8, 9], [0, 1, 2, 3, 4, 5, 6, 7, 8, 9, 10], [0, 1, 2, 3, 4, 5, 6, 7, 8, 9, 10, 11], [0, 1, 2, 3, 4, 5, 6, 7, 8, 9, 10, 11, 12], [0, 1, 2, 3, 4, 5, 6, 7, 8, 9, 10, 11, 12, 13]] [false, false, false, false, false, false, false, false, false, false, true, false, true, false, true] [10, 12, 14] [([], false), ([0], true), ([1], true), ([], false), ([3], true), ([4, 2], true), ([], false), ([6], true), ([7], true), ([], false), ([9, 2], true), ([], false), ([11, 5, 10], false), ([], false), ([13, 8, 12], false)] [5, 8, 14] [fun x _ => x = .pointer (some ⟨g1, 1, none⟩), fun x _ => x = .slice a0 n0 c0, fun x W => PM.OS5 w.heap.size L x W, fun x _ => x = .pointer (some ⟨g1, 2, none⟩), fun x _ => x = .slice a1 n1 c1, fun x W => PM.OS8 w.heap.size Q L x W, fun x _ => x = .pointer (some ⟨g1, 3, none⟩), fun x _ => x = .slice a2 n2 c2, fun x W => PM.OSI w.heap.size A x W, fun x _ => x = .pointer (some ⟨g1, 1, none⟩), fun x W => PM.OB1 g1 (.int .u64 (lf : Int)) (.slice a1 n1 c1) (.slice a2 n2 c2) x W, fun x _ => x = .pointer (some ⟨g1, 2, none⟩), fun x W => PM.OB2 g1 (.int .u64 (lf : Int)) (.slice a2 n2 c2) x W, fun x _ => x = .pointer (some ⟨g1, 3, none⟩), fun x W => PM.OB3 g1 (.int .u64 (lf : Int)) x W] (by kernel_rfl) (by kernel_rfl) (by kernel_rfl) (by kernel_rfl) (by kernel_rfl) (by kernel_rfl) (by kernel_rfl) (by kernel_rfl) (by kernel_rfl) ?_ ?_ ?_ ?_ ?_ ?_
  · simp only [List.zip_cons_cons, List.zip_nil_right, List.forall_mem_cons]
    refine ⟨?_, ?_, ?_, ?_, ?_, ?_, ?_, ?_, ?_, ?_, ?_, ?_, ?_, ?_, ?_, by simp⟩
    all_goals (intro hk v W W' h hb; first | exact Bool.noConfusion hk | exact h | exact PM.EnW.rs h hb | (obtain ⟨u, v, he, h1, h2, h3⟩ := h; exact ⟨u, v, he, h1.rs hb, h2.rs hb, h3⟩) | exact PM.OM.kt h (hb.kt _ (by decide)))
  · simp only [List.forall_mem_cons]
    refine ⟨?_, ?_, ?_, ?_, ?_, ?_, ?_, ?_, ?_, ?_, ?_, ?_, ?_, ?_, ?_, by simp⟩
    all_goals (intro v W W' h hb; first | exact h | exact PM.EnW.keep h hb | (obtain ⟨u, v, he, h1, h2, h3⟩ := h; exact ⟨u, v, he, h1.keep hb, h2.keep hb, h3⟩) | exact PM.OM.keep hb h | exact PM.BK.keep hb h | (obtain ⟨u, v, he, h1⟩ := h; exact ⟨u, v, he, h1.keep hb⟩) | (obtain ⟨t, u, v, he, h1⟩ := h; exact ⟨t, u, v, he, h1.keep hb⟩))
  · exact fun W W' h hb => h.keep hb
  · exact hP.out
  · refine ⟨?_, ?_, ?_, ?_, ?_, ?_, ?_, ?_, ?_, ?_, ?_, ?_, ?_, ?_, ?_, trivial⟩
    all_goals
      intro a W hB hF hd hp
      have k1 := hF 1 rfl
      clear hF
      simp [PM.depsM, PM.spec, PM.slt, PM.sl] at hd hp k1
      simp only [PM.wantL, PM.spec, PM.newv, PM.newd, List.map, Option.some.injEq, if_true, reduceCtorEq, if_false]
      try simp only [PM.sl]
      go_simp
    all_goals try exact Below.refl _ _
    · obtain ⟨h1, h2, h3, h4⟩ := hp
      have g1c : W.cell? ⟨g1, 1, none⟩ = some (.slice a0 n0 c0) := h1.cell 1
      have g2c : W.cell? ⟨g1, 2, none⟩ = some (.slice a1 n1 c1) := h1.cell 2
      have g3c : W.cell? ⟨g1, 3, none⟩ = some (.slice a2 n2 c2) := h1.cell 3
      go_simp
      first | done | exact Below.refl _ _ | exact ⟨Below.refl _ _, _, rfl, rfl⟩ | exact ⟨Below.refl _ _, rfl⟩
    · refine (entries_any _ L W hp.2.1 hsL.out).mono ?_
      rintro e w' ⟨u, rfl, ho, hb⟩
      exact ⟨hb, _, rfl, PM.EnW.mono (Nat.le_trans hBB.out hB.bx.size) ho⟩
    · obtain ⟨h1, h2, h3, h4⟩ := hp
      have g1c : W.cell? ⟨g1, 1, none⟩ = some (.slice a0 n0 c0) := h1.cell 1
      have g2c : W.cell? ⟨g1, 2, none⟩ = some (.slice a1 n1 c1) := h1.cell 2
      have g3c : W.cell? ⟨g1, 3, none⟩ = some (.slice a2 n2 c2) := h1.cell 3
      go_simp
      first | done | exact Below.refl _ _ | exact ⟨Below.refl _ _, _, rfl, rfl⟩ | exact ⟨Below.refl _ _, rfl⟩
    · refine (entries_any _ Q W hp.2.2.1 hsQ.out).mono ?_
      rintro e w' ⟨u, rfl, ho, hb⟩
      have h5 : PM.EnW w.heap.size W _ L := hd.2
      exact ⟨hb, _, rfl, _, _, rfl, PM.EnW.mono (Nat.le_trans hBB.out hB.bx.size) ho, h5.keep hb, fun k h1 h2 => by have := (h5.lt k h1).2; have := (PM.EnW.lt ho k h2).1; omega⟩
    · obtain ⟨h1, h2, h3, h4⟩ := hp
      have g1c : W.cell? ⟨g1, 1, none⟩ = some (.slice a0 n0 c0) := h1.cell 1
      have g2c : W.cell? ⟨g1, 2, none⟩ = some (.slice a1 n1 c1) := h1.cell 2
      have g3c : W.cell? ⟨g1, 3, none⟩ = some (.slice a2 n2 c2) := h1.cell 3
      go_simp
      first | done | exact Below.refl _ _ | exact ⟨Below.refl _ _, _, rfl, rfl⟩ | exact ⟨Below.refl _ _, rfl⟩
    · refine (flatId_any _ A W hp.2.2.2 hlA.out).mono ?_
      rintro e w' ⟨u, rfl, ho, hb⟩
      exact ⟨hb, _, rfl, PM.OM.mono (Nat.le_trans hBB.out hB.bx.size) ho⟩
    · have h5 : PM.OS5 w.heap.size L _ W := hd.2
      obtain ⟨ua, uc, ue⟩ := PM.EnW.len h5
      have hbk := hp.1
      have gc : W.cell? ⟨g1, 1, none⟩ = some (.slice a0 n0 c0) := hbk.cell 1
      have gf : W.frozen? ⟨g1, 1, none⟩ = false := hbk.free 1
      have hset := hbk.set 1 (.slice ua L.length uc)
      have hrs := PM.RS.set hbk 1 (.slice ua L.length uc)
      simp only [ue, hd.1]
      go_simp
      first | exact hset | exact ⟨hrs, hset⟩
    · obtain ⟨hd1, hd2, hd3⟩ := hd
      obtain ⟨h1, h2, h3⟩ := PM.OS8.get hd2
      obtain ⟨ua, uc, ue⟩ := h2.len
      obtain ⟨pa, pc, pe⟩ := h1.len
      have hbk : PM.BK W g1 _ 28 := hd3
      rw [ue] at hbk
      have gc : W.cell? ⟨g1, 2, none⟩ = some (.slice a1 n1 c1) := hbk.cell 2
      have gf : W.frozen? ⟨g1, 2, none⟩ = false := hbk.free 2
      have hset := hbk.set 2 (.slice pa Q.length pc)
      have hrs := PM.RS.set hbk 2 (.slice pa Q.length pc)
      simp only [ue, pe, hd1]
      go_simp
      first | exact ⟨_, _, rfl, hset⟩ | exact ⟨hrs, _, _, rfl, hset⟩
    · obtain ⟨hd1, hd2, hd3⟩ := hd
      have hbk := PM.OB2.get hd3
      obtain ⟨ta, tc, te⟩ := (PM.OM.em PM.idL_len hd2).len
      have gc : W.cell? ⟨g1, 3, none⟩ = some (.slice a2 n2 c2) := hbk.cell 3
      have gf : W.frozen? ⟨g1, 3, none⟩ = false := hbk.free 3
      have hset := hbk.set 3 (.slice ta A.length tc)
      have hrs := PM.RS.set hbk 3 (.slice ta A.length tc)
      simp only [te, hd1]
      go_simp
      first | exact ⟨_, _, _, rfl, hset⟩ | exact ⟨hrs, _, _, _, rfl, hset⟩
  · intro G W hB hF hS
    simp only [PM.allM, PM.spec, PM.gl] at hS
    simp at hS
    obtain ⟨f1, f2, f3⟩ := hS
    obtain ⟨k1, k2, k3⟩ := PM.OS8.get f1
    have k4 := PM.OB3.get f3
    have u0 := hF 0 rfl
    have u1 := hF 1 rfl
    have u2 := hF 2 rfl
    simp [PM.sl] at u0 u1 u2
    rw [show ((List.range (Array.size _)).map G).toArray = #[G 0, G 1, G 2, G 3, G 4, G 5, G 6, G 7, G 8, G 9, G 10, G 11, G 12, G 13, G 14, G 15] from rfl]
    rw [u0, u1, u2]
    clear u0 u1 u2 hF f1 f3
    generalize G 5 = v5 at *
    generalize G 8 = v8 at *
    generalize G 11 = v11 at *
    have k5 : PM.OM PM.idL 3 39 w.heap.size W v11 A := f2
    obtain ⟨ua, uc, rfl⟩ := k2.len
    obtain ⟨pa, pc, rfl⟩ := k1.len
    obtain ⟨ta, tc, rfl⟩ := (k5.em PM.idL_len).len
    generalize L.length = nL at *
    generalize Q.length = nQ at *
    generalize A.length = nA at *
    have kz := hK.out.1.keepx hB.bx hK.out.2.2.1
    have hbz : Below w.heap.size w W := hB.bx.below hK.out.2.1 hK.out.2.2.2.1 hBB.out
    have c0 : W.cell? ⟨g1, 0, none⟩ = some (.int .u64 (lf : Int)) := k4.cell 0
    have c1 : W.cell? ⟨g1, 1, none⟩ = some (.slice ua nL uc) := k4.cell 1
    have c2 : W.cell? ⟨g1, 2, none⟩ = some (.slice pa nQ pc) := k4.cell 2
    have c3 : W.cell? ⟨g1, 3, none⟩ = some (.slice ta nA tc) := k4.cell 3
    have z0 : W.cell? ⟨g2, 0, none⟩ = some (.int .u64 0) := kz.cell 0
    have y0 : W.frozen? ⟨g2, 0, none⟩ = false := kz.free 0
    have z1 : W.cell? ⟨g2, 1, none⟩ = some (.slice none 0 0) := kz.cell 1
    have y1 : W.frozen? ⟨g2, 1, none⟩ = false := kz.free 1
    have z2 : W.cell? ⟨g2, 2, none⟩ = some (.slice none 0 0) := kz.cell 2
    have y2 : W.frozen? ⟨g2, 2, none⟩ = false := kz.free 2
    have z3 : W.cell? ⟨g2, 3, none⟩ = some (.slice none 0 0) := kz.cell 3
    have y3 : W.frozen? ⟨g2, 3, none⟩ = false := kz.free 3
    have hx : PM.Bx g2 W ((((W.setCell ⟨g2, 0, none⟩ (.int .u64 (lf : Int))).setCell ⟨g2, 1, none⟩ (.slice ua nL uc)).setCell ⟨g2, 2, none⟩ (.slice pa nQ pc)).setCell ⟨g2, 3, none⟩ (.slice ta nA tc)) := (((PM.Bx.set g2 0 _ _).trans (PM.Bx.set g2 1 _ _)).trans (PM.Bx.set g2 2 _ _)).trans (PM.Bx.set g2 3 _ _)
    have hrs : PM.RS 28 g2 W _ := ⟨hx, fun T hT => PM.KT.ofx hx kz hT⟩
    have hend := PM.hid (And.intro (k2.rs hrs) (And.intro (k1.rs hrs) (And.intro (k5.kt (hrs.kt _ (by decide))) (And.intro k3 (hx.below hbz hK.out.2.2.2.2 hbz.size)))))
    have ZF := (((kz.set 0 (.int .u64 (lf : Int))).set 1 (.slice ua nL uc)).set 2 (.slice pa nQ pc)).set 3 (.slice ta nA tc)
    clear hx hrs k1 k2 k3 k4 k5 f2 hbz kz hB hK hP
    go_wp2_with fail
    generalize ((((W.setCell ⟨g2, 0, none⟩ (.int .u64 (lf : Int))).setCell ⟨g2, 1, none⟩ (.slice ua nL uc)).setCell ⟨g2, 2, none⟩ (.slice pa nQ pc)).setCell ⟨g2, 3, none⟩ (.slice ta nA tc)) = wf at *
    have q0 : wf.cell? ⟨g2, 0, none⟩ = some (.int .u64 (lf : Int)) := ZF.cell 0
    have q1 : wf.cell? ⟨g2, 1, none⟩ = some (.slice ua nL uc) := ZF.cell 1
    have q2 : wf.cell? ⟨g2, 2, none⟩ = some (.slice pa nQ pc) := ZF.cell 2
    have q3 : wf.cell? ⟨g2, 3, none⟩ = some (.slice ta nA tc) := ZF.cell 3
    refine bodyPost_ret (v := .agg #[.int .u64 (lf : Int), .slice ua nL uc, .slice pa nQ pc, .slice ta nA tc]) (by simp [results, Try.results23, go_sem, q0, q1, q2, q3]) rfl ?_
    exact ⟨_, _, _, _, _, _, _, _, _, rfl, hend.out.1, hend.out.2.1, hend.out.2.2.1, hend.out.2.2.2.1, hend.out.2.2.2.2⟩
end Go.Proofs.Ytphdadlpfjfeoaa
