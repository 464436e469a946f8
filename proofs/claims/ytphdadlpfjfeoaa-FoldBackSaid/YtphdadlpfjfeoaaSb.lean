/-
  A STATE IN MEMORY THAT IS THE CALL's OWN (SI); fold.forget.
-/
import Derived.Test.YtphdadlpfjfeoaaSa
namespace Go.Proofs.Ytphdadlpfjfeoaa
open Go.RowKit
set_option linter.unusedVariables false
set_option linter.unusedSimpArgs false
namespace PM
theorem OR.aside {α : Type} {R : World → List Value → α → Prop} {c : Nat} {E : TypeId} {B : Nat} {w w' : World} {x v : Value} {l : List α} (hR : ∀ cs y, R w cs y → R w' cs y) (h : OR R c E B w v l) (hg : w.grownBy w' x.ownBlock) (ha : Apart x v) : OR R c E B w' v l := by
  obtain ⟨css, g1, g2, g3⟩ := h
  exact ⟨css, g1.kept hg ha, g2, fun i cs x a b => hR _ _ (g3 i cs x a b)⟩
/-- what a state is -/
structure Fs where
  lf : Nat
  ls : List En
  ps : List En
  ab : List Id
abbrev EnW (B : Nat) (w : World) (v : Value) (l : List En) : Prop := OR (enO 114 112 84 B) 8 44 B w v l
/-- a state that lies in a block, with rows of its own -/
def SI (B gs : Nat) (s : Fs) (w0 w : World) : Prop := ∃ vl vp va, BK w gs #[.int .u64 (s.lf : Int), vl, vp, va] 28 ∧ EnW B w vl s.ls ∧ EnW B w vp s.ps ∧ OM idL 3 39 B w va s.ab ∧ Apart vl vp ∧ Below B w0 w
theorem enO_ktE {B : Nat} {w w' : World} (k1 : KT w w' 114) (k2 : KT w w' 112) (k3 : KT w w' 84) : ∀ cs y, enO 114 112 84 B w cs y → enO 114 112 84 B w' cs y := fun cs y h => enO_kt k1 k2 k3 cs y h
theorem SI.keep {B gs : Nat} {s : Fs} {w0 W w : World} (hb : Below W.heap.size W w) (hB : B ≤ W.heap.size) (h : SI B gs s w0 W) : SI B gs s w0 w := by
  obtain ⟨vl, vp, va, h1, h2, h3, h4, h5, h6⟩ := h
  exact ⟨vl, vp, va, h1.keep hb, OR.keep enO_lasts hb h2, OR.keep enO_lasts hb h3, h4.keep hb, h5, h6.trans (hb.mono hB)⟩
theorem SI.below {B gs : Nat} {s : Fs} {w0 w : World} (h : SI B gs s w0 w) : Below B w0 w := by
  obtain ⟨vl, vp, va, h1, h2, h3, h4, h5, h6⟩ := h
  exact h6
theorem SI.here {B gs : Nat} {s : Fs} {w0 w : World} (h : SI B gs s w0 w) : SI B gs s w w := by
  obtain ⟨vl, vp, va, h1, h2, h3, h4, h5, h6⟩ := h
  exact ⟨vl, vp, va, h1, h2, h3, h4, h5, Below.refl _ _⟩
theorem SI.from {B gs : Nat} {s : Fs} {w0 w1 w : World} (h : SI B gs s w1 w) (hb : Below B w0 w1) : SI B gs s w0 w := by
  obtain ⟨vl, vp, va, h1, h2, h3, h4, h5, h6⟩ := h
  exact ⟨vl, vp, va, h1, h2, h3, h4, h5, hb.trans h6⟩
theorem SI.lt {B gs : Nat} {s : Fs} {w0 w : World} (h : SI B gs s w0 w) : gs < w.heap.size := by
  obtain ⟨vl, vp, va, h1, h2, h3, h4, h5, h6⟩ := h
  exact h1.lt
/-- a field of the state turns -/
theorem SI.set {B gs : Nat} {s : Fs} {w0 W : World} {x0 x1 x2 x3 vl vp va : Value} (h : BK W gs #[x0, x1, x2, x3] 28) (h2 : EnW B W vl s.ls) (h3 : EnW B W vp s.ps) (h4 : OM idL 3 39 B W va s.ab) (h5 : Apart vl vp) (h6 : Below B w0 W) (hgs : B ≤ gs) (i : Nat) (u : Value)
    (he : (#[x0, x1, x2, x3] : Array Value).setIfInBounds i u = #[.int .u64 (s.lf : Int), vl, vp, va]) : SI B gs s w0 (W.setCell ⟨gs, i, none⟩ u) := by
  have kt := fun (E : TypeId) (hne : 28 ≠ E) => KT.ofx (Bx.set gs i W u) h hne
  refine ⟨vl, vp, va, by have := h.set i u; rw [he] at this; exact this, OR.kt (enO_ktE (kt _ (by decide)) (kt _ (by decide)) (kt _ (by decide))) h2 (kt _ (by decide)), OR.kt (enO_ktE (kt _ (by decide)) (kt _ (by decide)) (kt _ (by decide))) h3 (kt _ (by decide)), h4.kt (kt _ (by decide)), h5, h6.setCell hgs u⟩
/-- the promises' row turns -/
theorem SI.turnP {B gs : Nat} {s : Fs} {w0 W w : World} {ps' : List En} {x0 vl vp va v' : Value} (h : BK W gs #[x0, vl, vp, va] 28) (h2 : EnW B W vl s.ls) (h3 : EnW B W vp s.ps) (h4 : OM idL 3 39 B W va s.ab) (h5 : Apart vl vp) (h6 : Below B w0 W) (hgs : B ≤ gs) (hBW : B ≤ W.heap.size)
    (k : EnW B w v' ps') (ho : v'.ownBlock = vp.ownBlock) (hg : W.grownBy w vp.ownBlock) :
    BK w gs #[x0, vl, vp, va] 28 ∧ EnW B w vl s.ls ∧ OM idL 3 39 B w va s.ab ∧ Apart vl v' ∧ Below B w0 w := by
  have kt := fun (E : TypeId) (hne : 44 ≠ E) => KT.ofg hg h3.rt hne
  exact ⟨h.kt (kt _ (by decide)), OR.aside (enO_ktE (kt _ (by decide)) (kt _ (by decide)) (kt _ (by decide))) h2 hg h5.symm, h4.kt (kt _ (by decide)), fun j a b => h5 j a (ho ▸ b), h6.grown hg hBW fun j hj => by obtain ⟨css, q, _⟩ := h3; exact (q.lt j hj).1⟩
def noId (i : Id) (l : List En) : List En := l.filter fun x => !isId i x
theorem noId_len (i : Id) (l : List En) : (noId i l).length ≤ l.length := List.length_filter_le _ _
end PM
set_option maxRecDepth 100000 in
set_option maxHeartbeats 4000000 in
theorem forget_any (B gs : Nat) (i : PM.Id) (s : PM.Fs) (w0 w : World) (h : PM.SI B gs s w0 w) (hgs : Hid (B ≤ gs)) :
    Calls Try.prog 42 #[.pointer (some ⟨gs, 0, none⟩), .agg #[.int .i64 i.br, .int .u64 (i.life : Int), .int .u64 (i.ser : Int)]] w fun e w' => e = .returned (.tuple #[]) ∧ PM.SI B gs { s with ps := PM.noId i s.ps } w0 w' := by
  have hBw : B ≤ w.heap.size := Nat.le_trans hgs.out (Nat.le_of_lt h.lt)
  obtain ⟨bf, hbf⟩ : ∃ g, g = w.heap.size := ⟨_, rfl⟩
  obtain ⟨w1, hw1⟩ : ∃ W, W = w.alloc (.cells #[.int .i64 i.br, .int .u64 (i.life : Int), .int .u64 (i.ser : Int)] 39) := ⟨_, rfl⟩
  have hal : Below w.heap.size w w1 := by rw [hw1]; exact (Below.refl _ _).alloc (Nat.le_refl _) _
  have kf : PM.BK w1 bf #[.int .i64 i.br, .int .u64 (i.life : Int), .int .u64 (i.ser : Int)] 39 := by rw [hw1, hbf]; exact PM.BK.new _ _ _
  have hB1 : B ≤ w1.heap.size := Nat.le_trans hBw hal.size
  obtain ⟨vl, vp, va, h1, h2, h3, h4, h5, h6⟩ := h.keep hal hBw
  have hdel := delE_any bf i B vp s.ps w1 h3 kf
  obtain ⟨pa, pc, hpe⟩ := h3.rr.len
  obtain ⟨la, lc, hle⟩ := h2.rr.len
  obtain ⟨aa, ac, hae⟩ := (h4.em PM.idL_len).len
  generalize s.ps.length = pn at hpe
  generalize s.ls.length = ln at hle
  generalize s.ab.length = an at hae
  subst hpe hle hae
  have c0 : w1.cell? ⟨gs, 0, none⟩ = some (.int .u64 (s.lf : Int)) := h1.cell 0
  have c1 : w1.cell? ⟨gs, 1, none⟩ = some (.slice la ln lc) := h1.cell 1
  have c2 : w1.cell? ⟨gs, 2, none⟩ = some (.slice pa pn pc) := h1.cell 2
  have c3 : w1.cell? ⟨gs, 3, none⟩ = some (.slice aa an ac) := h1.cell 3
  have hall := PM.hid (And.intro h1 (And.intro h2 (And.intro h3 (And.intro h4 (And.intro h5 (And.intro h6 hB1))))))
  clear h1 h2 h3 h4 h5 h6 hB1 hBw hal kf h
  obtain ⟨ib, il, ir⟩ := i
  go_enter Try.func42, Try.ntmps42
  go_upto_region 1 with fail
  rw [← hw1, ← hbf]
  clear hw1 hbf
  go_wp2_with fail
  refine hdel.mono ?_
  rintro e w2 ⟨v', rfl, k, ho, hg⟩
  clear hdel c0 c1 c2 c3
  obtain ⟨e1, e2, e3, e4, e5, e6, e7⟩ := hall.out
  obtain ⟨g1, g2, g3, g4, g5⟩ := PM.SI.turnP e1 e2 e3 e4 e5 e6 hgs.out e7 k ho hg
  clear e1 e2 e3 e4 e5 e6 e7 hall
  obtain ⟨qa, qc, hqe⟩ := k.rr.len
  obtain ⟨qn, hqn⟩ : ∃ n, n = (List.filter (fun x => !PM.isId ⟨ib, il, ir⟩ x) s.ps).length := ⟨_, rfl⟩
  rw [← hqn] at hqe
  subst hqe
  have d2 : w2.cell? ⟨gs, 2, none⟩ = some (.slice pa pn pc) := g1.cell 2
  have f2 : w2.frozen? ⟨gs, 2, none⟩ = false := g1.free 2
  have hS := PM.SI.set (s := { s with ps := PM.noId ⟨ib, il, ir⟩ s.ps }) g1 g2 k g3 g4 g5 hgs.out 2 (.slice qa qn qc) rfl
  by_cases hz : qn = 0
  · subst hz
    have hnil : PM.noId ⟨ib, il, ir⟩ s.ps = [] := List.length_eq_zero_iff.1 hqn.symm
    have hS2 : Hid (PM.SI B gs { s with ps := PM.noId ⟨ib, il, ir⟩ s.ps } w0 ((w2.setCell ⟨gs, 2, none⟩ (.slice qa 0 qc)).setCell ⟨gs, 2, none⟩ (.slice none 0 0))) := by
      obtain ⟨vl, vp, va, h1, h2, h3, h4, h5, h6⟩ := hS
      have hk := g1.set 2 (.slice qa 0 qc)
      rw [show (#[.int .u64 (s.lf : Int), .slice la ln lc, .slice pa pn pc, .slice aa an ac] : Array Value).setIfInBounds 2 (.slice qa 0 qc) = #[.int .u64 (s.lf : Int), .slice la ln lc, .slice qa 0 qc, .slice aa an ac] from rfl] at hk
      have kt := fun (E : TypeId) (hne : 28 ≠ E) => PM.KT.ofx (PM.Bx.set gs 2 w2 (.slice qa 0 qc)) g1 hne
      refine PM.hid (PM.SI.set (s := { s with ps := PM.noId ⟨ib, il, ir⟩ s.ps }) hk (PM.OR.kt (PM.enO_ktE (kt _ (by decide)) (kt _ (by decide)) (kt _ (by decide))) g2 (kt _ (by decide))) ?_ (g3.kt (kt _ (by decide))) (PM.Apart.nil _ 0 0) h6 hgs.out 2 (.slice none 0 0) rfl)
      show PM.EnW B _ _ (PM.noId ⟨ib, il, ir⟩ s.ps)
      rw [hnil]
      exact PM.OR.nilrow _
    clear hS k hg g1 g2 g3 g4 g5 hqn hnil
    go_wp2_with fail
    go_end0
    exact ⟨rfl, hS2.out⟩
  · replace hS := PM.hid hS
    have hzz : ((qn : Int) == 0) = false := by simp; exact hz
    clear k hg g1 g2 g3 g4 g5 hqn
    go_wp2_with fail
    go_end0
    exact ⟨rfl, hS.out⟩
end Go.Proofs.Ytphdadlpfjfeoaa
