/-
  CONTRACTS of layer 16: the closures of fold.steps. (Written by tools/mk_sc.py.)
-/
import Derived.Test.YtphdadlpfjfeoaaSb
import Derived.Test.YtphdadlpfjfeoaaRk
namespace Go.Proofs.Ytphdadlpfjfeoaa
open Go.RowKit
set_option linter.unusedVariables false
set_option linter.unusedSimpArgs false
namespace PM
section
variable {α : Type} {R : World → List Value → α → Prop} {e : α → List Value} {c nb : Nat} {E T : TypeId} {B : Nat} {P : Program} {w : World} {v xv : Value} {l : List α} {y : α}
theorem run_omS (ET : MTy P T E c nb) (he : ∀ x, (e x).length = c) (h1 : ∀ x, ∀ u ∈ e x, u.oneCell' = true) (ty : TypeId) (hown : OM e c E B w v l) (hsrc : EM e c w xv [y]) (hn : (l.length + 1) * nb ≤ 140737488355328) (hn2 : l.length + 1 ≤ maxLen) (hB : B ≤ w.heap.size) :
    ∃ v' w', (Builtin.append_ #[T, T] ty #[v, xv]).run P w = .ok v' w' ∧ OM e c E B w' v' (l ++ [y]) ∧ w.grownBy w' v.ownBlock ∧ Sep w v v' := by
  obtain ⟨i, z, hi, hz, hsz, hby, hzs⟩ := ET.row
  obtain ⟨ad, cap, rfl, h1', h2, h3⟩ := hsrc
  obtain ⟨b, off, rfl, h4⟩ := h3 (by simp)
  obtain ⟨v', w', hr, k1, k2, k3⟩ := run_append_sep (P := P) (w := w) B T ty E i z c nb ET.sl hi hz hsz hby hzs ET.pos v l.length (l.flatMap e) hown ⟨b, off, none⟩ 1 cap ([y].flatMap e) (flat_len he [y]) (by
    intro j u hu
    obtain ⟨y', hy, hu'⟩ := flat_inv ET.pos he [y] j u hu
    have ea : (⟨b, off, none⟩ : Addr).add j = ⟨b, off + j, none⟩ := by unfold Addr.add; split <;> simp_all
    rw [ea]
    have := h4 _ y' hy _ u hu'
    rw [show off + j / c * c + j % c = off + j by rw [Nat.add_assoc, Nat.div_add_mod']] at this
    exact this) (by
    intro u hu
    obtain ⟨y', hy, hu⟩ := List.mem_flatMap.1 hu
    exact h1 y' u hu) hn2 hn hB
  exact ⟨v', w', hr, by simpa [OM] using k1, k2, k3⟩
theorem run_orS (ET : MTy P T E c nb) (hS : Stays R E) (ty : TypeId) (hown : OR R c E B w v l) (hsrc : RR R c w xv [y]) (hn : (l.length + 1) * nb ≤ 140737488355328) (hn2 : l.length + 1 ≤ maxLen) (hB : B ≤ w.heap.size) :
    ∃ v' w', (Builtin.append_ #[T, T] ty #[v, xv]).run P w = .ok v' w' ∧ OR R c E B w' v' (l ++ [y]) ∧ w.grownBy w' v.ownBlock ∧ Sep w v v' := by
  obtain ⟨css, g1, g2, g3⟩ := hown
  obtain ⟨csm, k1, k2, k3⟩ := hsrc
  match csm, k2 with
  | [cm], _ =>
    obtain ⟨v', w', hr, h1, h2, h3⟩ := run_omS ET ceL_len ceL_one ty g1 k1 (by rw [g2]; exact hn) (by rw [g2]; exact hn2) hB
    refine ⟨v', w', hr, ⟨css ++ [cm], h1, by simp [g2], fun i cs x hi hx => ?_⟩, h2, h3⟩
    have ht := OM.rowty g1
    by_cases hl : i < css.length
    · rw [List.getElem?_append_left hl] at hi
      rw [List.getElem?_append_left (by omega)] at hx
      exact hS _ _ _ _ _ h2 ht (g3 i cs x hi hx)
    · rw [List.getElem?_append_right (by omega)] at hi
      rw [List.getElem?_append_right (by omega), ← g2] at hx
      exact hS _ _ _ _ _ h2 ht (k3 _ cs x hi hx)
theorem RR.one {w0 : World} (hL : Lasts R) (W : World) (E : TypeId) (cs0 : Ce c) (x : α) (cs : Array Value) (hcs : cs = cs0.1.toArray) (hR : R W cs0.1 x) : RR R c (W.alloc (.cells cs E)) (.slice (some ⟨W.heap.size, 0, none⟩) 1 1) [x] := by
  subst hcs
  refine ⟨[cs0], EM.lit ceL_len W E cs0, rfl, fun i c0 y h1 h2 => ?_⟩
  match i with
  | 0 =>
    simp at h1 h2
    subst h1 h2
    exact hL _ _ _ _ ((Below.refl _ _).alloc (Nat.le_refl _) _) hR
  | i + 1 => simp at h1
end
/-- the parts of a state, by name -/
def SX (B gs lf : Nat) (vl vp va : Value) (L Q : List En) (A : List Id) (w0 w : World) : Prop := BK w gs #[.int .u64 (lf : Int), vl, vp, va] 28 ∧ EnW B w vl L ∧ EnW B w vp Q ∧ OM idL 3 39 B w va A ∧ Apart vl vp ∧ Below B w0 w
theorem SX.keep {B gs lf : Nat} {vl vp va : Value} {L Q : List En} {A : List Id} {w0 W w : World} (hb : Below W.heap.size W w) (hB : B ≤ gs) (h : SX B gs lf vl vp va L Q A w0 W) : SX B gs lf vl vp va L Q A w0 w := by
  obtain ⟨h1, h2, h3, h4, h5, h6⟩ := h
  exact ⟨h1.keep hb, OR.keep enO_lasts hb h2, OR.keep enO_lasts hb h3, h4.keep hb, h5, h6.trans (hb.mono (Nat.le_trans hB (Nat.le_of_lt h1.lt)))⟩
theorem SX.si {B gs : Nat} {s : Fs} {vl vp va : Value} {w0 w : World} (h : SX B gs s.lf vl vp va s.ls s.ps s.ab w0 w) : SI B gs s w0 w := ⟨vl, vp, va, h⟩
theorem SI.keep' {B gs : Nat} {s : Fs} {w0 W w : World} (hb : Below W.heap.size W w) (hB : B ≤ gs) (h : SI B gs s w0 W) : SI B gs s w0 w := h.keep hb (Nat.le_trans hB (Nat.le_of_lt h.lt))
theorem enSt {B : Nat} : Stays (enO 114 112 84 B) 44 := enO_stays (by decide) (by decide) (by decide)
/-- a row of the state has grown, the block not yet -/
theorem SX.growP {B gs lf : Nat} {vl vp va v' : Value} {L Q Q' : List En} {A : List Id} {w0 W w : World} (h : SX B gs lf vl vp va L Q A w0 W) (hB : B ≤ gs) (k : EnW B w v' Q') (hg : W.grownBy w vp.ownBlock) (hs : Sep W vp v') :
    BK w gs #[.int .u64 (lf : Int), vl, vp, va] 28 ∧ EnW B w vl L ∧ EnW B w v' Q' ∧ OM idL 3 39 B w va A ∧ Apart vl v' ∧ Below B w0 w := by
  obtain ⟨h1, h2, h3, h4, h5, h6⟩ := h
  have kt := fun (E : TypeId) (hne : 44 ≠ E) => KT.ofg hg h3.rt hne
  exact ⟨h1.kt (kt _ (by decide)), OR.aside (enO_ktE (kt _ (by decide)) (kt _ (by decide)) (kt _ (by decide))) h2 hg h5.symm, k, h4.kt (kt _ (by decide)), (h5.symm.sep hs (fun j hj => by obtain ⟨css, q, _⟩ := h2; exact (q.lt j hj).2)).symm, h6.grown hg (Nat.le_trans hB (Nat.le_of_lt h1.lt)) fun j hj => by obtain ⟨css, q, _⟩ := h3; exact (q.lt j hj).1⟩
theorem SX.growL {B gs lf : Nat} {vl vp va v' : Value} {L L' Q : List En} {A : List Id} {w0 W w : World} (h : SX B gs lf vl vp va L Q A w0 W) (hB : B ≤ gs) (k : EnW B w v' L') (hg : W.grownBy w vl.ownBlock) (hs : Sep W vl v') :
    BK w gs #[.int .u64 (lf : Int), vl, vp, va] 28 ∧ EnW B w v' L' ∧ EnW B w vp Q ∧ OM idL 3 39 B w va A ∧ Apart v' vp ∧ Below B w0 w := by
  obtain ⟨h1, h2, h3, h4, h5, h6⟩ := h
  have kt := fun (E : TypeId) (hne : 44 ≠ E) => KT.ofg hg h2.rt hne
  exact ⟨h1.kt (kt _ (by decide)), k, OR.aside (enO_ktE (kt _ (by decide)) (kt _ (by decide)) (kt _ (by decide))) h3 hg h5, h4.kt (kt _ (by decide)), h5.sep hs (fun j hj => by obtain ⟨css, q, _⟩ := h3; exact (q.lt j hj).2), h6.grown hg (Nat.le_trans hB (Nat.le_of_lt h1.lt)) fun j hj => by obtain ⟨css, q, _⟩ := h2; exact (q.lt j hj).1⟩
theorem SX.growA {B gs lf : Nat} {vl vp va v' : Value} {L Q : List En} {A A' : List Id} {w0 W w : World} (h : SX B gs lf vl vp va L Q A w0 W) (hB : B ≤ gs) (k : OM idL 3 39 B w v' A') (hg : W.grownBy w va.ownBlock) :
    BK w gs #[.int .u64 (lf : Int), vl, vp, va] 28 ∧ EnW B w vl L ∧ EnW B w vp Q ∧ OM idL 3 39 B w v' A' ∧ Apart vl vp ∧ Below B w0 w := by
  obtain ⟨h1, h2, h3, h4, h5, h6⟩ := h
  have kt := fun (E : TypeId) (hne : 39 ≠ E) => KT.ofg hg (OM.rowty h4) hne
  exact ⟨h1.kt (kt _ (by decide)), OR.kt (enO_ktE (kt _ (by decide)) (kt _ (by decide)) (kt _ (by decide))) h2 (kt _ (by decide)), OR.kt (enO_ktE (kt _ (by decide)) (kt _ (by decide)) (kt _ (by decide))) h3 (kt _ (by decide)), k, h5, h6.grown hg (Nat.le_trans hB (Nat.le_of_lt h1.lt)) fun j hj => (h4.lt j hj).1⟩
/-- one member, out of a new block -/
def SE (B : Nat) (z : En) (x : Value) (W : World) : Prop := (∃ a c, x = .slice a 1 c) ∧ RR (enO 114 112 84 B) 8 W x [z]
def SJ (i : Id) (x : Value) (W : World) : Prop := (∃ a c, x = .slice a 1 c) ∧ EM idL 3 W x [i]
theorem wp_appendS {P : Program} {T : TypeId} {o : Oper} {a : Act} {w w' : World} {v xv v' : Value} {Q : Act → World → Prop} {K : Exit → Act → World → Prop} (hgd : o.guard = none) (s x : Operand) (ho : o.op = .call { callee := .builtin .append, args := #[s, x], argTypes := #[T, T] }) (hs : a.eval s = v) (hx : a.eval x = xv) (hrun : (Builtin.append_ #[T, T] o.type #[v, xv]).run P w = .ok v' w') (h : Q (a.put o.dst v') w') : o.wp P a w Q K := by
  unfold Oper.wp
  simp [execOp, ho, resolve, invoke, builtin, hs, hx, hrun, Result.andThen]
  exact h
/-- what each kind of record does to a state -/
def stL (s : Fs) (n : Nat) : Fs × Int := if n ≤ s.lf then (s, 160) else ({ s with lf := n }, 0)
def stE (s : Fs) (n : Nat) (z : En) : Fs × Int := if (!decide (n = s.ls.length) || hasE s.ls z.id || hasI s.ab z.id) = true then (s, 160) else ({ s with ls := s.ls ++ [z], ps := noId z.id s.ps }, 0)
def stP (s : Fs) (z : En) : Fs × Int := if (hasE s.ls z.id || hasE s.ps z.id || hasI s.ab z.id) = true then (s, 160) else ({ s with ps := s.ps ++ [z] }, 0)
def stA (s : Fs) (i : Id) : Fs × Int := if (hasE s.ls i || hasI s.ab i) = true then (s, 160) else ({ s with ab := s.ab ++ [i], ps := noId i s.ps }, 0)
def stF (s : Fs) (i : Id) : Fs × Int := if (!hasE s.ps i) = true then (s, 160) else ({ s with ps := noId i s.ps }, 0)
end PM
set_option maxRecDepth 100000 in
set_option maxHeartbeats 8000000 in
theorem stL_any (kd : Int) (nn : Nat) (z : PM.En) (fa : Option Addr) (zF fc : Nat) (ea : Option Addr) (zE ec : Nat) (i : PM.Id) (B gs gr gp : Nat) (s : PM.Fs) (w0 w : World) (h : PM.SI B gs s w0 w) (hgs : Hid (B ≤ gs)) (hr : PM.BK w gr #[.int .i64 kd, .int .u64 (nn : Int), .int .i64 z.kind, .int .i64 z.id.br, .int .u64 (z.id.life : Int), .int .u64 (z.id.ser : Int), .int .i64 z.client, .int .u64 (z.sub : Int), .slice fa zF fc, .slice ea zE ec, .int .i64 i.br, .int .u64 (i.life : Int), .int .u64 (i.ser : Int)] 46) (hp : PM.BK w gp #[.pointer (some ⟨gs, 0, none⟩)] 62) (hz : PM.enO 114 112 84 B w [.int .i64 z.kind, .int .i64 z.id.br, .int .u64 (z.id.life : Int), .int .u64 (z.id.ser : Int), .int .i64 z.client, .int .u64 (z.sub : Int), .slice fa zF fc, .slice ea zE ec] z) (hlen : Hid (s.ls.length ≤ 1000 ∧ s.ps.length ≤ 1000 ∧ s.ab.length ≤ 1000)) :
    Calls Try.prog 40 #[.pointer (some ⟨gr, 0, none⟩), .pointer (some ⟨gp, 0, none⟩)] w fun e w' => e = .returned (.int .i64 (PM.stL s nn).2) ∧ PM.SI B gs (PM.stL s nn).1 w0 w' := by
  obtain ⟨vl, vp, va, h1, h2, h3, h4, h5, h6⟩ := h
  have hBw : B ≤ w.heap.size := Nat.le_trans hgs.out (Nat.le_of_lt h1.lt)
  have eL : PM.EnL w vl s.ls := PM.RR.imp h2.rr fun cs x ⟨fv, ev, g1, g2, g3⟩ => ⟨fv, ev, g1, g2.em PM.teL_len, PM.evOr_evl g3⟩
  have eP : PM.EnL w vp s.ps := PM.RR.imp h3.rr fun cs x ⟨fv, ev, g1, g2, g3⟩ => ⟨fv, ev, g1, g2.em PM.teL_len, PM.evOr_evl g3⟩
  have eA := h4.em PM.idL_len
  obtain ⟨la, lc, hle⟩ := eL.len
  obtain ⟨pa, pc, hpe⟩ := eP.len
  obtain ⟨aa, ac, hae⟩ := eA.len
  obtain ⟨ln, hln⟩ : ∃ n, n = s.ls.length := ⟨_, rfl⟩
  obtain ⟨pn, hpn⟩ : ∃ n, n = s.ps.length := ⟨_, rfl⟩
  obtain ⟨an, han⟩ : ∃ n, n = s.ab.length := ⟨_, rfl⟩
  rw [← hln] at hle
  rw [← hpn] at hpe
  rw [← han] at hae
  subst hle hpe hae
  have q1 := fun (W : World) (hb : Below w.heap.size w W) => hasS_any s.lf la ln lc pa pn pc aa an ac i s.ls W (PM.EnL.keep eL hb)
  have q2 := fun (W : World) (hb : Below w.heap.size w W) => promS_any s.lf la ln lc pa pn pc aa an ac i s.ps W (PM.EnL.keep eP hb)
  have q3 := fun (W : World) (hb : Below w.heap.size w W) => abortS_any s.lf la ln lc pa pn pc aa an ac i s.ab W (eA.keep hb)
  have hX : PM.SX B gs s.lf (.slice la ln lc) (.slice pa pn pc) (.slice aa an ac) s.ls s.ps s.ab w0 w := ⟨h1, h2, h3, h4, h5, h6⟩
  replace hX := PM.hid hX
  have hRP := PM.hid (And.intro hr (And.intro hp (And.intro hz (And.intro hBw hln))))
  clear h1 h2 h3 h4 h5 h6 eL eP eA hpn han hr hp hz hBw hln
  obtain ⟨b1, hb1⟩ : ∃ b, b = PM.hasE s.ls i := ⟨_, rfl⟩
  obtain ⟨b2, hb2⟩ : ∃ b, b = PM.hasE s.ps i := ⟨_, rfl⟩
  obtain ⟨b3, hb3⟩ : ∃ b, b = PM.hasI s.ab i := ⟨_, rfl⟩
  rw [← hb1] at q1
  rw [← hb2] at q2
  rw [← hb3] at q3
  replace q1 := PM.hid q1
  replace q2 := PM.hid q2
  replace q3 := PM.hid q3
  have hbb := PM.hid (And.intro hb1 (And.intro hb2 hb3))
  clear hb1 hb2 hb3
  go_enter Try.func40, Try.ntmps40
  go_upto_region 1 with fail
  refine PM.wp_region_st [some 3, some 4, some 5, some 6, some 7, some 8, some 9] [fun x _ => x = .pointer (some ⟨gr, 1, none⟩), fun x _ => x = .int .u64 (nn : Int), fun x _ => x = .pointer (some ⟨gs, 0, none⟩), fun x _ => x = .pointer (some ⟨gs, 0, none⟩), fun x _ => x = .pointer (some ⟨gs, 0, none⟩), fun x _ => x = .int .u64 (s.lf : Int), fun x _ => x = .bool (decide ((nn : Int) ≤ (s.lf : Int)))] (by kernel_rfl) (by kernel_rfl) (by kernel_rfl) ?_ ?_ ?_
  · simp only [List.forall_mem_cons]
    refine ⟨?_, ?_, ?_, ?_, ?_, ?_, ?_, by simp⟩
    all_goals (intro x W W' h hb; first | exact h | exact PM.BS.keep hb h | exact PM.OW.keep hb h)
  · refine ⟨?_, ?_, ?_, ?_, ?_, ?_, ?_, trivial⟩
    all_goals
      intro a W hB hF hd
      have k0 := hF 0 rfl
      have k1 := hF 1 rfl
      have hkp := hRP.out.2.1.keep hB
      have hkr := hRP.out.1.keep hB
      have hks := hX.out.1.keep hB
      have p0 : W.cell? ⟨gp, 0, none⟩ = some (.pointer (some ⟨gs, 0, none⟩)) := hkp.cell 0
      have s0 : W.cell? ⟨gs, 0, none⟩ = some (.int .u64 (s.lf : Int)) := hks.cell 0
      have s1 : W.cell? ⟨gs, 1, none⟩ = some (.slice la ln lc) := hks.cell 1
      have s2 : W.cell? ⟨gs, 2, none⟩ = some (.slice pa pn pc) := hks.cell 2
      have s3 : W.cell? ⟨gs, 3, none⟩ = some (.slice aa an ac) := hks.cell 3
      have r0 : W.cell? ⟨gr, 0, none⟩ = some (.int .i64 kd) := hkr.cell 0
      have r1 : W.cell? ⟨gr, 1, none⟩ = some (.int .u64 (nn : Int)) := hkr.cell 1
      have r2 : W.cell? ⟨gr, 2, none⟩ = some (.int .i64 z.kind) := hkr.cell 2
      have r3 : W.cell? ⟨gr, 3, none⟩ = some (.int .i64 z.id.br) := hkr.cell 3
      have r4 : W.cell? ⟨gr, 4, none⟩ = some (.int .u64 (z.id.life : Int)) := hkr.cell 4
      have r5 : W.cell? ⟨gr, 5, none⟩ = some (.int .u64 (z.id.ser : Int)) := hkr.cell 5
      have r6 : W.cell? ⟨gr, 6, none⟩ = some (.int .i64 z.client) := hkr.cell 6
      have r7 : W.cell? ⟨gr, 7, none⟩ = some (.int .u64 (z.sub : Int)) := hkr.cell 7
      have r8 : W.cell? ⟨gr, 8, none⟩ = some (.slice fa zF fc) := hkr.cell 8
      have r9 : W.cell? ⟨gr, 9, none⟩ = some (.slice ea zE ec) := hkr.cell 9
      have r10 : W.cell? ⟨gr, 10, none⟩ = some (.int .i64 i.br) := hkr.cell 10
      have r11 : W.cell? ⟨gr, 11, none⟩ = some (.int .u64 (i.life : Int)) := hkr.cell 11
      have r12 : W.cell? ⟨gr, 12, none⟩ = some (.int .u64 (i.ser : Int)) := hkr.cell 12
      clear hkp hkr hks
      clear hF
      simp [PM.depsL, PM.spec, PM.sl, Region.binds] at hd k0 k1
      simp only [PM.wantL, PM.spec]
      try simp only [PM.sl]
      go_simp
    all_goals try exact Below.refl _ _
  · intro G W hB hF hS
    have ht : G 9 = .bool (decide ((nn : Int) ≤ (s.lf : Int))) := by simp [PM.allSp, PM.spec] at hS; simp [hS]
    have u0 := hF 0 rfl
    have u1 := hF 1 rfl
    have u2 := hF 2 rfl
    simp [PM.sl] at u0 u1 u2
    rw [show ((List.range (Array.size _)).map G).toArray = #[G 0, G 1, G 2, G 3, G 4, G 5, G 6, G 7, G 8, G 9, G 10, G 11, G 12, G 13, G 14] from rfl]
    clear hF hS
    rw [ht, u0, u1, u2]
    clear ht u0 u1 u2
    have hXW := PM.hid (hX.out.keep hB hgs.out)
    have hRW := PM.hid (And.intro (hRP.out.1.keep hB) (And.intro (hRP.out.2.1.keep hB) (PM.enO_lasts _ _ _ _ hB hRP.out.2.2.1)))
    clear hB
    obtain ⟨bb, hbv⟩ : ∃ b, b = (decide ((nn : Int) ≤ (s.lf : Int))) := ⟨_, rfl⟩
    rw [← hbv]
    replace hbv := PM.hid hbv
    cases bb
    · have hle : ¬ nn ≤ s.lf := by have := of_decide_eq_false hbv.out.symm; omega
      have hres : Hid (PM.stL s nn = ({ s with lf := nn }, 0)) := PM.hid (by unfold PM.stL; rw [if_neg hle])
      obtain ⟨k1, k2, k3, k4, k5, k6⟩ := hXW.out
      have hset := PM.SI.set (s := { s with lf := nn }) k1 k2 k3 k4 k5 k6 hgs.out 0 (.int .u64 (nn : Int)) rfl
      have c0 : W.cell? ⟨gs, 0, none⟩ = some (.int .u64 (s.lf : Int)) := k1.cell 0
      have f0 : W.frozen? ⟨gs, 0, none⟩ = false := k1.free 0
      have p0 : W.cell? ⟨gp, 0, none⟩ = some (.pointer (some ⟨gs, 0, none⟩)) := hRW.out.2.1.cell 0
      have r1 : W.cell? ⟨gr, 1, none⟩ = some (.int .u64 (nn : Int)) := hRW.out.1.cell 1
      replace hset := PM.hid hset
      clear hle hbv k1 k2 k3 k4 k5 k6
      go_wp2_with fail
      go_ret
      rw [hres.out]
      exact ⟨rfl, hset.out⟩
    · have hle : nn ≤ s.lf := by have := of_decide_eq_true hbv.out.symm; omega
      have hres : Hid (PM.stL s nn = (s, 160)) := PM.hid (by unfold PM.stL; rw [if_pos hle])
      clear hle hbv
      go_wp2_with fail
      go_ret
      rw [hres.out]
      exact ⟨rfl, hXW.out.si⟩
set_option maxRecDepth 100000 in
set_option maxHeartbeats 8000000 in
theorem stF_any (kd : Int) (nn : Nat) (z : PM.En) (fa : Option Addr) (zF fc : Nat) (ea : Option Addr) (zE ec : Nat) (i : PM.Id) (B gs gr gp : Nat) (s : PM.Fs) (w0 w : World) (h : PM.SI B gs s w0 w) (hgs : Hid (B ≤ gs)) (hr : PM.BK w gr #[.int .i64 kd, .int .u64 (nn : Int), .int .i64 z.kind, .int .i64 z.id.br, .int .u64 (z.id.life : Int), .int .u64 (z.id.ser : Int), .int .i64 z.client, .int .u64 (z.sub : Int), .slice fa zF fc, .slice ea zE ec, .int .i64 i.br, .int .u64 (i.life : Int), .int .u64 (i.ser : Int)] 46) (hp : PM.BK w gp #[.pointer (some ⟨gs, 0, none⟩)] 62) (hz : PM.enO 114 112 84 B w [.int .i64 z.kind, .int .i64 z.id.br, .int .u64 (z.id.life : Int), .int .u64 (z.id.ser : Int), .int .i64 z.client, .int .u64 (z.sub : Int), .slice fa zF fc, .slice ea zE ec] z) (hlen : Hid (s.ls.length ≤ 1000 ∧ s.ps.length ≤ 1000 ∧ s.ab.length ≤ 1000)) :
    Calls Try.prog 45 #[.pointer (some ⟨gp, 0, none⟩), .pointer (some ⟨gr, 0, none⟩)] w fun e w' => e = .returned (.int .i64 (PM.stF s i).2) ∧ PM.SI B gs (PM.stF s i).1 w0 w' := by
  obtain ⟨vl, vp, va, h1, h2, h3, h4, h5, h6⟩ := h
  have hBw : B ≤ w.heap.size := Nat.le_trans hgs.out (Nat.le_of_lt h1.lt)
  have eL : PM.EnL w vl s.ls := PM.RR.imp h2.rr fun cs x ⟨fv, ev, g1, g2, g3⟩ => ⟨fv, ev, g1, g2.em PM.teL_len, PM.evOr_evl g3⟩
  have eP : PM.EnL w vp s.ps := PM.RR.imp h3.rr fun cs x ⟨fv, ev, g1, g2, g3⟩ => ⟨fv, ev, g1, g2.em PM.teL_len, PM.evOr_evl g3⟩
  have eA := h4.em PM.idL_len
  obtain ⟨la, lc, hle⟩ := eL.len
  obtain ⟨pa, pc, hpe⟩ := eP.len
  obtain ⟨aa, ac, hae⟩ := eA.len
  obtain ⟨ln, hln⟩ : ∃ n, n = s.ls.length := ⟨_, rfl⟩
  obtain ⟨pn, hpn⟩ : ∃ n, n = s.ps.length := ⟨_, rfl⟩
  obtain ⟨an, han⟩ : ∃ n, n = s.ab.length := ⟨_, rfl⟩
  rw [← hln] at hle
  rw [← hpn] at hpe
  rw [← han] at hae
  subst hle hpe hae
  have q1 := fun (W : World) (hb : Below w.heap.size w W) => hasS_any s.lf la ln lc pa pn pc aa an ac i s.ls W (PM.EnL.keep eL hb)
  have q2 := fun (W : World) (hb : Below w.heap.size w W) => promS_any s.lf la ln lc pa pn pc aa an ac i s.ps W (PM.EnL.keep eP hb)
  have q3 := fun (W : World) (hb : Below w.heap.size w W) => abortS_any s.lf la ln lc pa pn pc aa an ac i s.ab W (eA.keep hb)
  have hX : PM.SX B gs s.lf (.slice la ln lc) (.slice pa pn pc) (.slice aa an ac) s.ls s.ps s.ab w0 w := ⟨h1, h2, h3, h4, h5, h6⟩
  replace hX := PM.hid hX
  have hRP := PM.hid (And.intro hr (And.intro hp (And.intro hz (And.intro hBw hln))))
  clear h1 h2 h3 h4 h5 h6 eL eP eA hpn han hr hp hz hBw hln
  obtain ⟨b1, hb1⟩ : ∃ b, b = PM.hasE s.ls i := ⟨_, rfl⟩
  obtain ⟨b2, hb2⟩ : ∃ b, b = PM.hasE s.ps i := ⟨_, rfl⟩
  obtain ⟨b3, hb3⟩ : ∃ b, b = PM.hasI s.ab i := ⟨_, rfl⟩
  rw [← hb1] at q1
  rw [← hb2] at q2
  rw [← hb3] at q3
  replace q1 := PM.hid q1
  replace q2 := PM.hid q2
  replace q3 := PM.hid q3
  have hbb := PM.hid (And.intro hb1 (And.intro hb2 hb3))
  clear hb1 hb2 hb3
  go_enter Try.func45, Try.ntmps45
  go_upto_region 1 with fail
  refine PM.wp_region_st [some 3, some 4, some 5, some 6, some 7, some 8, some 9] [fun x _ => x = .pointer (some ⟨gs, 0, none⟩), fun x _ => x = .pointer (some ⟨gs, 0, none⟩), fun x _ => x = .agg #[.int .u64 (s.lf : Int), .slice la ln lc, .slice pa pn pc, .slice aa an ac], fun x _ => x = .pointer (some ⟨gr, 10, none⟩), fun x _ => x = .agg #[.int .i64 i.br, .int .u64 (i.life : Int), .int .u64 (i.ser : Int)], fun x _ => x = .bool b2, fun x _ => x = .bool (!b2)] (by kernel_rfl) (by kernel_rfl) (by kernel_rfl) ?_ ?_ ?_
  · simp only [List.forall_mem_cons]
    refine ⟨?_, ?_, ?_, ?_, ?_, ?_, ?_, by simp⟩
    all_goals (intro x W W' h hb; first | exact h | exact PM.BS.keep hb h | exact PM.OW.keep hb h)
  · refine ⟨?_, ?_, ?_, ?_, ?_, ?_, ?_, trivial⟩
    all_goals
      intro a W hB hF hd
      have k0 := hF 0 rfl
      have k1 := hF 1 rfl
      have hkp := hRP.out.2.1.keep hB
      have hkr := hRP.out.1.keep hB
      have hks := hX.out.1.keep hB
      have p0 : W.cell? ⟨gp, 0, none⟩ = some (.pointer (some ⟨gs, 0, none⟩)) := hkp.cell 0
      have s0 : W.cell? ⟨gs, 0, none⟩ = some (.int .u64 (s.lf : Int)) := hks.cell 0
      have s1 : W.cell? ⟨gs, 1, none⟩ = some (.slice la ln lc) := hks.cell 1
      have s2 : W.cell? ⟨gs, 2, none⟩ = some (.slice pa pn pc) := hks.cell 2
      have s3 : W.cell? ⟨gs, 3, none⟩ = some (.slice aa an ac) := hks.cell 3
      have r0 : W.cell? ⟨gr, 0, none⟩ = some (.int .i64 kd) := hkr.cell 0
      have r1 : W.cell? ⟨gr, 1, none⟩ = some (.int .u64 (nn : Int)) := hkr.cell 1
      have r2 : W.cell? ⟨gr, 2, none⟩ = some (.int .i64 z.kind) := hkr.cell 2
      have r3 : W.cell? ⟨gr, 3, none⟩ = some (.int .i64 z.id.br) := hkr.cell 3
      have r4 : W.cell? ⟨gr, 4, none⟩ = some (.int .u64 (z.id.life : Int)) := hkr.cell 4
      have r5 : W.cell? ⟨gr, 5, none⟩ = some (.int .u64 (z.id.ser : Int)) := hkr.cell 5
      have r6 : W.cell? ⟨gr, 6, none⟩ = some (.int .i64 z.client) := hkr.cell 6
      have r7 : W.cell? ⟨gr, 7, none⟩ = some (.int .u64 (z.sub : Int)) := hkr.cell 7
      have r8 : W.cell? ⟨gr, 8, none⟩ = some (.slice fa zF fc) := hkr.cell 8
      have r9 : W.cell? ⟨gr, 9, none⟩ = some (.slice ea zE ec) := hkr.cell 9
      have r10 : W.cell? ⟨gr, 10, none⟩ = some (.int .i64 i.br) := hkr.cell 10
      have r11 : W.cell? ⟨gr, 11, none⟩ = some (.int .u64 (i.life : Int)) := hkr.cell 11
      have r12 : W.cell? ⟨gr, 12, none⟩ = some (.int .u64 (i.ser : Int)) := hkr.cell 12
      clear hkp hkr hks
      clear hF
      simp [PM.depsL, PM.spec, PM.sl, Region.binds] at hd k0 k1
      simp only [PM.wantL, PM.spec]
      try simp only [PM.sl]
      go_simp
    all_goals try exact Below.refl _ _
    · first | (refine (q1.out W hB).mono ?_; rintro e w' ⟨rfl, hb⟩; first | exact ⟨hb, rfl⟩ | exact ⟨hb, _, rfl, rfl⟩ | (refine ⟨hb, ?_⟩; simp)) | (refine (q2.out W hB).mono ?_; rintro e w' ⟨rfl, hb⟩; first | exact ⟨hb, rfl⟩ | exact ⟨hb, _, rfl, rfl⟩ | (refine ⟨hb, ?_⟩; simp)) | (refine (q3.out W hB).mono ?_; rintro e w' ⟨rfl, hb⟩; first | exact ⟨hb, rfl⟩ | exact ⟨hb, _, rfl, rfl⟩ | (refine ⟨hb, ?_⟩; simp))
  · intro G W hB hF hS
    have ht : G 9 = .bool (!b2) := by simp [PM.allSp, PM.spec] at hS; simp [hS]
    have u0 := hF 0 rfl
    have u1 := hF 1 rfl
    have u2 := hF 2 rfl
    simp [PM.sl] at u0 u1 u2
    rw [show ((List.range (Array.size _)).map G).toArray = #[G 0, G 1, G 2, G 3, G 4, G 5, G 6, G 7, G 8, G 9, G 10, G 11, G 12, G 13] from rfl]
    clear hF hS
    rw [ht, u0, u1, u2]
    clear ht u0 u1 u2
    have hXW := PM.hid (hX.out.keep hB hgs.out)
    have hRW := PM.hid (And.intro (hRP.out.1.keep hB) (And.intro (hRP.out.2.1.keep hB) (PM.enO_lasts _ _ _ _ hB hRP.out.2.2.1)))
    clear hB
    obtain ⟨bb, hbv⟩ : ∃ b, b = (!b2) := ⟨_, rfl⟩
    rw [← hbv]
    replace hbv := PM.hid hbv
    cases bb
    · have hres : Hid (PM.stF s i = ({ s with ps := PM.noId i s.ps }, 0)) := PM.hid (by unfold PM.stF; rw [if_neg (by rw [← hbb.out.2.1, ← hbv.out]; simp)])
      have hsi := PM.hid hXW.out.si
      have kp := hRW.out.2.1
      have kr := hRW.out.1
      have p0 : W.cell? ⟨gp, 0, none⟩ = some (.pointer (some ⟨gs, 0, none⟩)) := kp.cell 0
      have x0 : W.cell? ⟨gr, 10, none⟩ = some (.int .i64 i.br) := kr.cell 10
      have x1 : W.cell? ⟨gr, 11, none⟩ = some (.int .u64 (i.life : Int)) := kr.cell 11
      have x2 : W.cell? ⟨gr, 12, none⟩ = some (.int .u64 (i.ser : Int)) := kr.cell 12
      clear kp kr
      have hfo := forget_any B gs i _ w0 W hsi.out hgs
      go_wp2_with fail
      refine hfo.mono ?_
      rintro e w' ⟨rfl, hs2⟩
      replace hs2 := PM.hid hs2
      clear hfo p0 x0 x1 x2
      go_wp2_with fail
      go_ret
      rw [hres.out]
      exact ⟨rfl, hs2.out⟩
    · have hres : Hid (PM.stF s i = (s, 160)) := PM.hid (by unfold PM.stF; rw [if_pos (by rw [← hbb.out.2.1, ← hbv.out])])
      go_wp2_with fail
      go_ret
      rw [hres.out]
      exact ⟨rfl, hXW.out.si⟩
set_option maxRecDepth 100000 in
set_option maxHeartbeats 8000000 in
theorem stE_any (kd : Int) (nn : Nat) (z : PM.En) (fa : Option Addr) (zF fc : Nat) (ea : Option Addr) (zE ec : Nat) (i : PM.Id) (B gs gr gp : Nat) (s : PM.Fs) (w0 w : World) (h : PM.SI B gs s w0 w) (hgs : Hid (B ≤ gs)) (hr : PM.BK w gr #[.int .i64 kd, .int .u64 (nn : Int), .int .i64 z.kind, .int .i64 z.id.br, .int .u64 (z.id.life : Int), .int .u64 (z.id.ser : Int), .int .i64 z.client, .int .u64 (z.sub : Int), .slice fa zF fc, .slice ea zE ec, .int .i64 i.br, .int .u64 (i.life : Int), .int .u64 (i.ser : Int)] 46) (hp : PM.BK w gp #[.pointer (some ⟨gs, 0, none⟩)] 62) (hz : PM.enO 114 112 84 B w [.int .i64 z.kind, .int .i64 z.id.br, .int .u64 (z.id.life : Int), .int .u64 (z.id.ser : Int), .int .i64 z.client, .int .u64 (z.sub : Int), .slice fa zF fc, .slice ea zE ec] z) (hlen : Hid (s.ls.length ≤ 1000 ∧ s.ps.length ≤ 1000 ∧ s.ab.length ≤ 1000)) :
    Calls Try.prog 41 #[.pointer (some ⟨gr, 0, none⟩), .pointer (some ⟨gp, 0, none⟩)] w fun e w' => e = .returned (.int .i64 (PM.stE s nn z).2) ∧ PM.SI B gs (PM.stE s nn z).1 w0 w' := by
  obtain ⟨vl, vp, va, h1, h2, h3, h4, h5, h6⟩ := h
  have hBw : B ≤ w.heap.size := Nat.le_trans hgs.out (Nat.le_of_lt h1.lt)
  have eL : PM.EnL w vl s.ls := PM.RR.imp h2.rr fun cs x ⟨fv, ev, g1, g2, g3⟩ => ⟨fv, ev, g1, g2.em PM.teL_len, PM.evOr_evl g3⟩
  have eP : PM.EnL w vp s.ps := PM.RR.imp h3.rr fun cs x ⟨fv, ev, g1, g2, g3⟩ => ⟨fv, ev, g1, g2.em PM.teL_len, PM.evOr_evl g3⟩
  have eA := h4.em PM.idL_len
  obtain ⟨la, lc, hle⟩ := eL.len
  obtain ⟨pa, pc, hpe⟩ := eP.len
  obtain ⟨aa, ac, hae⟩ := eA.len
  obtain ⟨ln, hln⟩ : ∃ n, n = s.ls.length := ⟨_, rfl⟩
  obtain ⟨pn, hpn⟩ : ∃ n, n = s.ps.length := ⟨_, rfl⟩
  obtain ⟨an, han⟩ : ∃ n, n = s.ab.length := ⟨_, rfl⟩
  rw [← hln] at hle
  rw [← hpn] at hpe
  rw [← han] at hae
  subst hle hpe hae
  have q1 := fun (W : World) (hb : Below w.heap.size w W) => hasS_any s.lf la ln lc pa pn pc aa an ac z.id s.ls W (PM.EnL.keep eL hb)
  have q2 := fun (W : World) (hb : Below w.heap.size w W) => promS_any s.lf la ln lc pa pn pc aa an ac z.id s.ps W (PM.EnL.keep eP hb)
  have q3 := fun (W : World) (hb : Below w.heap.size w W) => abortS_any s.lf la ln lc pa pn pc aa an ac z.id s.ab W (eA.keep hb)
  have hX : PM.SX B gs s.lf (.slice la ln lc) (.slice pa pn pc) (.slice aa an ac) s.ls s.ps s.ab w0 w := ⟨h1, h2, h3, h4, h5, h6⟩
  replace hX := PM.hid hX
  have hRP := PM.hid (And.intro hr (And.intro hp (And.intro hz (And.intro hBw hln))))
  obtain ⟨c0, hc0⟩ : ∃ b, b = (!decide (nn = s.ls.length)) := ⟨_, rfl⟩
  have wl : IntKind.u64.wrap (ln : Int) = (ln : Int) := by have := hlen.out.1; rw [IntKind.wrap_u64]; omega
  have hc1 : (((nn : Nat) : Int) != (ln : Int)) = c0 := by rw [hc0, ← hln]; by_cases hh : nn = ln <;> first | (simp [hh]; done) | (simp [hh]; omega)
  have hc2 : (!decide (((nn : Nat) : Int) = (ln : Int))) = c0 := by rw [hc0, ← hln]; by_cases hh : nn = ln <;> first | (simp [hh]; done) | (simp [hh]; omega)
  replace hc0 := PM.hid hc0
  replace hc1 := PM.hid hc1
  replace hc2 := PM.hid hc2
  replace wl := PM.hid wl
  clear h1 h2 h3 h4 h5 h6 eL eP eA hpn han hr hp hz hBw hln
  obtain ⟨b1, hb1⟩ : ∃ b, b = PM.hasE s.ls z.id := ⟨_, rfl⟩
  obtain ⟨b2, hb2⟩ : ∃ b, b = PM.hasE s.ps z.id := ⟨_, rfl⟩
  obtain ⟨b3, hb3⟩ : ∃ b, b = PM.hasI s.ab z.id := ⟨_, rfl⟩
  rw [← hb1] at q1
  rw [← hb2] at q2
  rw [← hb3] at q3
  replace q1 := PM.hid q1
  replace q2 := PM.hid q2
  replace q3 := PM.hid q3
  have hbb := PM.hid (And.intro hb1 (And.intro hb2 hb3))
  clear hb1 hb2 hb3
  go_enter Try.func41, Try.ntmps41
  go_upto_region 1 with fail
  refine PM.wp_region_st [some 3, some 4, some 5, some 6, some 7, some 8, some 9, some 10, some 11, some 12, some 13, some 14, some 15, some 16, some 17, some 18, some 19, some 20, some 21, some 22, some 23, some 24, some 25, some 26, some 27, some 28, some 29] [fun x _ => x = .pointer (some ⟨gr, 1, none⟩), fun x _ => x = .int .u64 (nn : Int), fun x _ => x = .pointer (some ⟨gs, 0, none⟩), fun x _ => x = .pointer (some ⟨gs, 0, none⟩), fun x _ => x = .pointer (some ⟨gs, 1, none⟩), fun x _ => x = .slice la ln lc, fun x _ => x = .int .i64 (ln : Int), fun x _ => x = .int .u64 (ln : Int), fun x _ => x = .bool c0, fun x _ => x = .bool c0, fun x _ => c0 = false → x = .pointer (some ⟨gs, 0, none⟩), fun x _ => c0 = false → x = .pointer (some ⟨gs, 0, none⟩), fun x _ => c0 = false → x = .agg #[.int .u64 (s.lf : Int), .slice la ln lc, .slice pa pn pc, .slice aa an ac], fun x _ => c0 = false → x = .pointer (some ⟨gr, 2, none⟩), fun x _ => c0 = false → x = .pointer (some ⟨gr, 3, none⟩), fun x _ => c0 = false → x = .agg #[.int .i64 z.id.br, .int .u64 (z.id.life : Int), .int .u64 (z.id.ser : Int)], fun x _ => c0 = false → x = .bool b1, fun x _ => x = .bool (c0 || b1), fun x _ => x = .bool (c0 || b1), fun x _ => (c0 || b1) = false → x = .pointer (some ⟨gs, 0, none⟩), fun x _ => (c0 || b1) = false → x = .pointer (some ⟨gs, 0, none⟩), fun x _ => (c0 || b1) = false → x = .agg #[.int .u64 (s.lf : Int), .slice la ln lc, .slice pa pn pc, .slice aa an ac], fun x _ => (c0 || b1) = false → x = .pointer (some ⟨gr, 2, none⟩), fun x _ => (c0 || b1) = false → x = .pointer (some ⟨gr, 3, none⟩), fun x _ => (c0 || b1) = false → x = .agg #[.int .i64 z.id.br, .int .u64 (z.id.life : Int), .int .u64 (z.id.ser : Int)], fun x _ => (c0 || b1) = false → x = .bool b3, fun x _ => x = .bool (c0 || b1 || b3)] (by kernel_rfl) (by kernel_rfl) (by kernel_rfl) ?_ ?_ ?_
  · simp only [List.forall_mem_cons]
    refine ⟨?_, ?_, ?_, ?_, ?_, ?_, ?_, ?_, ?_, ?_, ?_, ?_, ?_, ?_, ?_, ?_, ?_, ?_, ?_, ?_, ?_, ?_, ?_, ?_, ?_, ?_, ?_, by simp⟩
    all_goals (intro x W W' h hb; first | exact h | exact PM.BS.keep hb h | exact PM.OW.keep hb h)
  · refine ⟨?_, ?_, ?_, ?_, ?_, ?_, ?_, ?_, ?_, ?_, ?_, ?_, ?_, ?_, ?_, ?_, ?_, ?_, ?_, ?_, ?_, ?_, ?_, ?_, ?_, ?_, ?_, trivial⟩
    all_goals
      intro a W hB hF hd
      have k0 := hF 0 rfl
      have k1 := hF 1 rfl
      have hkp := hRP.out.2.1.keep hB
      have hkr := hRP.out.1.keep hB
      have hks := hX.out.1.keep hB
      have p0 : W.cell? ⟨gp, 0, none⟩ = some (.pointer (some ⟨gs, 0, none⟩)) := hkp.cell 0
      have s0 : W.cell? ⟨gs, 0, none⟩ = some (.int .u64 (s.lf : Int)) := hks.cell 0
      have s1 : W.cell? ⟨gs, 1, none⟩ = some (.slice la ln lc) := hks.cell 1
      have s2 : W.cell? ⟨gs, 2, none⟩ = some (.slice pa pn pc) := hks.cell 2
      have s3 : W.cell? ⟨gs, 3, none⟩ = some (.slice aa an ac) := hks.cell 3
      have r0 : W.cell? ⟨gr, 0, none⟩ = some (.int .i64 kd) := hkr.cell 0
      have r1 : W.cell? ⟨gr, 1, none⟩ = some (.int .u64 (nn : Int)) := hkr.cell 1
      have r2 : W.cell? ⟨gr, 2, none⟩ = some (.int .i64 z.kind) := hkr.cell 2
      have r3 : W.cell? ⟨gr, 3, none⟩ = some (.int .i64 z.id.br) := hkr.cell 3
      have r4 : W.cell? ⟨gr, 4, none⟩ = some (.int .u64 (z.id.life : Int)) := hkr.cell 4
      have r5 : W.cell? ⟨gr, 5, none⟩ = some (.int .u64 (z.id.ser : Int)) := hkr.cell 5
      have r6 : W.cell? ⟨gr, 6, none⟩ = some (.int .i64 z.client) := hkr.cell 6
      have r7 : W.cell? ⟨gr, 7, none⟩ = some (.int .u64 (z.sub : Int)) := hkr.cell 7
      have r8 : W.cell? ⟨gr, 8, none⟩ = some (.slice fa zF fc) := hkr.cell 8
      have r9 : W.cell? ⟨gr, 9, none⟩ = some (.slice ea zE ec) := hkr.cell 9
      have r10 : W.cell? ⟨gr, 10, none⟩ = some (.int .i64 i.br) := hkr.cell 10
      have r11 : W.cell? ⟨gr, 11, none⟩ = some (.int .u64 (i.life : Int)) := hkr.cell 11
      have r12 : W.cell? ⟨gr, 12, none⟩ = some (.int .u64 (i.ser : Int)) := hkr.cell 12
      clear hkp hkr hks
      cases c0 <;> cases b1
    all_goals
      clear hF
      simp [PM.depsL, PM.spec, PM.sl, Region.binds] at hd k0 k1
      simp only [PM.wantL, PM.spec]
      try simp only [PM.sl]
      go_simp
    all_goals try exact Below.refl _ _
    all_goals try (intro h; simp [undef] at h; done)
    · first | exact ⟨Below.refl _ _, by rw [hc1.out]⟩ | exact ⟨Below.refl _ _, by rw [hc2.out]⟩ | exact ⟨Below.refl _ _, by rw [wl.out]⟩ | exact ⟨Below.refl _ _, _, rfl, by rw [wl.out]⟩ | exact wl.out | exact hc1.out | exact hc2.out | (rw [← hc1.out]; done) | (simp [wl.out]; done) | (rw [← hc2.out]; simp; done) | (refine (q1.out W hB).mono ?_; rintro e w' ⟨rfl, hb⟩; first | exact ⟨hb, rfl⟩ | exact ⟨hb, _, rfl, rfl⟩ | (refine ⟨hb, ?_⟩; simp)) | (refine (q2.out W hB).mono ?_; rintro e w' ⟨rfl, hb⟩; first | exact ⟨hb, rfl⟩ | exact ⟨hb, _, rfl, rfl⟩ | (refine ⟨hb, ?_⟩; simp)) | (refine (q3.out W hB).mono ?_; rintro e w' ⟨rfl, hb⟩; first | exact ⟨hb, rfl⟩ | exact ⟨hb, _, rfl, rfl⟩ | (refine ⟨hb, ?_⟩; simp))
    · first | exact ⟨Below.refl _ _, by rw [hc1.out]⟩ | exact ⟨Below.refl _ _, by rw [hc2.out]⟩ | exact ⟨Below.refl _ _, by rw [wl.out]⟩ | exact ⟨Below.refl _ _, _, rfl, by rw [wl.out]⟩ | exact wl.out | exact hc1.out | exact hc2.out | (rw [← hc1.out]; done) | (simp [wl.out]; done) | (rw [← hc2.out]; simp; done) | (refine (q1.out W hB).mono ?_; rintro e w' ⟨rfl, hb⟩; first | exact ⟨hb, rfl⟩ | exact ⟨hb, _, rfl, rfl⟩ | (refine ⟨hb, ?_⟩; simp)) | (refine (q2.out W hB).mono ?_; rintro e w' ⟨rfl, hb⟩; first | exact ⟨hb, rfl⟩ | exact ⟨hb, _, rfl, rfl⟩ | (refine ⟨hb, ?_⟩; simp)) | (refine (q3.out W hB).mono ?_; rintro e w' ⟨rfl, hb⟩; first | exact ⟨hb, rfl⟩ | exact ⟨hb, _, rfl, rfl⟩ | (refine ⟨hb, ?_⟩; simp))
    · first | exact ⟨Below.refl _ _, by rw [hc1.out]⟩ | exact ⟨Below.refl _ _, by rw [hc2.out]⟩ | exact ⟨Below.refl _ _, by rw [wl.out]⟩ | exact ⟨Below.refl _ _, _, rfl, by rw [wl.out]⟩ | exact wl.out | exact hc1.out | exact hc2.out | (rw [← hc1.out]; done) | (simp [wl.out]; done) | (rw [← hc2.out]; simp; done) | (refine (q1.out W hB).mono ?_; rintro e w' ⟨rfl, hb⟩; first | exact ⟨hb, rfl⟩ | exact ⟨hb, _, rfl, rfl⟩ | (refine ⟨hb, ?_⟩; simp)) | (refine (q2.out W hB).mono ?_; rintro e w' ⟨rfl, hb⟩; first | exact ⟨hb, rfl⟩ | exact ⟨hb, _, rfl, rfl⟩ | (refine ⟨hb, ?_⟩; simp)) | (refine (q3.out W hB).mono ?_; rintro e w' ⟨rfl, hb⟩; first | exact ⟨hb, rfl⟩ | exact ⟨hb, _, rfl, rfl⟩ | (refine ⟨hb, ?_⟩; simp))
    · first | exact ⟨Below.refl _ _, by rw [hc1.out]⟩ | exact ⟨Below.refl _ _, by rw [hc2.out]⟩ | exact ⟨Below.refl _ _, by rw [wl.out]⟩ | exact ⟨Below.refl _ _, _, rfl, by rw [wl.out]⟩ | exact wl.out | exact hc1.out | exact hc2.out | (rw [← hc1.out]; done) | (simp [wl.out]; done) | (rw [← hc2.out]; simp; done) | (refine (q1.out W hB).mono ?_; rintro e w' ⟨rfl, hb⟩; first | exact ⟨hb, rfl⟩ | exact ⟨hb, _, rfl, rfl⟩ | (refine ⟨hb, ?_⟩; simp)) | (refine (q2.out W hB).mono ?_; rintro e w' ⟨rfl, hb⟩; first | exact ⟨hb, rfl⟩ | exact ⟨hb, _, rfl, rfl⟩ | (refine ⟨hb, ?_⟩; simp)) | (refine (q3.out W hB).mono ?_; rintro e w' ⟨rfl, hb⟩; first | exact ⟨hb, rfl⟩ | exact ⟨hb, _, rfl, rfl⟩ | (refine ⟨hb, ?_⟩; simp))
    · first | exact ⟨Below.refl _ _, by rw [hc1.out]⟩ | exact ⟨Below.refl _ _, by rw [hc2.out]⟩ | exact ⟨Below.refl _ _, by rw [wl.out]⟩ | exact ⟨Below.refl _ _, _, rfl, by rw [wl.out]⟩ | exact wl.out | exact hc1.out | exact hc2.out | (rw [← hc1.out]; done) | (simp [wl.out]; done) | (rw [← hc2.out]; simp; done) | (refine (q1.out W hB).mono ?_; rintro e w' ⟨rfl, hb⟩; first | exact ⟨hb, rfl⟩ | exact ⟨hb, _, rfl, rfl⟩ | (refine ⟨hb, ?_⟩; simp)) | (refine (q2.out W hB).mono ?_; rintro e w' ⟨rfl, hb⟩; first | exact ⟨hb, rfl⟩ | exact ⟨hb, _, rfl, rfl⟩ | (refine ⟨hb, ?_⟩; simp)) | (refine (q3.out W hB).mono ?_; rintro e w' ⟨rfl, hb⟩; first | exact ⟨hb, rfl⟩ | exact ⟨hb, _, rfl, rfl⟩ | (refine ⟨hb, ?_⟩; simp))
    · first | exact ⟨Below.refl _ _, by rw [hc1.out]⟩ | exact ⟨Below.refl _ _, by rw [hc2.out]⟩ | exact ⟨Below.refl _ _, by rw [wl.out]⟩ | exact ⟨Below.refl _ _, _, rfl, by rw [wl.out]⟩ | exact wl.out | exact hc1.out | exact hc2.out | (rw [← hc1.out]; done) | (simp [wl.out]; done) | (rw [← hc2.out]; simp; done) | (refine (q1.out W hB).mono ?_; rintro e w' ⟨rfl, hb⟩; first | exact ⟨hb, rfl⟩ | exact ⟨hb, _, rfl, rfl⟩ | (refine ⟨hb, ?_⟩; simp)) | (refine (q2.out W hB).mono ?_; rintro e w' ⟨rfl, hb⟩; first | exact ⟨hb, rfl⟩ | exact ⟨hb, _, rfl, rfl⟩ | (refine ⟨hb, ?_⟩; simp)) | (refine (q3.out W hB).mono ?_; rintro e w' ⟨rfl, hb⟩; first | exact ⟨hb, rfl⟩ | exact ⟨hb, _, rfl, rfl⟩ | (refine ⟨hb, ?_⟩; simp))
    · first | exact ⟨Below.refl _ _, by rw [hc1.out]⟩ | exact ⟨Below.refl _ _, by rw [hc2.out]⟩ | exact ⟨Below.refl _ _, by rw [wl.out]⟩ | exact ⟨Below.refl _ _, _, rfl, by rw [wl.out]⟩ | exact wl.out | exact hc1.out | exact hc2.out | (rw [← hc1.out]; done) | (simp [wl.out]; done) | (rw [← hc2.out]; simp; done) | (refine (q1.out W hB).mono ?_; rintro e w' ⟨rfl, hb⟩; first | exact ⟨hb, rfl⟩ | exact ⟨hb, _, rfl, rfl⟩ | (refine ⟨hb, ?_⟩; simp)) | (refine (q2.out W hB).mono ?_; rintro e w' ⟨rfl, hb⟩; first | exact ⟨hb, rfl⟩ | exact ⟨hb, _, rfl, rfl⟩ | (refine ⟨hb, ?_⟩; simp)) | (refine (q3.out W hB).mono ?_; rintro e w' ⟨rfl, hb⟩; first | exact ⟨hb, rfl⟩ | exact ⟨hb, _, rfl, rfl⟩ | (refine ⟨hb, ?_⟩; simp))
    · first | exact ⟨Below.refl _ _, by rw [hc1.out]⟩ | exact ⟨Below.refl _ _, by rw [hc2.out]⟩ | exact ⟨Below.refl _ _, by rw [wl.out]⟩ | exact ⟨Below.refl _ _, _, rfl, by rw [wl.out]⟩ | exact wl.out | exact hc1.out | exact hc2.out | (rw [← hc1.out]; done) | (simp [wl.out]; done) | (rw [← hc2.out]; simp; done) | (refine (q1.out W hB).mono ?_; rintro e w' ⟨rfl, hb⟩; first | exact ⟨hb, rfl⟩ | exact ⟨hb, _, rfl, rfl⟩ | (refine ⟨hb, ?_⟩; simp)) | (refine (q2.out W hB).mono ?_; rintro e w' ⟨rfl, hb⟩; first | exact ⟨hb, rfl⟩ | exact ⟨hb, _, rfl, rfl⟩ | (refine ⟨hb, ?_⟩; simp)) | (refine (q3.out W hB).mono ?_; rintro e w' ⟨rfl, hb⟩; first | exact ⟨hb, rfl⟩ | exact ⟨hb, _, rfl, rfl⟩ | (refine ⟨hb, ?_⟩; simp))
    · first | exact ⟨Below.refl _ _, by rw [hc1.out]⟩ | exact ⟨Below.refl _ _, by rw [hc2.out]⟩ | exact ⟨Below.refl _ _, by rw [wl.out]⟩ | exact ⟨Below.refl _ _, _, rfl, by rw [wl.out]⟩ | exact wl.out | exact hc1.out | exact hc2.out | (rw [← hc1.out]; done) | (simp [wl.out]; done) | (rw [← hc2.out]; simp; done) | (refine (q1.out W hB).mono ?_; rintro e w' ⟨rfl, hb⟩; first | exact ⟨hb, rfl⟩ | exact ⟨hb, _, rfl, rfl⟩ | (refine ⟨hb, ?_⟩; simp)) | (refine (q2.out W hB).mono ?_; rintro e w' ⟨rfl, hb⟩; first | exact ⟨hb, rfl⟩ | exact ⟨hb, _, rfl, rfl⟩ | (refine ⟨hb, ?_⟩; simp)) | (refine (q3.out W hB).mono ?_; rintro e w' ⟨rfl, hb⟩; first | exact ⟨hb, rfl⟩ | exact ⟨hb, _, rfl, rfl⟩ | (refine ⟨hb, ?_⟩; simp))
    · first | exact ⟨Below.refl _ _, by rw [hc1.out]⟩ | exact ⟨Below.refl _ _, by rw [hc2.out]⟩ | exact ⟨Below.refl _ _, by rw [wl.out]⟩ | exact ⟨Below.refl _ _, _, rfl, by rw [wl.out]⟩ | exact wl.out | exact hc1.out | exact hc2.out | (rw [← hc1.out]; done) | (simp [wl.out]; done) | (rw [← hc2.out]; simp; done) | (refine (q1.out W hB).mono ?_; rintro e w' ⟨rfl, hb⟩; first | exact ⟨hb, rfl⟩ | exact ⟨hb, _, rfl, rfl⟩ | (refine ⟨hb, ?_⟩; simp)) | (refine (q2.out W hB).mono ?_; rintro e w' ⟨rfl, hb⟩; first | exact ⟨hb, rfl⟩ | exact ⟨hb, _, rfl, rfl⟩ | (refine ⟨hb, ?_⟩; simp)) | (refine (q3.out W hB).mono ?_; rintro e w' ⟨rfl, hb⟩; first | exact ⟨hb, rfl⟩ | exact ⟨hb, _, rfl, rfl⟩ | (refine ⟨hb, ?_⟩; simp))
    · first | exact ⟨Below.refl _ _, by rw [hc1.out]⟩ | exact ⟨Below.refl _ _, by rw [hc2.out]⟩ | exact ⟨Below.refl _ _, by rw [wl.out]⟩ | exact ⟨Below.refl _ _, _, rfl, by rw [wl.out]⟩ | exact wl.out | exact hc1.out | exact hc2.out | (rw [← hc1.out]; done) | (simp [wl.out]; done) | (rw [← hc2.out]; simp; done) | (refine (q1.out W hB).mono ?_; rintro e w' ⟨rfl, hb⟩; first | exact ⟨hb, rfl⟩ | exact ⟨hb, _, rfl, rfl⟩ | (refine ⟨hb, ?_⟩; simp)) | (refine (q2.out W hB).mono ?_; rintro e w' ⟨rfl, hb⟩; first | exact ⟨hb, rfl⟩ | exact ⟨hb, _, rfl, rfl⟩ | (refine ⟨hb, ?_⟩; simp)) | (refine (q3.out W hB).mono ?_; rintro e w' ⟨rfl, hb⟩; first | exact ⟨hb, rfl⟩ | exact ⟨hb, _, rfl, rfl⟩ | (refine ⟨hb, ?_⟩; simp))
  · intro G W hB hF hS
    have ht : G 29 = .bool (c0 || b1 || b3) := by simp [PM.allSp, PM.spec] at hS; simp [hS]
    have u0 := hF 0 rfl
    have u1 := hF 1 rfl
    have u2 := hF 2 rfl
    simp [PM.sl] at u0 u1 u2
    rw [show ((List.range (Array.size _)).map G).toArray = #[G 0, G 1, G 2, G 3, G 4, G 5, G 6, G 7, G 8, G 9, G 10, G 11, G 12, G 13, G 14, G 15, G 16, G 17, G 18, G 19, G 20, G 21, G 22, G 23, G 24, G 25, G 26, G 27, G 28, G 29, G 30, G 31, G 32, G 33, G 34, G 35, G 36, G 37, G 38, G 39, G 40, G 41, G 42, G 43, G 44, G 45] from rfl]
    clear hF hS
    rw [ht, u0, u1, u2]
    clear ht u0 u1 u2
    have hXW := PM.hid (hX.out.keep hB hgs.out)
    have hRW := PM.hid (And.intro (hRP.out.1.keep hB) (And.intro (hRP.out.2.1.keep hB) (PM.enO_lasts _ _ _ _ hB hRP.out.2.2.1)))
    clear hB
    obtain ⟨bb, hbv⟩ : ∃ b, b = (c0 || b1 || b3) := ⟨_, rfl⟩
    rw [← hbv]
    replace hbv := PM.hid hbv
    cases bb
    · have hres : Hid (PM.stE s nn z = ({ s with ls := s.ls ++ [z], ps := PM.noId z.id s.ps }, 0)) := PM.hid (by unfold PM.stE; rw [if_neg (by rw [← hc0.out, ← hbb.out.1, ← hbb.out.2.2, ← hbv.out]; simp)])
      clear hbv hbb hX hRP q1 q2 q3
      go_upto_region 3 with fail
      refine PM.wp_region_stK (fun W W' => PM.KT W W' 62 ∧ PM.KT W W' 46) (fun W W' => Below W.heap.size W W') (fun W => PM.SX B gs s.lf (.slice la ln lc) (.slice pa pn pc) (.slice aa an ac) s.ls s.ps s.ab w0 W ∧ PM.enO 114 112 84 B W [.int .i64 z.kind, .int .i64 z.id.br, .int .u64 (z.id.life : Int), .int .u64 (z.id.ser : Int), .int .i64 z.client, .int .u64 (z.sub : Int), .slice fa zF fc, .slice ea zE ec] z) (fun _ _ h => h) (fun h => ⟨PM.KT.of h _, PM.KT.of h _⟩) (fun h k => ⟨h.1.trans k.1, h.2.trans k.2⟩) [some 30, some 31, some 32, some 33, some 34, some 35, some 36, some 37, some 38, some 39, some 40, some 40] [some 30, some 31, some 32, some 33, some 34, some 35, some 36, some 37, some 38, some 39, some 40, none] [[], [], [1], [1, 2], [1, 2, 3], [], [5], [5, 6], [1, 2, 3, 4, 5, 6, 7], [0, 1, 2, 3, 4, 5, 6, 7, 8], [0, 1, 2, 3, 4, 5, 6, 7, 8, 9], [0, 1, 2, 3, 4, 5, 6, 7, 8, 9, 10]] [false, false, false, false, false, false, false, true, true, false, false, true] [8, 11] [([], false), ([], false), ([1], false), ([2], false), ([3], true), ([], false), ([5], false), ([6], true), ([4, 7], true), ([0], false), ([9], false), ([10, 8], false)] [11] [fun x _ => x = .pointer (some ⟨gs, 0, none⟩), fun x _ => x = .pointer (some ⟨gs, 0, none⟩), fun x _ => x = .pointer (some ⟨gs, 0, none⟩), fun x _ => x = .pointer (some ⟨gs, 1, none⟩), fun x _ => x = .slice la ln lc, fun x _ => x = .pointer (some ⟨gr, 2, none⟩), fun x _ => x = .agg #[.int .i64 z.kind, .int .i64 z.id.br, .int .u64 (z.id.life : Int), .int .u64 (z.id.ser : Int), .int .i64 z.client, .int .u64 (z.sub : Int), .slice fa zF fc, .slice ea zE ec], fun x W => PM.SE B z x W, fun x W => (∃ a n c, x = .slice a n c) ∧ PM.BK W gs #[.int .u64 (s.lf : Int), .slice la ln lc, .slice pa pn pc, .slice aa an ac] 28 ∧ PM.EnW B W x (s.ls ++ [z]) ∧ PM.EnW B W (.slice pa pn pc) s.ps ∧ PM.OM PM.idL 3 39 B W (.slice aa an ac) s.ab ∧ PM.Apart x (.slice pa pn pc) ∧ Below B w0 W, fun x _ => x = .pointer (some ⟨gs, 0, none⟩), fun x _ => x = .pointer (some ⟨gs, 1, none⟩), fun x W => PM.SI B gs { s with ls := s.ls ++ [z] } w0 W] (by kernel_rfl) (by kernel_rfl) (by kernel_rfl) (by kernel_rfl) (by kernel_rfl) (by kernel_rfl) (by kernel_rfl) (by kernel_rfl) (by kernel_rfl) ?_ ?_ ?_ ?_ ?_ ?_
      · simp only [List.zip_cons_cons, List.zip_nil_right, List.forall_mem_cons]
        refine ⟨?_, ?_, ?_, ?_, ?_, ?_, ?_, ?_, ?_, ?_, ?_, ?_, by simp⟩
        all_goals (intro hk v W W' h hb; first | exact Bool.noConfusion hk | exact h)
      · simp only [List.forall_mem_cons]
        refine ⟨?_, ?_, ?_, ?_, ?_, ?_, ?_, ?_, ?_, ?_, ?_, ?_, by simp⟩
        all_goals (intro v W W' h hb; first | exact h | (obtain ⟨he, hR⟩ := h; exact ⟨he, PM.RR.keep PM.enO_lasts hb hR⟩) | (obtain ⟨he, k1, k2, k3, k4, k5, k6⟩ := h; exact ⟨he, k1.keep hb, PM.OR.keep PM.enO_lasts hb k2, PM.OR.keep PM.enO_lasts hb k3, k4.keep hb, k5, k6.trans (hb.mono (Nat.le_trans hgs.out (Nat.le_of_lt k1.lt)))⟩) | exact h.keep' hb hgs.out)
      · exact fun W W' h hb => ⟨h.1.keep hb hgs.out, PM.enO_lasts _ _ _ _ hb h.2⟩
      · exact ⟨hXW.out, hRW.out.2.2⟩
      · refine ⟨?_, ?_, ?_, ?_, ?_, ?_, ?_, ?_, ?_, ?_, ?_, ?_, trivial⟩
        all_goals
          intro a W hB hF hd hp
          have k0 := hF 0 rfl
          have k1 := hF 1 rfl
          have hkp := PM.BK.kt hRW.out.2.1 hB.1
          have hkr := PM.BK.kt hRW.out.1 hB.2
          have p0 : W.cell? ⟨gp, 0, none⟩ = some (.pointer (some ⟨gs, 0, none⟩)) := hkp.cell 0
          have r0 : W.cell? ⟨gr, 0, none⟩ = some (.int .i64 kd) := hkr.cell 0
          have r1 : W.cell? ⟨gr, 1, none⟩ = some (.int .u64 (nn : Int)) := hkr.cell 1
          have r2 : W.cell? ⟨gr, 2, none⟩ = some (.int .i64 z.kind) := hkr.cell 2
          have r3 : W.cell? ⟨gr, 3, none⟩ = some (.int .i64 z.id.br) := hkr.cell 3
          have r4 : W.cell? ⟨gr, 4, none⟩ = some (.int .u64 (z.id.life : Int)) := hkr.cell 4
          have r5 : W.cell? ⟨gr, 5, none⟩ = some (.int .u64 (z.id.ser : Int)) := hkr.cell 5
          have r6 : W.cell? ⟨gr, 6, none⟩ = some (.int .i64 z.client) := hkr.cell 6
          have r7 : W.cell? ⟨gr, 7, none⟩ = some (.int .u64 (z.sub : Int)) := hkr.cell 7
          have r8 : W.cell? ⟨gr, 8, none⟩ = some (.slice fa zF fc) := hkr.cell 8
          have r9 : W.cell? ⟨gr, 9, none⟩ = some (.slice ea zE ec) := hkr.cell 9
          have r10 : W.cell? ⟨gr, 10, none⟩ = some (.int .i64 i.br) := hkr.cell 10
          have r11 : W.cell? ⟨gr, 11, none⟩ = some (.int .u64 (i.life : Int)) := hkr.cell 11
          have r12 : W.cell? ⟨gr, 12, none⟩ = some (.int .u64 (i.ser : Int)) := hkr.cell 12
          clear hkp hkr
          clear hF
          simp [PM.depsK, PM.spec, PM.sl] at hd hp k0 k1
          simp only [PM.wantL, PM.spec, PM.Spv]
          try simp only [PM.sl]
          first
            | (have hd' : _ ∧ PM.SE B z _ W := hd
               obtain ⟨e32, ⟨a, c, he⟩, hR⟩ := hd'
               rw [he] at hR
               obtain ⟨v', w', hrun, t1, t2, t3⟩ := PM.run_orS tyEnO PM.enSt 25 hp.1.2.1 hR (by have := hlen.out; omega) (by have := hlen.out; unfold maxLen; omega) (Nat.le_trans hgs.out (Nat.le_of_lt hp.1.1.lt))
               have hgw := PM.SX.growL hp.1 hgs.out t1 t2 t3
               obtain ⟨h1, h2, h3, h4, h5, h6⟩ := hp.1
               obtain ⟨ra, rc, hre⟩ := t1.rr.len
               first | rw [if_pos trivial] | skip
               refine PM.wp_appendS rfl _ _ rfl (by simp [go_sem, e32]) (by simp [go_sem, he]) hrun ?_
               exact ⟨by first | exact (⟨PM.KT.ofg t2 h2.rt (by decide), PM.KT.ofg t2 h2.rt (by decide)⟩ : PM.KT W w' 62 ∧ PM.KT W w' 46) | (rw [if_pos rfl]; exact (⟨PM.KT.ofg t2 h2.rt (by decide), PM.KT.ofg t2 h2.rt (by decide)⟩ : PM.KT W w' 62 ∧ PM.KT W w' 46)) | (simp only [if_true]; exact (⟨PM.KT.ofg t2 h2.rt (by decide), PM.KT.ofg t2 h2.rt (by decide)⟩ : PM.KT W w' 62 ∧ PM.KT W w' 46)) | (simp; exact (⟨PM.KT.ofg t2 h2.rt (by decide), PM.KT.ofg t2 h2.rt (by decide)⟩ : PM.KT W w' 62 ∧ PM.KT W w' 46)), _, rfl, ⟨_, _, _, hre⟩, hgw⟩)
            | go_simp
        all_goals try exact Below.refl _ _
        · have g2 : W.cell? ⟨gs, 1, none⟩ = some (.slice la ln lc) := hp.1.1.cell 1
          go_simp
          first | done | exact Below.refl _ _ | exact ⟨Below.refl _ _, _, rfl, rfl⟩ | exact ⟨Below.refl _ _, rfl⟩
        · exact ⟨(Below.refl _ _).alloc (Nat.le_refl _) _, _, rfl, ⟨some ⟨W.heap.size, 0, none⟩, 1, rfl⟩, PM.RR.one (w0 := W) PM.enO_lasts W _ (PM.enCe z fa zF fc ea zE ec) z _ rfl hp.2⟩
        · obtain ⟨⟨a, n, c, he⟩, k1, k2, k3, k4, k5, k6⟩ := hd.2
          simp only [he] at k2 k3 k4 k5
          have g2 : W.cell? ⟨gs, 1, none⟩ = some (.slice la ln lc) := k1.cell 1
          have gf : W.frozen? ⟨gs, 1, none⟩ = false := k1.free 1
          have hfin := PM.SI.set (s := { s with ls := s.ls ++ [z] }) k1 k2 k3 k4 k5 k6 hgs.out 1 (.slice a n c) rfl
          have hx := PM.Bx.set gs 1 W (.slice a n c)
          simp only [he]
          go_simp
          first | exact ⟨PM.KT.ofx hx k1 (by decide), PM.KT.ofx hx k1 (by decide)⟩ | exact ⟨PM.KT.ofx hx k1 (by decide), PM.KT.ofx hx k1 (by decide), hfin⟩
      · intro G W hB hF hS
        simp only [PM.allK, PM.spec] at hS
        simp at hS
        have u0 := hF 0 rfl
        have u1 := hF 1 rfl
        have u2 := hF 2 rfl
        simp [PM.sl] at u0 u1 u2
        rw [show ((List.range (Array.size _)).map G).toArray = #[G 0, G 1, G 2, G 3, G 4, G 5, G 6, G 7, G 8, G 9, G 10, G 11, G 12, G 13, G 14, G 15, G 16, G 17, G 18, G 19, G 20, G 21, G 22, G 23, G 24, G 25, G 26, G 27, G 28, G 29, G 30, G 31, G 32, G 33, G 34, G 35, G 36, G 37, G 38, G 39, G 40, G 41, G 42, G 43, G 44, G 45] from rfl]
        clear hF
        rw [u0, u1, u2]
        clear u0 u1 u2
        have hsi := PM.hid hS
        have kp := PM.BK.kt hRW.out.2.1 hB.1
        have kr := PM.BK.kt hRW.out.1 hB.2
        have p0 : W.cell? ⟨gp, 0, none⟩ = some (.pointer (some ⟨gs, 0, none⟩)) := kp.cell 0
        have x0 : W.cell? ⟨gr, 3, none⟩ = some (.int .i64 z.id.br) := kr.cell 3
        have x1 : W.cell? ⟨gr, 4, none⟩ = some (.int .u64 (z.id.life : Int)) := kr.cell 4
        have x2 : W.cell? ⟨gr, 5, none⟩ = some (.int .u64 (z.id.ser : Int)) := kr.cell 5
        clear hS hB kp kr
        have hfo := forget_any B gs z.id _ w0 W hsi.out hgs
        go_wp2_with fail
        refine hfo.mono ?_
        rintro e w' ⟨rfl, hs2⟩
        replace hs2 := PM.hid hs2
        clear hfo p0 x0 x1 x2
        go_wp2_with fail
        go_ret
        rw [hres.out]
        exact ⟨rfl, hs2.out⟩
    · have hres : Hid (PM.stE s nn z = (s, 160)) := PM.hid (by unfold PM.stE; rw [if_pos (by rw [← hc0.out, ← hbb.out.1, ← hbb.out.2.2, ← hbv.out])])
      go_wp2_with fail
      go_ret
      rw [hres.out]
      exact ⟨rfl, hXW.out.si⟩
set_option maxRecDepth 100000 in
set_option maxHeartbeats 8000000 in
theorem stP_any (kd : Int) (nn : Nat) (z : PM.En) (fa : Option Addr) (zF fc : Nat) (ea : Option Addr) (zE ec : Nat) (i : PM.Id) (B gs gr gp : Nat) (s : PM.Fs) (w0 w : World) (h : PM.SI B gs s w0 w) (hgs : Hid (B ≤ gs)) (hr : PM.BK w gr #[.int .i64 kd, .int .u64 (nn : Int), .int .i64 z.kind, .int .i64 z.id.br, .int .u64 (z.id.life : Int), .int .u64 (z.id.ser : Int), .int .i64 z.client, .int .u64 (z.sub : Int), .slice fa zF fc, .slice ea zE ec, .int .i64 i.br, .int .u64 (i.life : Int), .int .u64 (i.ser : Int)] 46) (hp : PM.BK w gp #[.pointer (some ⟨gs, 0, none⟩)] 62) (hz : PM.enO 114 112 84 B w [.int .i64 z.kind, .int .i64 z.id.br, .int .u64 (z.id.life : Int), .int .u64 (z.id.ser : Int), .int .i64 z.client, .int .u64 (z.sub : Int), .slice fa zF fc, .slice ea zE ec] z) (hlen : Hid (s.ls.length ≤ 1000 ∧ s.ps.length ≤ 1000 ∧ s.ab.length ≤ 1000)) :
    Calls Try.prog 43 #[.pointer (some ⟨gp, 0, none⟩), .pointer (some ⟨gr, 0, none⟩)] w fun e w' => e = .returned (.int .i64 (PM.stP s z).2) ∧ PM.SI B gs (PM.stP s z).1 w0 w' := by
  obtain ⟨vl, vp, va, h1, h2, h3, h4, h5, h6⟩ := h
  have hBw : B ≤ w.heap.size := Nat.le_trans hgs.out (Nat.le_of_lt h1.lt)
  have eL : PM.EnL w vl s.ls := PM.RR.imp h2.rr fun cs x ⟨fv, ev, g1, g2, g3⟩ => ⟨fv, ev, g1, g2.em PM.teL_len, PM.evOr_evl g3⟩
  have eP : PM.EnL w vp s.ps := PM.RR.imp h3.rr fun cs x ⟨fv, ev, g1, g2, g3⟩ => ⟨fv, ev, g1, g2.em PM.teL_len, PM.evOr_evl g3⟩
  have eA := h4.em PM.idL_len
  obtain ⟨la, lc, hle⟩ := eL.len
  obtain ⟨pa, pc, hpe⟩ := eP.len
  obtain ⟨aa, ac, hae⟩ := eA.len
  obtain ⟨ln, hln⟩ : ∃ n, n = s.ls.length := ⟨_, rfl⟩
  obtain ⟨pn, hpn⟩ : ∃ n, n = s.ps.length := ⟨_, rfl⟩
  obtain ⟨an, han⟩ : ∃ n, n = s.ab.length := ⟨_, rfl⟩
  rw [← hln] at hle
  rw [← hpn] at hpe
  rw [← han] at hae
  subst hle hpe hae
  have q1 := fun (W : World) (hb : Below w.heap.size w W) => hasS_any s.lf la ln lc pa pn pc aa an ac z.id s.ls W (PM.EnL.keep eL hb)
  have q2 := fun (W : World) (hb : Below w.heap.size w W) => promS_any s.lf la ln lc pa pn pc aa an ac z.id s.ps W (PM.EnL.keep eP hb)
  have q3 := fun (W : World) (hb : Below w.heap.size w W) => abortS_any s.lf la ln lc pa pn pc aa an ac z.id s.ab W (eA.keep hb)
  have hX : PM.SX B gs s.lf (.slice la ln lc) (.slice pa pn pc) (.slice aa an ac) s.ls s.ps s.ab w0 w := ⟨h1, h2, h3, h4, h5, h6⟩
  replace hX := PM.hid hX
  have hRP := PM.hid (And.intro hr (And.intro hp (And.intro hz (And.intro hBw hln))))
  clear h1 h2 h3 h4 h5 h6 eL eP eA hpn han hr hp hz hBw hln
  obtain ⟨b1, hb1⟩ : ∃ b, b = PM.hasE s.ls z.id := ⟨_, rfl⟩
  obtain ⟨b2, hb2⟩ : ∃ b, b = PM.hasE s.ps z.id := ⟨_, rfl⟩
  obtain ⟨b3, hb3⟩ : ∃ b, b = PM.hasI s.ab z.id := ⟨_, rfl⟩
  rw [← hb1] at q1
  rw [← hb2] at q2
  rw [← hb3] at q3
  replace q1 := PM.hid q1
  replace q2 := PM.hid q2
  replace q3 := PM.hid q3
  have hbb := PM.hid (And.intro hb1 (And.intro hb2 hb3))
  clear hb1 hb2 hb3
  go_enter Try.func43, Try.ntmps43
  go_upto_region 1 with fail
  refine PM.wp_region_st [some 3, some 4, some 5, some 6, some 7, some 8, some 9, some 10, some 11, some 12, some 13, some 14, some 15, some 16, some 17, some 18, some 19, some 20, some 21, some 22, some 23, some 24, some 25, some 26, some 27] [fun x _ => x = .pointer (some ⟨gs, 0, none⟩), fun x _ => x = .pointer (some ⟨gs, 0, none⟩), fun x _ => x = .agg #[.int .u64 (s.lf : Int), .slice la ln lc, .slice pa pn pc, .slice aa an ac], fun x _ => x = .pointer (some ⟨gr, 2, none⟩), fun x _ => x = .pointer (some ⟨gr, 3, none⟩), fun x _ => x = .agg #[.int .i64 z.id.br, .int .u64 (z.id.life : Int), .int .u64 (z.id.ser : Int)], fun x _ => x = .bool b1, fun x _ => x = .bool b1, fun x _ => b1 = false → x = .pointer (some ⟨gs, 0, none⟩), fun x _ => b1 = false → x = .pointer (some ⟨gs, 0, none⟩), fun x _ => b1 = false → x = .agg #[.int .u64 (s.lf : Int), .slice la ln lc, .slice pa pn pc, .slice aa an ac], fun x _ => b1 = false → x = .pointer (some ⟨gr, 2, none⟩), fun x _ => b1 = false → x = .pointer (some ⟨gr, 3, none⟩), fun x _ => b1 = false → x = .agg #[.int .i64 z.id.br, .int .u64 (z.id.life : Int), .int .u64 (z.id.ser : Int)], fun x _ => b1 = false → x = .bool b2, fun x _ => x = .bool (b1 || b2), fun x _ => x = .bool (b1 || b2), fun x _ => (b1 || b2) = false → x = .pointer (some ⟨gs, 0, none⟩), fun x _ => (b1 || b2) = false → x = .pointer (some ⟨gs, 0, none⟩), fun x _ => (b1 || b2) = false → x = .agg #[.int .u64 (s.lf : Int), .slice la ln lc, .slice pa pn pc, .slice aa an ac], fun x _ => (b1 || b2) = false → x = .pointer (some ⟨gr, 2, none⟩), fun x _ => (b1 || b2) = false → x = .pointer (some ⟨gr, 3, none⟩), fun x _ => (b1 || b2) = false → x = .agg #[.int .i64 z.id.br, .int .u64 (z.id.life : Int), .int .u64 (z.id.ser : Int)], fun x _ => (b1 || b2) = false → x = .bool b3, fun x _ => x = .bool (b1 || b2 || b3)] (by kernel_rfl) (by kernel_rfl) (by kernel_rfl) ?_ ?_ ?_
  · simp only [List.forall_mem_cons]
    refine ⟨?_, ?_, ?_, ?_, ?_, ?_, ?_, ?_, ?_, ?_, ?_, ?_, ?_, ?_, ?_, ?_, ?_, ?_, ?_, ?_, ?_, ?_, ?_, ?_, ?_, by simp⟩
    all_goals (intro x W W' h hb; first | exact h | exact PM.BS.keep hb h | exact PM.OW.keep hb h)
  · refine ⟨?_, ?_, ?_, ?_, ?_, ?_, ?_, ?_, ?_, ?_, ?_, ?_, ?_, ?_, ?_, ?_, ?_, ?_, ?_, ?_, ?_, ?_, ?_, ?_, ?_, trivial⟩
    all_goals
      intro a W hB hF hd
      have k0 := hF 0 rfl
      have k1 := hF 1 rfl
      have hkp := hRP.out.2.1.keep hB
      have hkr := hRP.out.1.keep hB
      have hks := hX.out.1.keep hB
      have p0 : W.cell? ⟨gp, 0, none⟩ = some (.pointer (some ⟨gs, 0, none⟩)) := hkp.cell 0
      have s0 : W.cell? ⟨gs, 0, none⟩ = some (.int .u64 (s.lf : Int)) := hks.cell 0
      have s1 : W.cell? ⟨gs, 1, none⟩ = some (.slice la ln lc) := hks.cell 1
      have s2 : W.cell? ⟨gs, 2, none⟩ = some (.slice pa pn pc) := hks.cell 2
      have s3 : W.cell? ⟨gs, 3, none⟩ = some (.slice aa an ac) := hks.cell 3
      have r0 : W.cell? ⟨gr, 0, none⟩ = some (.int .i64 kd) := hkr.cell 0
      have r1 : W.cell? ⟨gr, 1, none⟩ = some (.int .u64 (nn : Int)) := hkr.cell 1
      have r2 : W.cell? ⟨gr, 2, none⟩ = some (.int .i64 z.kind) := hkr.cell 2
      have r3 : W.cell? ⟨gr, 3, none⟩ = some (.int .i64 z.id.br) := hkr.cell 3
      have r4 : W.cell? ⟨gr, 4, none⟩ = some (.int .u64 (z.id.life : Int)) := hkr.cell 4
      have r5 : W.cell? ⟨gr, 5, none⟩ = some (.int .u64 (z.id.ser : Int)) := hkr.cell 5
      have r6 : W.cell? ⟨gr, 6, none⟩ = some (.int .i64 z.client) := hkr.cell 6
      have r7 : W.cell? ⟨gr, 7, none⟩ = some (.int .u64 (z.sub : Int)) := hkr.cell 7
      have r8 : W.cell? ⟨gr, 8, none⟩ = some (.slice fa zF fc) := hkr.cell 8
      have r9 : W.cell? ⟨gr, 9, none⟩ = some (.slice ea zE ec) := hkr.cell 9
      have r10 : W.cell? ⟨gr, 10, none⟩ = some (.int .i64 i.br) := hkr.cell 10
      have r11 : W.cell? ⟨gr, 11, none⟩ = some (.int .u64 (i.life : Int)) := hkr.cell 11
      have r12 : W.cell? ⟨gr, 12, none⟩ = some (.int .u64 (i.ser : Int)) := hkr.cell 12
      clear hkp hkr hks
      cases b1 <;> cases b2
    all_goals
      clear hF
      simp [PM.depsL, PM.spec, PM.sl, Region.binds] at hd k0 k1
      simp only [PM.wantL, PM.spec]
      try simp only [PM.sl]
      go_simp
    all_goals try exact Below.refl _ _
    all_goals try (intro h; simp [undef] at h; done)
    · first | (refine (q1.out W hB).mono ?_; rintro e w' ⟨rfl, hb⟩; first | exact ⟨hb, rfl⟩ | exact ⟨hb, _, rfl, rfl⟩ | (refine ⟨hb, ?_⟩; simp)) | (refine (q2.out W hB).mono ?_; rintro e w' ⟨rfl, hb⟩; first | exact ⟨hb, rfl⟩ | exact ⟨hb, _, rfl, rfl⟩ | (refine ⟨hb, ?_⟩; simp)) | (refine (q3.out W hB).mono ?_; rintro e w' ⟨rfl, hb⟩; first | exact ⟨hb, rfl⟩ | exact ⟨hb, _, rfl, rfl⟩ | (refine ⟨hb, ?_⟩; simp))
    · first | (refine (q1.out W hB).mono ?_; rintro e w' ⟨rfl, hb⟩; first | exact ⟨hb, rfl⟩ | exact ⟨hb, _, rfl, rfl⟩ | (refine ⟨hb, ?_⟩; simp)) | (refine (q2.out W hB).mono ?_; rintro e w' ⟨rfl, hb⟩; first | exact ⟨hb, rfl⟩ | exact ⟨hb, _, rfl, rfl⟩ | (refine ⟨hb, ?_⟩; simp)) | (refine (q3.out W hB).mono ?_; rintro e w' ⟨rfl, hb⟩; first | exact ⟨hb, rfl⟩ | exact ⟨hb, _, rfl, rfl⟩ | (refine ⟨hb, ?_⟩; simp))
    · first | (refine (q1.out W hB).mono ?_; rintro e w' ⟨rfl, hb⟩; first | exact ⟨hb, rfl⟩ | exact ⟨hb, _, rfl, rfl⟩ | (refine ⟨hb, ?_⟩; simp)) | (refine (q2.out W hB).mono ?_; rintro e w' ⟨rfl, hb⟩; first | exact ⟨hb, rfl⟩ | exact ⟨hb, _, rfl, rfl⟩ | (refine ⟨hb, ?_⟩; simp)) | (refine (q3.out W hB).mono ?_; rintro e w' ⟨rfl, hb⟩; first | exact ⟨hb, rfl⟩ | exact ⟨hb, _, rfl, rfl⟩ | (refine ⟨hb, ?_⟩; simp))
    · first | (refine (q1.out W hB).mono ?_; rintro e w' ⟨rfl, hb⟩; first | exact ⟨hb, rfl⟩ | exact ⟨hb, _, rfl, rfl⟩ | (refine ⟨hb, ?_⟩; simp)) | (refine (q2.out W hB).mono ?_; rintro e w' ⟨rfl, hb⟩; first | exact ⟨hb, rfl⟩ | exact ⟨hb, _, rfl, rfl⟩ | (refine ⟨hb, ?_⟩; simp)) | (refine (q3.out W hB).mono ?_; rintro e w' ⟨rfl, hb⟩; first | exact ⟨hb, rfl⟩ | exact ⟨hb, _, rfl, rfl⟩ | (refine ⟨hb, ?_⟩; simp))
    · first | (refine (q1.out W hB).mono ?_; rintro e w' ⟨rfl, hb⟩; first | exact ⟨hb, rfl⟩ | exact ⟨hb, _, rfl, rfl⟩ | (refine ⟨hb, ?_⟩; simp)) | (refine (q2.out W hB).mono ?_; rintro e w' ⟨rfl, hb⟩; first | exact ⟨hb, rfl⟩ | exact ⟨hb, _, rfl, rfl⟩ | (refine ⟨hb, ?_⟩; simp)) | (refine (q3.out W hB).mono ?_; rintro e w' ⟨rfl, hb⟩; first | exact ⟨hb, rfl⟩ | exact ⟨hb, _, rfl, rfl⟩ | (refine ⟨hb, ?_⟩; simp))
    · first | (refine (q1.out W hB).mono ?_; rintro e w' ⟨rfl, hb⟩; first | exact ⟨hb, rfl⟩ | exact ⟨hb, _, rfl, rfl⟩ | (refine ⟨hb, ?_⟩; simp)) | (refine (q2.out W hB).mono ?_; rintro e w' ⟨rfl, hb⟩; first | exact ⟨hb, rfl⟩ | exact ⟨hb, _, rfl, rfl⟩ | (refine ⟨hb, ?_⟩; simp)) | (refine (q3.out W hB).mono ?_; rintro e w' ⟨rfl, hb⟩; first | exact ⟨hb, rfl⟩ | exact ⟨hb, _, rfl, rfl⟩ | (refine ⟨hb, ?_⟩; simp))
    · first | (refine (q1.out W hB).mono ?_; rintro e w' ⟨rfl, hb⟩; first | exact ⟨hb, rfl⟩ | exact ⟨hb, _, rfl, rfl⟩ | (refine ⟨hb, ?_⟩; simp)) | (refine (q2.out W hB).mono ?_; rintro e w' ⟨rfl, hb⟩; first | exact ⟨hb, rfl⟩ | exact ⟨hb, _, rfl, rfl⟩ | (refine ⟨hb, ?_⟩; simp)) | (refine (q3.out W hB).mono ?_; rintro e w' ⟨rfl, hb⟩; first | exact ⟨hb, rfl⟩ | exact ⟨hb, _, rfl, rfl⟩ | (refine ⟨hb, ?_⟩; simp))
  · intro G W hB hF hS
    have ht : G 27 = .bool (b1 || b2 || b3) := by simp [PM.allSp, PM.spec] at hS; simp [hS]
    have u0 := hF 0 rfl
    have u1 := hF 1 rfl
    have u2 := hF 2 rfl
    simp [PM.sl] at u0 u1 u2
    rw [show ((List.range (Array.size _)).map G).toArray = #[G 0, G 1, G 2, G 3, G 4, G 5, G 6, G 7, G 8, G 9, G 10, G 11, G 12, G 13, G 14, G 15, G 16, G 17, G 18, G 19, G 20, G 21, G 22, G 23, G 24, G 25, G 26, G 27, G 28, G 29, G 30, G 31, G 32, G 33, G 34, G 35, G 36, G 37, G 38] from rfl]
    clear hF hS
    rw [ht, u0, u1, u2]
    clear ht u0 u1 u2
    have hXW := PM.hid (hX.out.keep hB hgs.out)
    have hRW := PM.hid (And.intro (hRP.out.1.keep hB) (And.intro (hRP.out.2.1.keep hB) (PM.enO_lasts _ _ _ _ hB hRP.out.2.2.1)))
    clear hB
    obtain ⟨bb, hbv⟩ : ∃ b, b = (b1 || b2 || b3) := ⟨_, rfl⟩
    rw [← hbv]
    replace hbv := PM.hid hbv
    cases bb
    · have hres : Hid (PM.stP s z = ({ s with ps := s.ps ++ [z] }, 0)) := PM.hid (by unfold PM.stP; rw [if_neg (by rw [← hbb.out.1, ← hbb.out.2.1, ← hbb.out.2.2, ← hbv.out]; simp)])
      clear hbv hbb hX hRP q1 q2 q3
      go_upto_region 3 with fail
      refine PM.wp_region_stK (fun W W' => PM.KT W W' 62 ∧ PM.KT W W' 46) (fun W W' => Below W.heap.size W W') (fun W => PM.SX B gs s.lf (.slice la ln lc) (.slice pa pn pc) (.slice aa an ac) s.ls s.ps s.ab w0 W ∧ PM.enO 114 112 84 B W [.int .i64 z.kind, .int .i64 z.id.br, .int .u64 (z.id.life : Int), .int .u64 (z.id.ser : Int), .int .i64 z.client, .int .u64 (z.sub : Int), .slice fa zF fc, .slice ea zE ec] z) (fun _ _ h => h) (fun h => ⟨PM.KT.of h _, PM.KT.of h _⟩) (fun h k => ⟨h.1.trans k.1, h.2.trans k.2⟩) [some 28, some 29, some 30, some 31, some 32, some 33, some 34, some 35, some 36, some 37, some 38, some 38] [some 28, some 29, some 30, some 31, some 32, some 33, some 34, some 35, some 36, some 37, some 38, none] [[], [], [1], [1, 2], [1, 2, 3], [], [5], [5, 6], [1, 2, 3, 4, 5, 6, 7], [0, 1, 2, 3, 4, 5, 6, 7, 8], [0, 1, 2, 3, 4, 5, 6, 7, 8, 9], [0, 1, 2, 3, 4, 5, 6, 7, 8, 9, 10]] [false, false, false, false, false, false, false, true, true, false, false, true] [8, 11] [([], false), ([], false), ([1], false), ([2], false), ([3], true), ([], false), ([5], false), ([6], true), ([4, 7], true), ([0], false), ([9], false), ([10, 8], false)] [11] [fun x _ => x = .pointer (some ⟨gs, 0, none⟩), fun x _ => x = .pointer (some ⟨gs, 0, none⟩), fun x _ => x = .pointer (some ⟨gs, 0, none⟩), fun x _ => x = .pointer (some ⟨gs, 2, none⟩), fun x _ => x = .slice pa pn pc, fun x _ => x = .pointer (some ⟨gr, 2, none⟩), fun x _ => x = .agg #[.int .i64 z.kind, .int .i64 z.id.br, .int .u64 (z.id.life : Int), .int .u64 (z.id.ser : Int), .int .i64 z.client, .int .u64 (z.sub : Int), .slice fa zF fc, .slice ea zE ec], fun x W => PM.SE B z x W, fun x W => (∃ a n c, x = .slice a n c) ∧ PM.BK W gs #[.int .u64 (s.lf : Int), .slice la ln lc, .slice pa pn pc, .slice aa an ac] 28 ∧ PM.EnW B W (.slice la ln lc) s.ls ∧ PM.EnW B W x (s.ps ++ [z]) ∧ PM.OM PM.idL 3 39 B W (.slice aa an ac) s.ab ∧ PM.Apart (.slice la ln lc) x ∧ Below B w0 W, fun x _ => x = .pointer (some ⟨gs, 0, none⟩), fun x _ => x = .pointer (some ⟨gs, 2, none⟩), fun x W => PM.SI B gs { s with ps := s.ps ++ [z] } w0 W] (by kernel_rfl) (by kernel_rfl) (by kernel_rfl) (by kernel_rfl) (by kernel_rfl) (by kernel_rfl) (by kernel_rfl) (by kernel_rfl) (by kernel_rfl) ?_ ?_ ?_ ?_ ?_ ?_
      · simp only [List.zip_cons_cons, List.zip_nil_right, List.forall_mem_cons]
        refine ⟨?_, ?_, ?_, ?_, ?_, ?_, ?_, ?_, ?_, ?_, ?_, ?_, by simp⟩
        all_goals (intro hk v W W' h hb; first | exact Bool.noConfusion hk | exact h)
      · simp only [List.forall_mem_cons]
        refine ⟨?_, ?_, ?_, ?_, ?_, ?_, ?_, ?_, ?_, ?_, ?_, ?_, by simp⟩
        all_goals (intro v W W' h hb; first | exact h | (obtain ⟨he, hR⟩ := h; exact ⟨he, PM.RR.keep PM.enO_lasts hb hR⟩) | (obtain ⟨he, k1, k2, k3, k4, k5, k6⟩ := h; exact ⟨he, k1.keep hb, PM.OR.keep PM.enO_lasts hb k2, PM.OR.keep PM.enO_lasts hb k3, k4.keep hb, k5, k6.trans (hb.mono (Nat.le_trans hgs.out (Nat.le_of_lt k1.lt)))⟩) | exact h.keep' hb hgs.out)
      · exact fun W W' h hb => ⟨h.1.keep hb hgs.out, PM.enO_lasts _ _ _ _ hb h.2⟩
      · exact ⟨hXW.out, hRW.out.2.2⟩
      · refine ⟨?_, ?_, ?_, ?_, ?_, ?_, ?_, ?_, ?_, ?_, ?_, ?_, trivial⟩
        all_goals
          intro a W hB hF hd hp
          have k0 := hF 0 rfl
          have k1 := hF 1 rfl
          have hkp := PM.BK.kt hRW.out.2.1 hB.1
          have hkr := PM.BK.kt hRW.out.1 hB.2
          have p0 : W.cell? ⟨gp, 0, none⟩ = some (.pointer (some ⟨gs, 0, none⟩)) := hkp.cell 0
          have r0 : W.cell? ⟨gr, 0, none⟩ = some (.int .i64 kd) := hkr.cell 0
          have r1 : W.cell? ⟨gr, 1, none⟩ = some (.int .u64 (nn : Int)) := hkr.cell 1
          have r2 : W.cell? ⟨gr, 2, none⟩ = some (.int .i64 z.kind) := hkr.cell 2
          have r3 : W.cell? ⟨gr, 3, none⟩ = some (.int .i64 z.id.br) := hkr.cell 3
          have r4 : W.cell? ⟨gr, 4, none⟩ = some (.int .u64 (z.id.life : Int)) := hkr.cell 4
          have r5 : W.cell? ⟨gr, 5, none⟩ = some (.int .u64 (z.id.ser : Int)) := hkr.cell 5
          have r6 : W.cell? ⟨gr, 6, none⟩ = some (.int .i64 z.client) := hkr.cell 6
          have r7 : W.cell? ⟨gr, 7, none⟩ = some (.int .u64 (z.sub : Int)) := hkr.cell 7
          have r8 : W.cell? ⟨gr, 8, none⟩ = some (.slice fa zF fc) := hkr.cell 8
          have r9 : W.cell? ⟨gr, 9, none⟩ = some (.slice ea zE ec) := hkr.cell 9
          have r10 : W.cell? ⟨gr, 10, none⟩ = some (.int .i64 i.br) := hkr.cell 10
          have r11 : W.cell? ⟨gr, 11, none⟩ = some (.int .u64 (i.life : Int)) := hkr.cell 11
          have r12 : W.cell? ⟨gr, 12, none⟩ = some (.int .u64 (i.ser : Int)) := hkr.cell 12
          clear hkp hkr
          clear hF
          simp [PM.depsK, PM.spec, PM.sl] at hd hp k0 k1
          simp only [PM.wantL, PM.spec, PM.Spv]
          try simp only [PM.sl]
          first
            | (have hd' : _ ∧ PM.SE B z _ W := hd
               obtain ⟨e32, ⟨a, c, he⟩, hR⟩ := hd'
               rw [he] at hR
               obtain ⟨v', w', hrun, t1, t2, t3⟩ := PM.run_orS tyEnO PM.enSt 25 hp.1.2.2.1 hR (by have := hlen.out; omega) (by have := hlen.out; unfold maxLen; omega) (Nat.le_trans hgs.out (Nat.le_of_lt hp.1.1.lt))
               have hgw := PM.SX.growP hp.1 hgs.out t1 t2 t3
               obtain ⟨h1, h2, h3, h4, h5, h6⟩ := hp.1
               obtain ⟨ra, rc, hre⟩ := t1.rr.len
               first | rw [if_pos trivial] | skip
               refine PM.wp_appendS rfl _ _ rfl (by simp [go_sem, e32]) (by simp [go_sem, he]) hrun ?_
               exact ⟨by first | exact (⟨PM.KT.ofg t2 h3.rt (by decide), PM.KT.ofg t2 h3.rt (by decide)⟩ : PM.KT W w' 62 ∧ PM.KT W w' 46) | (rw [if_pos rfl]; exact (⟨PM.KT.ofg t2 h3.rt (by decide), PM.KT.ofg t2 h3.rt (by decide)⟩ : PM.KT W w' 62 ∧ PM.KT W w' 46)) | (simp only [if_true]; exact (⟨PM.KT.ofg t2 h3.rt (by decide), PM.KT.ofg t2 h3.rt (by decide)⟩ : PM.KT W w' 62 ∧ PM.KT W w' 46)) | (simp; exact (⟨PM.KT.ofg t2 h3.rt (by decide), PM.KT.ofg t2 h3.rt (by decide)⟩ : PM.KT W w' 62 ∧ PM.KT W w' 46)), _, rfl, ⟨_, _, _, hre⟩, hgw⟩)
            | go_simp
        all_goals try exact Below.refl _ _
        · have g2 : W.cell? ⟨gs, 2, none⟩ = some (.slice pa pn pc) := hp.1.1.cell 2
          go_simp
          first | done | exact Below.refl _ _ | exact ⟨Below.refl _ _, _, rfl, rfl⟩ | exact ⟨Below.refl _ _, rfl⟩
        · exact ⟨(Below.refl _ _).alloc (Nat.le_refl _) _, _, rfl, ⟨some ⟨W.heap.size, 0, none⟩, 1, rfl⟩, PM.RR.one (w0 := W) PM.enO_lasts W _ (PM.enCe z fa zF fc ea zE ec) z _ rfl hp.2⟩
        · obtain ⟨⟨a, n, c, he⟩, k1, k2, k3, k4, k5, k6⟩ := hd.2
          simp only [he] at k2 k3 k4 k5
          have g2 : W.cell? ⟨gs, 2, none⟩ = some (.slice pa pn pc) := k1.cell 2
          have gf : W.frozen? ⟨gs, 2, none⟩ = false := k1.free 2
          have hfin := PM.SI.set (s := { s with ps := s.ps ++ [z] }) k1 k2 k3 k4 k5 k6 hgs.out 2 (.slice a n c) rfl
          have hx := PM.Bx.set gs 2 W (.slice a n c)
          simp only [he]
          go_simp
          first | exact ⟨PM.KT.ofx hx k1 (by decide), PM.KT.ofx hx k1 (by decide)⟩ | exact ⟨PM.KT.ofx hx k1 (by decide), PM.KT.ofx hx k1 (by decide), hfin⟩
      · intro G W hB hF hS
        simp only [PM.allK, PM.spec] at hS
        simp at hS
        have u0 := hF 0 rfl
        have u1 := hF 1 rfl
        have u2 := hF 2 rfl
        simp [PM.sl] at u0 u1 u2
        rw [show ((List.range (Array.size _)).map G).toArray = #[G 0, G 1, G 2, G 3, G 4, G 5, G 6, G 7, G 8, G 9, G 10, G 11, G 12, G 13, G 14, G 15, G 16, G 17, G 18, G 19, G 20, G 21, G 22, G 23, G 24, G 25, G 26, G 27, G 28, G 29, G 30, G 31, G 32, G 33, G 34, G 35, G 36, G 37, G 38] from rfl]
        clear hF
        rw [u0, u1, u2]
        clear u0 u1 u2
        have hsi := PM.hid hS
        clear hS hB
        go_wp2_with fail
        go_ret
        rw [hres.out]
        exact ⟨rfl, hsi.out⟩
    · have hres : Hid (PM.stP s z = (s, 160)) := PM.hid (by unfold PM.stP; rw [if_pos (by rw [← hbb.out.1, ← hbb.out.2.1, ← hbb.out.2.2, ← hbv.out])])
      go_wp2_with fail
      go_ret
      rw [hres.out]
      exact ⟨rfl, hXW.out.si⟩
set_option maxRecDepth 100000 in
set_option maxHeartbeats 8000000 in
theorem stA_any (kd : Int) (nn : Nat) (z : PM.En) (fa : Option Addr) (zF fc : Nat) (ea : Option Addr) (zE ec : Nat) (i : PM.Id) (B gs gr gp : Nat) (s : PM.Fs) (w0 w : World) (h : PM.SI B gs s w0 w) (hgs : Hid (B ≤ gs)) (hr : PM.BK w gr #[.int .i64 kd, .int .u64 (nn : Int), .int .i64 z.kind, .int .i64 z.id.br, .int .u64 (z.id.life : Int), .int .u64 (z.id.ser : Int), .int .i64 z.client, .int .u64 (z.sub : Int), .slice fa zF fc, .slice ea zE ec, .int .i64 i.br, .int .u64 (i.life : Int), .int .u64 (i.ser : Int)] 46) (hp : PM.BK w gp #[.pointer (some ⟨gs, 0, none⟩)] 62) (hz : PM.enO 114 112 84 B w [.int .i64 z.kind, .int .i64 z.id.br, .int .u64 (z.id.life : Int), .int .u64 (z.id.ser : Int), .int .i64 z.client, .int .u64 (z.sub : Int), .slice fa zF fc, .slice ea zE ec] z) (hlen : Hid (s.ls.length ≤ 1000 ∧ s.ps.length ≤ 1000 ∧ s.ab.length ≤ 1000)) :
    Calls Try.prog 44 #[.pointer (some ⟨gp, 0, none⟩), .pointer (some ⟨gr, 0, none⟩)] w fun e w' => e = .returned (.int .i64 (PM.stA s i).2) ∧ PM.SI B gs (PM.stA s i).1 w0 w' := by
  obtain ⟨vl, vp, va, h1, h2, h3, h4, h5, h6⟩ := h
  have hBw : B ≤ w.heap.size := Nat.le_trans hgs.out (Nat.le_of_lt h1.lt)
  have eL : PM.EnL w vl s.ls := PM.RR.imp h2.rr fun cs x ⟨fv, ev, g1, g2, g3⟩ => ⟨fv, ev, g1, g2.em PM.teL_len, PM.evOr_evl g3⟩
  have eP : PM.EnL w vp s.ps := PM.RR.imp h3.rr fun cs x ⟨fv, ev, g1, g2, g3⟩ => ⟨fv, ev, g1, g2.em PM.teL_len, PM.evOr_evl g3⟩
  have eA := h4.em PM.idL_len
  obtain ⟨la, lc, hle⟩ := eL.len
  obtain ⟨pa, pc, hpe⟩ := eP.len
  obtain ⟨aa, ac, hae⟩ := eA.len
  obtain ⟨ln, hln⟩ : ∃ n, n = s.ls.length := ⟨_, rfl⟩
  obtain ⟨pn, hpn⟩ : ∃ n, n = s.ps.length := ⟨_, rfl⟩
  obtain ⟨an, han⟩ : ∃ n, n = s.ab.length := ⟨_, rfl⟩
  rw [← hln] at hle
  rw [← hpn] at hpe
  rw [← han] at hae
  subst hle hpe hae
  have q1 := fun (W : World) (hb : Below w.heap.size w W) => hasS_any s.lf la ln lc pa pn pc aa an ac i s.ls W (PM.EnL.keep eL hb)
  have q2 := fun (W : World) (hb : Below w.heap.size w W) => promS_any s.lf la ln lc pa pn pc aa an ac i s.ps W (PM.EnL.keep eP hb)
  have q3 := fun (W : World) (hb : Below w.heap.size w W) => abortS_any s.lf la ln lc pa pn pc aa an ac i s.ab W (eA.keep hb)
  have hX : PM.SX B gs s.lf (.slice la ln lc) (.slice pa pn pc) (.slice aa an ac) s.ls s.ps s.ab w0 w := ⟨h1, h2, h3, h4, h5, h6⟩
  replace hX := PM.hid hX
  have hRP := PM.hid (And.intro hr (And.intro hp (And.intro hz (And.intro hBw hln))))
  clear h1 h2 h3 h4 h5 h6 eL eP eA hpn han hr hp hz hBw hln
  obtain ⟨b1, hb1⟩ : ∃ b, b = PM.hasE s.ls i := ⟨_, rfl⟩
  obtain ⟨b2, hb2⟩ : ∃ b, b = PM.hasE s.ps i := ⟨_, rfl⟩
  obtain ⟨b3, hb3⟩ : ∃ b, b = PM.hasI s.ab i := ⟨_, rfl⟩
  rw [← hb1] at q1
  rw [← hb2] at q2
  rw [← hb3] at q3
  replace q1 := PM.hid q1
  replace q2 := PM.hid q2
  replace q3 := PM.hid q3
  have hbb := PM.hid (And.intro hb1 (And.intro hb2 hb3))
  clear hb1 hb2 hb3
  go_enter Try.func44, Try.ntmps44
  go_upto_region 1 with fail
  refine PM.wp_region_st [some 3, some 4, some 5, some 6, some 7, some 8, some 9, some 10, some 11, some 12, some 13, some 14, some 15, some 16] [fun x _ => x = .pointer (some ⟨gs, 0, none⟩), fun x _ => x = .pointer (some ⟨gs, 0, none⟩), fun x _ => x = .agg #[.int .u64 (s.lf : Int), .slice la ln lc, .slice pa pn pc, .slice aa an ac], fun x _ => x = .pointer (some ⟨gr, 10, none⟩), fun x _ => x = .agg #[.int .i64 i.br, .int .u64 (i.life : Int), .int .u64 (i.ser : Int)], fun x _ => x = .bool b1, fun x _ => x = .bool b1, fun x _ => b1 = false → x = .pointer (some ⟨gs, 0, none⟩), fun x _ => b1 = false → x = .pointer (some ⟨gs, 0, none⟩), fun x _ => b1 = false → x = .agg #[.int .u64 (s.lf : Int), .slice la ln lc, .slice pa pn pc, .slice aa an ac], fun x _ => b1 = false → x = .pointer (some ⟨gr, 10, none⟩), fun x _ => b1 = false → x = .agg #[.int .i64 i.br, .int .u64 (i.life : Int), .int .u64 (i.ser : Int)], fun x _ => b1 = false → x = .bool b3, fun x _ => x = .bool (b1 || b3)] (by kernel_rfl) (by kernel_rfl) (by kernel_rfl) ?_ ?_ ?_
  · simp only [List.forall_mem_cons]
    refine ⟨?_, ?_, ?_, ?_, ?_, ?_, ?_, ?_, ?_, ?_, ?_, ?_, ?_, ?_, by simp⟩
    all_goals (intro x W W' h hb; first | exact h | exact PM.BS.keep hb h | exact PM.OW.keep hb h)
  · refine ⟨?_, ?_, ?_, ?_, ?_, ?_, ?_, ?_, ?_, ?_, ?_, ?_, ?_, ?_, trivial⟩
    all_goals
      intro a W hB hF hd
      have k0 := hF 0 rfl
      have k1 := hF 1 rfl
      have hkp := hRP.out.2.1.keep hB
      have hkr := hRP.out.1.keep hB
      have hks := hX.out.1.keep hB
      have p0 : W.cell? ⟨gp, 0, none⟩ = some (.pointer (some ⟨gs, 0, none⟩)) := hkp.cell 0
      have s0 : W.cell? ⟨gs, 0, none⟩ = some (.int .u64 (s.lf : Int)) := hks.cell 0
      have s1 : W.cell? ⟨gs, 1, none⟩ = some (.slice la ln lc) := hks.cell 1
      have s2 : W.cell? ⟨gs, 2, none⟩ = some (.slice pa pn pc) := hks.cell 2
      have s3 : W.cell? ⟨gs, 3, none⟩ = some (.slice aa an ac) := hks.cell 3
      have r0 : W.cell? ⟨gr, 0, none⟩ = some (.int .i64 kd) := hkr.cell 0
      have r1 : W.cell? ⟨gr, 1, none⟩ = some (.int .u64 (nn : Int)) := hkr.cell 1
      have r2 : W.cell? ⟨gr, 2, none⟩ = some (.int .i64 z.kind) := hkr.cell 2
      have r3 : W.cell? ⟨gr, 3, none⟩ = some (.int .i64 z.id.br) := hkr.cell 3
      have r4 : W.cell? ⟨gr, 4, none⟩ = some (.int .u64 (z.id.life : Int)) := hkr.cell 4
      have r5 : W.cell? ⟨gr, 5, none⟩ = some (.int .u64 (z.id.ser : Int)) := hkr.cell 5
      have r6 : W.cell? ⟨gr, 6, none⟩ = some (.int .i64 z.client) := hkr.cell 6
      have r7 : W.cell? ⟨gr, 7, none⟩ = some (.int .u64 (z.sub : Int)) := hkr.cell 7
      have r8 : W.cell? ⟨gr, 8, none⟩ = some (.slice fa zF fc) := hkr.cell 8
      have r9 : W.cell? ⟨gr, 9, none⟩ = some (.slice ea zE ec) := hkr.cell 9
      have r10 : W.cell? ⟨gr, 10, none⟩ = some (.int .i64 i.br) := hkr.cell 10
      have r11 : W.cell? ⟨gr, 11, none⟩ = some (.int .u64 (i.life : Int)) := hkr.cell 11
      have r12 : W.cell? ⟨gr, 12, none⟩ = some (.int .u64 (i.ser : Int)) := hkr.cell 12
      clear hkp hkr hks
      cases b1
    all_goals
      clear hF
      simp [PM.depsL, PM.spec, PM.sl, Region.binds] at hd k0 k1
      simp only [PM.wantL, PM.spec]
      try simp only [PM.sl]
      go_simp
    all_goals try exact Below.refl _ _
    all_goals try (intro h; simp [undef] at h; done)
    · first | (refine (q1.out W hB).mono ?_; rintro e w' ⟨rfl, hb⟩; first | exact ⟨hb, rfl⟩ | exact ⟨hb, _, rfl, rfl⟩ | (refine ⟨hb, ?_⟩; simp)) | (refine (q2.out W hB).mono ?_; rintro e w' ⟨rfl, hb⟩; first | exact ⟨hb, rfl⟩ | exact ⟨hb, _, rfl, rfl⟩ | (refine ⟨hb, ?_⟩; simp)) | (refine (q3.out W hB).mono ?_; rintro e w' ⟨rfl, hb⟩; first | exact ⟨hb, rfl⟩ | exact ⟨hb, _, rfl, rfl⟩ | (refine ⟨hb, ?_⟩; simp))
    · first | (refine (q1.out W hB).mono ?_; rintro e w' ⟨rfl, hb⟩; first | exact ⟨hb, rfl⟩ | exact ⟨hb, _, rfl, rfl⟩ | (refine ⟨hb, ?_⟩; simp)) | (refine (q2.out W hB).mono ?_; rintro e w' ⟨rfl, hb⟩; first | exact ⟨hb, rfl⟩ | exact ⟨hb, _, rfl, rfl⟩ | (refine ⟨hb, ?_⟩; simp)) | (refine (q3.out W hB).mono ?_; rintro e w' ⟨rfl, hb⟩; first | exact ⟨hb, rfl⟩ | exact ⟨hb, _, rfl, rfl⟩ | (refine ⟨hb, ?_⟩; simp))
    · first | (refine (q1.out W hB).mono ?_; rintro e w' ⟨rfl, hb⟩; first | exact ⟨hb, rfl⟩ | exact ⟨hb, _, rfl, rfl⟩ | (refine ⟨hb, ?_⟩; simp)) | (refine (q2.out W hB).mono ?_; rintro e w' ⟨rfl, hb⟩; first | exact ⟨hb, rfl⟩ | exact ⟨hb, _, rfl, rfl⟩ | (refine ⟨hb, ?_⟩; simp)) | (refine (q3.out W hB).mono ?_; rintro e w' ⟨rfl, hb⟩; first | exact ⟨hb, rfl⟩ | exact ⟨hb, _, rfl, rfl⟩ | (refine ⟨hb, ?_⟩; simp))
  · intro G W hB hF hS
    have ht : G 16 = .bool (b1 || b3) := by simp [PM.allSp, PM.spec] at hS; simp [hS]
    have u0 := hF 0 rfl
    have u1 := hF 1 rfl
    have u2 := hF 2 rfl
    simp [PM.sl] at u0 u1 u2
    rw [show ((List.range (Array.size _)).map G).toArray = #[G 0, G 1, G 2, G 3, G 4, G 5, G 6, G 7, G 8, G 9, G 10, G 11, G 12, G 13, G 14, G 15, G 16, G 17, G 18, G 19, G 20, G 21, G 22, G 23, G 24, G 25, G 26, G 27, G 28, G 29, G 30, G 31] from rfl]
    clear hF hS
    rw [ht, u0, u1, u2]
    clear ht u0 u1 u2
    have hXW := PM.hid (hX.out.keep hB hgs.out)
    have hRW := PM.hid (And.intro (hRP.out.1.keep hB) (And.intro (hRP.out.2.1.keep hB) (PM.enO_lasts _ _ _ _ hB hRP.out.2.2.1)))
    clear hB
    obtain ⟨bb, hbv⟩ : ∃ b, b = (b1 || b3) := ⟨_, rfl⟩
    rw [← hbv]
    replace hbv := PM.hid hbv
    cases bb
    · have hres : Hid (PM.stA s i = ({ s with ab := s.ab ++ [i], ps := PM.noId i s.ps }, 0)) := PM.hid (by unfold PM.stA; rw [if_neg (by rw [← hbb.out.1, ← hbb.out.2.2, ← hbv.out]; simp)])
      clear hbv hbb hX hRP q1 q2 q3
      go_upto_region 3 with fail
      refine PM.wp_region_stK (fun W W' => PM.KT W W' 62 ∧ PM.KT W W' 46) (fun W W' => Below W.heap.size W W') (fun W => PM.SX B gs s.lf (.slice la ln lc) (.slice pa pn pc) (.slice aa an ac) s.ls s.ps s.ab w0 W) (fun _ _ h => h) (fun h => ⟨PM.KT.of h _, PM.KT.of h _⟩) (fun h k => ⟨h.1.trans k.1, h.2.trans k.2⟩) [some 17, some 18, some 19, some 20, some 21, some 22, some 23, some 24, some 25, some 26, some 27, some 27] [some 17, some 18, some 19, some 20, some 21, some 22, some 23, some 24, some 25, some 26, some 27, none] [[], [], [1], [1, 2], [1, 2, 3], [], [5], [5, 6], [1, 2, 3, 4, 5, 6, 7], [0, 1, 2, 3, 4, 5, 6, 7, 8], [0, 1, 2, 3, 4, 5, 6, 7, 8, 9], [0, 1, 2, 3, 4, 5, 6, 7, 8, 9, 10]] [false, false, false, false, false, false, false, true, true, false, false, true] [8, 11] [([], false), ([], false), ([1], false), ([2], false), ([3], true), ([], false), ([5], false), ([6], true), ([4, 7], true), ([0], false), ([9], false), ([10, 8], false)] [11] [fun x _ => x = .pointer (some ⟨gs, 0, none⟩), fun x _ => x = .pointer (some ⟨gs, 0, none⟩), fun x _ => x = .pointer (some ⟨gs, 0, none⟩), fun x _ => x = .pointer (some ⟨gs, 3, none⟩), fun x _ => x = .slice aa an ac, fun x _ => x = .pointer (some ⟨gr, 10, none⟩), fun x _ => x = .agg #[.int .i64 i.br, .int .u64 (i.life : Int), .int .u64 (i.ser : Int)], fun x W => PM.SJ i x W, fun x W => (∃ a n c, x = .slice a n c) ∧ PM.BK W gs #[.int .u64 (s.lf : Int), .slice la ln lc, .slice pa pn pc, .slice aa an ac] 28 ∧ PM.EnW B W (.slice la ln lc) s.ls ∧ PM.EnW B W (.slice pa pn pc) s.ps ∧ PM.OM PM.idL 3 39 B W x (s.ab ++ [i]) ∧ PM.Apart (.slice la ln lc) (.slice pa pn pc) ∧ Below B w0 W, fun x _ => x = .pointer (some ⟨gs, 0, none⟩), fun x _ => x = .pointer (some ⟨gs, 3, none⟩), fun x W => PM.SI B gs { s with ab := s.ab ++ [i] } w0 W] (by kernel_rfl) (by kernel_rfl) (by kernel_rfl) (by kernel_rfl) (by kernel_rfl) (by kernel_rfl) (by kernel_rfl) (by kernel_rfl) (by kernel_rfl) ?_ ?_ ?_ ?_ ?_ ?_
      · simp only [List.zip_cons_cons, List.zip_nil_right, List.forall_mem_cons]
        refine ⟨?_, ?_, ?_, ?_, ?_, ?_, ?_, ?_, ?_, ?_, ?_, ?_, by simp⟩
        all_goals (intro hk v W W' h hb; first | exact Bool.noConfusion hk | exact h)
      · simp only [List.forall_mem_cons]
        refine ⟨?_, ?_, ?_, ?_, ?_, ?_, ?_, ?_, ?_, ?_, ?_, ?_, by simp⟩
        all_goals (intro v W W' h hb; first | exact h | (obtain ⟨he, hR⟩ := h; exact ⟨he, hR.keep hb⟩) | (obtain ⟨he, k1, k2, k3, k4, k5, k6⟩ := h; exact ⟨he, k1.keep hb, PM.OR.keep PM.enO_lasts hb k2, PM.OR.keep PM.enO_lasts hb k3, k4.keep hb, k5, k6.trans (hb.mono (Nat.le_trans hgs.out (Nat.le_of_lt k1.lt)))⟩) | exact h.keep' hb hgs.out)
      · exact fun W W' h hb => h.keep hb hgs.out
      · exact hXW.out
      · refine ⟨?_, ?_, ?_, ?_, ?_, ?_, ?_, ?_, ?_, ?_, ?_, ?_, trivial⟩
        all_goals
          intro a W hB hF hd hp
          have k0 := hF 0 rfl
          have k1 := hF 1 rfl
          have hkp := PM.BK.kt hRW.out.2.1 hB.1
          have hkr := PM.BK.kt hRW.out.1 hB.2
          have p0 : W.cell? ⟨gp, 0, none⟩ = some (.pointer (some ⟨gs, 0, none⟩)) := hkp.cell 0
          have r0 : W.cell? ⟨gr, 0, none⟩ = some (.int .i64 kd) := hkr.cell 0
          have r1 : W.cell? ⟨gr, 1, none⟩ = some (.int .u64 (nn : Int)) := hkr.cell 1
          have r2 : W.cell? ⟨gr, 2, none⟩ = some (.int .i64 z.kind) := hkr.cell 2
          have r3 : W.cell? ⟨gr, 3, none⟩ = some (.int .i64 z.id.br) := hkr.cell 3
          have r4 : W.cell? ⟨gr, 4, none⟩ = some (.int .u64 (z.id.life : Int)) := hkr.cell 4
          have r5 : W.cell? ⟨gr, 5, none⟩ = some (.int .u64 (z.id.ser : Int)) := hkr.cell 5
          have r6 : W.cell? ⟨gr, 6, none⟩ = some (.int .i64 z.client) := hkr.cell 6
          have r7 : W.cell? ⟨gr, 7, none⟩ = some (.int .u64 (z.sub : Int)) := hkr.cell 7
          have r8 : W.cell? ⟨gr, 8, none⟩ = some (.slice fa zF fc) := hkr.cell 8
          have r9 : W.cell? ⟨gr, 9, none⟩ = some (.slice ea zE ec) := hkr.cell 9
          have r10 : W.cell? ⟨gr, 10, none⟩ = some (.int .i64 i.br) := hkr.cell 10
          have r11 : W.cell? ⟨gr, 11, none⟩ = some (.int .u64 (i.life : Int)) := hkr.cell 11
          have r12 : W.cell? ⟨gr, 12, none⟩ = some (.int .u64 (i.ser : Int)) := hkr.cell 12
          clear hkp hkr
          clear hF
          simp [PM.depsK, PM.spec, PM.sl] at hd hp k0 k1
          simp only [PM.wantL, PM.spec, PM.Spv]
          try simp only [PM.sl]
          first
            | (have hd' : _ ∧ PM.SJ i _ W := hd
               obtain ⟨e32, ⟨a, c, he⟩, hR⟩ := hd'
               rw [he] at hR
               obtain ⟨v', w', hrun, t1, t2, t3⟩ := PM.run_omS tyIdO PM.idL_len PM.idL_one 26 hp.2.2.2.1 hR (by have := hlen.out; omega) (by have := hlen.out; unfold maxLen; omega) (Nat.le_trans hgs.out (Nat.le_of_lt hp.1.lt))
               have hgw := PM.SX.growA hp hgs.out t1 t2
               obtain ⟨h1, h2, h3, h4, h5, h6⟩ := hp
               obtain ⟨ra, rc, hre⟩ := (t1.em PM.idL_len).len
               first | rw [if_pos trivial] | skip
               refine PM.wp_appendS rfl _ _ rfl (by simp [go_sem, e32]) (by simp [go_sem, he]) hrun ?_
               exact ⟨by first | exact (⟨PM.KT.ofg t2 (PM.OM.rowty h4) (by decide), PM.KT.ofg t2 (PM.OM.rowty h4) (by decide)⟩ : PM.KT W w' 62 ∧ PM.KT W w' 46) | (rw [if_pos rfl]; exact (⟨PM.KT.ofg t2 (PM.OM.rowty h4) (by decide), PM.KT.ofg t2 (PM.OM.rowty h4) (by decide)⟩ : PM.KT W w' 62 ∧ PM.KT W w' 46)) | (simp only [if_true]; exact (⟨PM.KT.ofg t2 (PM.OM.rowty h4) (by decide), PM.KT.ofg t2 (PM.OM.rowty h4) (by decide)⟩ : PM.KT W w' 62 ∧ PM.KT W w' 46)) | (simp; exact (⟨PM.KT.ofg t2 (PM.OM.rowty h4) (by decide), PM.KT.ofg t2 (PM.OM.rowty h4) (by decide)⟩ : PM.KT W w' 62 ∧ PM.KT W w' 46)), _, rfl, ⟨_, _, _, hre⟩, hgw⟩)
            | go_simp
        all_goals try exact Below.refl _ _
        · have g2 : W.cell? ⟨gs, 3, none⟩ = some (.slice aa an ac) := hp.1.cell 3
          go_simp
          first | done | exact Below.refl _ _ | exact ⟨Below.refl _ _, _, rfl, rfl⟩ | exact ⟨Below.refl _ _, rfl⟩
        · exact ⟨(Below.refl _ _).alloc (Nat.le_refl _) _, _, rfl, ⟨some ⟨W.heap.size, 0, none⟩, 1, rfl⟩, PM.EM.lit PM.idL_len W _ i⟩
        · obtain ⟨⟨a, n, c, he⟩, k1, k2, k3, k4, k5, k6⟩ := hd.2
          simp only [he] at k2 k3 k4 k5
          have g2 : W.cell? ⟨gs, 3, none⟩ = some (.slice aa an ac) := k1.cell 3
          have gf : W.frozen? ⟨gs, 3, none⟩ = false := k1.free 3
          have hfin := PM.SI.set (s := { s with ab := s.ab ++ [i] }) k1 k2 k3 k4 k5 k6 hgs.out 3 (.slice a n c) rfl
          have hx := PM.Bx.set gs 3 W (.slice a n c)
          simp only [he]
          go_simp
          first | exact ⟨PM.KT.ofx hx k1 (by decide), PM.KT.ofx hx k1 (by decide)⟩ | exact ⟨PM.KT.ofx hx k1 (by decide), PM.KT.ofx hx k1 (by decide), hfin⟩
      · intro G W hB hF hS
        simp only [PM.allK, PM.spec] at hS
        simp at hS
        have u0 := hF 0 rfl
        have u1 := hF 1 rfl
        have u2 := hF 2 rfl
        simp [PM.sl] at u0 u1 u2
        rw [show ((List.range (Array.size _)).map G).toArray = #[G 0, G 1, G 2, G 3, G 4, G 5, G 6, G 7, G 8, G 9, G 10, G 11, G 12, G 13, G 14, G 15, G 16, G 17, G 18, G 19, G 20, G 21, G 22, G 23, G 24, G 25, G 26, G 27, G 28, G 29, G 30, G 31] from rfl]
        clear hF
        rw [u0, u1, u2]
        clear u0 u1 u2
        have hsi := PM.hid hS
        have kp := PM.BK.kt hRW.out.2.1 hB.1
        have kr := PM.BK.kt hRW.out.1 hB.2
        have p0 : W.cell? ⟨gp, 0, none⟩ = some (.pointer (some ⟨gs, 0, none⟩)) := kp.cell 0
        have x0 : W.cell? ⟨gr, 10, none⟩ = some (.int .i64 i.br) := kr.cell 10
        have x1 : W.cell? ⟨gr, 11, none⟩ = some (.int .u64 (i.life : Int)) := kr.cell 11
        have x2 : W.cell? ⟨gr, 12, none⟩ = some (.int .u64 (i.ser : Int)) := kr.cell 12
        clear hS hB kp kr
        have hfo := forget_any B gs i _ w0 W hsi.out hgs
        go_wp2_with fail
        refine hfo.mono ?_
        rintro e w' ⟨rfl, hs2⟩
        replace hs2 := PM.hid hs2
        clear hfo p0 x0 x1 x2
        go_wp2_with fail
        go_ret
        rw [hres.out]
        exact ⟨rfl, hs2.out⟩
    · have hres : Hid (PM.stA s i = (s, 160)) := PM.hid (by unfold PM.stA; rw [if_pos (by rw [← hbb.out.1, ← hbb.out.2.2, ← hbv.out])])
      go_wp2_with fail
      go_ret
      rw [hres.out]
      exact ⟨rfl, hXW.out.si⟩
end Go.Proofs.Ytphdadlpfjfeoaa
