/-
  CONTRACTS of layer 16: fold.steps, fold.Step. (Written by tools/mk_se.py.)
-/
import Derived.Test.YtphdadlpfjfeoaaSd
import Derived.Test.YtphdadlpfjfeoaaJB
namespace Go.Proofs.Ytphdadlpfjfeoaa
open Go.RowKit
set_option linter.unusedVariables false
set_option linter.unusedSimpArgs false
set_option maxRecDepth 100000 in
theorem zeroFnF (w : World) : (zeroValue 59).run Try.prog w = .ok .nilFunc w := rfl
namespace PM
def skv (gr gp : Nat) : List (Int × Value) := [(1, .func (.func 40) #[] #[.pointer (some ⟨gr, 0, none⟩), .pointer (some ⟨gp, 0, none⟩)]), (2, .func (.func 41) #[] #[.pointer (some ⟨gr, 0, none⟩), .pointer (some ⟨gp, 0, none⟩)]), (3, .func (.func 43) #[] #[.pointer (some ⟨gp, 0, none⟩), .pointer (some ⟨gr, 0, none⟩)]), (4, .func (.func 44) #[] #[.pointer (some ⟨gp, 0, none⟩), .pointer (some ⟨gr, 0, none⟩)]), (5, .func (.func 45) #[] #[.pointer (some ⟨gp, 0, none⟩), .pointer (some ⟨gr, 0, none⟩)])]
def fnv (kd : Int) (gr gp : Nat) : Value := (lookI kd (skv gr gp)).getD .nilFunc
/-- what a record does to a state -/
def stK (s : Fs) (kd : Int) (n : Nat) (z : En) (i : Id) : Fs × Int := if kd = 1 then stL s n else if kd = 2 then stE s n z else if kd = 3 then stP s z else if kd = 4 then stA s i else stF s i
/-- blocks from B on may turn -/
def RW (B : Nat) (W W' : World) : Prop := W.heap.size ≤ W'.heap.size ∧ (B ≤ W.heap.size → Below B W W')
theorem RW.new {B : Nat} {W W' : World} (h : Below W.heap.size W W') : RW B W W' := ⟨h.size, fun hb => h.mono hb⟩
theorem RW.trans {B : Nat} {x y z : World} (h : RW B x y) (k : RW B y z) : RW B x z := ⟨Nat.le_trans h.1 k.1, fun hb => (h.2 hb).trans (k.2 (Nat.le_trans hb h.1))⟩
def SRt (B gs : Nat) (r : Fs × Int) (w0 : World) (x : Value) (W : World) : Prop := x = .int .i64 r.2 ∧ SI B gs r.1 w0 W
theorem SRt.keep {B gs : Nat} {r : Fs × Int} {w0 : World} {x : Value} {W w : World} (hb : Below W.heap.size W w) (hB : B ≤ gs) (h : SRt B gs r w0 x W) : SRt B gs r w0 x w := ⟨h.1, h.2.keep' hb hB⟩
theorem SI.size {B gs : Nat} {s s' : Fs} {w w' : World} (h : SI B gs s' w w') (_ : SI B gs s w w) : w.heap.size ≤ w'.heap.size := h.below.size
theorem SI.kts {B gs : Nat} {s : Fs} {w0 w w' : World} (h : SI B gs s w0 w) (k : ∀ T, 46 ≠ T → KT w w' T) : SI B gs s w' w' := by
  obtain ⟨vl, vp, va, h1, h2, h3, h4, h5, h6⟩ := h
  exact ⟨vl, vp, va, h1.kt (k _ (by decide)), OR.kt (enO_ktE (k _ (by decide)) (k _ (by decide)) (k _ (by decide))) h2 (k _ (by decide)), OR.kt (enO_ktE (k _ (by decide)) (k _ (by decide)) (k _ (by decide))) h3 (k _ (by decide)), h4.kt (k _ (by decide)), h5, Below.refl _ _⟩
theorem chain' {B C : Nat} {x y z : World} (h : Below B x y) (k : Below C y z) (hb : B ≤ C) : Below B x z := h.trans (k.mono hb)
def SMs (gs : Nat) (rc : Array Value) (x : Value) (W : World) : Prop := ∃ gm gr gp, x = .map (some gm) ∧ IM W gm (skv gr gp) ∧ BK W gr rc 46 ∧ BK W gp #[.pointer (some ⟨gs, 0, none⟩)] 62
def SFn (gs : Nat) (kd : Int) (rc : Array Value) (x : Value) (W : World) : Prop := ∃ gr gp, x = fnv kd gr gp ∧ BK W gr rc 46 ∧ BK W gp #[.pointer (some ⟨gs, 0, none⟩)] 62
theorem SMs.keep {gs : Nat} {rc : Array Value} {x : Value} {W w : World} (hb : Below W.heap.size W w) (h : SMs gs rc x W) : SMs gs rc x w := by
  obtain ⟨gm, gr, gp, h1, h2, h3, h4⟩ := h
  exact ⟨gm, gr, gp, h1, h2.keep hb, h3.keep hb, h4.keep hb⟩
theorem SFn.keep {gs : Nat} {kd : Int} {rc : Array Value} {x : Value} {W w : World} (hb : Below W.heap.size W w) (h : SFn gs kd rc x W) : SFn gs kd rc x w := by
  obtain ⟨gr, gp, h1, h3, h4⟩ := h
  exact ⟨gr, gp, h1, h3.keep hb, h4.keep hb⟩
end PM
set_option maxRecDepth 100000 in
set_option maxHeartbeats 8000000 in
theorem steps_any (kd : Int) (nn : Nat) (z : PM.En) (fa : Option Addr) (zF fc : Nat) (ea : Option Addr) (zE ec : Nat) (i : PM.Id) (gs : Nat) (w : World) :
    Calls Try.prog 21 #[.pointer (some ⟨gs, 0, none⟩), .agg #[.int .i64 kd, .int .u64 (nn : Int), .int .i64 z.kind, .int .i64 z.id.br, .int .u64 (z.id.life : Int), .int .u64 (z.id.ser : Int), .int .i64 z.client, .int .u64 (z.sub : Int), .slice fa zF fc, .slice ea zE ec, .int .i64 i.br, .int .u64 (i.life : Int), .int .u64 (i.ser : Int)]] w fun e w' => ∃ v, e = .returned v ∧ PM.SMs gs #[.int .i64 kd, .int .u64 (nn : Int), .int .i64 z.kind, .int .i64 z.id.br, .int .u64 (z.id.life : Int), .int .u64 (z.id.ser : Int), .int .i64 z.client, .int .u64 (z.sub : Int), .slice fa zF fc, .slice ea zE ec, .int .i64 i.br, .int .u64 (i.life : Int), .int .u64 (i.ser : Int)] v w' ∧ Below w.heap.size w w' := by
  obtain ⟨gp, hgp⟩ : ∃ g, g = w.heap.size := ⟨_, rfl⟩
  obtain ⟨gr, hgr⟩ : ∃ g, g = w.heap.size + 1 := ⟨_, rfl⟩
  obtain ⟨w1, hw1⟩ : ∃ W, W = w.alloc (.cells #[.pointer (some ⟨gs, 0, none⟩)] 62) := ⟨_, rfl⟩
  obtain ⟨w2, hw2⟩ : ∃ W, W = w1.alloc (.cells #[.int .i64 kd, .int .u64 (nn : Int), .int .i64 z.kind, .int .i64 z.id.br, .int .u64 (z.id.life : Int), .int .u64 (z.id.ser : Int), .int .i64 z.client, .int .u64 (z.sub : Int), .slice fa zF fc, .slice ea zE ec, .int .i64 i.br, .int .u64 (i.life : Int), .int .u64 (i.ser : Int)] 46) := ⟨_, rfl⟩
  have hs1 : w1.heap.size = w.heap.size + 1 := by rw [hw1]; simp
  have bb1 : Below w.heap.size w w1 := by rw [hw1]; exact (Below.refl _ _).alloc (Nat.le_refl _) _
  have bb2 : Below w1.heap.size w1 w2 := by rw [hw2]; exact (Below.refl _ _).alloc (Nat.le_refl _) _
  have kp : PM.BK w1 gp #[.pointer (some ⟨gs, 0, none⟩)] 62 := by rw [hw1, hgp]; exact PM.BK.new _ _ _
  replace kp := kp.keep bb2
  have kr : PM.BK w2 gr #[.int .i64 kd, .int .u64 (nn : Int), .int .i64 z.kind, .int .i64 z.id.br, .int .u64 (z.id.life : Int), .int .u64 (z.id.ser : Int), .int .i64 z.client, .int .u64 (z.sub : Int), .slice fa zF fc, .slice ea zE ec, .int .i64 i.br, .int .u64 (i.life : Int), .int .u64 (i.ser : Int)] 46 := by rw [hw2, hgr, ← hs1]; exact PM.BK.new _ _ _
  obtain ⟨gm, hgm⟩ : ∃ g, g = w2.heap.size := ⟨_, rfl⟩
  obtain ⟨m0, hm0⟩ : ∃ W, W = w2.alloc (.map #[] 0) := ⟨_, rfl⟩
  have bm0 : Below w2.heap.size w2 m0 := by rw [hm0]; exact (Below.refl _ _).alloc (Nat.le_refl _) _
  have i0 : PM.IM m0 gm [] := by rw [hm0, hgm]; exact PM.IM.new w2
  obtain ⟨m1, r1, i1, x1⟩ := PM.run_insert_int (P := Try.prog) (T := 60) Try.underlying60 Try.underlying3 i0 1 (.func (.func 40) #[] #[.pointer (some ⟨gr, 0, none⟩), .pointer (some ⟨gp, 0, none⟩)]) (by simp [PM.lookI])
  obtain ⟨m2, r2, i2, x2⟩ := PM.run_insert_int (P := Try.prog) (T := 60) Try.underlying60 Try.underlying3 i1 2 (.func (.func 41) #[] #[.pointer (some ⟨gr, 0, none⟩), .pointer (some ⟨gp, 0, none⟩)]) (by simp [PM.lookI])
  obtain ⟨m3, r3, i3, x3⟩ := PM.run_insert_int (P := Try.prog) (T := 60) Try.underlying60 Try.underlying3 i2 3 (.func (.func 43) #[] #[.pointer (some ⟨gp, 0, none⟩), .pointer (some ⟨gr, 0, none⟩)]) (by simp [PM.lookI])
  obtain ⟨m4, r4, i4, x4⟩ := PM.run_insert_int (P := Try.prog) (T := 60) Try.underlying60 Try.underlying3 i3 4 (.func (.func 44) #[] #[.pointer (some ⟨gp, 0, none⟩), .pointer (some ⟨gr, 0, none⟩)]) (by simp [PM.lookI])
  obtain ⟨m5, r5, i5, x5⟩ := PM.run_insert_int (P := Try.prog) (T := 60) Try.underlying60 Try.underlying3 i4 5 (.func (.func 45) #[] #[.pointer (some ⟨gp, 0, none⟩), .pointer (some ⟨gr, 0, none⟩)]) (by simp [PM.lookI])
  have r0 : (Instr.makeMap 60 none).run Try.prog w2 = .ok (.map (some gm)) m0 := by rw [hm0, hgm]; simp [Instr.makeMap, go_sem]
  have b3 : Below w2.heap.size w2 m5 := by
    have hxx : PM.Bx w2.heap.size m0 m5 := by rw [← hgm]; exact (((x1.trans x2).trans x3).trans x4).trans x5
    exact hxx.below bm0 (Nat.le_refl _) bm0.size
  have hend : Hid (PM.SMs gs #[.int .i64 kd, .int .u64 (nn : Int), .int .i64 z.kind, .int .i64 z.id.br, .int .u64 (z.id.life : Int), .int .u64 (z.id.ser : Int), .int .i64 z.client, .int .u64 (z.sub : Int), .slice fa zF fc, .slice ea zE ec, .int .i64 i.br, .int .u64 (i.life : Int), .int .u64 (i.ser : Int)] (.map (some gm)) m5 ∧ Below w.heap.size w m5) := PM.hid ⟨⟨gm, gr, gp, rfl, i5, kr.keep b3, kp.keep b3⟩, PM.chain (PM.chain bb1 bb2) b3⟩
  clear bb1 bb2 bm0 b3 kp kr i0 i1 i2 i3 i4 i5 x1 x2 x3 x4 x5 hm0 hgm hs1
  go_enter Try.func21, Try.ntmps21
  go_upto_region 1 with fail
  rw [← hw1, ← hw2, ← hgr, ← hgp]
  clear hw1 hw2 hgr hgp
  go_wp2_with fail
  go_ret
  exact ⟨_, rfl, hend.out.1, hend.out.2⟩
namespace PM
/-- the state that comes back -/
def RetSt (B : Nat) (s : Fs) (k : Int) (e : Ending) (w0 w : World) : Prop := ∃ ua un uc pa pn pc ta tn tc, e = .returned (.tuple #[.agg #[.int .u64 (s.lf : Int), .slice ua un uc, .slice pa pn pc, .slice ta tn tc], .int .i64 k]) ∧ EnW B w (.slice ua un uc) s.ls ∧ EnW B w (.slice pa pn pc) s.ps ∧ OM idL 3 39 B w (.slice ta tn tc) s.ab ∧ Below B w0 w
def rcMk (kd : Int) (nn : Nat) (z : En) (i : Id) : Rc := ⟨kd, nn, z, i⟩
open Classical in
noncomputable def stp (s : Fs) (x : Rc) : Fs × Int := if rcP x then stK s x.kind x.n x.en x.id else (s, 110)
theorem rcP_kind {x : Rc} (h : rcP x) : x.kind = 1 ∨ x.kind = 2 ∨ x.kind = 3 ∨ x.kind = 4 ∨ x.kind = 5 := by
  unfold rcP at h
  rcases h with ⟨⟨h, _⟩ | h, _⟩ | ⟨h | h, _⟩ | ⟨h, _⟩ <;> simp [h]
end PM
set_option maxRecDepth 100000 in
set_option maxHeartbeats 16000000 in
theorem step_any (kd : Int) (nn : Nat) (z : PM.En) (fa : Option Addr) (zF fc : Nat) (ea : Option Addr) (zE ec : Nat) (i : PM.Id) (s : PM.Fs) (a0 : Option Addr) (n0 c0 : Nat) (a1 : Option Addr) (n1 c1 : Nat) (a2 : Option Addr) (n2 c2 : Nat) (w : World)
    (h0 : PM.EnL w (.slice a0 n0 c0) s.ls) (h1 : PM.EnL w (.slice a1 n1 c1) s.ps) (h2 : PM.EM PM.idL 3 w (.slice a2 n2 c2) s.ab) (hsL : Hid (PM.EnsS s.ls)) (hsQ : Hid (PM.EnsS s.ps)) (hlA : Hid (s.ab.length ≤ 1000))
    (hx : (PM.rcMk kd nn z i).wf) (hzF : zF = z.fil.length) (hzE : zE = z.evs.length) (hf : PM.TV w (.slice fa zF fc) z.fil) (he : PM.EVL w (.slice ea zE ec) z.evs) (hs : PM.EnS z) :
    Calls Try.prog 13 #[.agg #[.int .u64 (s.lf : Int), .slice a0 n0 c0, .slice a1 n1 c1, .slice a2 n2 c2], .agg #[.int .i64 kd, .int .u64 (nn : Int), .int .i64 z.kind, .int .i64 z.id.br, .int .u64 (z.id.life : Int), .int .u64 (z.id.ser : Int), .int .i64 z.client, .int .u64 (z.sub : Int), .slice fa zF fc, .slice ea zE ec, .int .i64 i.br, .int .u64 (i.life : Int), .int .u64 (i.ser : Int)]] w fun e w' => PM.RetSt w.heap.size (PM.stp s (PM.rcMk kd nn z i)).1 (PM.stp s (PM.rcMk kd nn z i)).2 e w w' := by
  obtain ⟨gi, hgi⟩ : ∃ g, g = w.heap.size := ⟨_, rfl⟩
  obtain ⟨gr, hgr⟩ : ∃ g, g = w.heap.size + 1 := ⟨_, rfl⟩
  obtain ⟨g4, hg4⟩ : ∃ g, g = w.heap.size + 1 + 1 := ⟨_, rfl⟩
  obtain ⟨w1, hw1⟩ : ∃ W, W = w.alloc (.cells #[.int .u64 (s.lf : Int), .slice a0 n0 c0, .slice a1 n1 c1, .slice a2 n2 c2] 28) := ⟨_, rfl⟩
  obtain ⟨w2, hw2⟩ : ∃ W, W = w1.alloc (.cells #[.int .i64 kd, .int .u64 (nn : Int), .int .i64 z.kind, .int .i64 z.id.br, .int .u64 (z.id.life : Int), .int .u64 (z.id.ser : Int), .int .i64 z.client, .int .u64 (z.sub : Int), .slice fa zF fc, .slice ea zE ec, .int .i64 i.br, .int .u64 (i.life : Int), .int .u64 (i.ser : Int)] 46) := ⟨_, rfl⟩
  obtain ⟨w3, hw3⟩ : ∃ W, W = w2.alloc (.cells #[.int .u64 0, .slice none 0 0, .slice none 0 0, .slice none 0 0] 28) := ⟨_, rfl⟩
  have hs1 : w1.heap.size = w.heap.size + 1 := by rw [hw1]; simp
  have hs2 : w2.heap.size = w.heap.size + 1 + 1 := by rw [hw2]; simp [hs1]
  have hs3 : w3.heap.size = w.heap.size + 1 + 1 + 1 := by rw [hw3]; simp [hs2]
  have bb1 : Below w.heap.size w w1 := by rw [hw1]; exact (Below.refl _ _).alloc (Nat.le_refl _) _
  have bb2 : Below w1.heap.size w1 w2 := by rw [hw2]; exact (Below.refl _ _).alloc (Nat.le_refl _) _
  have bb3 : Below w2.heap.size w2 w3 := by rw [hw3]; exact (Below.refl _ _).alloc (Nat.le_refl _) _
  have ki : PM.BK w1 gi #[.int .u64 (s.lf : Int), .slice a0 n0 c0, .slice a1 n1 c1, .slice a2 n2 c2] 28 := by rw [hw1, hgi]; exact PM.BK.new _ _ _
  replace ki := (ki.keep bb2).keep bb3
  have kr : PM.BK w2 gr #[.int .i64 kd, .int .u64 (nn : Int), .int .i64 z.kind, .int .i64 z.id.br, .int .u64 (z.id.life : Int), .int .u64 (z.id.ser : Int), .int .i64 z.client, .int .u64 (z.sub : Int), .slice fa zF fc, .slice ea zE ec, .int .i64 i.br, .int .u64 (i.life : Int), .int .u64 (i.ser : Int)] 46 := by rw [hw2, hgr, ← hs1]; exact PM.BK.new _ _ _
  replace kr := kr.keep bb3
  have k4 : PM.BK w3 g4 #[.int .u64 0, .slice none 0 0, .slice none 0 0, .slice none 0 0] 28 := by rw [hw3, hg4, ← hs2]; exact PM.BK.new _ _ _
  have b03 := PM.chain (PM.chain bb1 bb2) bb3
  have hgB : Hid (gi < w3.heap.size ∧ gr < w3.heap.size ∧ g4 < w3.heap.size ∧ w.heap.size ≤ g4 ∧ w.heap.size ≤ gr ∧ g4 ≠ gr) := PM.hid (by omega)
  have hsx := PM.hid (And.intro (b03) (And.intro ki (And.intro kr k4)))
  have hown := ownSt_any s.lf a0 n0 c0 a1 n1 c1 a2 n2 c2 s.ls s.ps s.ab w3 (PM.EnL.keep h0 b03) (PM.EnL.keep h1 b03) (h2.keep b03) hsL hsQ hlA
  obtain ⟨X, hX⟩ : ∃ X, X = PM.rcMk kd nn z i := ⟨_, rfl⟩
  have hpk : ∀ W : World, Below w.heap.size w W → Calls Try.prog 19 #[.agg #[.int .i64 kd, .int .u64 (nn : Int), .int .i64 z.kind, .int .i64 z.id.br, .int .u64 (z.id.life : Int), .int .u64 (z.id.ser : Int), .int .i64 z.client, .int .u64 (z.sub : Int), .slice fa zF fc, .slice ea zE ec, .int .i64 i.br, .int .u64 (i.life : Int), .int .u64 (i.ser : Int)]] W fun e w' => ∃ o, e = .returned (.tuple #[o, .int .i64 (PM.rcE (PM.rcMk kd nn z i))]) ∧ Below W.heap.size W w' := fun W hb => (pack_any (PM.rcMk kd nn z i) (.slice fa zF fc) (.slice ea zE ec) W hx (by rw [hzF] at hf ⊢; exact hf.keep hb) (by rw [hzE] at he ⊢; exact PM.EVL.keepO hb he)).mono (by rintro e w' ⟨o, g1, -, -, g2⟩; exact ⟨o, g1, g2⟩)
  have hen := fun (W : World) (hb : Below w.heap.size w W) => ownEn_any z (.slice fa zF fc) (.slice ea zE ec) W (hf.keep hb) (PM.EVL.keepO hb he) hs
  rw [← hzF, ← hzE] at hen
  rw [← hX] at hpk ⊢
  obtain ⟨RE, hRE⟩ : ∃ k, k = PM.rcE X := ⟨_, rfl⟩
  rw [← hRE] at hpk
  have hXX := PM.hid (And.intro hX hRE)
  clear hX hRE hs1 hs2 hs3 bb1 bb2 bb3 ki kr k4 h0 h1 h2 hf he hx hs
  unfold PM.enC at hen
  replace hpk := PM.hid hpk
  replace hen := PM.hid hen
  clear hzF hzE
  go_enter Try.func13, Try.ntmps13
  go_upto_region 1 with fail
  rw [← hw1, ← hw2, ← hw3, ← hg4, ← hgr, ← hgi]
  clear hw1 hw2 hw3 hg4 hgr hgi
  have v0 : w3.cell? ⟨gi, 0, none⟩ = some (.int .u64 (s.lf : Int)) := hsx.out.2.1.cell 0
  have v1 : w3.cell? ⟨gi, 1, none⟩ = some (.slice a0 n0 c0) := hsx.out.2.1.cell 1
  have v2 : w3.cell? ⟨gi, 2, none⟩ = some (.slice a1 n1 c1) := hsx.out.2.1.cell 2
  have v3 : w3.cell? ⟨gi, 3, none⟩ = some (.slice a2 n2 c2) := hsx.out.2.1.cell 3
  go_wp2_with fail
  refine hown.mono ?_
  rintro e w4 ⟨ua, un, uc, pa, pn, pc, ta, tn, tc, rfl, o1, o2, o3, o4, hB4⟩
  clear hown v0 v1 v2 v3
  have ka := hsx.out.2.2.1.keep hB4
  go_upto_region 2 with fail
  obtain ⟨gs, hgs⟩ : ∃ g, g = w4.heap.size := ⟨_, rfl⟩
  obtain ⟨w5, hw5⟩ : ∃ W, W = w4.alloc (.cells #[.int .u64 (s.lf : Int), .slice ua un uc, .slice pa pn pc, .slice ta tn tc] 28) := ⟨_, rfl⟩
  have hB5 : Below w4.heap.size w4 w5 := by rw [hw5]; exact (Below.refl _ _).alloc (Nat.le_refl _) _
  have ks : PM.BK w5 gs #[.int .u64 (s.lf : Int), .slice ua un uc, .slice pa pn pc, .slice ta tn tc] 28 := by rw [hw5, hgs]; exact PM.BK.new _ _ _
  have hBgs : Hid (w3.heap.size ≤ gs) := PM.hid (by rw [hgs]; exact hB4.size)
  rw [← hw5, ← hgs]
  clear hw5 hgs
  have hSI : PM.SI w3.heap.size gs s w5 w5 := ⟨_, _, _, ks, o1.keep hB5, o2.keep hB5, o3.keep hB5, o4, Below.refl _ _⟩
  have hb5 : Below w.heap.size w w5 := PM.chain (PM.chain hsx.out.1 hB4) hB5
  have kr := (hsx.out.2.2.1.keep hB4).keep hB5
  have k4 := (hsx.out.2.2.2.keep hB4).keep hB5
  have hsz5 : w3.heap.size ≤ w5.heap.size := Nat.le_trans hB4.size hB5.size
  replace hSI := PM.hid hSI
  clear o1 o2 o3 o4 ks ka hB4 hB5
  have r0 : w5.cell? ⟨gr, 0, none⟩ = some (.int .i64 kd) := kr.cell 0
  have r1 : w5.cell? ⟨gr, 1, none⟩ = some (.int .u64 (nn : Int)) := kr.cell 1
  have r2 : w5.cell? ⟨gr, 2, none⟩ = some (.int .i64 z.kind) := kr.cell 2
  have r3 : w5.cell? ⟨gr, 3, none⟩ = some (.int .i64 z.id.br) := kr.cell 3
  have r4 : w5.cell? ⟨gr, 4, none⟩ = some (.int .u64 (z.id.life : Int)) := kr.cell 4
  have r5 : w5.cell? ⟨gr, 5, none⟩ = some (.int .u64 (z.id.ser : Int)) := kr.cell 5
  have r6 : w5.cell? ⟨gr, 6, none⟩ = some (.int .i64 z.client) := kr.cell 6
  have r7 : w5.cell? ⟨gr, 7, none⟩ = some (.int .u64 (z.sub : Int)) := kr.cell 7
  have r8 : w5.cell? ⟨gr, 8, none⟩ = some (.slice fa zF fc) := kr.cell 8
  have r9 : w5.cell? ⟨gr, 9, none⟩ = some (.slice ea zE ec) := kr.cell 9
  have r10 : w5.cell? ⟨gr, 10, none⟩ = some (.int .i64 i.br) := kr.cell 10
  have r11 : w5.cell? ⟨gr, 11, none⟩ = some (.int .u64 (i.life : Int)) := kr.cell 11
  have r12 : w5.cell? ⟨gr, 12, none⟩ = some (.int .u64 (i.ser : Int)) := kr.cell 12
  replace hpk := hpk.out w5 hb5
  go_wp2_with fail
  refine hpk.mono ?_
  rintro e w6 ⟨o, rfl, hB6⟩
  clear hpk r0 r1 r2 r3 r4 r5 r6 r7 r8 r9 r10 r11 r12
  replace hSI := PM.hid (hSI.out.keep hB6 hsz5)
  replace kr := kr.keep hB6
  replace k4 := k4.keep hB6
  have hb6 := PM.chain hb5 hB6
  have hsz6 := Nat.le_trans hsz5 hB6.size
  clear hb5 hB6 hsz5
  by_cases hP : PM.rcP X
  case neg =>
    obtain rfl : RE = 110 := by rw [hXX.out.2]; exact PM.rcE_no hP
    have hres : PM.stp s X = (s, 110) := by unfold PM.stp; rw [if_neg hP]
    obtain ⟨vl, vp, va, ks, r1, r2, r3, -, -⟩ := hSI.out
    obtain ⟨la, lc, hle⟩ := r1.len
    obtain ⟨qa, qc, hqe⟩ := r2.len
    obtain ⟨aa, ac, hae⟩ := (r3.em PM.idL_len).len
    generalize s.ls.length = ln at hle
    generalize s.ps.length = qn at hqe
    generalize s.ab.length = an at hae
    subst hle hqe hae
    clear hSI hen hP hXX kr
    have d0 : w6.cell? ⟨gs, 0, none⟩ = some (.int .u64 (s.lf : Int)) := ks.cell 0
    have d1 : w6.cell? ⟨gs, 1, none⟩ = some (.slice la ln lc) := ks.cell 1
    have d2 : w6.cell? ⟨gs, 2, none⟩ = some (.slice qa qn qc) := ks.cell 2
    have d3 : w6.cell? ⟨gs, 3, none⟩ = some (.slice aa an ac) := ks.cell 3
    have z0 : w6.cell? ⟨g4, 0, none⟩ = some (.int .u64 0) := k4.cell 0
    have y0 : w6.frozen? ⟨g4, 0, none⟩ = false := k4.free 0
    have z1 : w6.cell? ⟨g4, 1, none⟩ = some (.slice none 0 0) := k4.cell 1
    have y1 : w6.frozen? ⟨g4, 1, none⟩ = false := k4.free 1
    have z2 : w6.cell? ⟨g4, 2, none⟩ = some (.slice none 0 0) := k4.cell 2
    have y2 : w6.frozen? ⟨g4, 2, none⟩ = false := k4.free 2
    have z3 : w6.cell? ⟨g4, 3, none⟩ = some (.slice none 0 0) := k4.cell 3
    have y3 : w6.frozen? ⟨g4, 3, none⟩ = false := k4.free 3
    have hx : PM.Bx g4 w6 ((((w6.setCell ⟨g4, 0, none⟩ (.int .u64 (s.lf : Int))).setCell ⟨g4, 1, none⟩ (.slice la ln lc)).setCell ⟨g4, 2, none⟩ (.slice qa qn qc)).setCell ⟨g4, 3, none⟩ (.slice aa an ac)) := (((PM.Bx.set g4 0 _ _).trans (PM.Bx.set g4 1 _ _)).trans (PM.Bx.set g4 2 _ _)).trans (PM.Bx.set g4 3 _ _)
    have hrs : PM.RS 28 g4 w6 _ := ⟨hx, fun T hT => PM.KT.ofx hx k4 hT⟩
    have ZF := ((((k4.set 0 (.int .u64 (s.lf : Int))).set 1 (.slice la ln lc)).set 2 (.slice qa qn qc)).set 3 (.slice aa an ac))
    have hend := PM.hid (And.intro (PM.EnW.mono hsx.out.1.size (r1.rs hrs)) (And.intro (PM.EnW.mono hsx.out.1.size (r2.rs hrs)) (And.intro (PM.OM.mono hsx.out.1.size (r3.kt (hrs.kt _ (by decide)))) (hx.below hb6 hgB.out.2.2.2.1 hb6.size))))
    clear hx hrs r1 r2 r3 ks k4
    go_wp2_with fail
    generalize ((((w6.setCell ⟨g4, 0, none⟩ (.int .u64 (s.lf : Int))).setCell ⟨g4, 1, none⟩ (.slice la ln lc)).setCell ⟨g4, 2, none⟩ (.slice qa qn qc)).setCell ⟨g4, 3, none⟩ (.slice aa an ac)) = wf at *
    have q0 : wf.cell? ⟨g4, 0, none⟩ = some (.int .u64 (s.lf : Int)) := ZF.cell 0
    have q1 : wf.cell? ⟨g4, 1, none⟩ = some (.slice la ln lc) := ZF.cell 1
    have q2 : wf.cell? ⟨g4, 2, none⟩ = some (.slice qa qn qc) := ZF.cell 2
    have q3 : wf.cell? ⟨g4, 3, none⟩ = some (.slice aa an ac) := ZF.cell 3
    refine bodyPost_ret (v := .tuple #[.agg #[.int .u64 (s.lf : Int), .slice la ln lc, .slice qa qn qc, .slice aa an ac], .int .i64 110]) (by simp [results, Try.results13, go_sem, q0, q1, q2, q3]) rfl ?_
    rw [hres]
    exact ⟨_, _, _, _, _, _, _, _, _, rfl, hend.out.1, hend.out.2.1, hend.out.2.2.1, hend.out.2.2.2⟩
  case pos =>
    obtain rfl : RE = 0 := by rw [hXX.out.2]; exact PM.rcE_yes hP
    have hres : PM.stp s X = PM.stK s kd nn z i := by unfold PM.stp; rw [if_pos hP, hXX.out.1]; rfl
    have hkd : kd = 1 ∨ kd = 2 ∨ kd = 3 ∨ kd = 4 ∨ kd = 5 := by have := PM.rcP_kind hP; rw [hXX.out.1] at this; exact this
    have hsh := PM.hid (And.intro hres hkd)
    clear hP hXX hres hkd
    have r0 : w6.cell? ⟨gr, 0, none⟩ = some (.int .i64 kd) := kr.cell 0
    have r1 : w6.cell? ⟨gr, 1, none⟩ = some (.int .u64 (nn : Int)) := kr.cell 1
    have r2 : w6.cell? ⟨gr, 2, none⟩ = some (.int .i64 z.kind) := kr.cell 2
    have r3 : w6.cell? ⟨gr, 3, none⟩ = some (.int .i64 z.id.br) := kr.cell 3
    have r4 : w6.cell? ⟨gr, 4, none⟩ = some (.int .u64 (z.id.life : Int)) := kr.cell 4
    have r5 : w6.cell? ⟨gr, 5, none⟩ = some (.int .u64 (z.id.ser : Int)) := kr.cell 5
    have r6 : w6.cell? ⟨gr, 6, none⟩ = some (.int .i64 z.client) := kr.cell 6
    have r7 : w6.cell? ⟨gr, 7, none⟩ = some (.int .u64 (z.sub : Int)) := kr.cell 7
    have r8 : w6.cell? ⟨gr, 8, none⟩ = some (.slice fa zF fc) := kr.cell 8
    have r9 : w6.cell? ⟨gr, 9, none⟩ = some (.slice ea zE ec) := kr.cell 9
    have r10 : w6.cell? ⟨gr, 10, none⟩ = some (.int .i64 i.br) := kr.cell 10
    have r11 : w6.cell? ⟨gr, 11, none⟩ = some (.int .u64 (i.life : Int)) := kr.cell 11
    have r12 : w6.cell? ⟨gr, 12, none⟩ = some (.int .u64 (i.ser : Int)) := kr.cell 12
    replace hen := hen.out w6 hb6
    go_wp2_with fail
    refine hen.mono ?_
    rintro e w7 ⟨fb, fd, eb, ed, rfl, hzo, hB7⟩
    clear hen r0 r1 r2 r3 r4 r5 r6 r7 r8 r9 r10 r11 r12
    replace hSI := hSI.out.keep hB7 hsz6
    replace kr := kr.keep hB7
    replace k4 := k4.keep hB7
    have hb7 := PM.chain hb6 hB7
    have hsz7 := Nat.le_trans hsz6 hB7.size
    replace hzo : PM.enO 114 112 84 w3.heap.size w7 [.int .i64 z.kind, .int .i64 z.id.br, .int .u64 (z.id.life : Int), .int .u64 (z.id.ser : Int), .int .i64 z.client, .int .u64 (z.sub : Int), .slice fb zF fd, .slice eb zE ed] z := PM.enO_mono hsz6 hzo
    clear hb6 hB7 hsz6
    have f2 : w7.frozen? ⟨gr, 2, none⟩ = false := kr.free 2
    have r2 : w7.cell? ⟨gr, 2, none⟩ = some (.int .i64 z.kind) := kr.cell 2
    have f3 : w7.frozen? ⟨gr, 3, none⟩ = false := kr.free 3
    have r3 : w7.cell? ⟨gr, 3, none⟩ = some (.int .i64 z.id.br) := kr.cell 3
    have f4 : w7.frozen? ⟨gr, 4, none⟩ = false := kr.free 4
    have r4 : w7.cell? ⟨gr, 4, none⟩ = some (.int .u64 (z.id.life : Int)) := kr.cell 4
    have f5 : w7.frozen? ⟨gr, 5, none⟩ = false := kr.free 5
    have r5 : w7.cell? ⟨gr, 5, none⟩ = some (.int .u64 (z.id.ser : Int)) := kr.cell 5
    have f6 : w7.frozen? ⟨gr, 6, none⟩ = false := kr.free 6
    have r6 : w7.cell? ⟨gr, 6, none⟩ = some (.int .i64 z.client) := kr.cell 6
    have f7 : w7.frozen? ⟨gr, 7, none⟩ = false := kr.free 7
    have r7 : w7.cell? ⟨gr, 7, none⟩ = some (.int .u64 (z.sub : Int)) := kr.cell 7
    have f8 : w7.frozen? ⟨gr, 8, none⟩ = false := kr.free 8
    have r8 : w7.cell? ⟨gr, 8, none⟩ = some (.slice fa zF fc) := kr.cell 8
    have f9 : w7.frozen? ⟨gr, 9, none⟩ = false := kr.free 9
    have r9 : w7.cell? ⟨gr, 9, none⟩ = some (.slice ea zE ec) := kr.cell 9
    go_upto_region 6 with fail
    obtain ⟨w8, hw8⟩ : ∃ W, W = ((((((((w7.setCell ⟨gr, 2, none⟩ (.int .i64 z.kind)).setCell ⟨gr, 3, none⟩ (.int .i64 z.id.br)).setCell ⟨gr, 4, none⟩ (.int .u64 (z.id.life : Int))).setCell ⟨gr, 5, none⟩ (.int .u64 (z.id.ser : Int))).setCell ⟨gr, 6, none⟩ (.int .i64 z.client)).setCell ⟨gr, 7, none⟩ (.int .u64 (z.sub : Int))).setCell ⟨gr, 8, none⟩ (.slice fb zF fd)).setCell ⟨gr, 9, none⟩ (.slice eb zE ed)) := ⟨_, rfl⟩
    have hx8 : PM.Bx gr w7 w8 := by rw [hw8]; exact (((((((PM.Bx.set gr 2 _ _).trans (PM.Bx.set gr 3 _ _)).trans (PM.Bx.set gr 4 _ _)).trans (PM.Bx.set gr 5 _ _)).trans (PM.Bx.set gr 6 _ _)).trans (PM.Bx.set gr 7 _ _)).trans (PM.Bx.set gr 8 _ _)).trans (PM.Bx.set gr 9 _ _)
    have kr8 : PM.BK w8 gr #[.int .i64 kd, .int .u64 (nn : Int), .int .i64 z.kind, .int .i64 z.id.br, .int .u64 (z.id.life : Int), .int .u64 (z.id.ser : Int), .int .i64 z.client, .int .u64 (z.sub : Int), .slice fb zF fd, .slice eb zE ed, .int .i64 i.br, .int .u64 (i.life : Int), .int .u64 (i.ser : Int)] 46 := by rw [hw8]; exact (((((((((kr.set 2 (.int .i64 z.kind)).set 3 (.int .i64 z.id.br)).set 4 (.int .u64 (z.id.life : Int))).set 5 (.int .u64 (z.id.ser : Int))).set 6 (.int .i64 z.client)).set 7 (.int .u64 (z.sub : Int))).set 8 (.slice fb zF fd)).set 9 (.slice eb zE ed))).seeO (by simp)
    rw [← hw8]
    clear hw8 r2 f2 r3 f3 r4 f4 r5 f5 r6 f6 r7 f7 r8 f8 r9 f9
    have kt8 := fun (T : TypeId) (hT : 46 ≠ T) => PM.KT.ofx hx8 kr hT
    replace hSI := PM.hid (PM.SI.kts hSI kt8)
    replace hzo := PM.hid (PM.enO_kt (kt8 _ (by decide)) (kt8 _ (by decide)) (kt8 _ (by decide)) _ _ hzo)
    replace k4 := k4.keepx hx8 hgB.out.2.2.2.2.2
    have hb8 := hx8.below hb7 hgB.out.2.2.2.2.1 hb7.size
    have hsz8 : Hid (w3.heap.size ≤ w8.heap.size) := PM.hid (Nat.le_trans hsz7 hx8.size)
    have hkk := PM.hid (And.intro kr8 (And.intro k4 hb8))
    clear kt8 hx8 kr k4 hb7 hb8 hsz7 kr8
    have hlen : Hid (s.ls.length ≤ 1000 ∧ s.ps.length ≤ 1000 ∧ s.ab.length ≤ 1000) := PM.hid ⟨hsL.out.1, hsQ.out.1, hlA.out⟩
    have hkd := hsh.out.2
    have hres := PM.hid hsh.out.1
    clear hsh
    rcases hkd with rfl | rfl | rfl | rfl | rfl
    · refine PM.wp_region_stK (PM.RW w3.heap.size) (fun W W' => Below W.heap.size W W') (fun W => PM.SI w3.heap.size gs s W W ∧ PM.enO 114 112 84 w3.heap.size W [.int .i64 z.kind, .int .i64 z.id.br, .int .u64 (z.id.life : Int), .int .u64 (z.id.ser : Int), .int .i64 z.client, .int .u64 (z.sub : Int), .slice fb zF fd, .slice eb zE ed] z) (fun _ _ h => h) (fun h => PM.RW.new h) (fun h k => h.trans k) [some 25, some 26, some 27, some 28, some 29, some 30, some 9] [some 25, some 26, some 27, some 28, some 29, some 30, some 9] [[], [0], [], [2], [0, 1, 2, 3], [0, 1, 2, 3, 4], [0, 1, 2, 3, 4, 5]] [false, true, false, false, true, true, false] [5] [([], false), ([0], false), ([], false), ([2], false), ([1, 3], false), ([4], true), ([5], false)] [5, 6] [fun x _ => x = .agg #[.int .i64 1, .int .u64 (nn : Int), .int .i64 z.kind, .int .i64 z.id.br, .int .u64 (z.id.life : Int), .int .u64 (z.id.ser : Int), .int .i64 z.client, .int .u64 (z.sub : Int), .slice fb zF fd, .slice eb zE ed, .int .i64 i.br, .int .u64 (i.life : Int), .int .u64 (i.ser : Int)], fun x W => PM.SMs gs #[.int .i64 1, .int .u64 (nn : Int), .int .i64 z.kind, .int .i64 z.id.br, .int .u64 (z.id.life : Int), .int .u64 (z.id.ser : Int), .int .i64 z.client, .int .u64 (z.sub : Int), .slice fb zF fd, .slice eb zE ed, .int .i64 i.br, .int .u64 (i.life : Int), .int .u64 (i.ser : Int)] x W, fun x _ => x = .pointer (some ⟨gr, 0, none⟩), fun x _ => x = .int .i64 1, fun x W => PM.SFn gs 1 #[.int .i64 1, .int .u64 (nn : Int), .int .i64 z.kind, .int .i64 z.id.br, .int .u64 (z.id.life : Int), .int .u64 (z.id.ser : Int), .int .i64 z.client, .int .u64 (z.sub : Int), .slice fb zF fd, .slice eb zE ed, .int .i64 i.br, .int .u64 (i.life : Int), .int .u64 (i.ser : Int)] x W, fun x W => PM.SRt w3.heap.size gs (PM.stL s nn) w8 x W, fun x _ => x = .int .i64 (PM.stL s nn).2] (by kernel_rfl) (by kernel_rfl) (by kernel_rfl) (by kernel_rfl) (by kernel_rfl) (by kernel_rfl) (by kernel_rfl) (by kernel_rfl) (by kernel_rfl) ?_ ?_ ?_ ?_ ?_ ?_
      · simp only [List.zip_cons_cons, List.zip_nil_right, List.forall_mem_cons]
        refine ⟨?_, ?_, ?_, ?_, ?_, ?_, ?_, by simp⟩
        all_goals (intro hk v W W' h hb; first | exact Bool.noConfusion hk | exact h)
      · simp only [List.forall_mem_cons]
        refine ⟨?_, ?_, ?_, ?_, ?_, ?_, ?_, by simp⟩
        all_goals (intro v W W' h hb; first | exact h | exact PM.SMs.keep hb h | exact PM.SFn.keep hb h | exact PM.SRt.keep hb hBgs.out h)
      · exact fun W W' h hb => ⟨(h.1.keep hb (Nat.le_trans hBgs.out (Nat.le_of_lt h.1.lt))).here, PM.enO_lasts _ _ _ _ hb h.2⟩
      · exact ⟨hSI.out, hzo.out⟩
      · refine ⟨?_, ?_, ?_, ?_, ?_, ?_, ?_, trivial⟩
        all_goals
          intro a W hB hF hd hp
          have k3 := hF 3 rfl
          have k6 := hF 6 rfl
          have hBw := hB.2 hsz8.out
          have kg := (hBw.block gr hgB.out.2.1).trans hkk.out.1
          have r0 : W.cell? ⟨gr, 0, none⟩ = some (.int .i64 1) := PM.BK.cell kg 0
          have r1 : W.cell? ⟨gr, 1, none⟩ = some (.int .u64 (nn : Int)) := PM.BK.cell kg 1
          have r2 : W.cell? ⟨gr, 2, none⟩ = some (.int .i64 z.kind) := PM.BK.cell kg 2
          have r3 : W.cell? ⟨gr, 3, none⟩ = some (.int .i64 z.id.br) := PM.BK.cell kg 3
          have r4 : W.cell? ⟨gr, 4, none⟩ = some (.int .u64 (z.id.life : Int)) := PM.BK.cell kg 4
          have r5 : W.cell? ⟨gr, 5, none⟩ = some (.int .u64 (z.id.ser : Int)) := PM.BK.cell kg 5
          have r6 : W.cell? ⟨gr, 6, none⟩ = some (.int .i64 z.client) := PM.BK.cell kg 6
          have r7 : W.cell? ⟨gr, 7, none⟩ = some (.int .u64 (z.sub : Int)) := PM.BK.cell kg 7
          have r8 : W.cell? ⟨gr, 8, none⟩ = some (.slice fb zF fd) := PM.BK.cell kg 8
          have r9 : W.cell? ⟨gr, 9, none⟩ = some (.slice eb zE ed) := PM.BK.cell kg 9
          have r10 : W.cell? ⟨gr, 10, none⟩ = some (.int .i64 i.br) := PM.BK.cell kg 10
          have r11 : W.cell? ⟨gr, 11, none⟩ = some (.int .u64 (i.life : Int)) := PM.BK.cell kg 11
          have r12 : W.cell? ⟨gr, 12, none⟩ = some (.int .u64 (i.ser : Int)) := PM.BK.cell kg 12
          clear kg
          clear hF
          simp [PM.depsK, PM.spec, PM.sl] at hd hp k3 k6
          simp only [PM.wantL, PM.spec, PM.Spv]
          try simp only [PM.sl]
          go_simp
        all_goals try exact Below.refl _ _
        · refine (steps_any 1 nn z fb zF fd eb zE ed i gs W).mono ?_
          rintro e w' ⟨v, rfl, hs2, hb⟩
          exact ⟨hb, _, rfl, hs2⟩
        · obtain ⟨⟨gm, gr2, gp, he, hIM, j1, j2⟩, e28⟩ := hd
          have kl := PM.run_lookup_int (P := Try.prog) (T := 60) Try.underlying60 Try.underlying3 hIM 1 (zeroFnF W)
          simp only [he, kl]
          go_simp
          exact ⟨Below.refl _ _, _, rfl, gr2, gp, rfl, j1, j2⟩
        · obtain ⟨gr2, gp, he, j1, j2⟩ := hd
          have he2 : _ = (.func (.func 40) #[] #[.pointer (some ⟨gr2, 0, none⟩), .pointer (some ⟨gp, 0, none⟩)] : Value) := he
          have hcl := stL_any 1 nn z fb zF fd eb zE ed i w3.heap.size gs gr2 gp s W W hp.1 hBgs j1 j2 hp.2 hlen
          simp only [he2]
          go_simp
          refine hcl.mono ?_
          rintro e w' ⟨rfl, hs2⟩
          exact ⟨⟨PM.SI.size hs2 hp.1, fun _ => hs2.below⟩, _, rfl, rfl, hs2.from hBw⟩
        · first | exact hd.1 | exact ⟨Below.refl _ _, by rw [hd.1]⟩ | (rw [hd.1]; exact ⟨Below.refl _ _, rfl⟩) | (simp only [hd.1]; exact Below.refl _ _) | (simp [hd.1]; exact Below.refl _ _) | exact ⟨Below.refl _ _, _, rfl, hd.1⟩ | (simp [hd.1]; done)
      · intro G W hB hF hS
        simp only [PM.allK, PM.spec] at hS
        simp at hS
        have u0 := hF 0 rfl
        have u4 := hF 4 rfl
        have u6 := hF 6 rfl
        simp [PM.sl] at u0 u4 u6
        obtain ⟨hs1, hs2⟩ := hS
        rw [show ((List.range (Array.size _)).map G).toArray = #[G 0, G 1, G 2, G 3, G 4, G 5, G 6, G 7, G 8, G 9, G 10, G 11, G 12, G 13, G 14, G 15, G 16, G 17, G 18, G 19, G 20, G 21, G 22, G 23, G 24, G 25, G 26, G 27, G 28, G 29, G 30, G 31, G 32] from rfl]
        rw [u0, u4, u6, hs2]
        clear u0 u4 u6 hF hs2
        have hsi := hs1.2
        have hBw := hB.2 hsz8.out
        have k4 : PM.BK W g4 #[.int .u64 0, .slice none 0 0, .slice none 0 0, .slice none 0 0] 28 := (hBw.block g4 hgB.out.2.2.1).trans hkk.out.2.1
        have hbw : Below w.heap.size w W := PM.chain' hkk.out.2.2 hBw hsx.out.1.size
        have hres2 : PM.stp s X = (PM.stL s nn) := hres.out
        obtain ⟨s2, hs2⟩ : ∃ q, q = (PM.stL s nn) := ⟨_, rfl⟩
        rw [← hs2] at hsi hres2 ⊢
        clear hs1 hB hBw hs2 hSI hzo hkk hres
        obtain ⟨vl, vp, va, ks, r1, r2, r3, -, -⟩ := hsi
        obtain ⟨la, lc, hle⟩ := r1.len
        obtain ⟨qa, qc, hqe⟩ := r2.len
        obtain ⟨aa, ac, hae⟩ := (r3.em PM.idL_len).len
        generalize s2.1.ls.length = ln at hle
        generalize s2.1.ps.length = qn at hqe
        generalize s2.1.ab.length = an at hae
        subst hle hqe hae
        have d0 : W.cell? ⟨gs, 0, none⟩ = some (.int .u64 (s2.1.lf : Int)) := ks.cell 0
        have d1 : W.cell? ⟨gs, 1, none⟩ = some (.slice la ln lc) := ks.cell 1
        have d2 : W.cell? ⟨gs, 2, none⟩ = some (.slice qa qn qc) := ks.cell 2
        have d3 : W.cell? ⟨gs, 3, none⟩ = some (.slice aa an ac) := ks.cell 3
        have z0 : W.cell? ⟨g4, 0, none⟩ = some (.int .u64 0) := k4.cell 0
        have y0 : W.frozen? ⟨g4, 0, none⟩ = false := k4.free 0
        have z1 : W.cell? ⟨g4, 1, none⟩ = some (.slice none 0 0) := k4.cell 1
        have y1 : W.frozen? ⟨g4, 1, none⟩ = false := k4.free 1
        have z2 : W.cell? ⟨g4, 2, none⟩ = some (.slice none 0 0) := k4.cell 2
        have y2 : W.frozen? ⟨g4, 2, none⟩ = false := k4.free 2
        have z3 : W.cell? ⟨g4, 3, none⟩ = some (.slice none 0 0) := k4.cell 3
        have y3 : W.frozen? ⟨g4, 3, none⟩ = false := k4.free 3
        have hx : PM.Bx g4 W ((((W.setCell ⟨g4, 0, none⟩ (.int .u64 (s2.1.lf : Int))).setCell ⟨g4, 1, none⟩ (.slice la ln lc)).setCell ⟨g4, 2, none⟩ (.slice qa qn qc)).setCell ⟨g4, 3, none⟩ (.slice aa an ac)) := (((PM.Bx.set g4 0 _ _).trans (PM.Bx.set g4 1 _ _)).trans (PM.Bx.set g4 2 _ _)).trans (PM.Bx.set g4 3 _ _)
        have hrs : PM.RS 28 g4 W _ := ⟨hx, fun T hT => PM.KT.ofx hx k4 hT⟩
        have ZF := ((((k4.set 0 (.int .u64 (s2.1.lf : Int))).set 1 (.slice la ln lc)).set 2 (.slice qa qn qc)).set 3 (.slice aa an ac))
        have hend := PM.hid (And.intro (PM.EnW.mono hsx.out.1.size (r1.rs hrs)) (And.intro (PM.EnW.mono hsx.out.1.size (r2.rs hrs)) (And.intro (PM.OM.mono hsx.out.1.size (r3.kt (hrs.kt _ (by decide)))) (hx.below hbw hgB.out.2.2.2.1 hbw.size))))
        clear hx hrs r1 r2 r3 ks k4
        go_wp2_with fail
        generalize ((((W.setCell ⟨g4, 0, none⟩ (.int .u64 (s2.1.lf : Int))).setCell ⟨g4, 1, none⟩ (.slice la ln lc)).setCell ⟨g4, 2, none⟩ (.slice qa qn qc)).setCell ⟨g4, 3, none⟩ (.slice aa an ac)) = wf at *
        have q0 : wf.cell? ⟨g4, 0, none⟩ = some (.int .u64 (s2.1.lf : Int)) := ZF.cell 0
        have q1 : wf.cell? ⟨g4, 1, none⟩ = some (.slice la ln lc) := ZF.cell 1
        have q2 : wf.cell? ⟨g4, 2, none⟩ = some (.slice qa qn qc) := ZF.cell 2
        have q3 : wf.cell? ⟨g4, 3, none⟩ = some (.slice aa an ac) := ZF.cell 3
        refine bodyPost_ret (v := .tuple #[.agg #[.int .u64 (s2.1.lf : Int), .slice la ln lc, .slice qa qn qc, .slice aa an ac], .int .i64 s2.2]) (by simp [results, Try.results13, go_sem, q0, q1, q2, q3]) rfl ?_
        rw [hres2]
        exact ⟨_, _, _, _, _, _, _, _, _, rfl, hend.out.1, hend.out.2.1, hend.out.2.2.1, hend.out.2.2.2⟩
    · refine PM.wp_region_stK (PM.RW w3.heap.size) (fun W W' => Below W.heap.size W W') (fun W => PM.SI w3.heap.size gs s W W ∧ PM.enO 114 112 84 w3.heap.size W [.int .i64 z.kind, .int .i64 z.id.br, .int .u64 (z.id.life : Int), .int .u64 (z.id.ser : Int), .int .i64 z.client, .int .u64 (z.sub : Int), .slice fb zF fd, .slice eb zE ed] z) (fun _ _ h => h) (fun h => PM.RW.new h) (fun h k => h.trans k) [some 25, some 26, some 27, some 28, some 29, some 30, some 9] [some 25, some 26, some 27, some 28, some 29, some 30, some 9] [[], [0], [], [2], [0, 1, 2, 3], [0, 1, 2, 3, 4], [0, 1, 2, 3, 4, 5]] [false, true, false, false, true, true, false] [5] [([], false), ([0], false), ([], false), ([2], false), ([1, 3], false), ([4], true), ([5], false)] [5, 6] [fun x _ => x = .agg #[.int .i64 2, .int .u64 (nn : Int), .int .i64 z.kind, .int .i64 z.id.br, .int .u64 (z.id.life : Int), .int .u64 (z.id.ser : Int), .int .i64 z.client, .int .u64 (z.sub : Int), .slice fb zF fd, .slice eb zE ed, .int .i64 i.br, .int .u64 (i.life : Int), .int .u64 (i.ser : Int)], fun x W => PM.SMs gs #[.int .i64 2, .int .u64 (nn : Int), .int .i64 z.kind, .int .i64 z.id.br, .int .u64 (z.id.life : Int), .int .u64 (z.id.ser : Int), .int .i64 z.client, .int .u64 (z.sub : Int), .slice fb zF fd, .slice eb zE ed, .int .i64 i.br, .int .u64 (i.life : Int), .int .u64 (i.ser : Int)] x W, fun x _ => x = .pointer (some ⟨gr, 0, none⟩), fun x _ => x = .int .i64 2, fun x W => PM.SFn gs 2 #[.int .i64 2, .int .u64 (nn : Int), .int .i64 z.kind, .int .i64 z.id.br, .int .u64 (z.id.life : Int), .int .u64 (z.id.ser : Int), .int .i64 z.client, .int .u64 (z.sub : Int), .slice fb zF fd, .slice eb zE ed, .int .i64 i.br, .int .u64 (i.life : Int), .int .u64 (i.ser : Int)] x W, fun x W => PM.SRt w3.heap.size gs (PM.stE s nn z) w8 x W, fun x _ => x = .int .i64 (PM.stE s nn z).2] (by kernel_rfl) (by kernel_rfl) (by kernel_rfl) (by kernel_rfl) (by kernel_rfl) (by kernel_rfl) (by kernel_rfl) (by kernel_rfl) (by kernel_rfl) ?_ ?_ ?_ ?_ ?_ ?_
      · simp only [List.zip_cons_cons, List.zip_nil_right, List.forall_mem_cons]
        refine ⟨?_, ?_, ?_, ?_, ?_, ?_, ?_, by simp⟩
        all_goals (intro hk v W W' h hb; first | exact Bool.noConfusion hk | exact h)
      · simp only [List.forall_mem_cons]
        refine ⟨?_, ?_, ?_, ?_, ?_, ?_, ?_, by simp⟩
        all_goals (intro v W W' h hb; first | exact h | exact PM.SMs.keep hb h | exact PM.SFn.keep hb h | exact PM.SRt.keep hb hBgs.out h)
      · exact fun W W' h hb => ⟨(h.1.keep hb (Nat.le_trans hBgs.out (Nat.le_of_lt h.1.lt))).here, PM.enO_lasts _ _ _ _ hb h.2⟩
      · exact ⟨hSI.out, hzo.out⟩
      · refine ⟨?_, ?_, ?_, ?_, ?_, ?_, ?_, trivial⟩
        all_goals
          intro a W hB hF hd hp
          have k3 := hF 3 rfl
          have k6 := hF 6 rfl
          have hBw := hB.2 hsz8.out
          have kg := (hBw.block gr hgB.out.2.1).trans hkk.out.1
          have r0 : W.cell? ⟨gr, 0, none⟩ = some (.int .i64 2) := PM.BK.cell kg 0
          have r1 : W.cell? ⟨gr, 1, none⟩ = some (.int .u64 (nn : Int)) := PM.BK.cell kg 1
          have r2 : W.cell? ⟨gr, 2, none⟩ = some (.int .i64 z.kind) := PM.BK.cell kg 2
          have r3 : W.cell? ⟨gr, 3, none⟩ = some (.int .i64 z.id.br) := PM.BK.cell kg 3
          have r4 : W.cell? ⟨gr, 4, none⟩ = some (.int .u64 (z.id.life : Int)) := PM.BK.cell kg 4
          have r5 : W.cell? ⟨gr, 5, none⟩ = some (.int .u64 (z.id.ser : Int)) := PM.BK.cell kg 5
          have r6 : W.cell? ⟨gr, 6, none⟩ = some (.int .i64 z.client) := PM.BK.cell kg 6
          have r7 : W.cell? ⟨gr, 7, none⟩ = some (.int .u64 (z.sub : Int)) := PM.BK.cell kg 7
          have r8 : W.cell? ⟨gr, 8, none⟩ = some (.slice fb zF fd) := PM.BK.cell kg 8
          have r9 : W.cell? ⟨gr, 9, none⟩ = some (.slice eb zE ed) := PM.BK.cell kg 9
          have r10 : W.cell? ⟨gr, 10, none⟩ = some (.int .i64 i.br) := PM.BK.cell kg 10
          have r11 : W.cell? ⟨gr, 11, none⟩ = some (.int .u64 (i.life : Int)) := PM.BK.cell kg 11
          have r12 : W.cell? ⟨gr, 12, none⟩ = some (.int .u64 (i.ser : Int)) := PM.BK.cell kg 12
          clear kg
          clear hF
          simp [PM.depsK, PM.spec, PM.sl] at hd hp k3 k6
          simp only [PM.wantL, PM.spec, PM.Spv]
          try simp only [PM.sl]
          go_simp
        all_goals try exact Below.refl _ _
        · refine (steps_any 2 nn z fb zF fd eb zE ed i gs W).mono ?_
          rintro e w' ⟨v, rfl, hs2, hb⟩
          exact ⟨hb, _, rfl, hs2⟩
        · obtain ⟨⟨gm, gr2, gp, he, hIM, j1, j2⟩, e28⟩ := hd
          have kl := PM.run_lookup_int (P := Try.prog) (T := 60) Try.underlying60 Try.underlying3 hIM 2 (zeroFnF W)
          simp only [he, kl]
          go_simp
          exact ⟨Below.refl _ _, _, rfl, gr2, gp, rfl, j1, j2⟩
        · obtain ⟨gr2, gp, he, j1, j2⟩ := hd
          have he2 : _ = (.func (.func 41) #[] #[.pointer (some ⟨gr2, 0, none⟩), .pointer (some ⟨gp, 0, none⟩)] : Value) := he
          have hcl := stE_any 2 nn z fb zF fd eb zE ed i w3.heap.size gs gr2 gp s W W hp.1 hBgs j1 j2 hp.2 hlen
          simp only [he2]
          go_simp
          refine hcl.mono ?_
          rintro e w' ⟨rfl, hs2⟩
          exact ⟨⟨PM.SI.size hs2 hp.1, fun _ => hs2.below⟩, _, rfl, rfl, hs2.from hBw⟩
        · first | exact hd.1 | exact ⟨Below.refl _ _, by rw [hd.1]⟩ | (rw [hd.1]; exact ⟨Below.refl _ _, rfl⟩) | (simp only [hd.1]; exact Below.refl _ _) | (simp [hd.1]; exact Below.refl _ _) | exact ⟨Below.refl _ _, _, rfl, hd.1⟩ | (simp [hd.1]; done)
      · intro G W hB hF hS
        simp only [PM.allK, PM.spec] at hS
        simp at hS
        have u0 := hF 0 rfl
        have u4 := hF 4 rfl
        have u6 := hF 6 rfl
        simp [PM.sl] at u0 u4 u6
        obtain ⟨hs1, hs2⟩ := hS
        rw [show ((List.range (Array.size _)).map G).toArray = #[G 0, G 1, G 2, G 3, G 4, G 5, G 6, G 7, G 8, G 9, G 10, G 11, G 12, G 13, G 14, G 15, G 16, G 17, G 18, G 19, G 20, G 21, G 22, G 23, G 24, G 25, G 26, G 27, G 28, G 29, G 30, G 31, G 32] from rfl]
        rw [u0, u4, u6, hs2]
        clear u0 u4 u6 hF hs2
        have hsi := hs1.2
        have hBw := hB.2 hsz8.out
        have k4 : PM.BK W g4 #[.int .u64 0, .slice none 0 0, .slice none 0 0, .slice none 0 0] 28 := (hBw.block g4 hgB.out.2.2.1).trans hkk.out.2.1
        have hbw : Below w.heap.size w W := PM.chain' hkk.out.2.2 hBw hsx.out.1.size
        have hres2 : PM.stp s X = (PM.stE s nn z) := hres.out
        obtain ⟨s2, hs2⟩ : ∃ q, q = (PM.stE s nn z) := ⟨_, rfl⟩
        rw [← hs2] at hsi hres2 ⊢
        clear hs1 hB hBw hs2 hSI hzo hkk hres
        obtain ⟨vl, vp, va, ks, r1, r2, r3, -, -⟩ := hsi
        obtain ⟨la, lc, hle⟩ := r1.len
        obtain ⟨qa, qc, hqe⟩ := r2.len
        obtain ⟨aa, ac, hae⟩ := (r3.em PM.idL_len).len
        generalize s2.1.ls.length = ln at hle
        generalize s2.1.ps.length = qn at hqe
        generalize s2.1.ab.length = an at hae
        subst hle hqe hae
        have d0 : W.cell? ⟨gs, 0, none⟩ = some (.int .u64 (s2.1.lf : Int)) := ks.cell 0
        have d1 : W.cell? ⟨gs, 1, none⟩ = some (.slice la ln lc) := ks.cell 1
        have d2 : W.cell? ⟨gs, 2, none⟩ = some (.slice qa qn qc) := ks.cell 2
        have d3 : W.cell? ⟨gs, 3, none⟩ = some (.slice aa an ac) := ks.cell 3
        have z0 : W.cell? ⟨g4, 0, none⟩ = some (.int .u64 0) := k4.cell 0
        have y0 : W.frozen? ⟨g4, 0, none⟩ = false := k4.free 0
        have z1 : W.cell? ⟨g4, 1, none⟩ = some (.slice none 0 0) := k4.cell 1
        have y1 : W.frozen? ⟨g4, 1, none⟩ = false := k4.free 1
        have z2 : W.cell? ⟨g4, 2, none⟩ = some (.slice none 0 0) := k4.cell 2
        have y2 : W.frozen? ⟨g4, 2, none⟩ = false := k4.free 2
        have z3 : W.cell? ⟨g4, 3, none⟩ = some (.slice none 0 0) := k4.cell 3
        have y3 : W.frozen? ⟨g4, 3, none⟩ = false := k4.free 3
        have hx : PM.Bx g4 W ((((W.setCell ⟨g4, 0, none⟩ (.int .u64 (s2.1.lf : Int))).setCell ⟨g4, 1, none⟩ (.slice la ln lc)).setCell ⟨g4, 2, none⟩ (.slice qa qn qc)).setCell ⟨g4, 3, none⟩ (.slice aa an ac)) := (((PM.Bx.set g4 0 _ _).trans (PM.Bx.set g4 1 _ _)).trans (PM.Bx.set g4 2 _ _)).trans (PM.Bx.set g4 3 _ _)
        have hrs : PM.RS 28 g4 W _ := ⟨hx, fun T hT => PM.KT.ofx hx k4 hT⟩
        have ZF := ((((k4.set 0 (.int .u64 (s2.1.lf : Int))).set 1 (.slice la ln lc)).set 2 (.slice qa qn qc)).set 3 (.slice aa an ac))
        have hend := PM.hid (And.intro (PM.EnW.mono hsx.out.1.size (r1.rs hrs)) (And.intro (PM.EnW.mono hsx.out.1.size (r2.rs hrs)) (And.intro (PM.OM.mono hsx.out.1.size (r3.kt (hrs.kt _ (by decide)))) (hx.below hbw hgB.out.2.2.2.1 hbw.size))))
        clear hx hrs r1 r2 r3 ks k4
        go_wp2_with fail
        generalize ((((W.setCell ⟨g4, 0, none⟩ (.int .u64 (s2.1.lf : Int))).setCell ⟨g4, 1, none⟩ (.slice la ln lc)).setCell ⟨g4, 2, none⟩ (.slice qa qn qc)).setCell ⟨g4, 3, none⟩ (.slice aa an ac)) = wf at *
        have q0 : wf.cell? ⟨g4, 0, none⟩ = some (.int .u64 (s2.1.lf : Int)) := ZF.cell 0
        have q1 : wf.cell? ⟨g4, 1, none⟩ = some (.slice la ln lc) := ZF.cell 1
        have q2 : wf.cell? ⟨g4, 2, none⟩ = some (.slice qa qn qc) := ZF.cell 2
        have q3 : wf.cell? ⟨g4, 3, none⟩ = some (.slice aa an ac) := ZF.cell 3
        refine bodyPost_ret (v := .tuple #[.agg #[.int .u64 (s2.1.lf : Int), .slice la ln lc, .slice qa qn qc, .slice aa an ac], .int .i64 s2.2]) (by simp [results, Try.results13, go_sem, q0, q1, q2, q3]) rfl ?_
        rw [hres2]
        exact ⟨_, _, _, _, _, _, _, _, _, rfl, hend.out.1, hend.out.2.1, hend.out.2.2.1, hend.out.2.2.2⟩
    · refine PM.wp_region_stK (PM.RW w3.heap.size) (fun W W' => Below W.heap.size W W') (fun W => PM.SI w3.heap.size gs s W W ∧ PM.enO 114 112 84 w3.heap.size W [.int .i64 z.kind, .int .i64 z.id.br, .int .u64 (z.id.life : Int), .int .u64 (z.id.ser : Int), .int .i64 z.client, .int .u64 (z.sub : Int), .slice fb zF fd, .slice eb zE ed] z) (fun _ _ h => h) (fun h => PM.RW.new h) (fun h k => h.trans k) [some 25, some 26, some 27, some 28, some 29, some 30, some 9] [some 25, some 26, some 27, some 28, some 29, some 30, some 9] [[], [0], [], [2], [0, 1, 2, 3], [0, 1, 2, 3, 4], [0, 1, 2, 3, 4, 5]] [false, true, false, false, true, true, false] [5] [([], false), ([0], false), ([], false), ([2], false), ([1, 3], false), ([4], true), ([5], false)] [5, 6] [fun x _ => x = .agg #[.int .i64 3, .int .u64 (nn : Int), .int .i64 z.kind, .int .i64 z.id.br, .int .u64 (z.id.life : Int), .int .u64 (z.id.ser : Int), .int .i64 z.client, .int .u64 (z.sub : Int), .slice fb zF fd, .slice eb zE ed, .int .i64 i.br, .int .u64 (i.life : Int), .int .u64 (i.ser : Int)], fun x W => PM.SMs gs #[.int .i64 3, .int .u64 (nn : Int), .int .i64 z.kind, .int .i64 z.id.br, .int .u64 (z.id.life : Int), .int .u64 (z.id.ser : Int), .int .i64 z.client, .int .u64 (z.sub : Int), .slice fb zF fd, .slice eb zE ed, .int .i64 i.br, .int .u64 (i.life : Int), .int .u64 (i.ser : Int)] x W, fun x _ => x = .pointer (some ⟨gr, 0, none⟩), fun x _ => x = .int .i64 3, fun x W => PM.SFn gs 3 #[.int .i64 3, .int .u64 (nn : Int), .int .i64 z.kind, .int .i64 z.id.br, .int .u64 (z.id.life : Int), .int .u64 (z.id.ser : Int), .int .i64 z.client, .int .u64 (z.sub : Int), .slice fb zF fd, .slice eb zE ed, .int .i64 i.br, .int .u64 (i.life : Int), .int .u64 (i.ser : Int)] x W, fun x W => PM.SRt w3.heap.size gs (PM.stP s z) w8 x W, fun x _ => x = .int .i64 (PM.stP s z).2] (by kernel_rfl) (by kernel_rfl) (by kernel_rfl) (by kernel_rfl) (by kernel_rfl) (by kernel_rfl) (by kernel_rfl) (by kernel_rfl) (by kernel_rfl) ?_ ?_ ?_ ?_ ?_ ?_
      · simp only [List.zip_cons_cons, List.zip_nil_right, List.forall_mem_cons]
        refine ⟨?_, ?_, ?_, ?_, ?_, ?_, ?_, by simp⟩
        all_goals (intro hk v W W' h hb; first | exact Bool.noConfusion hk | exact h)
      · simp only [List.forall_mem_cons]
        refine ⟨?_, ?_, ?_, ?_, ?_, ?_, ?_, by simp⟩
        all_goals (intro v W W' h hb; first | exact h | exact PM.SMs.keep hb h | exact PM.SFn.keep hb h | exact PM.SRt.keep hb hBgs.out h)
      · exact fun W W' h hb => ⟨(h.1.keep hb (Nat.le_trans hBgs.out (Nat.le_of_lt h.1.lt))).here, PM.enO_lasts _ _ _ _ hb h.2⟩
      · exact ⟨hSI.out, hzo.out⟩
      · refine ⟨?_, ?_, ?_, ?_, ?_, ?_, ?_, trivial⟩
        all_goals
          intro a W hB hF hd hp
          have k3 := hF 3 rfl
          have k6 := hF 6 rfl
          have hBw := hB.2 hsz8.out
          have kg := (hBw.block gr hgB.out.2.1).trans hkk.out.1
          have r0 : W.cell? ⟨gr, 0, none⟩ = some (.int .i64 3) := PM.BK.cell kg 0
          have r1 : W.cell? ⟨gr, 1, none⟩ = some (.int .u64 (nn : Int)) := PM.BK.cell kg 1
          have r2 : W.cell? ⟨gr, 2, none⟩ = some (.int .i64 z.kind) := PM.BK.cell kg 2
          have r3 : W.cell? ⟨gr, 3, none⟩ = some (.int .i64 z.id.br) := PM.BK.cell kg 3
          have r4 : W.cell? ⟨gr, 4, none⟩ = some (.int .u64 (z.id.life : Int)) := PM.BK.cell kg 4
          have r5 : W.cell? ⟨gr, 5, none⟩ = some (.int .u64 (z.id.ser : Int)) := PM.BK.cell kg 5
          have r6 : W.cell? ⟨gr, 6, none⟩ = some (.int .i64 z.client) := PM.BK.cell kg 6
          have r7 : W.cell? ⟨gr, 7, none⟩ = some (.int .u64 (z.sub : Int)) := PM.BK.cell kg 7
          have r8 : W.cell? ⟨gr, 8, none⟩ = some (.slice fb zF fd) := PM.BK.cell kg 8
          have r9 : W.cell? ⟨gr, 9, none⟩ = some (.slice eb zE ed) := PM.BK.cell kg 9
          have r10 : W.cell? ⟨gr, 10, none⟩ = some (.int .i64 i.br) := PM.BK.cell kg 10
          have r11 : W.cell? ⟨gr, 11, none⟩ = some (.int .u64 (i.life : Int)) := PM.BK.cell kg 11
          have r12 : W.cell? ⟨gr, 12, none⟩ = some (.int .u64 (i.ser : Int)) := PM.BK.cell kg 12
          clear kg
          clear hF
          simp [PM.depsK, PM.spec, PM.sl] at hd hp k3 k6
          simp only [PM.wantL, PM.spec, PM.Spv]
          try simp only [PM.sl]
          go_simp
        all_goals try exact Below.refl _ _
        · refine (steps_any 3 nn z fb zF fd eb zE ed i gs W).mono ?_
          rintro e w' ⟨v, rfl, hs2, hb⟩
          exact ⟨hb, _, rfl, hs2⟩
        · obtain ⟨⟨gm, gr2, gp, he, hIM, j1, j2⟩, e28⟩ := hd
          have kl := PM.run_lookup_int (P := Try.prog) (T := 60) Try.underlying60 Try.underlying3 hIM 3 (zeroFnF W)
          simp only [he, kl]
          go_simp
          exact ⟨Below.refl _ _, _, rfl, gr2, gp, rfl, j1, j2⟩
        · obtain ⟨gr2, gp, he, j1, j2⟩ := hd
          have he2 : _ = (.func (.func 43) #[] #[.pointer (some ⟨gp, 0, none⟩), .pointer (some ⟨gr2, 0, none⟩)] : Value) := he
          have hcl := stP_any 3 nn z fb zF fd eb zE ed i w3.heap.size gs gr2 gp s W W hp.1 hBgs j1 j2 hp.2 hlen
          simp only [he2]
          go_simp
          refine hcl.mono ?_
          rintro e w' ⟨rfl, hs2⟩
          exact ⟨⟨PM.SI.size hs2 hp.1, fun _ => hs2.below⟩, _, rfl, rfl, hs2.from hBw⟩
        · first | exact hd.1 | exact ⟨Below.refl _ _, by rw [hd.1]⟩ | (rw [hd.1]; exact ⟨Below.refl _ _, rfl⟩) | (simp only [hd.1]; exact Below.refl _ _) | (simp [hd.1]; exact Below.refl _ _) | exact ⟨Below.refl _ _, _, rfl, hd.1⟩ | (simp [hd.1]; done)
      · intro G W hB hF hS
        simp only [PM.allK, PM.spec] at hS
        simp at hS
        have u0 := hF 0 rfl
        have u4 := hF 4 rfl
        have u6 := hF 6 rfl
        simp [PM.sl] at u0 u4 u6
        obtain ⟨hs1, hs2⟩ := hS
        rw [show ((List.range (Array.size _)).map G).toArray = #[G 0, G 1, G 2, G 3, G 4, G 5, G 6, G 7, G 8, G 9, G 10, G 11, G 12, G 13, G 14, G 15, G 16, G 17, G 18, G 19, G 20, G 21, G 22, G 23, G 24, G 25, G 26, G 27, G 28, G 29, G 30, G 31, G 32] from rfl]
        rw [u0, u4, u6, hs2]
        clear u0 u4 u6 hF hs2
        have hsi := hs1.2
        have hBw := hB.2 hsz8.out
        have k4 : PM.BK W g4 #[.int .u64 0, .slice none 0 0, .slice none 0 0, .slice none 0 0] 28 := (hBw.block g4 hgB.out.2.2.1).trans hkk.out.2.1
        have hbw : Below w.heap.size w W := PM.chain' hkk.out.2.2 hBw hsx.out.1.size
        have hres2 : PM.stp s X = (PM.stP s z) := hres.out
        obtain ⟨s2, hs2⟩ : ∃ q, q = (PM.stP s z) := ⟨_, rfl⟩
        rw [← hs2] at hsi hres2 ⊢
        clear hs1 hB hBw hs2 hSI hzo hkk hres
        obtain ⟨vl, vp, va, ks, r1, r2, r3, -, -⟩ := hsi
        obtain ⟨la, lc, hle⟩ := r1.len
        obtain ⟨qa, qc, hqe⟩ := r2.len
        obtain ⟨aa, ac, hae⟩ := (r3.em PM.idL_len).len
        generalize s2.1.ls.length = ln at hle
        generalize s2.1.ps.length = qn at hqe
        generalize s2.1.ab.length = an at hae
        subst hle hqe hae
        have d0 : W.cell? ⟨gs, 0, none⟩ = some (.int .u64 (s2.1.lf : Int)) := ks.cell 0
        have d1 : W.cell? ⟨gs, 1, none⟩ = some (.slice la ln lc) := ks.cell 1
        have d2 : W.cell? ⟨gs, 2, none⟩ = some (.slice qa qn qc) := ks.cell 2
        have d3 : W.cell? ⟨gs, 3, none⟩ = some (.slice aa an ac) := ks.cell 3
        have z0 : W.cell? ⟨g4, 0, none⟩ = some (.int .u64 0) := k4.cell 0
        have y0 : W.frozen? ⟨g4, 0, none⟩ = false := k4.free 0
        have z1 : W.cell? ⟨g4, 1, none⟩ = some (.slice none 0 0) := k4.cell 1
        have y1 : W.frozen? ⟨g4, 1, none⟩ = false := k4.free 1
        have z2 : W.cell? ⟨g4, 2, none⟩ = some (.slice none 0 0) := k4.cell 2
        have y2 : W.frozen? ⟨g4, 2, none⟩ = false := k4.free 2
        have z3 : W.cell? ⟨g4, 3, none⟩ = some (.slice none 0 0) := k4.cell 3
        have y3 : W.frozen? ⟨g4, 3, none⟩ = false := k4.free 3
        have hx : PM.Bx g4 W ((((W.setCell ⟨g4, 0, none⟩ (.int .u64 (s2.1.lf : Int))).setCell ⟨g4, 1, none⟩ (.slice la ln lc)).setCell ⟨g4, 2, none⟩ (.slice qa qn qc)).setCell ⟨g4, 3, none⟩ (.slice aa an ac)) := (((PM.Bx.set g4 0 _ _).trans (PM.Bx.set g4 1 _ _)).trans (PM.Bx.set g4 2 _ _)).trans (PM.Bx.set g4 3 _ _)
        have hrs : PM.RS 28 g4 W _ := ⟨hx, fun T hT => PM.KT.ofx hx k4 hT⟩
        have ZF := ((((k4.set 0 (.int .u64 (s2.1.lf : Int))).set 1 (.slice la ln lc)).set 2 (.slice qa qn qc)).set 3 (.slice aa an ac))
        have hend := PM.hid (And.intro (PM.EnW.mono hsx.out.1.size (r1.rs hrs)) (And.intro (PM.EnW.mono hsx.out.1.size (r2.rs hrs)) (And.intro (PM.OM.mono hsx.out.1.size (r3.kt (hrs.kt _ (by decide)))) (hx.below hbw hgB.out.2.2.2.1 hbw.size))))
        clear hx hrs r1 r2 r3 ks k4
        go_wp2_with fail
        generalize ((((W.setCell ⟨g4, 0, none⟩ (.int .u64 (s2.1.lf : Int))).setCell ⟨g4, 1, none⟩ (.slice la ln lc)).setCell ⟨g4, 2, none⟩ (.slice qa qn qc)).setCell ⟨g4, 3, none⟩ (.slice aa an ac)) = wf at *
        have q0 : wf.cell? ⟨g4, 0, none⟩ = some (.int .u64 (s2.1.lf : Int)) := ZF.cell 0
        have q1 : wf.cell? ⟨g4, 1, none⟩ = some (.slice la ln lc) := ZF.cell 1
        have q2 : wf.cell? ⟨g4, 2, none⟩ = some (.slice qa qn qc) := ZF.cell 2
        have q3 : wf.cell? ⟨g4, 3, none⟩ = some (.slice aa an ac) := ZF.cell 3
        refine bodyPost_ret (v := .tuple #[.agg #[.int .u64 (s2.1.lf : Int), .slice la ln lc, .slice qa qn qc, .slice aa an ac], .int .i64 s2.2]) (by simp [results, Try.results13, go_sem, q0, q1, q2, q3]) rfl ?_
        rw [hres2]
        exact ⟨_, _, _, _, _, _, _, _, _, rfl, hend.out.1, hend.out.2.1, hend.out.2.2.1, hend.out.2.2.2⟩
    · refine PM.wp_region_stK (PM.RW w3.heap.size) (fun W W' => Below W.heap.size W W') (fun W => PM.SI w3.heap.size gs s W W ∧ PM.enO 114 112 84 w3.heap.size W [.int .i64 z.kind, .int .i64 z.id.br, .int .u64 (z.id.life : Int), .int .u64 (z.id.ser : Int), .int .i64 z.client, .int .u64 (z.sub : Int), .slice fb zF fd, .slice eb zE ed] z) (fun _ _ h => h) (fun h => PM.RW.new h) (fun h k => h.trans k) [some 25, some 26, some 27, some 28, some 29, some 30, some 9] [some 25, some 26, some 27, some 28, some 29, some 30, some 9] [[], [0], [], [2], [0, 1, 2, 3], [0, 1, 2, 3, 4], [0, 1, 2, 3, 4, 5]] [false, true, false, false, true, true, false] [5] [([], false), ([0], false), ([], false), ([2], false), ([1, 3], false), ([4], true), ([5], false)] [5, 6] [fun x _ => x = .agg #[.int .i64 4, .int .u64 (nn : Int), .int .i64 z.kind, .int .i64 z.id.br, .int .u64 (z.id.life : Int), .int .u64 (z.id.ser : Int), .int .i64 z.client, .int .u64 (z.sub : Int), .slice fb zF fd, .slice eb zE ed, .int .i64 i.br, .int .u64 (i.life : Int), .int .u64 (i.ser : Int)], fun x W => PM.SMs gs #[.int .i64 4, .int .u64 (nn : Int), .int .i64 z.kind, .int .i64 z.id.br, .int .u64 (z.id.life : Int), .int .u64 (z.id.ser : Int), .int .i64 z.client, .int .u64 (z.sub : Int), .slice fb zF fd, .slice eb zE ed, .int .i64 i.br, .int .u64 (i.life : Int), .int .u64 (i.ser : Int)] x W, fun x _ => x = .pointer (some ⟨gr, 0, none⟩), fun x _ => x = .int .i64 4, fun x W => PM.SFn gs 4 #[.int .i64 4, .int .u64 (nn : Int), .int .i64 z.kind, .int .i64 z.id.br, .int .u64 (z.id.life : Int), .int .u64 (z.id.ser : Int), .int .i64 z.client, .int .u64 (z.sub : Int), .slice fb zF fd, .slice eb zE ed, .int .i64 i.br, .int .u64 (i.life : Int), .int .u64 (i.ser : Int)] x W, fun x W => PM.SRt w3.heap.size gs (PM.stA s i) w8 x W, fun x _ => x = .int .i64 (PM.stA s i).2] (by kernel_rfl) (by kernel_rfl) (by kernel_rfl) (by kernel_rfl) (by kernel_rfl) (by kernel_rfl) (by kernel_rfl) (by kernel_rfl) (by kernel_rfl) ?_ ?_ ?_ ?_ ?_ ?_
      · simp only [List.zip_cons_cons, List.zip_nil_right, List.forall_mem_cons]
        refine ⟨?_, ?_, ?_, ?_, ?_, ?_, ?_, by simp⟩
        all_goals (intro hk v W W' h hb; first | exact Bool.noConfusion hk | exact h)
      · simp only [List.forall_mem_cons]
        refine ⟨?_, ?_, ?_, ?_, ?_, ?_, ?_, by simp⟩
        all_goals (intro v W W' h hb; first | exact h | exact PM.SMs.keep hb h | exact PM.SFn.keep hb h | exact PM.SRt.keep hb hBgs.out h)
      · exact fun W W' h hb => ⟨(h.1.keep hb (Nat.le_trans hBgs.out (Nat.le_of_lt h.1.lt))).here, PM.enO_lasts _ _ _ _ hb h.2⟩
      · exact ⟨hSI.out, hzo.out⟩
      · refine ⟨?_, ?_, ?_, ?_, ?_, ?_, ?_, trivial⟩
        all_goals
          intro a W hB hF hd hp
          have k3 := hF 3 rfl
          have k6 := hF 6 rfl
          have hBw := hB.2 hsz8.out
          have kg := (hBw.block gr hgB.out.2.1).trans hkk.out.1
          have r0 : W.cell? ⟨gr, 0, none⟩ = some (.int .i64 4) := PM.BK.cell kg 0
          have r1 : W.cell? ⟨gr, 1, none⟩ = some (.int .u64 (nn : Int)) := PM.BK.cell kg 1
          have r2 : W.cell? ⟨gr, 2, none⟩ = some (.int .i64 z.kind) := PM.BK.cell kg 2
          have r3 : W.cell? ⟨gr, 3, none⟩ = some (.int .i64 z.id.br) := PM.BK.cell kg 3
          have r4 : W.cell? ⟨gr, 4, none⟩ = some (.int .u64 (z.id.life : Int)) := PM.BK.cell kg 4
          have r5 : W.cell? ⟨gr, 5, none⟩ = some (.int .u64 (z.id.ser : Int)) := PM.BK.cell kg 5
          have r6 : W.cell? ⟨gr, 6, none⟩ = some (.int .i64 z.client) := PM.BK.cell kg 6
          have r7 : W.cell? ⟨gr, 7, none⟩ = some (.int .u64 (z.sub : Int)) := PM.BK.cell kg 7
          have r8 : W.cell? ⟨gr, 8, none⟩ = some (.slice fb zF fd) := PM.BK.cell kg 8
          have r9 : W.cell? ⟨gr, 9, none⟩ = some (.slice eb zE ed) := PM.BK.cell kg 9
          have r10 : W.cell? ⟨gr, 10, none⟩ = some (.int .i64 i.br) := PM.BK.cell kg 10
          have r11 : W.cell? ⟨gr, 11, none⟩ = some (.int .u64 (i.life : Int)) := PM.BK.cell kg 11
          have r12 : W.cell? ⟨gr, 12, none⟩ = some (.int .u64 (i.ser : Int)) := PM.BK.cell kg 12
          clear kg
          clear hF
          simp [PM.depsK, PM.spec, PM.sl] at hd hp k3 k6
          simp only [PM.wantL, PM.spec, PM.Spv]
          try simp only [PM.sl]
          go_simp
        all_goals try exact Below.refl _ _
        · refine (steps_any 4 nn z fb zF fd eb zE ed i gs W).mono ?_
          rintro e w' ⟨v, rfl, hs2, hb⟩
          exact ⟨hb, _, rfl, hs2⟩
        · obtain ⟨⟨gm, gr2, gp, he, hIM, j1, j2⟩, e28⟩ := hd
          have kl := PM.run_lookup_int (P := Try.prog) (T := 60) Try.underlying60 Try.underlying3 hIM 4 (zeroFnF W)
          simp only [he, kl]
          go_simp
          exact ⟨Below.refl _ _, _, rfl, gr2, gp, rfl, j1, j2⟩
        · obtain ⟨gr2, gp, he, j1, j2⟩ := hd
          have he2 : _ = (.func (.func 44) #[] #[.pointer (some ⟨gp, 0, none⟩), .pointer (some ⟨gr2, 0, none⟩)] : Value) := he
          have hcl := stA_any 4 nn z fb zF fd eb zE ed i w3.heap.size gs gr2 gp s W W hp.1 hBgs j1 j2 hp.2 hlen
          simp only [he2]
          go_simp
          refine hcl.mono ?_
          rintro e w' ⟨rfl, hs2⟩
          exact ⟨⟨PM.SI.size hs2 hp.1, fun _ => hs2.below⟩, _, rfl, rfl, hs2.from hBw⟩
        · first | exact hd.1 | exact ⟨Below.refl _ _, by rw [hd.1]⟩ | (rw [hd.1]; exact ⟨Below.refl _ _, rfl⟩) | (simp only [hd.1]; exact Below.refl _ _) | (simp [hd.1]; exact Below.refl _ _) | exact ⟨Below.refl _ _, _, rfl, hd.1⟩ | (simp [hd.1]; done)
      · intro G W hB hF hS
        simp only [PM.allK, PM.spec] at hS
        simp at hS
        have u0 := hF 0 rfl
        have u4 := hF 4 rfl
        have u6 := hF 6 rfl
        simp [PM.sl] at u0 u4 u6
        obtain ⟨hs1, hs2⟩ := hS
        rw [show ((List.range (Array.size _)).map G).toArray = #[G 0, G 1, G 2, G 3, G 4, G 5, G 6, G 7, G 8, G 9, G 10, G 11, G 12, G 13, G 14, G 15, G 16, G 17, G 18, G 19, G 20, G 21, G 22, G 23, G 24, G 25, G 26, G 27, G 28, G 29, G 30, G 31, G 32] from rfl]
        rw [u0, u4, u6, hs2]
        clear u0 u4 u6 hF hs2
        have hsi := hs1.2
        have hBw := hB.2 hsz8.out
        have k4 : PM.BK W g4 #[.int .u64 0, .slice none 0 0, .slice none 0 0, .slice none 0 0] 28 := (hBw.block g4 hgB.out.2.2.1).trans hkk.out.2.1
        have hbw : Below w.heap.size w W := PM.chain' hkk.out.2.2 hBw hsx.out.1.size
        have hres2 : PM.stp s X = (PM.stA s i) := hres.out
        obtain ⟨s2, hs2⟩ : ∃ q, q = (PM.stA s i) := ⟨_, rfl⟩
        rw [← hs2] at hsi hres2 ⊢
        clear hs1 hB hBw hs2 hSI hzo hkk hres
        obtain ⟨vl, vp, va, ks, r1, r2, r3, -, -⟩ := hsi
        obtain ⟨la, lc, hle⟩ := r1.len
        obtain ⟨qa, qc, hqe⟩ := r2.len
        obtain ⟨aa, ac, hae⟩ := (r3.em PM.idL_len).len
        generalize s2.1.ls.length = ln at hle
        generalize s2.1.ps.length = qn at hqe
        generalize s2.1.ab.length = an at hae
        subst hle hqe hae
        have d0 : W.cell? ⟨gs, 0, none⟩ = some (.int .u64 (s2.1.lf : Int)) := ks.cell 0
        have d1 : W.cell? ⟨gs, 1, none⟩ = some (.slice la ln lc) := ks.cell 1
        have d2 : W.cell? ⟨gs, 2, none⟩ = some (.slice qa qn qc) := ks.cell 2
        have d3 : W.cell? ⟨gs, 3, none⟩ = some (.slice aa an ac) := ks.cell 3
        have z0 : W.cell? ⟨g4, 0, none⟩ = some (.int .u64 0) := k4.cell 0
        have y0 : W.frozen? ⟨g4, 0, none⟩ = false := k4.free 0
        have z1 : W.cell? ⟨g4, 1, none⟩ = some (.slice none 0 0) := k4.cell 1
        have y1 : W.frozen? ⟨g4, 1, none⟩ = false := k4.free 1
        have z2 : W.cell? ⟨g4, 2, none⟩ = some (.slice none 0 0) := k4.cell 2
        have y2 : W.frozen? ⟨g4, 2, none⟩ = false := k4.free 2
        have z3 : W.cell? ⟨g4, 3, none⟩ = some (.slice none 0 0) := k4.cell 3
        have y3 : W.frozen? ⟨g4, 3, none⟩ = false := k4.free 3
        have hx : PM.Bx g4 W ((((W.setCell ⟨g4, 0, none⟩ (.int .u64 (s2.1.lf : Int))).setCell ⟨g4, 1, none⟩ (.slice la ln lc)).setCell ⟨g4, 2, none⟩ (.slice qa qn qc)).setCell ⟨g4, 3, none⟩ (.slice aa an ac)) := (((PM.Bx.set g4 0 _ _).trans (PM.Bx.set g4 1 _ _)).trans (PM.Bx.set g4 2 _ _)).trans (PM.Bx.set g4 3 _ _)
        have hrs : PM.RS 28 g4 W _ := ⟨hx, fun T hT => PM.KT.ofx hx k4 hT⟩
        have ZF := ((((k4.set 0 (.int .u64 (s2.1.lf : Int))).set 1 (.slice la ln lc)).set 2 (.slice qa qn qc)).set 3 (.slice aa an ac))
        have hend := PM.hid (And.intro (PM.EnW.mono hsx.out.1.size (r1.rs hrs)) (And.intro (PM.EnW.mono hsx.out.1.size (r2.rs hrs)) (And.intro (PM.OM.mono hsx.out.1.size (r3.kt (hrs.kt _ (by decide)))) (hx.below hbw hgB.out.2.2.2.1 hbw.size))))
        clear hx hrs r1 r2 r3 ks k4
        go_wp2_with fail
        generalize ((((W.setCell ⟨g4, 0, none⟩ (.int .u64 (s2.1.lf : Int))).setCell ⟨g4, 1, none⟩ (.slice la ln lc)).setCell ⟨g4, 2, none⟩ (.slice qa qn qc)).setCell ⟨g4, 3, none⟩ (.slice aa an ac)) = wf at *
        have q0 : wf.cell? ⟨g4, 0, none⟩ = some (.int .u64 (s2.1.lf : Int)) := ZF.cell 0
        have q1 : wf.cell? ⟨g4, 1, none⟩ = some (.slice la ln lc) := ZF.cell 1
        have q2 : wf.cell? ⟨g4, 2, none⟩ = some (.slice qa qn qc) := ZF.cell 2
        have q3 : wf.cell? ⟨g4, 3, none⟩ = some (.slice aa an ac) := ZF.cell 3
        refine bodyPost_ret (v := .tuple #[.agg #[.int .u64 (s2.1.lf : Int), .slice la ln lc, .slice qa qn qc, .slice aa an ac], .int .i64 s2.2]) (by simp [results, Try.results13, go_sem, q0, q1, q2, q3]) rfl ?_
        rw [hres2]
        exact ⟨_, _, _, _, _, _, _, _, _, rfl, hend.out.1, hend.out.2.1, hend.out.2.2.1, hend.out.2.2.2⟩
    · refine PM.wp_region_stK (PM.RW w3.heap.size) (fun W W' => Below W.heap.size W W') (fun W => PM.SI w3.heap.size gs s W W ∧ PM.enO 114 112 84 w3.heap.size W [.int .i64 z.kind, .int .i64 z.id.br, .int .u64 (z.id.life : Int), .int .u64 (z.id.ser : Int), .int .i64 z.client, .int .u64 (z.sub : Int), .slice fb zF fd, .slice eb zE ed] z) (fun _ _ h => h) (fun h => PM.RW.new h) (fun h k => h.trans k) [some 25, some 26, some 27, some 28, some 29, some 30, some 9] [some 25, some 26, some 27, some 28, some 29, some 30, some 9] [[], [0], [], [2], [0, 1, 2, 3], [0, 1, 2, 3, 4], [0, 1, 2, 3, 4, 5]] [false, true, false, false, true, true, false] [5] [([], false), ([0], false), ([], false), ([2], false), ([1, 3], false), ([4], true), ([5], false)] [5, 6] [fun x _ => x = .agg #[.int .i64 5, .int .u64 (nn : Int), .int .i64 z.kind, .int .i64 z.id.br, .int .u64 (z.id.life : Int), .int .u64 (z.id.ser : Int), .int .i64 z.client, .int .u64 (z.sub : Int), .slice fb zF fd, .slice eb zE ed, .int .i64 i.br, .int .u64 (i.life : Int), .int .u64 (i.ser : Int)], fun x W => PM.SMs gs #[.int .i64 5, .int .u64 (nn : Int), .int .i64 z.kind, .int .i64 z.id.br, .int .u64 (z.id.life : Int), .int .u64 (z.id.ser : Int), .int .i64 z.client, .int .u64 (z.sub : Int), .slice fb zF fd, .slice eb zE ed, .int .i64 i.br, .int .u64 (i.life : Int), .int .u64 (i.ser : Int)] x W, fun x _ => x = .pointer (some ⟨gr, 0, none⟩), fun x _ => x = .int .i64 5, fun x W => PM.SFn gs 5 #[.int .i64 5, .int .u64 (nn : Int), .int .i64 z.kind, .int .i64 z.id.br, .int .u64 (z.id.life : Int), .int .u64 (z.id.ser : Int), .int .i64 z.client, .int .u64 (z.sub : Int), .slice fb zF fd, .slice eb zE ed, .int .i64 i.br, .int .u64 (i.life : Int), .int .u64 (i.ser : Int)] x W, fun x W => PM.SRt w3.heap.size gs (PM.stF s i) w8 x W, fun x _ => x = .int .i64 (PM.stF s i).2] (by kernel_rfl) (by kernel_rfl) (by kernel_rfl) (by kernel_rfl) (by kernel_rfl) (by kernel_rfl) (by kernel_rfl) (by kernel_rfl) (by kernel_rfl) ?_ ?_ ?_ ?_ ?_ ?_
      · simp only [List.zip_cons_cons, List.zip_nil_right, List.forall_mem_cons]
        refine ⟨?_, ?_, ?_, ?_, ?_, ?_, ?_, by simp⟩
        all_goals (intro hk v W W' h hb; first | exact Bool.noConfusion hk | exact h)
      · simp only [List.forall_mem_cons]
        refine ⟨?_, ?_, ?_, ?_, ?_, ?_, ?_, by simp⟩
        all_goals (intro v W W' h hb; first | exact h | exact PM.SMs.keep hb h | exact PM.SFn.keep hb h | exact PM.SRt.keep hb hBgs.out h)
      · exact fun W W' h hb => ⟨(h.1.keep hb (Nat.le_trans hBgs.out (Nat.le_of_lt h.1.lt))).here, PM.enO_lasts _ _ _ _ hb h.2⟩
      · exact ⟨hSI.out, hzo.out⟩
      · refine ⟨?_, ?_, ?_, ?_, ?_, ?_, ?_, trivial⟩
        all_goals
          intro a W hB hF hd hp
          have k3 := hF 3 rfl
          have k6 := hF 6 rfl
          have hBw := hB.2 hsz8.out
          have kg := (hBw.block gr hgB.out.2.1).trans hkk.out.1
          have r0 : W.cell? ⟨gr, 0, none⟩ = some (.int .i64 5) := PM.BK.cell kg 0
          have r1 : W.cell? ⟨gr, 1, none⟩ = some (.int .u64 (nn : Int)) := PM.BK.cell kg 1
          have r2 : W.cell? ⟨gr, 2, none⟩ = some (.int .i64 z.kind) := PM.BK.cell kg 2
          have r3 : W.cell? ⟨gr, 3, none⟩ = some (.int .i64 z.id.br) := PM.BK.cell kg 3
          have r4 : W.cell? ⟨gr, 4, none⟩ = some (.int .u64 (z.id.life : Int)) := PM.BK.cell kg 4
          have r5 : W.cell? ⟨gr, 5, none⟩ = some (.int .u64 (z.id.ser : Int)) := PM.BK.cell kg 5
          have r6 : W.cell? ⟨gr, 6, none⟩ = some (.int .i64 z.client) := PM.BK.cell kg 6
          have r7 : W.cell? ⟨gr, 7, none⟩ = some (.int .u64 (z.sub : Int)) := PM.BK.cell kg 7
          have r8 : W.cell? ⟨gr, 8, none⟩ = some (.slice fb zF fd) := PM.BK.cell kg 8
          have r9 : W.cell? ⟨gr, 9, none⟩ = some (.slice eb zE ed) := PM.BK.cell kg 9
          have r10 : W.cell? ⟨gr, 10, none⟩ = some (.int .i64 i.br) := PM.BK.cell kg 10
          have r11 : W.cell? ⟨gr, 11, none⟩ = some (.int .u64 (i.life : Int)) := PM.BK.cell kg 11
          have r12 : W.cell? ⟨gr, 12, none⟩ = some (.int .u64 (i.ser : Int)) := PM.BK.cell kg 12
          clear kg
          clear hF
          simp [PM.depsK, PM.spec, PM.sl] at hd hp k3 k6
          simp only [PM.wantL, PM.spec, PM.Spv]
          try simp only [PM.sl]
          go_simp
        all_goals try exact Below.refl _ _
        · refine (steps_any 5 nn z fb zF fd eb zE ed i gs W).mono ?_
          rintro e w' ⟨v, rfl, hs2, hb⟩
          exact ⟨hb, _, rfl, hs2⟩
        · obtain ⟨⟨gm, gr2, gp, he, hIM, j1, j2⟩, e28⟩ := hd
          have kl := PM.run_lookup_int (P := Try.prog) (T := 60) Try.underlying60 Try.underlying3 hIM 5 (zeroFnF W)
          simp only [he, kl]
          go_simp
          exact ⟨Below.refl _ _, _, rfl, gr2, gp, rfl, j1, j2⟩
        · obtain ⟨gr2, gp, he, j1, j2⟩ := hd
          have he2 : _ = (.func (.func 45) #[] #[.pointer (some ⟨gp, 0, none⟩), .pointer (some ⟨gr2, 0, none⟩)] : Value) := he
          have hcl := stF_any 5 nn z fb zF fd eb zE ed i w3.heap.size gs gr2 gp s W W hp.1 hBgs j1 j2 hp.2 hlen
          simp only [he2]
          go_simp
          refine hcl.mono ?_
          rintro e w' ⟨rfl, hs2⟩
          exact ⟨⟨PM.SI.size hs2 hp.1, fun _ => hs2.below⟩, _, rfl, rfl, hs2.from hBw⟩
        · first | exact hd.1 | exact ⟨Below.refl _ _, by rw [hd.1]⟩ | (rw [hd.1]; exact ⟨Below.refl _ _, rfl⟩) | (simp only [hd.1]; exact Below.refl _ _) | (simp [hd.1]; exact Below.refl _ _) | exact ⟨Below.refl _ _, _, rfl, hd.1⟩ | (simp [hd.1]; done)
      · intro G W hB hF hS
        simp only [PM.allK, PM.spec] at hS
        simp at hS
        have u0 := hF 0 rfl
        have u4 := hF 4 rfl
        have u6 := hF 6 rfl
        simp [PM.sl] at u0 u4 u6
        obtain ⟨hs1, hs2⟩ := hS
        rw [show ((List.range (Array.size _)).map G).toArray = #[G 0, G 1, G 2, G 3, G 4, G 5, G 6, G 7, G 8, G 9, G 10, G 11, G 12, G 13, G 14, G 15, G 16, G 17, G 18, G 19, G 20, G 21, G 22, G 23, G 24, G 25, G 26, G 27, G 28, G 29, G 30, G 31, G 32] from rfl]
        rw [u0, u4, u6, hs2]
        clear u0 u4 u6 hF hs2
        have hsi := hs1.2
        have hBw := hB.2 hsz8.out
        have k4 : PM.BK W g4 #[.int .u64 0, .slice none 0 0, .slice none 0 0, .slice none 0 0] 28 := (hBw.block g4 hgB.out.2.2.1).trans hkk.out.2.1
        have hbw : Below w.heap.size w W := PM.chain' hkk.out.2.2 hBw hsx.out.1.size
        have hres2 : PM.stp s X = (PM.stF s i) := hres.out
        obtain ⟨s2, hs2⟩ : ∃ q, q = (PM.stF s i) := ⟨_, rfl⟩
        rw [← hs2] at hsi hres2 ⊢
        clear hs1 hB hBw hs2 hSI hzo hkk hres
        obtain ⟨vl, vp, va, ks, r1, r2, r3, -, -⟩ := hsi
        obtain ⟨la, lc, hle⟩ := r1.len
        obtain ⟨qa, qc, hqe⟩ := r2.len
        obtain ⟨aa, ac, hae⟩ := (r3.em PM.idL_len).len
        generalize s2.1.ls.length = ln at hle
        generalize s2.1.ps.length = qn at hqe
        generalize s2.1.ab.length = an at hae
        subst hle hqe hae
        have d0 : W.cell? ⟨gs, 0, none⟩ = some (.int .u64 (s2.1.lf : Int)) := ks.cell 0
        have d1 : W.cell? ⟨gs, 1, none⟩ = some (.slice la ln lc) := ks.cell 1
        have d2 : W.cell? ⟨gs, 2, none⟩ = some (.slice qa qn qc) := ks.cell 2
        have d3 : W.cell? ⟨gs, 3, none⟩ = some (.slice aa an ac) := ks.cell 3
        have z0 : W.cell? ⟨g4, 0, none⟩ = some (.int .u64 0) := k4.cell 0
        have y0 : W.frozen? ⟨g4, 0, none⟩ = false := k4.free 0
        have z1 : W.cell? ⟨g4, 1, none⟩ = some (.slice none 0 0) := k4.cell 1
        have y1 : W.frozen? ⟨g4, 1, none⟩ = false := k4.free 1
        have z2 : W.cell? ⟨g4, 2, none⟩ = some (.slice none 0 0) := k4.cell 2
        have y2 : W.frozen? ⟨g4, 2, none⟩ = false := k4.free 2
        have z3 : W.cell? ⟨g4, 3, none⟩ = some (.slice none 0 0) := k4.cell 3
        have y3 : W.frozen? ⟨g4, 3, none⟩ = false := k4.free 3
        have hx : PM.Bx g4 W ((((W.setCell ⟨g4, 0, none⟩ (.int .u64 (s2.1.lf : Int))).setCell ⟨g4, 1, none⟩ (.slice la ln lc)).setCell ⟨g4, 2, none⟩ (.slice qa qn qc)).setCell ⟨g4, 3, none⟩ (.slice aa an ac)) := (((PM.Bx.set g4 0 _ _).trans (PM.Bx.set g4 1 _ _)).trans (PM.Bx.set g4 2 _ _)).trans (PM.Bx.set g4 3 _ _)
        have hrs : PM.RS 28 g4 W _ := ⟨hx, fun T hT => PM.KT.ofx hx k4 hT⟩
        have ZF := ((((k4.set 0 (.int .u64 (s2.1.lf : Int))).set 1 (.slice la ln lc)).set 2 (.slice qa qn qc)).set 3 (.slice aa an ac))
        have hend := PM.hid (And.intro (PM.EnW.mono hsx.out.1.size (r1.rs hrs)) (And.intro (PM.EnW.mono hsx.out.1.size (r2.rs hrs)) (And.intro (PM.OM.mono hsx.out.1.size (r3.kt (hrs.kt _ (by decide)))) (hx.below hbw hgB.out.2.2.2.1 hbw.size))))
        clear hx hrs r1 r2 r3 ks k4
        go_wp2_with fail
        generalize ((((W.setCell ⟨g4, 0, none⟩ (.int .u64 (s2.1.lf : Int))).setCell ⟨g4, 1, none⟩ (.slice la ln lc)).setCell ⟨g4, 2, none⟩ (.slice qa qn qc)).setCell ⟨g4, 3, none⟩ (.slice aa an ac)) = wf at *
        have q0 : wf.cell? ⟨g4, 0, none⟩ = some (.int .u64 (s2.1.lf : Int)) := ZF.cell 0
        have q1 : wf.cell? ⟨g4, 1, none⟩ = some (.slice la ln lc) := ZF.cell 1
        have q2 : wf.cell? ⟨g4, 2, none⟩ = some (.slice qa qn qc) := ZF.cell 2
        have q3 : wf.cell? ⟨g4, 3, none⟩ = some (.slice aa an ac) := ZF.cell 3
        refine bodyPost_ret (v := .tuple #[.agg #[.int .u64 (s2.1.lf : Int), .slice la ln lc, .slice qa qn qc, .slice aa an ac], .int .i64 s2.2]) (by simp [results, Try.results13, go_sem, q0, q1, q2, q3]) rfl ?_
        rw [hres2]
        exact ⟨_, _, _, _, _, _, _, _, _, rfl, hend.out.1, hend.out.2.1, hend.out.2.2.1, hend.out.2.2.2⟩
end Go.Proofs.Ytphdadlpfjfeoaa
