/-
  NormSound: for every input that can be read the Go function postilionlaw06.NormSound returns true, and every argument reads behind the call as it read before. No condition beyond the row's own.
-/
import Derived.Test.YtbpajgejfnjaeaaRows
import Derived.WalkKit
import Derived.ProofKit
import Derived.OpenShut
import Derived.ShutString
import Derived.ChangeOld
import Derived.Below
import Derived.Lib.SmallJoins
import Derived.Test.YtbpajgejfnjaeaaNm
namespace Go.Proofs.Ytbpajgejfnjaeaa.normSound
open Go.ChangeShapes Go.WideShapes Go.ChangeAt Go.RowKit
open Go.ChangeMaps (open_string shut_string)
open Go.Joins (open_agg3)
set_option linter.unusedVariables false

theorem own : ownKnob Try.prog.godebug = none := by kernel_rfl
theorem laidOut : laidOutB Try.prog = true := by kernel_rfl

theorem cellsV : Try.prog.cellsOf 23 = 3 := by kernel_rfl

set_option maxRecDepth 100000 in
theorem lifted (os : Os) (started : os.Started) (H : Type) (enc : TypeId × Value → H) :
    ReturnsInHanded {} Try.checked os 3 .any (Rows.normSoundSpec.pre6 enc Try.prog Try.f3 Rows.normSoundRow.domain false) (Rows.normSoundSpec.post enc Try.prog Try.f3 false true false false) := by
  refine returnsInHanded_of_change (C := Try.checked) own started (by kernel_rfl) Try.func3
    (ChangeSpec.witness6 (enc := enc) (C := Try.checked) false ⟨#[], #[.agg #[.string ByteArray.empty, .int .i64 0, .int .i64 0, .int .i64 0, .string ByteArray.empty], .agg #[.string ByteArray.empty, .int .i64 0, .int .i64 0, .int .i64 0, .string ByteArray.empty], .agg #[.int .i64 0, .int .i64 0, .string ByteArray.empty], .slice none 0 0], []⟩ 8 (by kernel_rfl) (by kernel_rfl) (by kernel_rfl) (by kernel_rfl)) ?_
  intro W base args ds gs before hval0 hW hcnd _
  have hval : ∀ (j : Nat) t v, Try.f3.params[j]? = some t → args[j]? = some v → Value.okWide Try.prog W .any base t v := hval0
  have hW' := hW
  obtain ⟨p, q, hA0, hV, rfl, hfz, hnd⟩ := hW
  have hA : DataW.TrodAll enc Try.prog W 0 (fun _ => true) true Try.f3.params.toList args.toList ds p := hA0
  rw [Try.params3] at hA hval
  obtain ⟨v0, vs0, d0, ds0, p0, q0, hargs, rfl, rfl, h0, r0⟩ := trodAll_cons hA
  obtain ⟨v1, vs1, d1, ds1, p1, q1, rfl, rfl, rfl, h1, r1⟩ := trodAll_cons r0
  obtain ⟨v2, vs2, d2, ds2, p2, q2, rfl, rfl, rfl, h2, r2⟩ := trodAll_cons r1
  obtain ⟨v3, vs3, d3, ds3, p3, q3, rfl, rfl, rfl, h3, r3⟩ := trodAll_cons r2
  obtain ⟨rfl, rfl, rfl⟩ := trodAll_nil r3
  obtain rfl : args = #[v0, v1, v2, v3] := by cases args; simp_all
  obtain ⟨rfl, rfl⟩ := trodVars_none hV
  have k0 := h0
  have lt0 : ∀ x ∈ p0, x.block < W.heap.size := by obtain ⟨m, hm⟩ := k0; exact DataW.trod_lt m _ _ _ hm
  have k1 := h1
  have lt1 : ∀ x ∈ p1, x.block < W.heap.size := by obtain ⟨m, hm⟩ := k1; exact DataW.trod_lt m _ _ _ hm
  have k2 := h2
  have lt2 : ∀ x ∈ p2, x.block < W.heap.size := by obtain ⟨m, hm⟩ := k2; exact DataW.trod_lt m _ _ _ hm
  have k3 := h3
  have lt3 : ∀ x ∈ p3, x.block < W.heap.size := by obtain ⟨m, hm⟩ := k3; exact DataW.trod_lt m _ _ _ hm
  obtain ⟨c0, rfl, m0⟩ := okWide_struct Try.underlying25 (hval 0 25 v0 rfl rfl)
  have o0 : ∃ y : PM.Te, PM.Te.wf y ∧ c0 = #[.string y.name, .int .i64 y.op, .int .i64 y.k, .int .i64 y.n, .string y.s] := by
    obtain ⟨fuel, hf⟩ := h0
    obtain ⟨y, hy, hc⟩ := PM.te_trod Try.underlying25 Try.underlying23 (by kernel_rfl) rfl rfl rfl (by kernel_rfl) (by kernel_rfl) (by kernel_rfl) rfl rfl rfl (by kernel_rfl) (by kernel_rfl) (by kernel_rfl) Try.underlying9 Try.underlying3 Try.underlying3 Try.underlying2 Try.underlying9 _ _ _ hf
    refine ⟨y, hy, ?_⟩
    have hc' : c0.toList = PM.teL y := hc
    have := congrArg List.toArray hc'
    simpa [PM.teL] using this
  obtain ⟨y0, z0, rfl⟩ := o0
  obtain ⟨c1, rfl, m1⟩ := okWide_struct Try.underlying25 (hval 1 25 v1 rfl rfl)
  have o1 : ∃ y : PM.Te, PM.Te.wf y ∧ c1 = #[.string y.name, .int .i64 y.op, .int .i64 y.k, .int .i64 y.n, .string y.s] := by
    obtain ⟨fuel, hf⟩ := h1
    obtain ⟨y, hy, hc⟩ := PM.te_trod Try.underlying25 Try.underlying23 (by kernel_rfl) rfl rfl rfl (by kernel_rfl) (by kernel_rfl) (by kernel_rfl) rfl rfl rfl (by kernel_rfl) (by kernel_rfl) (by kernel_rfl) Try.underlying9 Try.underlying3 Try.underlying3 Try.underlying2 Try.underlying9 _ _ _ hf
    refine ⟨y, hy, ?_⟩
    have hc' : c1.toList = PM.teL y := hc
    have := congrArg List.toArray hc'
    simpa [PM.teL] using this
  obtain ⟨y1, z1, rfl⟩ := o1
  obtain ⟨c20, c21, c22, y20, y21, y22, m2, rfl, rfl, rfl, e20, e21, e22⟩ := open_agg3 Try.underlying23 (by kernel_rfl) cellsV (hval 2 23 v2 rfl rfl) h2
  obtain ⟨a2, q20, _, w2⟩ := DataW.trod_int Try.underlying3 e20
  obtain ⟨b2, q21, _, x2⟩ := DataW.trod_int Try.underlying2 e21
  obtain ⟨s2, q22, _, z2⟩ := DataW.trod_string Try.underlying9 e22
  simp only [List.cons.injEq, and_true] at q20 q21 q22
  subst q20 q21 q22
  obtain ⟨g3, len3, cap3, rfl⟩ := okWide_slice Try.underlying27 (hval 3 27 v3 rfl rfl)
  have o3 : ∃ es, PM.EV W (.slice g3 len3 cap3) es ∧ ∀ x ∈ es, PM.At.wf x := by
    obtain ⟨fuel, hf⟩ := h3
    exact PM.EV.of_trod Try.underlying27 Try.underlying51 Try.underlying23 (by kernel_rfl) rfl rfl (by kernel_rfl) (by kernel_rfl) rfl rfl rfl (by kernel_rfl) (by kernel_rfl) (by kernel_rfl) Try.underlying9 Try.underlying3 Try.underlying2 Try.underlying9 hf
  obtain ⟨l3, o3, z3⟩ := o3
  clear hA0 hval0
  refine (normSound_walk y0 y1 a2 b2 s2 _ l3 z0 z1 w2 x2 z2 W o3 z3).mono fun e W' ⟨he, bel⟩ => ?_
  subst he
  exact ⟨_, rfl, _, _, _, [], _, [], hW', trodAll_mk1 (shut_bool Try.underlying4 _), (trodAll_cons_mk (Below.trod laidOut (by kernel_rfl) (of_decide_eq_true (by kernel_rfl)) k0 bel lt0) (trodAll_cons_mk (Below.trod laidOut (by kernel_rfl) (of_decide_eq_true (by kernel_rfl)) k1 bel lt1) (trodAll_cons_mk (Below.trod laidOut (by kernel_rfl) (of_decide_eq_true (by kernel_rfl)) k2 bel lt2) (trodAll_cons_mk (Below.trod laidOut (by kernel_rfl) (of_decide_eq_true (by kernel_rfl)) k3 bel lt3) trodAll_mk0)))), rfl, bel.frame _, fun h => by cases h⟩

theorem over : Rows.normSoundRow.holds Try.pinned (OpenSpec.ofChange Rows.normSoundSpec) :=
  OpenClaim.holds_of_wide 3 Try.f3 rfl rfl rfl rfl rfl rfl rfl ⟨rfl, rfl, rfl, rfl, rfl⟩ rfl rfl rfl rfl rfl (by kernel_rfl) Try.func3 (by kernel_rfl)
    (of_decide_eq_true (by kernel_rfl)) (by unfold Func.isWrapper; first | (rw [if_pos (by decide +kernel)]; kernel_rfl) | (rw [if_neg (by decide +kernel)]; exact ⟨rfl, rfl⟩))
    (fun os started H enc _ => lifted os started H enc)

theorem proved : Rows.NormSoundSaid := over
end Go.Proofs.Ytbpajgejfnjaeaa.normSound
