/-
  NormChain: for every input that can be read the Go function postilionlaw06.NormChain returns true, and every argument reads behind the call as it read before. No condition beyond the row's own.
-/
import Derived.Test.YtbpajgejfnjaeaaRows
import Derived.WalkKit
import Derived.ProofKit
import Derived.OpenShut
import Derived.ShutString
import Derived.ChangeOld
import Derived.Below
import Derived.Lib.SmallJoins
import Derived.Test.YtbpajgejfnjaeaaNn
namespace Go.Proofs.Ytbpajgejfnjaeaa.normChain
open Go.ChangeShapes Go.WideShapes Go.ChangeAt Go.RowKit
open Go.ChangeMaps (open_string shut_string)
open Go.Joins (open_agg3)
set_option linter.unusedVariables false

theorem own : ownKnob Try.prog.godebug = none := by kernel_rfl
theorem laidOut : laidOutB Try.prog = true := by kernel_rfl

set_option maxRecDepth 100000 in
theorem lifted (os : Os) (started : os.Started) (H : Type) (enc : TypeId × Value → H) :
    ReturnsInHanded {} Try.checked os 6 .any (Rows.normChainSpec.pre6 enc Try.prog Try.f6 Rows.normChainRow.domain false) (Rows.normChainSpec.post enc Try.prog Try.f6 false true false false) := by
  refine returnsInHanded_of_change (C := Try.checked) own started (by kernel_rfl) Try.func6
    (ChangeSpec.witness6 (enc := enc) (C := Try.checked) false ⟨#[], #[.agg #[.string ByteArray.empty, .int .i64 0, .int .i64 0, .int .i64 0, .string ByteArray.empty], .agg #[.string ByteArray.empty, .int .i64 0, .int .i64 0, .int .i64 0, .string ByteArray.empty], .agg #[.string ByteArray.empty, .int .i64 0, .int .i64 0, .int .i64 0, .string ByteArray.empty]], []⟩ 8 (by kernel_rfl) (by kernel_rfl) (by kernel_rfl) (by kernel_rfl)) ?_
  intro W base args ds gs before hval0 hW hcnd _
  have hval : ∀ (j : Nat) t v, Try.f6.params[j]? = some t → args[j]? = some v → Value.okWide Try.prog W .any base t v := hval0
  have hW' := hW
  obtain ⟨p, q, hA0, hV, rfl, hfz, hnd⟩ := hW
  have hA : DataW.TrodAll enc Try.prog W 0 (fun _ => true) true Try.f6.params.toList args.toList ds p := hA0
  rw [Try.params6] at hA hval
  obtain ⟨v0, vs0, d0, ds0, p0, q0, hargs, rfl, rfl, h0, r0⟩ := trodAll_cons hA
  obtain ⟨v1, vs1, d1, ds1, p1, q1, rfl, rfl, rfl, h1, r1⟩ := trodAll_cons r0
  obtain ⟨v2, vs2, d2, ds2, p2, q2, rfl, rfl, rfl, h2, r2⟩ := trodAll_cons r1
  obtain ⟨rfl, rfl, rfl⟩ := trodAll_nil r2
  obtain rfl : args = #[v0, v1, v2] := by cases args; simp_all
  obtain ⟨rfl, rfl⟩ := trodVars_none hV
  have k0 := h0
  have lt0 : ∀ x ∈ p0, x.block < W.heap.size := by obtain ⟨m, hm⟩ := k0; exact DataW.trod_lt m _ _ _ hm
  have k1 := h1
  have lt1 : ∀ x ∈ p1, x.block < W.heap.size := by obtain ⟨m, hm⟩ := k1; exact DataW.trod_lt m _ _ _ hm
  have k2 := h2
  have lt2 : ∀ x ∈ p2, x.block < W.heap.size := by obtain ⟨m, hm⟩ := k2; exact DataW.trod_lt m _ _ _ hm
  obtain ⟨c0, rfl, m0⟩ := okWide_struct Try.underlying25 (hval 0 25 v0 rfl rfl)
  have o0 : ∃ y : PM.Te, PM.Te.wf y ∧ c0 = #[.string y.name, .int .i64 y.op, .int .i64 y.k, .int .i64 y.n, .string y.s] := by
    obtain ⟨fuel, hf⟩ := h0
    obtain ⟨y, hy, hc⟩ := PM.te_trod Try.underlying25 Try.underlying23 (by kernel_rfl) rfl rfl rfl (by kernel_rfl) (by kernel_rfl) (by kernel_rfl) rfl rfl rfl (by kernel_rfl) (by kernel_rfl) (by kernel_rfl) Try.underlying9 Try.underlying3 Try.underlying3 Try.underlying2 Try.underlying9 _ _ _ hf
    refine ⟨y, hy, ?_⟩
    have hc' : c0.toList = PM.teL y := hc
    have := congrArg List.toArray hc'
    simpa [PM.teL] using this
  obtain ⟨y0, z0, rfl⟩ := o0
  obtain ⟨c1, rfl, m1⟩ := okWide_struct Try.underlying25 (hval 1 25 v1 rfl rfl)
  have o1 : ∃ y : PM.Te, PM.Te.wf y ∧ c1 = #[.string y.name, .int .i64 y.op, .int .i64 y.k, .int .i64 y.n, .string y.s] := by
    obtain ⟨fuel, hf⟩ := h1
    obtain ⟨y, hy, hc⟩ := PM.te_trod Try.underlying25 Try.underlying23 (by kernel_rfl) rfl rfl rfl (by kernel_rfl) (by kernel_rfl) (by kernel_rfl) rfl rfl rfl (by kernel_rfl) (by kernel_rfl) (by kernel_rfl) Try.underlying9 Try.underlying3 Try.underlying3 Try.underlying2 Try.underlying9 _ _ _ hf
    refine ⟨y, hy, ?_⟩
    have hc' : c1.toList = PM.teL y := hc
    have := congrArg List.toArray hc'
    simpa [PM.teL] using this
  obtain ⟨y1, z1, rfl⟩ := o1
  obtain ⟨c2, rfl, m2⟩ := okWide_struct Try.underlying25 (hval 2 25 v2 rfl rfl)
  have o2 : ∃ y : PM.Te, PM.Te.wf y ∧ c2 = #[.string y.name, .int .i64 y.op, .int .i64 y.k, .int .i64 y.n, .string y.s] := by
    obtain ⟨fuel, hf⟩ := h2
    obtain ⟨y, hy, hc⟩ := PM.te_trod Try.underlying25 Try.underlying23 (by kernel_rfl) rfl rfl rfl (by kernel_rfl) (by kernel_rfl) (by kernel_rfl) rfl rfl rfl (by kernel_rfl) (by kernel_rfl) (by kernel_rfl) Try.underlying9 Try.underlying3 Try.underlying3 Try.underlying2 Try.underlying9 _ _ _ hf
    refine ⟨y, hy, ?_⟩
    have hc' : c2.toList = PM.teL y := hc
    have := congrArg List.toArray hc'
    simpa [PM.teL] using this
  obtain ⟨y2, z2, rfl⟩ := o2
  clear hA0 hval0
  refine (normChain_walk y0 y1 y2 z0 z1 z2 W ).mono fun e W' ⟨he, bel⟩ => ?_
  subst he
  exact ⟨_, rfl, _, _, _, [], _, [], hW', trodAll_mk1 (shut_bool Try.underlying4 _), (trodAll_cons_mk (Below.trod laidOut (by kernel_rfl) (of_decide_eq_true (by kernel_rfl)) k0 bel lt0) (trodAll_cons_mk (Below.trod laidOut (by kernel_rfl) (of_decide_eq_true (by kernel_rfl)) k1 bel lt1) (trodAll_cons_mk (Below.trod laidOut (by kernel_rfl) (of_decide_eq_true (by kernel_rfl)) k2 bel lt2) trodAll_mk0))), rfl, bel.frame _, fun h => by cases h⟩

theorem over : Rows.normChainRow.holds Try.pinned (OpenSpec.ofChange Rows.normChainSpec) :=
  OpenClaim.holds_of_wide 6 Try.f6 rfl rfl rfl rfl rfl rfl rfl ⟨rfl, rfl, rfl, rfl, rfl⟩ rfl rfl rfl rfl rfl (by kernel_rfl) Try.func6 (by kernel_rfl)
    (of_decide_eq_true (by kernel_rfl)) (by unfold Func.isWrapper; first | (rw [if_pos (by decide +kernel)]; kernel_rfl) | (rw [if_neg (by decide +kernel)]; exact ⟨rfl, rfl⟩))
    (fun os started H enc _ => lifted os started H enc)

theorem proved : Rows.NormChainSaid := over
end Go.Proofs.Ytbpajgejfnjaeaa.normChain
