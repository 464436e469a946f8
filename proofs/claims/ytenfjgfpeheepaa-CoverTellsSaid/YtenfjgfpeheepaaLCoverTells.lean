/-
  CoverTells: for every input that can be read the Go function postilionlaw07.CoverTells returns true, and every argument reads behind the call as it read before. No condition beyond the row's own.
-/
import Derived.Test.YtenfjgfpeheepaaRows
import Derived.WalkKit
import Derived.ProofKit
import Derived.OpenShut
import Derived.ShutString
import Derived.ChangeOld
import Derived.Below
import Derived.Lib.SmallJoins
import Derived.Test.YtenfjgfpeheepaaKt
import Derived.Test.YtenfjgfpeheepaaRi
namespace Go.Proofs.Ytenfjgfpeheepaa.coverTells
open Go.ChangeShapes Go.WideShapes Go.ChangeAt Go.RowKit
open Go.ChangeMaps (open_string shut_string)
open Go.Joins (open_agg3)
set_option linter.unusedVariables false

theorem own : ownKnob Try.prog.godebug = none := by kernel_rfl
theorem laidOut : laidOutB Try.prog = true := by kernel_rfl

set_option maxRecDepth 100000 in
theorem lifted (os : Os) (started : os.Started) (H : Type) (enc : TypeId × Value → H) :
    ReturnsInHanded {} Try.checked os 3 .any (Rows.coverTellsSpec.pre6 enc Try.prog Try.f3 Rows.coverTellsRow.domain false) (Rows.coverTellsSpec.post enc Try.prog Try.f3 false true false false) := by
  refine returnsInHanded_of_change (C := Try.checked) own started (by kernel_rfl) Try.func3
    (ChangeSpec.witness6 (enc := enc) (C := Try.checked) false ⟨#[], #[.slice none 0 0, .slice none 0 0, .slice none 0 0, .slice none 0 0], []⟩ 8 (by kernel_rfl) (by kernel_rfl) (by kernel_rfl) (by kernel_rfl)) ?_
  intro W base args ds gs before hval0 hW hcnd _
  have hval : ∀ (j : Nat) t v, Try.f3.params[j]? = some t → args[j]? = some v → Value.okWide Try.prog W .any base t v := hval0
  have hW' := hW
  obtain ⟨p, q, hA0, hV, rfl, hfz, hnd⟩ := hW
  have hA : DataW.TrodAll enc Try.prog W 0 (fun _ => true) true Try.f3.params.toList args.toList ds p := hA0
  rw [Try.params3] at hA hval
  obtain ⟨v0, vs0, d0, ds0, p0, q0, hargs, rfl, rfl, h0, r0⟩ := trodAll_cons hA
  obtain ⟨v1, vs1, d1, ds1, p1, q1, rfl, rfl, rfl, h1, r1⟩ := trodAll_cons r0
  obtain ⟨v2, vs2, d2, ds2, p2, q2, rfl, rfl, rfl, h2, r2⟩ := trodAll_cons r1
  obtain ⟨v3, vs3, d3, ds3, p3, q3, rfl, rfl, rfl, h3, r3⟩ := trodAll_cons r2
  obtain ⟨rfl, rfl, rfl⟩ := trodAll_nil r3
  obtain rfl : args = #[v0, v1, v2, v3] := by cases args; simp_all
  obtain ⟨rfl, rfl⟩ := trodVars_none hV
  have k0 := h0
  have lt0 : ∀ x ∈ p0, x.block < W.heap.size := by obtain ⟨m, hm⟩ := k0; exact DataW.trod_lt m _ _ _ hm
  have k1 := h1
  have lt1 : ∀ x ∈ p1, x.block < W.heap.size := by obtain ⟨m, hm⟩ := k1; exact DataW.trod_lt m _ _ _ hm
  have k2 := h2
  have lt2 : ∀ x ∈ p2, x.block < W.heap.size := by obtain ⟨m, hm⟩ := k2; exact DataW.trod_lt m _ _ _ hm
  have k3 := h3
  have lt3 : ∀ x ∈ p3, x.block < W.heap.size := by obtain ⟨m, hm⟩ := k3; exact DataW.trod_lt m _ _ _ hm
  obtain ⟨g0, len0, cap0, rfl⟩ := okWide_slice Try.underlying23 (hval 0 23 v0 rfl rfl)
  have o0 : ∃ es, PM.TV W (.slice g0 len0 cap0) es ∧ ∀ x ∈ es, PM.Te.wf x := by
    obtain ⟨fuel, hf⟩ := h0
    exact PM.EM.of_trod (el := PM.teL) (wf := PM.Te.wf) (y0 := ⟨ByteArray.empty, 0, 0, 0, ByteArray.empty⟩) Try.underlying23 (by kernel_rfl) (by decide) PM.teL_len (PM.te_trod Try.underlying42 Try.underlying40 (by kernel_rfl) rfl rfl rfl (by kernel_rfl) (by kernel_rfl) (by kernel_rfl) rfl rfl rfl (by kernel_rfl) (by kernel_rfl) (by kernel_rfl) Try.underlying9 Try.underlying3 Try.underlying3 Try.underlying2 Try.underlying9) hf
  obtain ⟨l0, o0, z0⟩ := o0
  obtain ⟨g1, len1, cap1, rfl⟩ := okWide_slice Try.underlying23 (hval 1 23 v1 rfl rfl)
  have o1 : ∃ es, PM.TV W (.slice g1 len1 cap1) es ∧ ∀ x ∈ es, PM.Te.wf x := by
    obtain ⟨fuel, hf⟩ := h1
    exact PM.EM.of_trod (el := PM.teL) (wf := PM.Te.wf) (y0 := ⟨ByteArray.empty, 0, 0, 0, ByteArray.empty⟩) Try.underlying23 (by kernel_rfl) (by decide) PM.teL_len (PM.te_trod Try.underlying42 Try.underlying40 (by kernel_rfl) rfl rfl rfl (by kernel_rfl) (by kernel_rfl) (by kernel_rfl) rfl rfl rfl (by kernel_rfl) (by kernel_rfl) (by kernel_rfl) Try.underlying9 Try.underlying3 Try.underlying3 Try.underlying2 Try.underlying9) hf
  obtain ⟨l1, o1, z1⟩ := o1
  obtain ⟨g2, len2, cap2, rfl⟩ := okWide_slice Try.underlying24 (hval 2 24 v2 rfl rfl)
  have o2 : ∃ ls, PM.FL W (.slice g2 len2 cap2) ls := by
    obtain ⟨fuel, hf⟩ := h2
    refine PM.RR.of_trod1 (R := PM.fR) [] Try.underlying24 (by kernel_rfl) (fun n V z hV => ?_) hf
    obtain ⟨es, he, _⟩ := PM.EM.of_trod (el := PM.teL) (wf := PM.Te.wf) (y0 := ⟨ByteArray.empty, 0, 0, 0, ByteArray.empty⟩) Try.underlying23 (by kernel_rfl) (by decide) PM.teL_len (PM.te_trod Try.underlying42 Try.underlying40 (by kernel_rfl) rfl rfl rfl (by kernel_rfl) (by kernel_rfl) (by kernel_rfl) rfl rfl rfl (by kernel_rfl) (by kernel_rfl) (by kernel_rfl) Try.underlying9 Try.underlying3 Try.underlying3 Try.underlying2 Try.underlying9) hV
    refine ⟨?_, es, V, rfl, he⟩
    obtain ⟨a, c, rfl⟩ := he.len
    rfl
  obtain ⟨l2, o2⟩ := o2
  obtain ⟨g3, len3, cap3, rfl⟩ := okWide_slice Try.underlying26 (hval 3 26 v3 rfl rfl)
  have o3 : ∃ es, PM.EV W (.slice g3 len3 cap3) es ∧ ∀ x ∈ es, PM.At.wf x := by
    obtain ⟨fuel, hf⟩ := h3
    exact PM.EV.of_trod Try.underlying26 Try.underlying49 Try.underlying40 (by kernel_rfl) rfl rfl (by kernel_rfl) (by kernel_rfl) rfl rfl rfl (by kernel_rfl) (by kernel_rfl) (by kernel_rfl) Try.underlying9 Try.underlying3 Try.underlying2 Try.underlying9 hf
  obtain ⟨l3, o3, z3⟩ := o3
  clear hA0 hval0
  refine (coverTells_walk _ l0 _ l1 _ l2 _ l3  W o0 z0 o1 z1 o2 o3 z3).mono fun e W' ⟨he, bel⟩ => ?_
  subst he
  exact ⟨_, rfl, _, _, _, [], _, [], hW', trodAll_mk1 (shut_bool Try.underlying4 _), (trodAll_cons_mk (Below.trod laidOut (by kernel_rfl) (of_decide_eq_true (by kernel_rfl)) k0 bel lt0) (trodAll_cons_mk (Below.trod laidOut (by kernel_rfl) (of_decide_eq_true (by kernel_rfl)) k1 bel lt1) (trodAll_cons_mk (Below.trod laidOut (by kernel_rfl) (of_decide_eq_true (by kernel_rfl)) k2 bel lt2) (trodAll_cons_mk (Below.trod laidOut (by kernel_rfl) (of_decide_eq_true (by kernel_rfl)) k3 bel lt3) trodAll_mk0)))), rfl, bel.frame _, fun h => by cases h⟩

theorem over : Rows.coverTellsRow.holds Try.pinned (OpenSpec.ofChange Rows.coverTellsSpec) :=
  OpenClaim.holds_of_wide 3 Try.f3 rfl rfl rfl rfl rfl rfl rfl ⟨rfl, rfl, rfl, rfl, rfl⟩ rfl rfl rfl rfl rfl (by kernel_rfl) Try.func3 (by kernel_rfl)
    (of_decide_eq_true (by kernel_rfl)) (by unfold Func.isWrapper; first | (rw [if_pos (by decide +kernel)]; kernel_rfl) | (rw [if_neg (by decide +kernel)]; exact ⟨rfl, rfl⟩))
    (fun os started H enc _ => lifted os started H enc)

theorem proved : Rows.CoverTellsSaid := over
end Go.Proofs.Ytenfjgfpeheepaa.coverTells
