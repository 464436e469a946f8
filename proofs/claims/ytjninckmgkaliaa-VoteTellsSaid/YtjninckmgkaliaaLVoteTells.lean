/-
  VoteTells: for every input that can be read the Go function postilionlaw18.VoteTells returns true, and every argument reads behind the call as it read before. No condition beyond the row's own.
-/
import Derived.Test.YtjninckmgkaliaaRows
import Derived.WalkKit
import Derived.ProofKit
import Derived.OpenShut
import Derived.ShutString
import Derived.ChangeOld
import Derived.Below
import Derived.Lib.SmallJoins
import Derived.Test.YtjninckmgkaliaaZe
namespace Go.Proofs.Ytjninckmgkaliaa.voteTells
open Go.ChangeShapes Go.WideShapes Go.ChangeAt Go.RowKit
open Go.ChangeMaps (open_string shut_string)
open Go.Joins (open_agg3)
set_option linter.unusedVariables false

theorem own : ownKnob Try.prog.godebug = none := by kernel_rfl
theorem laidOut : laidOutB Try.prog = true := by kernel_rfl

theorem cellsI : Try.prog.cellsOf 30 = 3 := by kernel_rfl

set_option maxRecDepth 100000 in
theorem lifted (os : Os) (started : os.Started) (H : Type) (enc : TypeId × Value → H) :
    ReturnsInHanded {} Try.checked os 4 .any (Rows.voteTellsSpec.pre6 enc Try.prog Try.f4 Rows.voteTellsRow.domain false) (Rows.voteTellsSpec.post enc Try.prog Try.f4 false true false false) := by
  refine returnsInHanded_of_change (C := Try.checked) own started (by kernel_rfl) Try.func4
    (ChangeSpec.witness6 (enc := enc) (C := Try.checked) false ⟨#[], #[.agg #[.int .u64 0, .slice none 0 0, .slice none 0 0, .slice none 0 0], .slice none 0 0, .slice none 0 0, .slice none 0 0, .agg #[.int .i64 0, .int .u64 0, .int .u64 0]], []⟩ 8 (by kernel_rfl) (by kernel_rfl) (by kernel_rfl) (by kernel_rfl)) ?_
  intro W base args ds gs before hval0 hW hcnd _
  have hval : ∀ (j : Nat) t v, Try.f4.params[j]? = some t → args[j]? = some v → Value.okWide Try.prog W .any base t v := hval0
  have hW' := hW
  obtain ⟨p, q, hA0, hV, rfl, hfz, hnd⟩ := hW
  have hA : DataW.TrodAll enc Try.prog W 0 (fun _ => true) true Try.f4.params.toList args.toList ds p := hA0
  rw [Try.params4] at hA hval
  obtain ⟨v0, vs0, d0, ds0, p0, q0, hargs, rfl, rfl, h0, r0⟩ := trodAll_cons hA
  obtain ⟨v1, vs1, d1, ds1, p1, q1, rfl, rfl, rfl, h1, r1⟩ := trodAll_cons r0
  obtain ⟨v2, vs2, d2, ds2, p2, q2, rfl, rfl, rfl, h2, r2⟩ := trodAll_cons r1
  obtain ⟨v3, vs3, d3, ds3, p3, q3, rfl, rfl, rfl, h3, r3⟩ := trodAll_cons r2
  obtain ⟨v4, vs4, d4, ds4, p4, q4, rfl, rfl, rfl, h4, r4⟩ := trodAll_cons r3
  obtain ⟨rfl, rfl, rfl⟩ := trodAll_nil r4
  obtain rfl : args = #[v0, v1, v2, v3, v4] := by cases args; simp_all
  obtain ⟨rfl, rfl⟩ := trodVars_none hV
  have k0 := h0
  have lt0 : ∀ x ∈ p0, x.block < W.heap.size := by obtain ⟨m, hm⟩ := k0; exact DataW.trod_lt m _ _ _ hm
  have k1 := h1
  have lt1 : ∀ x ∈ p1, x.block < W.heap.size := by obtain ⟨m, hm⟩ := k1; exact DataW.trod_lt m _ _ _ hm
  have k2 := h2
  have lt2 : ∀ x ∈ p2, x.block < W.heap.size := by obtain ⟨m, hm⟩ := k2; exact DataW.trod_lt m _ _ _ hm
  have k3 := h3
  have lt3 : ∀ x ∈ p3, x.block < W.heap.size := by obtain ⟨m, hm⟩ := k3; exact DataW.trod_lt m _ _ _ hm
  have k4 := h4
  have lt4 : ∀ x ∈ p4, x.block < W.heap.size := by obtain ⟨m, hm⟩ := k4; exact DataW.trod_lt m _ _ _ hm
  obtain ⟨c0, rfl, m0⟩ := okWide_struct Try.underlying27 (hval 0 27 v0 rfl rfl)
  have o0 : ∃ (lf : Nat) (w0 w1 w2 : Value) (ls ps : List PM.En) (ab : List PM.Id), c0 = #[.int .u64 (lf : Int), w0, w1, w2] ∧ PM.StR W w0 w1 w2 ls ps ab := by
    obtain ⟨fuel, hf⟩ := h0
    obtain ⟨lf, w0, w1, w2, ls, ps, ab, hc, h1, _⟩ := st_open _ _ _ hf
    refine ⟨lf, w0, w1, w2, ls, ps, ab, ?_, h1⟩
    have hc' : c0.toList = [.int .u64 (lf : Int), w0, w1, w2] := hc
    have := congrArg List.toArray hc'
    simpa using this
  obtain ⟨lf0, w00, w01, w02, ls0, ps0, ab0, rfl, o0⟩ := o0
  obtain ⟨g1, len1, cap1, rfl⟩ := okWide_slice Try.underlying24 (hval 1 24 v1 rfl rfl)
  have o1 : ∃ l, PM.EnL W (.slice g1 len1 cap1) l ∧ ∀ y ∈ l, PM.En.wf y := by
    obtain ⟨fuel, hf⟩ := h1
    exact ens_open _ _ _ hf
  obtain ⟨l1, o1, z1⟩ := o1
  obtain ⟨g2, len2, cap2, rfl⟩ := okWide_slice Try.underlying25 (hval 2 25 v2 rfl rfl)
  have o2 : ∃ l : List PM.Id, PM.EM PM.idL 3 W (.slice g2 len2 cap2) l := by
    obtain ⟨fuel, hf⟩ := h2
    exact ids_open _ _ _ hf
  obtain ⟨l2, o2⟩ := o2
  obtain ⟨g3, len3, cap3, rfl⟩ := okWide_slice Try.underlying28 (hval 3 28 v3 rfl rfl)
  have o3 : ∃ l, PM.MsL W (.slice g3 len3 cap3) l := by
    obtain ⟨fuel, hf⟩ := h3
    exact mss_open _ _ _ hf
  obtain ⟨l3, o3⟩ := o3
  obtain ⟨c40, c41, c42, y40, y41, y42, m4, rfl, rfl, rfl, e40, e41, e42⟩ := open_agg3 Try.underlying30 (by kernel_rfl) cellsI (hval 4 30 v4 rfl rfl) h4
  obtain ⟨a4, q40, _, w4⟩ := DataW.trod_int Try.underlying3 e40
  obtain ⟨b4, q41, _, x4⟩ := DataW.trod_int Try.underlying23 e41
  obtain ⟨s4, q42, _, z4⟩ := DataW.trod_int Try.underlying23 e42
  simp only [List.cons.injEq, and_true] at q40 q41 q42
  subst q40 q41 q42
  clear hA0 hval0
  refine (voteTells_walk lf0 w00 w01 w02 ls0 ps0 ab0 _ l1 _ l2 _ l3 a4 b4 s4 w4 x4 z4 W o0 o1 z1 o2 o3).mono fun e W' ⟨he, bel⟩ => ?_
  subst he
  exact ⟨_, rfl, _, _, _, [], _, [], hW', trodAll_mk1 (shut_bool Try.underlying4 _), (trodAll_cons_mk (Below.trod laidOut (by kernel_rfl) (of_decide_eq_true (by kernel_rfl)) k0 bel lt0) (trodAll_cons_mk (Below.trod laidOut (by kernel_rfl) (of_decide_eq_true (by kernel_rfl)) k1 bel lt1) (trodAll_cons_mk (Below.trod laidOut (by kernel_rfl) (of_decide_eq_true (by kernel_rfl)) k2 bel lt2) (trodAll_cons_mk (Below.trod laidOut (by kernel_rfl) (of_decide_eq_true (by kernel_rfl)) k3 bel lt3) (trodAll_cons_mk (Below.trod laidOut (by kernel_rfl) (of_decide_eq_true (by kernel_rfl)) k4 bel lt4) trodAll_mk0))))), rfl, bel.frame _, fun h => by cases h⟩

theorem over : Rows.voteTellsRow.holds Try.pinned (OpenSpec.ofChange Rows.voteTellsSpec) :=
  OpenClaim.holds_of_wide 4 Try.f4 rfl rfl rfl rfl rfl rfl rfl ⟨rfl, rfl, rfl, rfl, rfl⟩ rfl rfl rfl rfl rfl (by kernel_rfl) Try.func4 (by kernel_rfl)
    (of_decide_eq_true (by kernel_rfl)) (by unfold Func.isWrapper; first | (rw [if_pos (by decide +kernel)]; kernel_rfl) | (rw [if_neg (by decide +kernel)]; exact ⟨rfl, rfl⟩))
    (fun os started H enc _ => lifted os started H enc)

theorem proved : Rows.VoteTellsSaid := over
end Go.Proofs.Ytjninckmgkaliaa.voteTells
