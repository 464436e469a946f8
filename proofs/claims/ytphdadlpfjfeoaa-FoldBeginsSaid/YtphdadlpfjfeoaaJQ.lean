import Derived.Test.YtphdadlpfjfeoaaJm
import Derived.Test.YtphdadlpfjfeoaaJn
import Derived.Test.YtphdadlpfjfeoaaJO
/-
  CONTRACT OF postilionlaw11.awake.
-/
namespace Go.Proofs.Ytphdadlpfjfeoaa
open Go.RowKit
set_option linter.unusedVariables false
set_option linter.unusedSimpArgs false
namespace PM
def A0 : En := ⟨3, ⟨3, 2, 5⟩, 1, 9, [], []⟩
def R0 : Rc := ⟨2, 7, A0, Id0⟩
theorem A0_wf : A0.wf := ⟨rfl, ⟨rfl, by decide, by decide⟩, rfl, by decide, by simp [A0], by simp [A0]⟩
theorem A0_ok : enOk A0 := ⟨by decide, by decide, .inr (.inl ⟨rfl, rfl, rfl⟩)⟩
theorem R0_wf : R0.wf := ⟨rfl, by decide, A0_wf, Id0_wf⟩
theorem R0_ok : rcP R0 := .inl ⟨.inr rfl, rfl, A0_ok⟩
theorem En0_no : ¬ enOk En0 := fun h => by rcases h.2.2 with ⟨h, _⟩ | ⟨h, _⟩ | ⟨h, _⟩ <;> exact absurd h (by decide)
theorem A0_len : (enB A0).length = 12 := by decide +kernel
theorem R0_len : (rcB R0).length = 18 := by decide +kernel
theorem decRc_nil : decRc [] = none := by
  cases h : decRc [] with
  | none => rfl
  | some x =>
    have := (decRc_back h).1
    have h1 := congrArg List.length this
    simp only [rcB, List.length_append, numB_length, List.length_nil] at h1
    omega
end PM
theorem unpack_any (v : Value) (l : List UInt8) (w : World) (hv : PM.BS w v l) (hl : l.length ≤ 70368744177664) :
    Calls Try.prog 20 #[v] w (RetUN w l) := by
  by_cases h2 : PM.sm (PM.stepN l false).1 = 2
  · exact unpack_2 v l w hv hl h2
  by_cases h3 : PM.sm (PM.stepN l false).1 = 3
  · exact unpack_3 v l w hv hl h3
  by_cases h4 : PM.sm (PM.stepN l false).1 = 4
  · exact unpack_4 v l w hv hl h4
  by_cases h5 : PM.sm (PM.stepN l false).1 = 5
  · exact unpack_5 v l w hv hl h5
  exact unpack_else v l w hv hl ⟨h2, h3, h4, h5⟩
theorem enc0 (W : World) : Calls Try.prog 30 #[.agg #[.int .i64 3, .int .i64 3, .int .u64 2, .int .u64 5, .int .i64 1, .int .u64 9, .slice none 0 0, .slice none 0 0]] W fun e w' => ∃ oa oc, e = .returned (.tuple #[.slice oa 12 oc, .int .i64 0]) ∧ PM.BS w' (.slice oa 12 oc) (PM.enB PM.A0) ∧ Below W.heap.size W w' := by
  refine Calls.mono (enencode_any PM.A0 (.slice none 0 0) (.slice none 0 0) W PM.A0_wf (PM.EM.nil _) (PM.RR.nil _)) ?_
  rintro e w' ⟨o, rfl, h1, -, h3⟩
  obtain ⟨a, c, h⟩ := (h1 PM.A0_ok).bs.len
  rw [PM.A0_len] at h
  subst h
  exact ⟨a, c, by rw [PM.enE_yes PM.A0_ok], (h1 PM.A0_ok).bs, h3⟩
theorem dec0 (v : Value) (W : World) (hv : PM.BS W v (PM.enB PM.A0)) : Calls Try.prog 36 #[v] W fun e w' => ∃ fa fc ea ec, e = .returned (.tuple #[.agg #[.int .i64 3, .int .i64 3, .int .u64 2, .int .u64 5, .int .i64 1, .int .u64 9, .slice fa 0 fc, .slice ea 0 ec], .int .i64 0]) ∧ PM.TV w' (.slice fa 0 fc) [] ∧ PM.EVL w' (.slice ea 0 ec) [] ∧ Below W.heap.size W w' := by
  refine (endecode_any v _ W hv (by rw [PM.A0_len]; omega)).mono ?_
  rintro e w' ⟨x, fv, ev, n, rfl, hc, hO, hE, hb⟩
  rcases hc with ⟨rfl, hd⟩ | ⟨_, hd, _⟩
  · rw [PM.decEn_enc PM.A0_wf PM.A0_ok] at hd
    injection hd with hd
    subst hd
    have h1 := hO.em PM.teL_len
    have h2 := hE.evl
    obtain ⟨fa, fc, h⟩ := h1.len; subst h
    obtain ⟨ea, ec, h⟩ := hE.len; subst h
    exact ⟨fa, fc, ea, ec, rfl, h1, h2, hb⟩
  · rw [PM.decEn_enc PM.A0_wf PM.A0_ok] at hd
    cases hd
theorem pack0 (W : World) : Calls Try.prog 19 #[.agg #[.int .i64 2, .int .u64 7, .int .i64 3, .int .i64 3, .int .u64 2, .int .u64 5, .int .i64 1, .int .u64 9, .slice none 0 0, .slice none 0 0, .int .i64 0, .int .u64 0, .int .u64 0]] W fun e w' => ∃ oa oc, e = .returned (.tuple #[.slice oa 18 oc, .int .i64 0]) ∧ PM.BS w' (.slice oa 18 oc) (PM.rcB PM.R0) ∧ Below W.heap.size W w' := by
  refine Calls.mono (pack_any PM.R0 (.slice none 0 0) (.slice none 0 0) W PM.R0_wf (PM.EM.nil _) (PM.RR.nil _)) ?_
  rintro e w' ⟨o, rfl, h1, -, h3⟩
  obtain ⟨a, c, h⟩ := (h1 PM.R0_ok).bs.len
  rw [PM.R0_len] at h
  subst h
  exact ⟨a, c, by rw [PM.rcE_yes PM.R0_ok], (h1 PM.R0_ok).bs, h3⟩
theorem unpack0 (v : Value) (W : World) (hv : PM.BS W v (PM.rcB PM.R0)) : Calls Try.prog 20 #[v] W fun e w' => ∃ fa fc ea ec, e = .returned (.tuple #[.agg #[.int .i64 2, .int .u64 7, .int .i64 3, .int .i64 3, .int .u64 2, .int .u64 5, .int .i64 1, .int .u64 9, .slice fa 0 fc, .slice ea 0 ec, .int .i64 0, .int .u64 0, .int .u64 0], .int .i64 0]) ∧ PM.TV w' (.slice fa 0 fc) [] ∧ PM.EVL w' (.slice ea 0 ec) [] ∧ Below W.heap.size W w' := by
  refine (unpack_any v _ W hv (by rw [PM.R0_len]; omega)).mono ?_
  rintro e w' ⟨x, fv, ev, n, rfl, hc, hO, hE, hb⟩
  rcases hc with ⟨rfl, hd⟩ | ⟨_, hd, _⟩
  · rw [PM.decRc_enc PM.R0_wf PM.R0_ok] at hd
    injection hd with hd
    subst hd
    have h1 := hO.em PM.teL_len
    have h2 := hE.evl
    obtain ⟨fa, fc, h⟩ := h1.len; subst h
    obtain ⟨ea, ec, h⟩ := hE.len; subst h
    exact ⟨fa, fc, ea, ec, rfl, h1, h2, hb⟩
  · rw [PM.decRc_enc PM.R0_wf PM.R0_ok] at hd
    cases hd
theorem unpackN (W : World) : Calls Try.prog 20 #[.slice none 0 0] W fun e w' => e = .returned (.tuple #[.agg #[.int .i64 0, .int .u64 0, .int .i64 0, .int .i64 0, .int .u64 0, .int .u64 0, .int .i64 0, .int .u64 0, .slice none 0 0, .slice none 0 0, .int .i64 0, .int .u64 0, .int .u64 0], .int .i64 110]) ∧ Below W.heap.size W w' := by
  refine (unpack_any (.slice none 0 0) [] W (PM.BS.nil _) (by simp)).mono ?_
  rintro e w' ⟨x, fv, ev, n, rfl, hc, -, -, hb⟩
  rcases hc with ⟨rfl, hd⟩ | ⟨rfl, hd, rfl, rfl, rfl⟩
  · rw [PM.decRc_nil] at hd
    cases hd
  · exact ⟨rfl, hb⟩
theorem same0 (fa ea : Option Addr) (fc ec : Nat) (W : World) (h1 : PM.TV W (.slice fa 0 fc) []) (h2 : PM.EVL W (.slice ea 0 ec) []) : Calls Try.prog 25 #[.agg #[.int .i64 3, .int .i64 3, .int .u64 2, .int .u64 5, .int .i64 1, .int .u64 9, .slice none 0 0, .slice none 0 0], .agg #[.int .i64 3, .int .i64 3, .int .u64 2, .int .u64 5, .int .i64 1, .int .u64 9, .slice fa 0 fc, .slice ea 0 ec]] W fun e w' => e = .returned (.bool true) ∧ Below W.heap.size W w' := by
  refine Calls.mono (same11_any PM.A0 PM.A0 (.slice none 0 0) (.slice none 0 0) (.slice fa 0 fc) (.slice ea 0 ec) W PM.A0_wf PM.A0_wf (PM.EM.nil _) (PM.RR.nil _) h1 h2) ?_
  rintro e w' ⟨⟨rfl, _⟩ | ⟨_, h⟩, hb⟩
  · exact ⟨rfl, hb⟩
  · exact absurd rfl h
theorem check0 (W : World) : Calls Try.prog 58 #[.agg #[.int .i64 3, .int .i64 3, .int .u64 2, .int .u64 5, .int .i64 1, .int .u64 9, .slice none 0 0, .slice none 0 0]] W fun e w' => e = .returned (.int .i64 0) ∧ Below W.heap.size W w' := by
  refine Calls.mono (encheck_any PM.A0 (.slice none 0 0) (.slice none 0 0) W PM.A0_wf (PM.EM.nil _) (PM.RR.nil _)) ?_
  rintro e w' ⟨rfl, hb⟩
  exact ⟨by rw [PM.enE_yes PM.A0_ok], hb⟩
theorem checkZ (W : World) : Calls Try.prog 58 #[.agg #[.int .i64 0, .int .i64 0, .int .u64 0, .int .u64 0, .int .i64 0, .int .u64 0, .slice none 0 0, .slice none 0 0]] W fun e w' => e = .returned (.int .i64 110) ∧ Below W.heap.size W w' := by
  refine Calls.mono (encheck_any PM.En0 (.slice none 0 0) (.slice none 0 0) W PM.En0_wf (PM.EM.nil _) (PM.RR.nil _)) ?_
  rintro e w' ⟨rfl, hb⟩
  exact ⟨by rw [PM.enE_no PM.En0_no], hb⟩
set_option maxRecDepth 100000 in
set_option maxHeartbeats 4000000 in
theorem few11_any (x : PM.En) (fv ev : Value) (w : World) (hf : PM.TV w fv x.fil) (he : PM.EVL w ev x.evs) :
    Calls Try.prog 22 #[.agg (PM.enC x fv ev).toArray] w fun e w' => (∃ b, e = .returned (.bool b)) ∧ Below w.heap.size w w' := by
  obtain ⟨ea, ec, hee⟩ := he.len
  subst hee
  obtain ⟨fa, fc, hfe⟩ := hf.len
  subst hfe
  have hbe := he.bound
  unfold maxLen at hbe
  obtain ⟨kd, ⟨ib, il, is⟩, cl, sub, fil, evs⟩ := x
  unfold PM.enC
  simp only at hf he hbe ⊢
  obtain ⟨L, hL⟩ : ∃ F, F = evs.length := ⟨_, rfl⟩
  obtain ⟨F, hF⟩ : ∃ F, F = fil.length := ⟨_, rfl⟩
  rw [← hL] at he hbe ⊢
  rw [← hF] at hf ⊢
  have hLh := PM.hid hL
  clear hL hF
  obtain ⟨g, hg⟩ : ∃ g, g = w.heap.size := ⟨_, rfl⟩
  obtain ⟨w1, hw1⟩ : ∃ W, W = w.alloc (.cells #[.int .i64 kd, .int .i64 ib, .int .u64 (il : Int), .int .u64 (is : Int), .int .i64 cl, .int .u64 (sub : Int), .slice fa F fc, .slice ea L ec] 44) := ⟨_, rfl⟩
  have hal : Below w.heap.size w w1 := by rw [hw1]; exact (Below.refl _ _).alloc (Nat.le_refl _) _
  have kg : PM.BK w1 g #[.int .i64 kd, .int .i64 ib, .int .u64 (il : Int), .int .u64 (is : Int), .int .i64 cl, .int .u64 (sub : Int), .slice fa F fc, .slice ea L ec] 44 := by rw [hw1, hg]; exact PM.BK.new _ _ _
  replace hf := PM.hid (hf.keep hal)
  replace he := PM.hid (he.keep hal)
  have hB := PM.hid hal
  clear hal
  have c6 : w1.cell? ⟨g, 6, none⟩ = some (.slice fa F fc) := kg.cell 6
  have c7 : w1.cell? ⟨g, 7, none⟩ = some (.slice ea L ec) := kg.cell 7
  by_cases hbig : 10 < L
  · have hb : (10 : Int) < (L : Int) := by omega
    go_enter Try.func22, Try.ntmps22
    go_upto_region 1 with fail
    rw [← hw1, ← hg]
    clear hw1 hg kg
    go_wp2_with fail
    go_ret
    exact ⟨⟨_, rfl⟩, hB.out⟩
  have hb : ¬ (10 : Int) < (L : Int) := by omega
  go_enter Try.func22, Try.ntmps22
  go_upto_region 1 with fail
  rw [← hw1, ← hg]
  clear hw1 hg kg
  go_wp2_with fail
  go_loopw [3] (fun i wr => ∃ k : Nat, i = .int .i64 k ∧ k ≤ L ∧ wr = w1) (fun i _ => L - (intOf i).toNat)
  case atStart => exact ⟨0, rfl, by omega, by first | rfl | trivial⟩
  case round =>
    obtain ⟨k, rfl, hk, rfl⟩ := hrel
    by_cases hlt : k < L
    · obtain ⟨x, hx⟩ : ∃ x, evs[k]? = some x := ⟨evs[k]'(by rw [← hLh.out]; exact hlt), List.getElem?_eq_getElem _⟩
      obtain ⟨b, off, rfl, hce⟩ := PM.RR.opn he.out (by rw [← hLh.out]; omega)
      obtain ⟨cs, hl0, xv, hcs, hxv⟩ := hce k x hx
      have c0 := hl0 0 xv (by rw [hcs]; rfl)
      rw [Nat.mul_one, Nat.add_zero] at c0
      have hfw := few_any xv x wr hxv
      clear hx hce hl0 hcs hxv cs
      go_wp2_with fail
      refine hfw.mono ?_
      clear hfw c0
      rintro e W5 ⟨hF, rfl⟩
      rcases hF with ⟨rfl, hF⟩ | ⟨rfl, hF⟩
      · clear hF
        go_wp2_with fail
        exact ⟨⟨k + 1, by go_num, by omega, by first | rfl | trivial⟩, by simp only [intOf]; omega⟩
      · clear hF
        go_wp2_with fail
        go_ret
        exact ⟨⟨_, rfl⟩, hB.out⟩
    · obtain rfl : k = L := by omega
      go_wp2_with fail
      refine (ffew_any _ fil wr hf.out).mono ?_
      rintro e W5 ⟨hF, rfl⟩
      rcases hF with ⟨rfl, hF⟩ | ⟨rfl, hF⟩
      all_goals
        clear hF
        go_wp2_with fail
        go_ret
        exact ⟨⟨_, rfl⟩, hB.out⟩
end Go.Proofs.Ytphdadlpfjfeoaa

/-
  THE WALKS OF LAYER 11's STATEMENTS: names, less.
-/
namespace Go.Proofs.Ytphdadlpfjfeoaa
open Go.RowKit
set_option linter.unusedVariables false
set_option linter.unusedSimpArgs false
set_option maxRecDepth 100000 in
set_option maxHeartbeats 400000 in
theorem idne_run (a b : PM.Id) : ∀ w : World, Sem.run Try.prog (binOp .neq 39 (.agg #[.int .i64 a.br, .int .u64 (a.life : Int), .int .u64 (a.ser : Int)]) (.agg #[.int .i64 b.br, .int .u64 (b.life : Int), .int .u64 (b.ser : Int)])) w = .ok (.bool (decide (a ≠ b))) w := by
  intro w
  rw [run_neq_struct, show (10000 : Nat) = 9999 + 1 from rfl, run_equalIn_agg w 9999 39 _ _ (by kernel_rfl) (by kernel_rfl)]
  simp only [Program.fieldsOf, Try.underlying39]
  go_simp
  obtain ⟨a1, a2, a3⟩ := a
  obtain ⟨b1, b2, b3⟩ := b
  simp only [ne_eq, PM.Id.mk.injEq]
  by_cases e1 : a1 = b1 <;> by_cases e2 : a2 = b2 <;> by_cases e3 : a3 = b3 <;> simp [e1, e2, e3] <;> omega
end Go.Proofs.Ytphdadlpfjfeoaa
