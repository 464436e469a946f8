import Derived.Test.YtklgibkdbdhaiaaJm
import Derived.Test.YtklgibkdbdhaiaaJn
import Derived.Test.YtklgibkdbdhaiaaJO
/-
  CONTRACT OF postilionlaw11.awake.
-/
namespace Go.Proofs.Ytklgibkdbdhaiaa
open Go.RowKit
set_option linter.unusedVariables false
set_option linter.unusedSimpArgs false
namespace PM
def A0 : En := ⟨3, ⟨3, 2, 5⟩, 1, 9, [], []⟩
def R0 : Rc := ⟨2, 7, A0, Id0⟩
theorem A0_wf : A0.wf := ⟨rfl, ⟨rfl, by decide, by decide⟩, rfl, by decide, by simp [A0], by simp [A0]⟩
theorem A0_ok : enOk A0 := ⟨by decide, by decide, .inr (.inl ⟨rfl, rfl, rfl⟩)⟩
theorem R0_wf : R0.wf := ⟨rfl, by decide, A0_wf, Id0_wf⟩
theorem R0_ok : rcP R0 := .inl ⟨.inr rfl, rfl, A0_ok⟩
theorem En0_no : ¬ enOk En0 := fun h => by rcases h.2.2 with ⟨h, _⟩ | ⟨h, _⟩ | ⟨h, _⟩ <;> exact absurd h (by decide)
theorem A0_len : (enB A0).length = 12 := by decide +kernel
theorem R0_len : (rcB R0).length = 18 := by decide +kernel
theorem decRc_nil : decRc [] = none := by
  cases h : decRc [] with
  | none => rfl
  | some x =>
    have := (decRc_back h).1
    have h1 := congrArg List.length this
    simp only [rcB, List.length_append, numB_length, List.length_nil] at h1
    omega
end PM
theorem unpack_any (v : Value) (l : List UInt8) (w : World) (hv : PM.BS w v l) (hl : l.length ≤ 70368744177664) :
    Calls Try.prog 15 #[v] w (RetUN w l) := by
  by_cases h2 : PM.sm (PM.stepN l false).1 = 2
  · exact unpack_2 v l w hv hl h2
  by_cases h3 : PM.sm (PM.stepN l false).1 = 3
  · exact unpack_3 v l w hv hl h3
  by_cases h4 : PM.sm (PM.stepN l false).1 = 4
  · exact unpack_4 v l w hv hl h4
  by_cases h5 : PM.sm (PM.stepN l false).1 = 5
  · exact unpack_5 v l w hv hl h5
  exact unpack_else v l w hv hl ⟨h2, h3, h4, h5⟩
theorem enc0 (W : World) : Calls Try.prog 11 #[.agg #[.int .i64 3, .int .i64 3, .int .u64 2, .int .u64 5, .int .i64 1, .int .u64 9, .slice none 0 0, .slice none 0 0]] W fun e w' => ∃ oa oc, e = .returned (.tuple #[.slice oa 12 oc, .int .i64 0]) ∧ PM.BS w' (.slice oa 12 oc) (PM.enB PM.A0) ∧ Below W.heap.size W w' := by
  refine Calls.mono (enencode_any PM.A0 (.slice none 0 0) (.slice none 0 0) W PM.A0_wf (PM.EM.nil _) (PM.RR.nil _)) ?_
  rintro e w' ⟨o, rfl, h1, -, h3⟩
  obtain ⟨a, c, h⟩ := (h1 PM.A0_ok).bs.len
  rw [PM.A0_len] at h
  subst h
  exact ⟨a, c, by rw [PM.enE_yes PM.A0_ok], (h1 PM.A0_ok).bs, h3⟩
theorem dec0 (v : Value) (W : World) (hv : PM.BS W v (PM.enB PM.A0)) : Calls Try.prog 12 #[v] W fun e w' => ∃ fa fc ea ec, e = .returned (.tuple #[.agg #[.int .i64 3, .int .i64 3, .int .u64 2, .int .u64 5, .int .i64 1, .int .u64 9, .slice fa 0 fc, .slice ea 0 ec], .int .i64 0]) ∧ PM.TV w' (.slice fa 0 fc) [] ∧ PM.EVL w' (.slice ea 0 ec) [] ∧ Below W.heap.size W w' := by
  refine (endecode_any v _ W hv (by rw [PM.A0_len]; omega)).mono ?_
  rintro e w' ⟨x, fv, ev, n, rfl, hc, hO, hE, hb⟩
  rcases hc with ⟨rfl, hd⟩ | ⟨_, hd, _⟩
  · rw [PM.decEn_enc PM.A0_wf PM.A0_ok] at hd
    injection hd with hd
    subst hd
    have h1 := hO.em PM.teL_len
    have h2 := hE.evl
    obtain ⟨fa, fc, h⟩ := h1.len; subst h
    obtain ⟨ea, ec, h⟩ := hE.len; subst h
    exact ⟨fa, fc, ea, ec, rfl, h1, h2, hb⟩
  · rw [PM.decEn_enc PM.A0_wf PM.A0_ok] at hd
    cases hd
theorem pack0 (W : World) : Calls Try.prog 14 #[.agg #[.int .i64 2, .int .u64 7, .int .i64 3, .int .i64 3, .int .u64 2, .int .u64 5, .int .i64 1, .int .u64 9, .slice none 0 0, .slice none 0 0, .int .i64 0, .int .u64 0, .int .u64 0]] W fun e w' => ∃ oa oc, e = .returned (.tuple #[.slice oa 18 oc, .int .i64 0]) ∧ PM.BS w' (.slice oa 18 oc) (PM.rcB PM.R0) ∧ Below W.heap.size W w' := by
  refine Calls.mono (pack_any PM.R0 (.slice none 0 0) (.slice none 0 0) W PM.R0_wf (PM.EM.nil _) (PM.RR.nil _)) ?_
  rintro e w' ⟨o, rfl, h1, -, h3⟩
  obtain ⟨a, c, h⟩ := (h1 PM.R0_ok).bs.len
  rw [PM.R0_len] at h
  subst h
  exact ⟨a, c, by rw [PM.rcE_yes PM.R0_ok], (h1 PM.R0_ok).bs, h3⟩
theorem unpack0 (v : Value) (W : World) (hv : PM.BS W v (PM.rcB PM.R0)) : Calls Try.prog 15 #[v] W fun e w' => ∃ fa fc ea ec, e = .returned (.tuple #[.agg #[.int .i64 2, .int .u64 7, .int .i64 3, .int .i64 3, .int .u64 2, .int .u64 5, .int .i64 1, .int .u64 9, .slice fa 0 fc, .slice ea 0 ec, .int .i64 0, .int .u64 0, .int .u64 0], .int .i64 0]) ∧ PM.TV w' (.slice fa 0 fc) [] ∧ PM.EVL w' (.slice ea 0 ec) [] ∧ Below W.heap.size W w' := by
  refine (unpack_any v _ W hv (by rw [PM.R0_len]; omega)).mono ?_
  rintro e w' ⟨x, fv, ev, n, rfl, hc, hO, hE, hb⟩
  rcases hc with ⟨rfl, hd⟩ | ⟨_, hd, _⟩
  · rw [PM.decRc_enc PM.R0_wf PM.R0_ok] at hd
    injection hd with hd
    subst hd
    have h1 := hO.em PM.teL_len
    have h2 := hE.evl
    obtain ⟨fa, fc, h⟩ := h1.len; subst h
    obtain ⟨ea, ec, h⟩ := hE.len; subst h
    exact ⟨fa, fc, ea, ec, rfl, h1, h2, hb⟩
  · rw [PM.decRc_enc PM.R0_wf PM.R0_ok] at hd
    cases hd
theorem unpackN (W : World) : Calls Try.prog 15 #[.slice none 0 0] W fun e w' => e = .returned (.tuple #[.agg #[.int .i64 0, .int .u64 0, .int .i64 0, .int .i64 0, .int .u64 0, .int .u64 0, .int .i64 0, .int .u64 0, .slice none 0 0, .slice none 0 0, .int .i64 0, .int .u64 0, .int .u64 0], .int .i64 110]) ∧ Below W.heap.size W w' := by
  refine (unpack_any (.slice none 0 0) [] W (PM.BS.nil _) (by simp)).mono ?_
  rintro e w' ⟨x, fv, ev, n, rfl, hc, -, -, hb⟩
  rcases hc with ⟨rfl, hd⟩ | ⟨rfl, hd, rfl, rfl, rfl⟩
  · rw [PM.decRc_nil] at hd
    cases hd
  · exact ⟨rfl, hb⟩
theorem same0 (fa ea : Option Addr) (fc ec : Nat) (W : World) (h1 : PM.TV W (.slice fa 0 fc) []) (h2 : PM.EVL W (.slice ea 0 ec) []) : Calls Try.prog 13 #[.agg #[.int .i64 3, .int .i64 3, .int .u64 2, .int .u64 5, .int .i64 1, .int .u64 9, .slice none 0 0, .slice none 0 0], .agg #[.int .i64 3, .int .i64 3, .int .u64 2, .int .u64 5, .int .i64 1, .int .u64 9, .slice fa 0 fc, .slice ea 0 ec]] W fun e w' => e = .returned (.bool true) ∧ Below W.heap.size W w' := by
  refine Calls.mono (same11_any PM.A0 PM.A0 (.slice none 0 0) (.slice none 0 0) (.slice fa 0 fc) (.slice ea 0 ec) W PM.A0_wf PM.A0_wf (PM.EM.nil _) (PM.RR.nil _) h1 h2) ?_
  rintro e w' ⟨⟨rfl, _⟩ | ⟨_, h⟩, hb⟩
  · exact ⟨rfl, hb⟩
  · exact absurd rfl h
theorem sameR0 (fa ea : Option Addr) (fc ec : Nat) (W : World) (h1 : PM.TV W (.slice fa 0 fc) []) (h2 : PM.EVL W (.slice ea 0 ec) []) : Calls Try.prog 16 #[.agg #[.int .i64 2, .int .u64 7, .int .i64 3, .int .i64 3, .int .u64 2, .int .u64 5, .int .i64 1, .int .u64 9, .slice none 0 0, .slice none 0 0, .int .i64 0, .int .u64 0, .int .u64 0], .agg #[.int .i64 2, .int .u64 7, .int .i64 3, .int .i64 3, .int .u64 2, .int .u64 5, .int .i64 1, .int .u64 9, .slice fa 0 fc, .slice ea 0 ec, .int .i64 0, .int .u64 0, .int .u64 0]] W fun e w' => e = .returned (.bool true) ∧ Below W.heap.size W w' := by
  refine Calls.mono (sameRec_any PM.R0 PM.R0 (.slice none 0 0) (.slice none 0 0) (.slice fa 0 fc) (.slice ea 0 ec) W PM.R0_wf PM.R0_wf (PM.EM.nil _) (PM.RR.nil _) h1 h2) ?_
  rintro e w' ⟨⟨rfl, _⟩ | ⟨_, h⟩, hb⟩
  · exact ⟨rfl, hb⟩
  · exact absurd rfl h
theorem check0 (W : World) : Calls Try.prog 17 #[.agg #[.int .i64 3, .int .i64 3, .int .u64 2, .int .u64 5, .int .i64 1, .int .u64 9, .slice none 0 0, .slice none 0 0]] W fun e w' => e = .returned (.int .i64 0) ∧ Below W.heap.size W w' := by
  refine Calls.mono (encheck_any PM.A0 (.slice none 0 0) (.slice none 0 0) W PM.A0_wf (PM.EM.nil _) (PM.RR.nil _)) ?_
  rintro e w' ⟨rfl, hb⟩
  exact ⟨by rw [PM.enE_yes PM.A0_ok], hb⟩
theorem checkZ (W : World) : Calls Try.prog 17 #[.agg #[.int .i64 0, .int .i64 0, .int .u64 0, .int .u64 0, .int .i64 0, .int .u64 0, .slice none 0 0, .slice none 0 0]] W fun e w' => e = .returned (.int .i64 110) ∧ Below W.heap.size W w' := by
  refine Calls.mono (encheck_any PM.En0 (.slice none 0 0) (.slice none 0 0) W PM.En0_wf (PM.EM.nil _) (PM.RR.nil _)) ?_
  rintro e w' ⟨rfl, hb⟩
  exact ⟨by rw [PM.enE_no PM.En0_no], hb⟩
theorem less0 (W : World) : Calls Try.prog 18 #[.agg #[.int .i64 0, .int .u64 0, .int .u64 1], .agg #[.int .i64 0, .int .u64 1, .int .u64 0]] W fun e w' => e = .returned (.bool true) ∧ Below W.heap.size W w' := by
  refine Calls.mono (less_any ⟨0, 0, 1⟩ ⟨0, 1, 0⟩ ⟨rfl, by decide, by decide⟩ ⟨rfl, by decide, by decide⟩ W) ?_
  rintro e w' ⟨rfl, hb⟩
  exact ⟨by rw [show PM.idLt ⟨0, 0, 1⟩ ⟨0, 1, 0⟩ = true from by decide], hb⟩
set_option maxRecDepth 100000 in
set_option maxHeartbeats 8000000 in
theorem awake11_any (w : World) : Calls Try.prog 9 #[] w fun e w' => e = .returned (.bool true) ∧ Below w.heap.size w w' := by
  have hBB := PM.hid (Below.refl w.heap.size w)
  go_enter Try.func9, Try.ntmps9
  go_upto_region 2 with fail
  obtain ⟨ga, hga⟩ : ∃ g, g = w.heap.size := ⟨_, rfl⟩
  obtain ⟨wn1, hwn1⟩ : ∃ W, W = w.alloc (.cells #[.int .i64 3, .int .i64 3, .int .u64 2, .int .u64 5, .int .i64 1, .int .u64 9, .slice none 0 0, .slice none 0 0] 30) := ⟨_, rfl⟩
  have hBn : Below w.heap.size w wn1 := by rw [hwn1]; exact (Below.refl _ _).alloc (Nat.le_refl _) _
  have kga : PM.BK wn1 ga #[.int .i64 3, .int .i64 3, .int .u64 2, .int .u64 5, .int .i64 1, .int .u64 9, .slice none 0 0, .slice none 0 0] 30 := by rw [hwn1, hga]; exact PM.BK.new _ _ _
  rw [← hwn1, ← hga]
  clear hwn1 hga
  replace hBB := PM.hid (PM.chain hBB.out hBn)
  clear hBn
  have ga_0 : wn1.cell? ⟨ga, 0, none⟩ = some (.int .i64 3) := kga.cell 0
  have ga_1 : wn1.cell? ⟨ga, 1, none⟩ = some (.int .i64 3) := kga.cell 1
  have ga_2 : wn1.cell? ⟨ga, 2, none⟩ = some (.int .u64 2) := kga.cell 2
  have ga_3 : wn1.cell? ⟨ga, 3, none⟩ = some (.int .u64 5) := kga.cell 3
  have ga_4 : wn1.cell? ⟨ga, 4, none⟩ = some (.int .i64 1) := kga.cell 4
  have ga_5 : wn1.cell? ⟨ga, 5, none⟩ = some (.int .u64 9) := kga.cell 5
  have ga_6 : wn1.cell? ⟨ga, 6, none⟩ = some (.slice none 0 0) := kga.cell 6
  have ga_7 : wn1.cell? ⟨ga, 7, none⟩ = some (.slice none 0 0) := kga.cell 7
  go_wp2_with fail
  refine (enc0 wn1).mono ?_
  rintro e wn2 ⟨oa, oc, rfl, ho, hBn⟩
  clear ga_0 ga_1 ga_2 ga_3 ga_4 ga_5 ga_6 ga_7
  replace kga := kga.keep hBn
  replace hBB := PM.hid (PM.chain hBB.out hBn)
  clear hBn
  have ga_0 : wn2.cell? ⟨ga, 0, none⟩ = some (.int .i64 3) := kga.cell 0
  have ga_1 : wn2.cell? ⟨ga, 1, none⟩ = some (.int .i64 3) := kga.cell 1
  have ga_2 : wn2.cell? ⟨ga, 2, none⟩ = some (.int .u64 2) := kga.cell 2
  have ga_3 : wn2.cell? ⟨ga, 3, none⟩ = some (.int .u64 5) := kga.cell 3
  have ga_4 : wn2.cell? ⟨ga, 4, none⟩ = some (.int .i64 1) := kga.cell 4
  have ga_5 : wn2.cell? ⟨ga, 5, none⟩ = some (.int .u64 9) := kga.cell 5
  have ga_6 : wn2.cell? ⟨ga, 6, none⟩ = some (.slice none 0 0) := kga.cell 6
  have ga_7 : wn2.cell? ⟨ga, 7, none⟩ = some (.slice none 0 0) := kga.cell 7
  go_wp2_with fail
  refine (dec0 _ wn2 ho).mono ?_
  rintro e wn3 ⟨fa, fc, ea, ec, rfl, h1, h2, hBn⟩
  clear ga_0 ga_1 ga_2 ga_3 ga_4 ga_5 ga_6 ga_7
  replace kga := kga.keep hBn
  replace ho := ho.keep hBn
  replace hBB := PM.hid (PM.chain hBB.out hBn)
  clear hBn
  have ga_0 : wn3.cell? ⟨ga, 0, none⟩ = some (.int .i64 3) := kga.cell 0
  have ga_1 : wn3.cell? ⟨ga, 1, none⟩ = some (.int .i64 3) := kga.cell 1
  have ga_2 : wn3.cell? ⟨ga, 2, none⟩ = some (.int .u64 2) := kga.cell 2
  have ga_3 : wn3.cell? ⟨ga, 3, none⟩ = some (.int .u64 5) := kga.cell 3
  have ga_4 : wn3.cell? ⟨ga, 4, none⟩ = some (.int .i64 1) := kga.cell 4
  have ga_5 : wn3.cell? ⟨ga, 5, none⟩ = some (.int .u64 9) := kga.cell 5
  have ga_6 : wn3.cell? ⟨ga, 6, none⟩ = some (.slice none 0 0) := kga.cell 6
  have ga_7 : wn3.cell? ⟨ga, 7, none⟩ = some (.slice none 0 0) := kga.cell 7
  go_upto_region 4 with fail
  clear ga_0 ga_1 ga_2 ga_3 ga_4 ga_5 ga_6 ga_7
  obtain ⟨gb, hgb⟩ : ∃ g, g = wn3.heap.size := ⟨_, rfl⟩
  obtain ⟨wn4, hwn4⟩ : ∃ W, W = wn3.alloc (.cells #[.int .i64 3, .int .i64 3, .int .u64 2, .int .u64 5, .int .i64 1, .int .u64 9, .slice fa 0 fc, .slice ea 0 ec] 30) := ⟨_, rfl⟩
  have hBn : Below wn3.heap.size wn3 wn4 := by rw [hwn4]; exact (Below.refl _ _).alloc (Nat.le_refl _) _
  have kgb : PM.BK wn4 gb #[.int .i64 3, .int .i64 3, .int .u64 2, .int .u64 5, .int .i64 1, .int .u64 9, .slice fa 0 fc, .slice ea 0 ec] 30 := by rw [hwn4, hgb]; exact PM.BK.new _ _ _
  rw [← hwn4, ← hgb]
  clear hwn4 hgb
  replace kga := kga.keep hBn
  replace ho := ho.keep hBn
  replace h1 := h1.keep hBn
  replace h2 := h2.keep hBn
  replace hBB := PM.hid (PM.chain hBB.out hBn)
  clear hBn
  have ga_0 : wn4.cell? ⟨ga, 0, none⟩ = some (.int .i64 3) := kga.cell 0
  have ga_1 : wn4.cell? ⟨ga, 1, none⟩ = some (.int .i64 3) := kga.cell 1
  have ga_2 : wn4.cell? ⟨ga, 2, none⟩ = some (.int .u64 2) := kga.cell 2
  have ga_3 : wn4.cell? ⟨ga, 3, none⟩ = some (.int .u64 5) := kga.cell 3
  have ga_4 : wn4.cell? ⟨ga, 4, none⟩ = some (.int .i64 1) := kga.cell 4
  have ga_5 : wn4.cell? ⟨ga, 5, none⟩ = some (.int .u64 9) := kga.cell 5
  have ga_6 : wn4.cell? ⟨ga, 6, none⟩ = some (.slice none 0 0) := kga.cell 6
  have ga_7 : wn4.cell? ⟨ga, 7, none⟩ = some (.slice none 0 0) := kga.cell 7
  have gb_0 : wn4.cell? ⟨gb, 0, none⟩ = some (.int .i64 3) := kgb.cell 0
  have gb_1 : wn4.cell? ⟨gb, 1, none⟩ = some (.int .i64 3) := kgb.cell 1
  have gb_2 : wn4.cell? ⟨gb, 2, none⟩ = some (.int .u64 2) := kgb.cell 2
  have gb_3 : wn4.cell? ⟨gb, 3, none⟩ = some (.int .u64 5) := kgb.cell 3
  have gb_4 : wn4.cell? ⟨gb, 4, none⟩ = some (.int .i64 1) := kgb.cell 4
  have gb_5 : wn4.cell? ⟨gb, 5, none⟩ = some (.int .u64 9) := kgb.cell 5
  have gb_6 : wn4.cell? ⟨gb, 6, none⟩ = some (.slice fa 0 fc) := kgb.cell 6
  have gb_7 : wn4.cell? ⟨gb, 7, none⟩ = some (.slice ea 0 ec) := kgb.cell 7
  go_upto_region 5 with fail
  clear ga_0 ga_1 ga_2 ga_3 ga_4 ga_5 ga_6 ga_7 gb_0 gb_1 gb_2 gb_3 gb_4 gb_5 gb_6 gb_7
  obtain ⟨gc, hgc⟩ : ∃ g, g = wn4.heap.size := ⟨_, rfl⟩
  obtain ⟨wn5, hwn5⟩ : ∃ W, W = wn4.alloc (.cells #[.int .i64 2, .int .u64 7, .int .i64 3, .int .i64 3, .int .u64 2, .int .u64 5, .int .i64 1, .int .u64 9, .slice none 0 0, .slice none 0 0, .int .i64 0, .int .u64 0, .int .u64 0] 32) := ⟨_, rfl⟩
  have hBn : Below wn4.heap.size wn4 wn5 := by rw [hwn5]; exact (Below.refl _ _).alloc (Nat.le_refl _) _
  have kgc : PM.BK wn5 gc #[.int .i64 2, .int .u64 7, .int .i64 3, .int .i64 3, .int .u64 2, .int .u64 5, .int .i64 1, .int .u64 9, .slice none 0 0, .slice none 0 0, .int .i64 0, .int .u64 0, .int .u64 0] 32 := by rw [hwn5, hgc]; exact PM.BK.new _ _ _
  rw [← hwn5, ← hgc]
  clear hwn5 hgc
  replace kga := kga.keep hBn
  replace kgb := kgb.keep hBn
  replace ho := ho.keep hBn
  replace h1 := h1.keep hBn
  replace h2 := h2.keep hBn
  replace hBB := PM.hid (PM.chain hBB.out hBn)
  clear hBn
  have ga_0 : wn5.cell? ⟨ga, 0, none⟩ = some (.int .i64 3) := kga.cell 0
  have ga_1 : wn5.cell? ⟨ga, 1, none⟩ = some (.int .i64 3) := kga.cell 1
  have ga_2 : wn5.cell? ⟨ga, 2, none⟩ = some (.int .u64 2) := kga.cell 2
  have ga_3 : wn5.cell? ⟨ga, 3, none⟩ = some (.int .u64 5) := kga.cell 3
  have ga_4 : wn5.cell? ⟨ga, 4, none⟩ = some (.int .i64 1) := kga.cell 4
  have ga_5 : wn5.cell? ⟨ga, 5, none⟩ = some (.int .u64 9) := kga.cell 5
  have ga_6 : wn5.cell? ⟨ga, 6, none⟩ = some (.slice none 0 0) := kga.cell 6
  have ga_7 : wn5.cell? ⟨ga, 7, none⟩ = some (.slice none 0 0) := kga.cell 7
  have gb_0 : wn5.cell? ⟨gb, 0, none⟩ = some (.int .i64 3) := kgb.cell 0
  have gb_1 : wn5.cell? ⟨gb, 1, none⟩ = some (.int .i64 3) := kgb.cell 1
  have gb_2 : wn5.cell? ⟨gb, 2, none⟩ = some (.int .u64 2) := kgb.cell 2
  have gb_3 : wn5.cell? ⟨gb, 3, none⟩ = some (.int .u64 5) := kgb.cell 3
  have gb_4 : wn5.cell? ⟨gb, 4, none⟩ = some (.int .i64 1) := kgb.cell 4
  have gb_5 : wn5.cell? ⟨gb, 5, none⟩ = some (.int .u64 9) := kgb.cell 5
  have gb_6 : wn5.cell? ⟨gb, 6, none⟩ = some (.slice fa 0 fc) := kgb.cell 6
  have gb_7 : wn5.cell? ⟨gb, 7, none⟩ = some (.slice ea 0 ec) := kgb.cell 7
  have gc_0 : wn5.cell? ⟨gc, 0, none⟩ = some (.int .i64 2) := kgc.cell 0
  have gc_1 : wn5.cell? ⟨gc, 1, none⟩ = some (.int .u64 7) := kgc.cell 1
  have gc_2 : wn5.cell? ⟨gc, 2, none⟩ = some (.int .i64 3) := kgc.cell 2
  have gc_3 : wn5.cell? ⟨gc, 3, none⟩ = some (.int .i64 3) := kgc.cell 3
  have gc_4 : wn5.cell? ⟨gc, 4, none⟩ = some (.int .u64 2) := kgc.cell 4
  have gc_5 : wn5.cell? ⟨gc, 5, none⟩ = some (.int .u64 5) := kgc.cell 5
  have gc_6 : wn5.cell? ⟨gc, 6, none⟩ = some (.int .i64 1) := kgc.cell 6
  have gc_7 : wn5.cell? ⟨gc, 7, none⟩ = some (.int .u64 9) := kgc.cell 7
  have gc_8 : wn5.cell? ⟨gc, 8, none⟩ = some (.slice none 0 0) := kgc.cell 8
  have gc_9 : wn5.cell? ⟨gc, 9, none⟩ = some (.slice none 0 0) := kgc.cell 9
  have gc_10 : wn5.cell? ⟨gc, 10, none⟩ = some (.int .i64 0) := kgc.cell 10
  have gc_11 : wn5.cell? ⟨gc, 11, none⟩ = some (.int .u64 0) := kgc.cell 11
  have gc_12 : wn5.cell? ⟨gc, 12, none⟩ = some (.int .u64 0) := kgc.cell 12
  go_wp2_with fail
  refine (pack0 wn5).mono ?_
  rintro e wn6 ⟨pa, pc, rfl, hp, hBn⟩
  clear ga_0 ga_1 ga_2 ga_3 ga_4 ga_5 ga_6 ga_7 gb_0 gb_1 gb_2 gb_3 gb_4 gb_5 gb_6 gb_7 gc_0 gc_1 gc_2 gc_3 gc_4 gc_5 gc_6 gc_7 gc_8 gc_9 gc_10 gc_11 gc_12
  replace kga := kga.keep hBn
  replace kgb := kgb.keep hBn
  replace kgc := kgc.keep hBn
  replace ho := ho.keep hBn
  replace h1 := h1.keep hBn
  replace h2 := h2.keep hBn
  replace hBB := PM.hid (PM.chain hBB.out hBn)
  clear hBn
  have ga_0 : wn6.cell? ⟨ga, 0, none⟩ = some (.int .i64 3) := kga.cell 0
  have ga_1 : wn6.cell? ⟨ga, 1, none⟩ = some (.int .i64 3) := kga.cell 1
  have ga_2 : wn6.cell? ⟨ga, 2, none⟩ = some (.int .u64 2) := kga.cell 2
  have ga_3 : wn6.cell? ⟨ga, 3, none⟩ = some (.int .u64 5) := kga.cell 3
  have ga_4 : wn6.cell? ⟨ga, 4, none⟩ = some (.int .i64 1) := kga.cell 4
  have ga_5 : wn6.cell? ⟨ga, 5, none⟩ = some (.int .u64 9) := kga.cell 5
  have ga_6 : wn6.cell? ⟨ga, 6, none⟩ = some (.slice none 0 0) := kga.cell 6
  have ga_7 : wn6.cell? ⟨ga, 7, none⟩ = some (.slice none 0 0) := kga.cell 7
  have gb_0 : wn6.cell? ⟨gb, 0, none⟩ = some (.int .i64 3) := kgb.cell 0
  have gb_1 : wn6.cell? ⟨gb, 1, none⟩ = some (.int .i64 3) := kgb.cell 1
  have gb_2 : wn6.cell? ⟨gb, 2, none⟩ = some (.int .u64 2) := kgb.cell 2
  have gb_3 : wn6.cell? ⟨gb, 3, none⟩ = some (.int .u64 5) := kgb.cell 3
  have gb_4 : wn6.cell? ⟨gb, 4, none⟩ = some (.int .i64 1) := kgb.cell 4
  have gb_5 : wn6.cell? ⟨gb, 5, none⟩ = some (.int .u64 9) := kgb.cell 5
  have gb_6 : wn6.cell? ⟨gb, 6, none⟩ = some (.slice fa 0 fc) := kgb.cell 6
  have gb_7 : wn6.cell? ⟨gb, 7, none⟩ = some (.slice ea 0 ec) := kgb.cell 7
  have gc_0 : wn6.cell? ⟨gc, 0, none⟩ = some (.int .i64 2) := kgc.cell 0
  have gc_1 : wn6.cell? ⟨gc, 1, none⟩ = some (.int .u64 7) := kgc.cell 1
  have gc_2 : wn6.cell? ⟨gc, 2, none⟩ = some (.int .i64 3) := kgc.cell 2
  have gc_3 : wn6.cell? ⟨gc, 3, none⟩ = some (.int .i64 3) := kgc.cell 3
  have gc_4 : wn6.cell? ⟨gc, 4, none⟩ = some (.int .u64 2) := kgc.cell 4
  have gc_5 : wn6.cell? ⟨gc, 5, none⟩ = some (.int .u64 5) := kgc.cell 5
  have gc_6 : wn6.cell? ⟨gc, 6, none⟩ = some (.int .i64 1) := kgc.cell 6
  have gc_7 : wn6.cell? ⟨gc, 7, none⟩ = some (.int .u64 9) := kgc.cell 7
  have gc_8 : wn6.cell? ⟨gc, 8, none⟩ = some (.slice none 0 0) := kgc.cell 8
  have gc_9 : wn6.cell? ⟨gc, 9, none⟩ = some (.slice none 0 0) := kgc.cell 9
  have gc_10 : wn6.cell? ⟨gc, 10, none⟩ = some (.int .i64 0) := kgc.cell 10
  have gc_11 : wn6.cell? ⟨gc, 11, none⟩ = some (.int .u64 0) := kgc.cell 11
  have gc_12 : wn6.cell? ⟨gc, 12, none⟩ = some (.int .u64 0) := kgc.cell 12
  go_wp2_with fail
  refine (unpack0 _ wn6 hp).mono ?_
  rintro e wn7 ⟨fa', fc', ea', ec', rfl, h3, h4, hBn⟩
  clear ga_0 ga_1 ga_2 ga_3 ga_4 ga_5 ga_6 ga_7 gb_0 gb_1 gb_2 gb_3 gb_4 gb_5 gb_6 gb_7 gc_0 gc_1 gc_2 gc_3 gc_4 gc_5 gc_6 gc_7 gc_8 gc_9 gc_10 gc_11 gc_12
  replace kga := kga.keep hBn
  replace kgb := kgb.keep hBn
  replace kgc := kgc.keep hBn
  replace ho := ho.keep hBn
  replace h1 := h1.keep hBn
  replace h2 := h2.keep hBn
  replace hp := hp.keep hBn
  replace hBB := PM.hid (PM.chain hBB.out hBn)
  clear hBn
  have ga_0 : wn7.cell? ⟨ga, 0, none⟩ = some (.int .i64 3) := kga.cell 0
  have ga_1 : wn7.cell? ⟨ga, 1, none⟩ = some (.int .i64 3) := kga.cell 1
  have ga_2 : wn7.cell? ⟨ga, 2, none⟩ = some (.int .u64 2) := kga.cell 2
  have ga_3 : wn7.cell? ⟨ga, 3, none⟩ = some (.int .u64 5) := kga.cell 3
  have ga_4 : wn7.cell? ⟨ga, 4, none⟩ = some (.int .i64 1) := kga.cell 4
  have ga_5 : wn7.cell? ⟨ga, 5, none⟩ = some (.int .u64 9) := kga.cell 5
  have ga_6 : wn7.cell? ⟨ga, 6, none⟩ = some (.slice none 0 0) := kga.cell 6
  have ga_7 : wn7.cell? ⟨ga, 7, none⟩ = some (.slice none 0 0) := kga.cell 7
  have gb_0 : wn7.cell? ⟨gb, 0, none⟩ = some (.int .i64 3) := kgb.cell 0
  have gb_1 : wn7.cell? ⟨gb, 1, none⟩ = some (.int .i64 3) := kgb.cell 1
  have gb_2 : wn7.cell? ⟨gb, 2, none⟩ = some (.int .u64 2) := kgb.cell 2
  have gb_3 : wn7.cell? ⟨gb, 3, none⟩ = some (.int .u64 5) := kgb.cell 3
  have gb_4 : wn7.cell? ⟨gb, 4, none⟩ = some (.int .i64 1) := kgb.cell 4
  have gb_5 : wn7.cell? ⟨gb, 5, none⟩ = some (.int .u64 9) := kgb.cell 5
  have gb_6 : wn7.cell? ⟨gb, 6, none⟩ = some (.slice fa 0 fc) := kgb.cell 6
  have gb_7 : wn7.cell? ⟨gb, 7, none⟩ = some (.slice ea 0 ec) := kgb.cell 7
  have gc_0 : wn7.cell? ⟨gc, 0, none⟩ = some (.int .i64 2) := kgc.cell 0
  have gc_1 : wn7.cell? ⟨gc, 1, none⟩ = some (.int .u64 7) := kgc.cell 1
  have gc_2 : wn7.cell? ⟨gc, 2, none⟩ = some (.int .i64 3) := kgc.cell 2
  have gc_3 : wn7.cell? ⟨gc, 3, none⟩ = some (.int .i64 3) := kgc.cell 3
  have gc_4 : wn7.cell? ⟨gc, 4, none⟩ = some (.int .u64 2) := kgc.cell 4
  have gc_5 : wn7.cell? ⟨gc, 5, none⟩ = some (.int .u64 5) := kgc.cell 5
  have gc_6 : wn7.cell? ⟨gc, 6, none⟩ = some (.int .i64 1) := kgc.cell 6
  have gc_7 : wn7.cell? ⟨gc, 7, none⟩ = some (.int .u64 9) := kgc.cell 7
  have gc_8 : wn7.cell? ⟨gc, 8, none⟩ = some (.slice none 0 0) := kgc.cell 8
  have gc_9 : wn7.cell? ⟨gc, 9, none⟩ = some (.slice none 0 0) := kgc.cell 9
  have gc_10 : wn7.cell? ⟨gc, 10, none⟩ = some (.int .i64 0) := kgc.cell 10
  have gc_11 : wn7.cell? ⟨gc, 11, none⟩ = some (.int .u64 0) := kgc.cell 11
  have gc_12 : wn7.cell? ⟨gc, 12, none⟩ = some (.int .u64 0) := kgc.cell 12
  go_upto_region 7 with fail
  clear ga_0 ga_1 ga_2 ga_3 ga_4 ga_5 ga_6 ga_7 gb_0 gb_1 gb_2 gb_3 gb_4 gb_5 gb_6 gb_7 gc_0 gc_1 gc_2 gc_3 gc_4 gc_5 gc_6 gc_7 gc_8 gc_9 gc_10 gc_11 gc_12
  obtain ⟨gd, hgd⟩ : ∃ g, g = wn7.heap.size := ⟨_, rfl⟩
  obtain ⟨wn8, hwn8⟩ : ∃ W, W = wn7.alloc (.cells #[.int .i64 2, .int .u64 7, .int .i64 3, .int .i64 3, .int .u64 2, .int .u64 5, .int .i64 1, .int .u64 9, .slice fa' 0 fc', .slice ea' 0 ec', .int .i64 0, .int .u64 0, .int .u64 0] 32) := ⟨_, rfl⟩
  have hBn : Below wn7.heap.size wn7 wn8 := by rw [hwn8]; exact (Below.refl _ _).alloc (Nat.le_refl _) _
  have kgd : PM.BK wn8 gd #[.int .i64 2, .int .u64 7, .int .i64 3, .int .i64 3, .int .u64 2, .int .u64 5, .int .i64 1, .int .u64 9, .slice fa' 0 fc', .slice ea' 0 ec', .int .i64 0, .int .u64 0, .int .u64 0] 32 := by rw [hwn8, hgd]; exact PM.BK.new _ _ _
  rw [← hwn8, ← hgd]
  clear hwn8 hgd
  replace kga := kga.keep hBn
  replace kgb := kgb.keep hBn
  replace kgc := kgc.keep hBn
  replace ho := ho.keep hBn
  replace h1 := h1.keep hBn
  replace h2 := h2.keep hBn
  replace hp := hp.keep hBn
  replace h3 := h3.keep hBn
  replace h4 := h4.keep hBn
  replace hBB := PM.hid (PM.chain hBB.out hBn)
  clear hBn
  have ga_0 : wn8.cell? ⟨ga, 0, none⟩ = some (.int .i64 3) := kga.cell 0
  have ga_1 : wn8.cell? ⟨ga, 1, none⟩ = some (.int .i64 3) := kga.cell 1
  have ga_2 : wn8.cell? ⟨ga, 2, none⟩ = some (.int .u64 2) := kga.cell 2
  have ga_3 : wn8.cell? ⟨ga, 3, none⟩ = some (.int .u64 5) := kga.cell 3
  have ga_4 : wn8.cell? ⟨ga, 4, none⟩ = some (.int .i64 1) := kga.cell 4
  have ga_5 : wn8.cell? ⟨ga, 5, none⟩ = some (.int .u64 9) := kga.cell 5
  have ga_6 : wn8.cell? ⟨ga, 6, none⟩ = some (.slice none 0 0) := kga.cell 6
  have ga_7 : wn8.cell? ⟨ga, 7, none⟩ = some (.slice none 0 0) := kga.cell 7
  have gb_0 : wn8.cell? ⟨gb, 0, none⟩ = some (.int .i64 3) := kgb.cell 0
  have gb_1 : wn8.cell? ⟨gb, 1, none⟩ = some (.int .i64 3) := kgb.cell 1
  have gb_2 : wn8.cell? ⟨gb, 2, none⟩ = some (.int .u64 2) := kgb.cell 2
  have gb_3 : wn8.cell? ⟨gb, 3, none⟩ = some (.int .u64 5) := kgb.cell 3
  have gb_4 : wn8.cell? ⟨gb, 4, none⟩ = some (.int .i64 1) := kgb.cell 4
  have gb_5 : wn8.cell? ⟨gb, 5, none⟩ = some (.int .u64 9) := kgb.cell 5
  have gb_6 : wn8.cell? ⟨gb, 6, none⟩ = some (.slice fa 0 fc) := kgb.cell 6
  have gb_7 : wn8.cell? ⟨gb, 7, none⟩ = some (.slice ea 0 ec) := kgb.cell 7
  have gc_0 : wn8.cell? ⟨gc, 0, none⟩ = some (.int .i64 2) := kgc.cell 0
  have gc_1 : wn8.cell? ⟨gc, 1, none⟩ = some (.int .u64 7) := kgc.cell 1
  have gc_2 : wn8.cell? ⟨gc, 2, none⟩ = some (.int .i64 3) := kgc.cell 2
  have gc_3 : wn8.cell? ⟨gc, 3, none⟩ = some (.int .i64 3) := kgc.cell 3
  have gc_4 : wn8.cell? ⟨gc, 4, none⟩ = some (.int .u64 2) := kgc.cell 4
  have gc_5 : wn8.cell? ⟨gc, 5, none⟩ = some (.int .u64 5) := kgc.cell 5
  have gc_6 : wn8.cell? ⟨gc, 6, none⟩ = some (.int .i64 1) := kgc.cell 6
  have gc_7 : wn8.cell? ⟨gc, 7, none⟩ = some (.int .u64 9) := kgc.cell 7
  have gc_8 : wn8.cell? ⟨gc, 8, none⟩ = some (.slice none 0 0) := kgc.cell 8
  have gc_9 : wn8.cell? ⟨gc, 9, none⟩ = some (.slice none 0 0) := kgc.cell 9
  have gc_10 : wn8.cell? ⟨gc, 10, none⟩ = some (.int .i64 0) := kgc.cell 10
  have gc_11 : wn8.cell? ⟨gc, 11, none⟩ = some (.int .u64 0) := kgc.cell 11
  have gc_12 : wn8.cell? ⟨gc, 12, none⟩ = some (.int .u64 0) := kgc.cell 12
  have gd_0 : wn8.cell? ⟨gd, 0, none⟩ = some (.int .i64 2) := kgd.cell 0
  have gd_1 : wn8.cell? ⟨gd, 1, none⟩ = some (.int .u64 7) := kgd.cell 1
  have gd_2 : wn8.cell? ⟨gd, 2, none⟩ = some (.int .i64 3) := kgd.cell 2
  have gd_3 : wn8.cell? ⟨gd, 3, none⟩ = some (.int .i64 3) := kgd.cell 3
  have gd_4 : wn8.cell? ⟨gd, 4, none⟩ = some (.int .u64 2) := kgd.cell 4
  have gd_5 : wn8.cell? ⟨gd, 5, none⟩ = some (.int .u64 5) := kgd.cell 5
  have gd_6 : wn8.cell? ⟨gd, 6, none⟩ = some (.int .i64 1) := kgd.cell 6
  have gd_7 : wn8.cell? ⟨gd, 7, none⟩ = some (.int .u64 9) := kgd.cell 7
  have gd_8 : wn8.cell? ⟨gd, 8, none⟩ = some (.slice fa' 0 fc') := kgd.cell 8
  have gd_9 : wn8.cell? ⟨gd, 9, none⟩ = some (.slice ea' 0 ec') := kgd.cell 9
  have gd_10 : wn8.cell? ⟨gd, 10, none⟩ = some (.int .i64 0) := kgd.cell 10
  have gd_11 : wn8.cell? ⟨gd, 11, none⟩ = some (.int .u64 0) := kgd.cell 11
  have gd_12 : wn8.cell? ⟨gd, 12, none⟩ = some (.int .u64 0) := kgd.cell 12
  go_wp2_with fail
  refine (unpackN wn8).mono ?_
  rintro e wn9 ⟨rfl, hBn⟩
  clear ga_0 ga_1 ga_2 ga_3 ga_4 ga_5 ga_6 ga_7 gb_0 gb_1 gb_2 gb_3 gb_4 gb_5 gb_6 gb_7 gc_0 gc_1 gc_2 gc_3 gc_4 gc_5 gc_6 gc_7 gc_8 gc_9 gc_10 gc_11 gc_12 gd_0 gd_1 gd_2 gd_3 gd_4 gd_5 gd_6 gd_7 gd_8 gd_9 gd_10 gd_11 gd_12
  replace kga := kga.keep hBn
  replace kgb := kgb.keep hBn
  replace kgc := kgc.keep hBn
  replace kgd := kgd.keep hBn
  replace ho := ho.keep hBn
  replace h1 := h1.keep hBn
  replace h2 := h2.keep hBn
  replace hp := hp.keep hBn
  replace h3 := h3.keep hBn
  replace h4 := h4.keep hBn
  replace hBB := PM.hid (PM.chain hBB.out hBn)
  clear hBn
  have ga_0 : wn9.cell? ⟨ga, 0, none⟩ = some (.int .i64 3) := kga.cell 0
  have ga_1 : wn9.cell? ⟨ga, 1, none⟩ = some (.int .i64 3) := kga.cell 1
  have ga_2 : wn9.cell? ⟨ga, 2, none⟩ = some (.int .u64 2) := kga.cell 2
  have ga_3 : wn9.cell? ⟨ga, 3, none⟩ = some (.int .u64 5) := kga.cell 3
  have ga_4 : wn9.cell? ⟨ga, 4, none⟩ = some (.int .i64 1) := kga.cell 4
  have ga_5 : wn9.cell? ⟨ga, 5, none⟩ = some (.int .u64 9) := kga.cell 5
  have ga_6 : wn9.cell? ⟨ga, 6, none⟩ = some (.slice none 0 0) := kga.cell 6
  have ga_7 : wn9.cell? ⟨ga, 7, none⟩ = some (.slice none 0 0) := kga.cell 7
  have gb_0 : wn9.cell? ⟨gb, 0, none⟩ = some (.int .i64 3) := kgb.cell 0
  have gb_1 : wn9.cell? ⟨gb, 1, none⟩ = some (.int .i64 3) := kgb.cell 1
  have gb_2 : wn9.cell? ⟨gb, 2, none⟩ = some (.int .u64 2) := kgb.cell 2
  have gb_3 : wn9.cell? ⟨gb, 3, none⟩ = some (.int .u64 5) := kgb.cell 3
  have gb_4 : wn9.cell? ⟨gb, 4, none⟩ = some (.int .i64 1) := kgb.cell 4
  have gb_5 : wn9.cell? ⟨gb, 5, none⟩ = some (.int .u64 9) := kgb.cell 5
  have gb_6 : wn9.cell? ⟨gb, 6, none⟩ = some (.slice fa 0 fc) := kgb.cell 6
  have gb_7 : wn9.cell? ⟨gb, 7, none⟩ = some (.slice ea 0 ec) := kgb.cell 7
  have gc_0 : wn9.cell? ⟨gc, 0, none⟩ = some (.int .i64 2) := kgc.cell 0
  have gc_1 : wn9.cell? ⟨gc, 1, none⟩ = some (.int .u64 7) := kgc.cell 1
  have gc_2 : wn9.cell? ⟨gc, 2, none⟩ = some (.int .i64 3) := kgc.cell 2
  have gc_3 : wn9.cell? ⟨gc, 3, none⟩ = some (.int .i64 3) := kgc.cell 3
  have gc_4 : wn9.cell? ⟨gc, 4, none⟩ = some (.int .u64 2) := kgc.cell 4
  have gc_5 : wn9.cell? ⟨gc, 5, none⟩ = some (.int .u64 5) := kgc.cell 5
  have gc_6 : wn9.cell? ⟨gc, 6, none⟩ = some (.int .i64 1) := kgc.cell 6
  have gc_7 : wn9.cell? ⟨gc, 7, none⟩ = some (.int .u64 9) := kgc.cell 7
  have gc_8 : wn9.cell? ⟨gc, 8, none⟩ = some (.slice none 0 0) := kgc.cell 8
  have gc_9 : wn9.cell? ⟨gc, 9, none⟩ = some (.slice none 0 0) := kgc.cell 9
  have gc_10 : wn9.cell? ⟨gc, 10, none⟩ = some (.int .i64 0) := kgc.cell 10
  have gc_11 : wn9.cell? ⟨gc, 11, none⟩ = some (.int .u64 0) := kgc.cell 11
  have gc_12 : wn9.cell? ⟨gc, 12, none⟩ = some (.int .u64 0) := kgc.cell 12
  have gd_0 : wn9.cell? ⟨gd, 0, none⟩ = some (.int .i64 2) := kgd.cell 0
  have gd_1 : wn9.cell? ⟨gd, 1, none⟩ = some (.int .u64 7) := kgd.cell 1
  have gd_2 : wn9.cell? ⟨gd, 2, none⟩ = some (.int .i64 3) := kgd.cell 2
  have gd_3 : wn9.cell? ⟨gd, 3, none⟩ = some (.int .i64 3) := kgd.cell 3
  have gd_4 : wn9.cell? ⟨gd, 4, none⟩ = some (.int .u64 2) := kgd.cell 4
  have gd_5 : wn9.cell? ⟨gd, 5, none⟩ = some (.int .u64 5) := kgd.cell 5
  have gd_6 : wn9.cell? ⟨gd, 6, none⟩ = some (.int .i64 1) := kgd.cell 6
  have gd_7 : wn9.cell? ⟨gd, 7, none⟩ = some (.int .u64 9) := kgd.cell 7
  have gd_8 : wn9.cell? ⟨gd, 8, none⟩ = some (.slice fa' 0 fc') := kgd.cell 8
  have gd_9 : wn9.cell? ⟨gd, 9, none⟩ = some (.slice ea' 0 ec') := kgd.cell 9
  have gd_10 : wn9.cell? ⟨gd, 10, none⟩ = some (.int .i64 0) := kgd.cell 10
  have gd_11 : wn9.cell? ⟨gd, 11, none⟩ = some (.int .u64 0) := kgd.cell 11
  have gd_12 : wn9.cell? ⟨gd, 12, none⟩ = some (.int .u64 0) := kgd.cell 12
  go_upto_region 8 with fail
  clear ga_0 ga_1 ga_2 ga_3 ga_4 ga_5 ga_6 ga_7 gb_0 gb_1 gb_2 gb_3 gb_4 gb_5 gb_6 gb_7 gc_0 gc_1 gc_2 gc_3 gc_4 gc_5 gc_6 gc_7 gc_8 gc_9 gc_10 gc_11 gc_12 gd_0 gd_1 gd_2 gd_3 gd_4 gd_5 gd_6 gd_7 gd_8 gd_9 gd_10 gd_11 gd_12
  obtain ⟨ge, hge⟩ : ∃ g, g = wn9.heap.size := ⟨_, rfl⟩
  obtain ⟨wn10, hwn10⟩ : ∃ W, W = wn9.alloc (.cells #[.int .i64 0, .int .u64 0, .int .i64 0, .int .i64 0, .int .u64 0, .int .u64 0, .int .i64 0, .int .u64 0, .slice none 0 0, .slice none 0 0, .int .i64 0, .int .u64 0, .int .u64 0] 32) := ⟨_, rfl⟩
  have hBn : Below wn9.heap.size wn9 wn10 := by rw [hwn10]; exact (Below.refl _ _).alloc (Nat.le_refl _) _
  have kge : PM.BK wn10 ge #[.int .i64 0, .int .u64 0, .int .i64 0, .int .i64 0, .int .u64 0, .int .u64 0, .int .i64 0, .int .u64 0, .slice none 0 0, .slice none 0 0, .int .i64 0, .int .u64 0, .int .u64 0] 32 := by rw [hwn10, hge]; exact PM.BK.new _ _ _
  rw [← hwn10, ← hge]
  clear hwn10 hge
  replace kga := kga.keep hBn
  replace kgb := kgb.keep hBn
  replace kgc := kgc.keep hBn
  replace kgd := kgd.keep hBn
  replace ho := ho.keep hBn
  replace h1 := h1.keep hBn
  replace h2 := h2.keep hBn
  replace hp := hp.keep hBn
  replace h3 := h3.keep hBn
  replace h4 := h4.keep hBn
  replace hBB := PM.hid (PM.chain hBB.out hBn)
  clear hBn
  have ga_0 : wn10.cell? ⟨ga, 0, none⟩ = some (.int .i64 3) := kga.cell 0
  have ga_1 : wn10.cell? ⟨ga, 1, none⟩ = some (.int .i64 3) := kga.cell 1
  have ga_2 : wn10.cell? ⟨ga, 2, none⟩ = some (.int .u64 2) := kga.cell 2
  have ga_3 : wn10.cell? ⟨ga, 3, none⟩ = some (.int .u64 5) := kga.cell 3
  have ga_4 : wn10.cell? ⟨ga, 4, none⟩ = some (.int .i64 1) := kga.cell 4
  have ga_5 : wn10.cell? ⟨ga, 5, none⟩ = some (.int .u64 9) := kga.cell 5
  have ga_6 : wn10.cell? ⟨ga, 6, none⟩ = some (.slice none 0 0) := kga.cell 6
  have ga_7 : wn10.cell? ⟨ga, 7, none⟩ = some (.slice none 0 0) := kga.cell 7
  have gb_0 : wn10.cell? ⟨gb, 0, none⟩ = some (.int .i64 3) := kgb.cell 0
  have gb_1 : wn10.cell? ⟨gb, 1, none⟩ = some (.int .i64 3) := kgb.cell 1
  have gb_2 : wn10.cell? ⟨gb, 2, none⟩ = some (.int .u64 2) := kgb.cell 2
  have gb_3 : wn10.cell? ⟨gb, 3, none⟩ = some (.int .u64 5) := kgb.cell 3
  have gb_4 : wn10.cell? ⟨gb, 4, none⟩ = some (.int .i64 1) := kgb.cell 4
  have gb_5 : wn10.cell? ⟨gb, 5, none⟩ = some (.int .u64 9) := kgb.cell 5
  have gb_6 : wn10.cell? ⟨gb, 6, none⟩ = some (.slice fa 0 fc) := kgb.cell 6
  have gb_7 : wn10.cell? ⟨gb, 7, none⟩ = some (.slice ea 0 ec) := kgb.cell 7
  have gc_0 : wn10.cell? ⟨gc, 0, none⟩ = some (.int .i64 2) := kgc.cell 0
  have gc_1 : wn10.cell? ⟨gc, 1, none⟩ = some (.int .u64 7) := kgc.cell 1
  have gc_2 : wn10.cell? ⟨gc, 2, none⟩ = some (.int .i64 3) := kgc.cell 2
  have gc_3 : wn10.cell? ⟨gc, 3, none⟩ = some (.int .i64 3) := kgc.cell 3
  have gc_4 : wn10.cell? ⟨gc, 4, none⟩ = some (.int .u64 2) := kgc.cell 4
  have gc_5 : wn10.cell? ⟨gc, 5, none⟩ = some (.int .u64 5) := kgc.cell 5
  have gc_6 : wn10.cell? ⟨gc, 6, none⟩ = some (.int .i64 1) := kgc.cell 6
  have gc_7 : wn10.cell? ⟨gc, 7, none⟩ = some (.int .u64 9) := kgc.cell 7
  have gc_8 : wn10.cell? ⟨gc, 8, none⟩ = some (.slice none 0 0) := kgc.cell 8
  have gc_9 : wn10.cell? ⟨gc, 9, none⟩ = some (.slice none 0 0) := kgc.cell 9
  have gc_10 : wn10.cell? ⟨gc, 10, none⟩ = some (.int .i64 0) := kgc.cell 10
  have gc_11 : wn10.cell? ⟨gc, 11, none⟩ = some (.int .u64 0) := kgc.cell 11
  have gc_12 : wn10.cell? ⟨gc, 12, none⟩ = some (.int .u64 0) := kgc.cell 12
  have gd_0 : wn10.cell? ⟨gd, 0, none⟩ = some (.int .i64 2) := kgd.cell 0
  have gd_1 : wn10.cell? ⟨gd, 1, none⟩ = some (.int .u64 7) := kgd.cell 1
  have gd_2 : wn10.cell? ⟨gd, 2, none⟩ = some (.int .i64 3) := kgd.cell 2
  have gd_3 : wn10.cell? ⟨gd, 3, none⟩ = some (.int .i64 3) := kgd.cell 3
  have gd_4 : wn10.cell? ⟨gd, 4, none⟩ = some (.int .u64 2) := kgd.cell 4
  have gd_5 : wn10.cell? ⟨gd, 5, none⟩ = some (.int .u64 5) := kgd.cell 5
  have gd_6 : wn10.cell? ⟨gd, 6, none⟩ = some (.int .i64 1) := kgd.cell 6
  have gd_7 : wn10.cell? ⟨gd, 7, none⟩ = some (.int .u64 9) := kgd.cell 7
  have gd_8 : wn10.cell? ⟨gd, 8, none⟩ = some (.slice fa' 0 fc') := kgd.cell 8
  have gd_9 : wn10.cell? ⟨gd, 9, none⟩ = some (.slice ea' 0 ec') := kgd.cell 9
  have gd_10 : wn10.cell? ⟨gd, 10, none⟩ = some (.int .i64 0) := kgd.cell 10
  have gd_11 : wn10.cell? ⟨gd, 11, none⟩ = some (.int .u64 0) := kgd.cell 11
  have gd_12 : wn10.cell? ⟨gd, 12, none⟩ = some (.int .u64 0) := kgd.cell 12
  have ge_0 : wn10.cell? ⟨ge, 0, none⟩ = some (.int .i64 0) := kge.cell 0
  have ge_1 : wn10.cell? ⟨ge, 1, none⟩ = some (.int .u64 0) := kge.cell 1
  have ge_2 : wn10.cell? ⟨ge, 2, none⟩ = some (.int .i64 0) := kge.cell 2
  have ge_3 : wn10.cell? ⟨ge, 3, none⟩ = some (.int .i64 0) := kge.cell 3
  have ge_4 : wn10.cell? ⟨ge, 4, none⟩ = some (.int .u64 0) := kge.cell 4
  have ge_5 : wn10.cell? ⟨ge, 5, none⟩ = some (.int .u64 0) := kge.cell 5
  have ge_6 : wn10.cell? ⟨ge, 6, none⟩ = some (.int .i64 0) := kge.cell 6
  have ge_7 : wn10.cell? ⟨ge, 7, none⟩ = some (.int .u64 0) := kge.cell 7
  have ge_8 : wn10.cell? ⟨ge, 8, none⟩ = some (.slice none 0 0) := kge.cell 8
  have ge_9 : wn10.cell? ⟨ge, 9, none⟩ = some (.slice none 0 0) := kge.cell 9
  have ge_10 : wn10.cell? ⟨ge, 10, none⟩ = some (.int .i64 0) := kge.cell 10
  have ge_11 : wn10.cell? ⟨ge, 11, none⟩ = some (.int .u64 0) := kge.cell 11
  have ge_12 : wn10.cell? ⟨ge, 12, none⟩ = some (.int .u64 0) := kge.cell 12
  go_wp2_with fail
  refine (same0 fa ea fc ec wn10 h1 h2).mono ?_
  rintro e wn11 ⟨rfl, hBn⟩
  clear ga_0 ga_1 ga_2 ga_3 ga_4 ga_5 ga_6 ga_7 gb_0 gb_1 gb_2 gb_3 gb_4 gb_5 gb_6 gb_7 gc_0 gc_1 gc_2 gc_3 gc_4 gc_5 gc_6 gc_7 gc_8 gc_9 gc_10 gc_11 gc_12 gd_0 gd_1 gd_2 gd_3 gd_4 gd_5 gd_6 gd_7 gd_8 gd_9 gd_10 gd_11 gd_12 ge_0 ge_1 ge_2 ge_3 ge_4 ge_5 ge_6 ge_7 ge_8 ge_9 ge_10 ge_11 ge_12
  replace kga := kga.keep hBn
  replace kgb := kgb.keep hBn
  replace kgc := kgc.keep hBn
  replace kgd := kgd.keep hBn
  replace kge := kge.keep hBn
  replace ho := ho.keep hBn
  replace h1 := h1.keep hBn
  replace h2 := h2.keep hBn
  replace hp := hp.keep hBn
  replace h3 := h3.keep hBn
  replace h4 := h4.keep hBn
  replace hBB := PM.hid (PM.chain hBB.out hBn)
  clear hBn
  have ga_0 : wn11.cell? ⟨ga, 0, none⟩ = some (.int .i64 3) := kga.cell 0
  have ga_1 : wn11.cell? ⟨ga, 1, none⟩ = some (.int .i64 3) := kga.cell 1
  have ga_2 : wn11.cell? ⟨ga, 2, none⟩ = some (.int .u64 2) := kga.cell 2
  have ga_3 : wn11.cell? ⟨ga, 3, none⟩ = some (.int .u64 5) := kga.cell 3
  have ga_4 : wn11.cell? ⟨ga, 4, none⟩ = some (.int .i64 1) := kga.cell 4
  have ga_5 : wn11.cell? ⟨ga, 5, none⟩ = some (.int .u64 9) := kga.cell 5
  have ga_6 : wn11.cell? ⟨ga, 6, none⟩ = some (.slice none 0 0) := kga.cell 6
  have ga_7 : wn11.cell? ⟨ga, 7, none⟩ = some (.slice none 0 0) := kga.cell 7
  have gb_0 : wn11.cell? ⟨gb, 0, none⟩ = some (.int .i64 3) := kgb.cell 0
  have gb_1 : wn11.cell? ⟨gb, 1, none⟩ = some (.int .i64 3) := kgb.cell 1
  have gb_2 : wn11.cell? ⟨gb, 2, none⟩ = some (.int .u64 2) := kgb.cell 2
  have gb_3 : wn11.cell? ⟨gb, 3, none⟩ = some (.int .u64 5) := kgb.cell 3
  have gb_4 : wn11.cell? ⟨gb, 4, none⟩ = some (.int .i64 1) := kgb.cell 4
  have gb_5 : wn11.cell? ⟨gb, 5, none⟩ = some (.int .u64 9) := kgb.cell 5
  have gb_6 : wn11.cell? ⟨gb, 6, none⟩ = some (.slice fa 0 fc) := kgb.cell 6
  have gb_7 : wn11.cell? ⟨gb, 7, none⟩ = some (.slice ea 0 ec) := kgb.cell 7
  have gc_0 : wn11.cell? ⟨gc, 0, none⟩ = some (.int .i64 2) := kgc.cell 0
  have gc_1 : wn11.cell? ⟨gc, 1, none⟩ = some (.int .u64 7) := kgc.cell 1
  have gc_2 : wn11.cell? ⟨gc, 2, none⟩ = some (.int .i64 3) := kgc.cell 2
  have gc_3 : wn11.cell? ⟨gc, 3, none⟩ = some (.int .i64 3) := kgc.cell 3
  have gc_4 : wn11.cell? ⟨gc, 4, none⟩ = some (.int .u64 2) := kgc.cell 4
  have gc_5 : wn11.cell? ⟨gc, 5, none⟩ = some (.int .u64 5) := kgc.cell 5
  have gc_6 : wn11.cell? ⟨gc, 6, none⟩ = some (.int .i64 1) := kgc.cell 6
  have gc_7 : wn11.cell? ⟨gc, 7, none⟩ = some (.int .u64 9) := kgc.cell 7
  have gc_8 : wn11.cell? ⟨gc, 8, none⟩ = some (.slice none 0 0) := kgc.cell 8
  have gc_9 : wn11.cell? ⟨gc, 9, none⟩ = some (.slice none 0 0) := kgc.cell 9
  have gc_10 : wn11.cell? ⟨gc, 10, none⟩ = some (.int .i64 0) := kgc.cell 10
  have gc_11 : wn11.cell? ⟨gc, 11, none⟩ = some (.int .u64 0) := kgc.cell 11
  have gc_12 : wn11.cell? ⟨gc, 12, none⟩ = some (.int .u64 0) := kgc.cell 12
  have gd_0 : wn11.cell? ⟨gd, 0, none⟩ = some (.int .i64 2) := kgd.cell 0
  have gd_1 : wn11.cell? ⟨gd, 1, none⟩ = some (.int .u64 7) := kgd.cell 1
  have gd_2 : wn11.cell? ⟨gd, 2, none⟩ = some (.int .i64 3) := kgd.cell 2
  have gd_3 : wn11.cell? ⟨gd, 3, none⟩ = some (.int .i64 3) := kgd.cell 3
  have gd_4 : wn11.cell? ⟨gd, 4, none⟩ = some (.int .u64 2) := kgd.cell 4
  have gd_5 : wn11.cell? ⟨gd, 5, none⟩ = some (.int .u64 5) := kgd.cell 5
  have gd_6 : wn11.cell? ⟨gd, 6, none⟩ = some (.int .i64 1) := kgd.cell 6
  have gd_7 : wn11.cell? ⟨gd, 7, none⟩ = some (.int .u64 9) := kgd.cell 7
  have gd_8 : wn11.cell? ⟨gd, 8, none⟩ = some (.slice fa' 0 fc') := kgd.cell 8
  have gd_9 : wn11.cell? ⟨gd, 9, none⟩ = some (.slice ea' 0 ec') := kgd.cell 9
  have gd_10 : wn11.cell? ⟨gd, 10, none⟩ = some (.int .i64 0) := kgd.cell 10
  have gd_11 : wn11.cell? ⟨gd, 11, none⟩ = some (.int .u64 0) := kgd.cell 11
  have gd_12 : wn11.cell? ⟨gd, 12, none⟩ = some (.int .u64 0) := kgd.cell 12
  have ge_0 : wn11.cell? ⟨ge, 0, none⟩ = some (.int .i64 0) := kge.cell 0
  have ge_1 : wn11.cell? ⟨ge, 1, none⟩ = some (.int .u64 0) := kge.cell 1
  have ge_2 : wn11.cell? ⟨ge, 2, none⟩ = some (.int .i64 0) := kge.cell 2
  have ge_3 : wn11.cell? ⟨ge, 3, none⟩ = some (.int .i64 0) := kge.cell 3
  have ge_4 : wn11.cell? ⟨ge, 4, none⟩ = some (.int .u64 0) := kge.cell 4
  have ge_5 : wn11.cell? ⟨ge, 5, none⟩ = some (.int .u64 0) := kge.cell 5
  have ge_6 : wn11.cell? ⟨ge, 6, none⟩ = some (.int .i64 0) := kge.cell 6
  have ge_7 : wn11.cell? ⟨ge, 7, none⟩ = some (.int .u64 0) := kge.cell 7
  have ge_8 : wn11.cell? ⟨ge, 8, none⟩ = some (.slice none 0 0) := kge.cell 8
  have ge_9 : wn11.cell? ⟨ge, 9, none⟩ = some (.slice none 0 0) := kge.cell 9
  have ge_10 : wn11.cell? ⟨ge, 10, none⟩ = some (.int .i64 0) := kge.cell 10
  have ge_11 : wn11.cell? ⟨ge, 11, none⟩ = some (.int .u64 0) := kge.cell 11
  have ge_12 : wn11.cell? ⟨ge, 12, none⟩ = some (.int .u64 0) := kge.cell 12
  go_wp2_with fail
  refine (sameR0 fa' ea' fc' ec' wn11 h3 h4).mono ?_
  rintro e wn12 ⟨rfl, hBn⟩
  clear ga_0 ga_1 ga_2 ga_3 ga_4 ga_5 ga_6 ga_7 gb_0 gb_1 gb_2 gb_3 gb_4 gb_5 gb_6 gb_7 gc_0 gc_1 gc_2 gc_3 gc_4 gc_5 gc_6 gc_7 gc_8 gc_9 gc_10 gc_11 gc_12 gd_0 gd_1 gd_2 gd_3 gd_4 gd_5 gd_6 gd_7 gd_8 gd_9 gd_10 gd_11 gd_12 ge_0 ge_1 ge_2 ge_3 ge_4 ge_5 ge_6 ge_7 ge_8 ge_9 ge_10 ge_11 ge_12
  replace kga := kga.keep hBn
  replace kgb := kgb.keep hBn
  replace kgc := kgc.keep hBn
  replace kgd := kgd.keep hBn
  replace kge := kge.keep hBn
  replace ho := ho.keep hBn
  replace h1 := h1.keep hBn
  replace h2 := h2.keep hBn
  replace hp := hp.keep hBn
  replace h3 := h3.keep hBn
  replace h4 := h4.keep hBn
  replace hBB := PM.hid (PM.chain hBB.out hBn)
  clear hBn
  have ga_0 : wn12.cell? ⟨ga, 0, none⟩ = some (.int .i64 3) := kga.cell 0
  have ga_1 : wn12.cell? ⟨ga, 1, none⟩ = some (.int .i64 3) := kga.cell 1
  have ga_2 : wn12.cell? ⟨ga, 2, none⟩ = some (.int .u64 2) := kga.cell 2
  have ga_3 : wn12.cell? ⟨ga, 3, none⟩ = some (.int .u64 5) := kga.cell 3
  have ga_4 : wn12.cell? ⟨ga, 4, none⟩ = some (.int .i64 1) := kga.cell 4
  have ga_5 : wn12.cell? ⟨ga, 5, none⟩ = some (.int .u64 9) := kga.cell 5
  have ga_6 : wn12.cell? ⟨ga, 6, none⟩ = some (.slice none 0 0) := kga.cell 6
  have ga_7 : wn12.cell? ⟨ga, 7, none⟩ = some (.slice none 0 0) := kga.cell 7
  have gb_0 : wn12.cell? ⟨gb, 0, none⟩ = some (.int .i64 3) := kgb.cell 0
  have gb_1 : wn12.cell? ⟨gb, 1, none⟩ = some (.int .i64 3) := kgb.cell 1
  have gb_2 : wn12.cell? ⟨gb, 2, none⟩ = some (.int .u64 2) := kgb.cell 2
  have gb_3 : wn12.cell? ⟨gb, 3, none⟩ = some (.int .u64 5) := kgb.cell 3
  have gb_4 : wn12.cell? ⟨gb, 4, none⟩ = some (.int .i64 1) := kgb.cell 4
  have gb_5 : wn12.cell? ⟨gb, 5, none⟩ = some (.int .u64 9) := kgb.cell 5
  have gb_6 : wn12.cell? ⟨gb, 6, none⟩ = some (.slice fa 0 fc) := kgb.cell 6
  have gb_7 : wn12.cell? ⟨gb, 7, none⟩ = some (.slice ea 0 ec) := kgb.cell 7
  have gc_0 : wn12.cell? ⟨gc, 0, none⟩ = some (.int .i64 2) := kgc.cell 0
  have gc_1 : wn12.cell? ⟨gc, 1, none⟩ = some (.int .u64 7) := kgc.cell 1
  have gc_2 : wn12.cell? ⟨gc, 2, none⟩ = some (.int .i64 3) := kgc.cell 2
  have gc_3 : wn12.cell? ⟨gc, 3, none⟩ = some (.int .i64 3) := kgc.cell 3
  have gc_4 : wn12.cell? ⟨gc, 4, none⟩ = some (.int .u64 2) := kgc.cell 4
  have gc_5 : wn12.cell? ⟨gc, 5, none⟩ = some (.int .u64 5) := kgc.cell 5
  have gc_6 : wn12.cell? ⟨gc, 6, none⟩ = some (.int .i64 1) := kgc.cell 6
  have gc_7 : wn12.cell? ⟨gc, 7, none⟩ = some (.int .u64 9) := kgc.cell 7
  have gc_8 : wn12.cell? ⟨gc, 8, none⟩ = some (.slice none 0 0) := kgc.cell 8
  have gc_9 : wn12.cell? ⟨gc, 9, none⟩ = some (.slice none 0 0) := kgc.cell 9
  have gc_10 : wn12.cell? ⟨gc, 10, none⟩ = some (.int .i64 0) := kgc.cell 10
  have gc_11 : wn12.cell? ⟨gc, 11, none⟩ = some (.int .u64 0) := kgc.cell 11
  have gc_12 : wn12.cell? ⟨gc, 12, none⟩ = some (.int .u64 0) := kgc.cell 12
  have gd_0 : wn12.cell? ⟨gd, 0, none⟩ = some (.int .i64 2) := kgd.cell 0
  have gd_1 : wn12.cell? ⟨gd, 1, none⟩ = some (.int .u64 7) := kgd.cell 1
  have gd_2 : wn12.cell? ⟨gd, 2, none⟩ = some (.int .i64 3) := kgd.cell 2
  have gd_3 : wn12.cell? ⟨gd, 3, none⟩ = some (.int .i64 3) := kgd.cell 3
  have gd_4 : wn12.cell? ⟨gd, 4, none⟩ = some (.int .u64 2) := kgd.cell 4
  have gd_5 : wn12.cell? ⟨gd, 5, none⟩ = some (.int .u64 5) := kgd.cell 5
  have gd_6 : wn12.cell? ⟨gd, 6, none⟩ = some (.int .i64 1) := kgd.cell 6
  have gd_7 : wn12.cell? ⟨gd, 7, none⟩ = some (.int .u64 9) := kgd.cell 7
  have gd_8 : wn12.cell? ⟨gd, 8, none⟩ = some (.slice fa' 0 fc') := kgd.cell 8
  have gd_9 : wn12.cell? ⟨gd, 9, none⟩ = some (.slice ea' 0 ec') := kgd.cell 9
  have gd_10 : wn12.cell? ⟨gd, 10, none⟩ = some (.int .i64 0) := kgd.cell 10
  have gd_11 : wn12.cell? ⟨gd, 11, none⟩ = some (.int .u64 0) := kgd.cell 11
  have gd_12 : wn12.cell? ⟨gd, 12, none⟩ = some (.int .u64 0) := kgd.cell 12
  have ge_0 : wn12.cell? ⟨ge, 0, none⟩ = some (.int .i64 0) := kge.cell 0
  have ge_1 : wn12.cell? ⟨ge, 1, none⟩ = some (.int .u64 0) := kge.cell 1
  have ge_2 : wn12.cell? ⟨ge, 2, none⟩ = some (.int .i64 0) := kge.cell 2
  have ge_3 : wn12.cell? ⟨ge, 3, none⟩ = some (.int .i64 0) := kge.cell 3
  have ge_4 : wn12.cell? ⟨ge, 4, none⟩ = some (.int .u64 0) := kge.cell 4
  have ge_5 : wn12.cell? ⟨ge, 5, none⟩ = some (.int .u64 0) := kge.cell 5
  have ge_6 : wn12.cell? ⟨ge, 6, none⟩ = some (.int .i64 0) := kge.cell 6
  have ge_7 : wn12.cell? ⟨ge, 7, none⟩ = some (.int .u64 0) := kge.cell 7
  have ge_8 : wn12.cell? ⟨ge, 8, none⟩ = some (.slice none 0 0) := kge.cell 8
  have ge_9 : wn12.cell? ⟨ge, 9, none⟩ = some (.slice none 0 0) := kge.cell 9
  have ge_10 : wn12.cell? ⟨ge, 10, none⟩ = some (.int .i64 0) := kge.cell 10
  have ge_11 : wn12.cell? ⟨ge, 11, none⟩ = some (.int .u64 0) := kge.cell 11
  have ge_12 : wn12.cell? ⟨ge, 12, none⟩ = some (.int .u64 0) := kge.cell 12
  go_wp2_with fail
  refine (check0 wn12).mono ?_
  rintro e wn13 ⟨rfl, hBn⟩
  clear ga_0 ga_1 ga_2 ga_3 ga_4 ga_5 ga_6 ga_7 gb_0 gb_1 gb_2 gb_3 gb_4 gb_5 gb_6 gb_7 gc_0 gc_1 gc_2 gc_3 gc_4 gc_5 gc_6 gc_7 gc_8 gc_9 gc_10 gc_11 gc_12 gd_0 gd_1 gd_2 gd_3 gd_4 gd_5 gd_6 gd_7 gd_8 gd_9 gd_10 gd_11 gd_12 ge_0 ge_1 ge_2 ge_3 ge_4 ge_5 ge_6 ge_7 ge_8 ge_9 ge_10 ge_11 ge_12
  replace kga := kga.keep hBn
  replace kgb := kgb.keep hBn
  replace kgc := kgc.keep hBn
  replace kgd := kgd.keep hBn
  replace kge := kge.keep hBn
  replace ho := ho.keep hBn
  replace h1 := h1.keep hBn
  replace h2 := h2.keep hBn
  replace hp := hp.keep hBn
  replace h3 := h3.keep hBn
  replace h4 := h4.keep hBn
  replace hBB := PM.hid (PM.chain hBB.out hBn)
  clear hBn
  have ga_0 : wn13.cell? ⟨ga, 0, none⟩ = some (.int .i64 3) := kga.cell 0
  have ga_1 : wn13.cell? ⟨ga, 1, none⟩ = some (.int .i64 3) := kga.cell 1
  have ga_2 : wn13.cell? ⟨ga, 2, none⟩ = some (.int .u64 2) := kga.cell 2
  have ga_3 : wn13.cell? ⟨ga, 3, none⟩ = some (.int .u64 5) := kga.cell 3
  have ga_4 : wn13.cell? ⟨ga, 4, none⟩ = some (.int .i64 1) := kga.cell 4
  have ga_5 : wn13.cell? ⟨ga, 5, none⟩ = some (.int .u64 9) := kga.cell 5
  have ga_6 : wn13.cell? ⟨ga, 6, none⟩ = some (.slice none 0 0) := kga.cell 6
  have ga_7 : wn13.cell? ⟨ga, 7, none⟩ = some (.slice none 0 0) := kga.cell 7
  have gb_0 : wn13.cell? ⟨gb, 0, none⟩ = some (.int .i64 3) := kgb.cell 0
  have gb_1 : wn13.cell? ⟨gb, 1, none⟩ = some (.int .i64 3) := kgb.cell 1
  have gb_2 : wn13.cell? ⟨gb, 2, none⟩ = some (.int .u64 2) := kgb.cell 2
  have gb_3 : wn13.cell? ⟨gb, 3, none⟩ = some (.int .u64 5) := kgb.cell 3
  have gb_4 : wn13.cell? ⟨gb, 4, none⟩ = some (.int .i64 1) := kgb.cell 4
  have gb_5 : wn13.cell? ⟨gb, 5, none⟩ = some (.int .u64 9) := kgb.cell 5
  have gb_6 : wn13.cell? ⟨gb, 6, none⟩ = some (.slice fa 0 fc) := kgb.cell 6
  have gb_7 : wn13.cell? ⟨gb, 7, none⟩ = some (.slice ea 0 ec) := kgb.cell 7
  have gc_0 : wn13.cell? ⟨gc, 0, none⟩ = some (.int .i64 2) := kgc.cell 0
  have gc_1 : wn13.cell? ⟨gc, 1, none⟩ = some (.int .u64 7) := kgc.cell 1
  have gc_2 : wn13.cell? ⟨gc, 2, none⟩ = some (.int .i64 3) := kgc.cell 2
  have gc_3 : wn13.cell? ⟨gc, 3, none⟩ = some (.int .i64 3) := kgc.cell 3
  have gc_4 : wn13.cell? ⟨gc, 4, none⟩ = some (.int .u64 2) := kgc.cell 4
  have gc_5 : wn13.cell? ⟨gc, 5, none⟩ = some (.int .u64 5) := kgc.cell 5
  have gc_6 : wn13.cell? ⟨gc, 6, none⟩ = some (.int .i64 1) := kgc.cell 6
  have gc_7 : wn13.cell? ⟨gc, 7, none⟩ = some (.int .u64 9) := kgc.cell 7
  have gc_8 : wn13.cell? ⟨gc, 8, none⟩ = some (.slice none 0 0) := kgc.cell 8
  have gc_9 : wn13.cell? ⟨gc, 9, none⟩ = some (.slice none 0 0) := kgc.cell 9
  have gc_10 : wn13.cell? ⟨gc, 10, none⟩ = some (.int .i64 0) := kgc.cell 10
  have gc_11 : wn13.cell? ⟨gc, 11, none⟩ = some (.int .u64 0) := kgc.cell 11
  have gc_12 : wn13.cell? ⟨gc, 12, none⟩ = some (.int .u64 0) := kgc.cell 12
  have gd_0 : wn13.cell? ⟨gd, 0, none⟩ = some (.int .i64 2) := kgd.cell 0
  have gd_1 : wn13.cell? ⟨gd, 1, none⟩ = some (.int .u64 7) := kgd.cell 1
  have gd_2 : wn13.cell? ⟨gd, 2, none⟩ = some (.int .i64 3) := kgd.cell 2
  have gd_3 : wn13.cell? ⟨gd, 3, none⟩ = some (.int .i64 3) := kgd.cell 3
  have gd_4 : wn13.cell? ⟨gd, 4, none⟩ = some (.int .u64 2) := kgd.cell 4
  have gd_5 : wn13.cell? ⟨gd, 5, none⟩ = some (.int .u64 5) := kgd.cell 5
  have gd_6 : wn13.cell? ⟨gd, 6, none⟩ = some (.int .i64 1) := kgd.cell 6
  have gd_7 : wn13.cell? ⟨gd, 7, none⟩ = some (.int .u64 9) := kgd.cell 7
  have gd_8 : wn13.cell? ⟨gd, 8, none⟩ = some (.slice fa' 0 fc') := kgd.cell 8
  have gd_9 : wn13.cell? ⟨gd, 9, none⟩ = some (.slice ea' 0 ec') := kgd.cell 9
  have gd_10 : wn13.cell? ⟨gd, 10, none⟩ = some (.int .i64 0) := kgd.cell 10
  have gd_11 : wn13.cell? ⟨gd, 11, none⟩ = some (.int .u64 0) := kgd.cell 11
  have gd_12 : wn13.cell? ⟨gd, 12, none⟩ = some (.int .u64 0) := kgd.cell 12
  have ge_0 : wn13.cell? ⟨ge, 0, none⟩ = some (.int .i64 0) := kge.cell 0
  have ge_1 : wn13.cell? ⟨ge, 1, none⟩ = some (.int .u64 0) := kge.cell 1
  have ge_2 : wn13.cell? ⟨ge, 2, none⟩ = some (.int .i64 0) := kge.cell 2
  have ge_3 : wn13.cell? ⟨ge, 3, none⟩ = some (.int .i64 0) := kge.cell 3
  have ge_4 : wn13.cell? ⟨ge, 4, none⟩ = some (.int .u64 0) := kge.cell 4
  have ge_5 : wn13.cell? ⟨ge, 5, none⟩ = some (.int .u64 0) := kge.cell 5
  have ge_6 : wn13.cell? ⟨ge, 6, none⟩ = some (.int .i64 0) := kge.cell 6
  have ge_7 : wn13.cell? ⟨ge, 7, none⟩ = some (.int .u64 0) := kge.cell 7
  have ge_8 : wn13.cell? ⟨ge, 8, none⟩ = some (.slice none 0 0) := kge.cell 8
  have ge_9 : wn13.cell? ⟨ge, 9, none⟩ = some (.slice none 0 0) := kge.cell 9
  have ge_10 : wn13.cell? ⟨ge, 10, none⟩ = some (.int .i64 0) := kge.cell 10
  have ge_11 : wn13.cell? ⟨ge, 11, none⟩ = some (.int .u64 0) := kge.cell 11
  have ge_12 : wn13.cell? ⟨ge, 12, none⟩ = some (.int .u64 0) := kge.cell 12
  go_wp2_with fail
  refine (checkZ wn13).mono ?_
  rintro e wn14 ⟨rfl, hBn⟩
  clear ga_0 ga_1 ga_2 ga_3 ga_4 ga_5 ga_6 ga_7 gb_0 gb_1 gb_2 gb_3 gb_4 gb_5 gb_6 gb_7 gc_0 gc_1 gc_2 gc_3 gc_4 gc_5 gc_6 gc_7 gc_8 gc_9 gc_10 gc_11 gc_12 gd_0 gd_1 gd_2 gd_3 gd_4 gd_5 gd_6 gd_7 gd_8 gd_9 gd_10 gd_11 gd_12 ge_0 ge_1 ge_2 ge_3 ge_4 ge_5 ge_6 ge_7 ge_8 ge_9 ge_10 ge_11 ge_12
  replace kga := kga.keep hBn
  replace kgb := kgb.keep hBn
  replace kgc := kgc.keep hBn
  replace kgd := kgd.keep hBn
  replace kge := kge.keep hBn
  replace ho := ho.keep hBn
  replace h1 := h1.keep hBn
  replace h2 := h2.keep hBn
  replace hp := hp.keep hBn
  replace h3 := h3.keep hBn
  replace h4 := h4.keep hBn
  replace hBB := PM.hid (PM.chain hBB.out hBn)
  clear hBn
  have ga_0 : wn14.cell? ⟨ga, 0, none⟩ = some (.int .i64 3) := kga.cell 0
  have ga_1 : wn14.cell? ⟨ga, 1, none⟩ = some (.int .i64 3) := kga.cell 1
  have ga_2 : wn14.cell? ⟨ga, 2, none⟩ = some (.int .u64 2) := kga.cell 2
  have ga_3 : wn14.cell? ⟨ga, 3, none⟩ = some (.int .u64 5) := kga.cell 3
  have ga_4 : wn14.cell? ⟨ga, 4, none⟩ = some (.int .i64 1) := kga.cell 4
  have ga_5 : wn14.cell? ⟨ga, 5, none⟩ = some (.int .u64 9) := kga.cell 5
  have ga_6 : wn14.cell? ⟨ga, 6, none⟩ = some (.slice none 0 0) := kga.cell 6
  have ga_7 : wn14.cell? ⟨ga, 7, none⟩ = some (.slice none 0 0) := kga.cell 7
  have gb_0 : wn14.cell? ⟨gb, 0, none⟩ = some (.int .i64 3) := kgb.cell 0
  have gb_1 : wn14.cell? ⟨gb, 1, none⟩ = some (.int .i64 3) := kgb.cell 1
  have gb_2 : wn14.cell? ⟨gb, 2, none⟩ = some (.int .u64 2) := kgb.cell 2
  have gb_3 : wn14.cell? ⟨gb, 3, none⟩ = some (.int .u64 5) := kgb.cell 3
  have gb_4 : wn14.cell? ⟨gb, 4, none⟩ = some (.int .i64 1) := kgb.cell 4
  have gb_5 : wn14.cell? ⟨gb, 5, none⟩ = some (.int .u64 9) := kgb.cell 5
  have gb_6 : wn14.cell? ⟨gb, 6, none⟩ = some (.slice fa 0 fc) := kgb.cell 6
  have gb_7 : wn14.cell? ⟨gb, 7, none⟩ = some (.slice ea 0 ec) := kgb.cell 7
  have gc_0 : wn14.cell? ⟨gc, 0, none⟩ = some (.int .i64 2) := kgc.cell 0
  have gc_1 : wn14.cell? ⟨gc, 1, none⟩ = some (.int .u64 7) := kgc.cell 1
  have gc_2 : wn14.cell? ⟨gc, 2, none⟩ = some (.int .i64 3) := kgc.cell 2
  have gc_3 : wn14.cell? ⟨gc, 3, none⟩ = some (.int .i64 3) := kgc.cell 3
  have gc_4 : wn14.cell? ⟨gc, 4, none⟩ = some (.int .u64 2) := kgc.cell 4
  have gc_5 : wn14.cell? ⟨gc, 5, none⟩ = some (.int .u64 5) := kgc.cell 5
  have gc_6 : wn14.cell? ⟨gc, 6, none⟩ = some (.int .i64 1) := kgc.cell 6
  have gc_7 : wn14.cell? ⟨gc, 7, none⟩ = some (.int .u64 9) := kgc.cell 7
  have gc_8 : wn14.cell? ⟨gc, 8, none⟩ = some (.slice none 0 0) := kgc.cell 8
  have gc_9 : wn14.cell? ⟨gc, 9, none⟩ = some (.slice none 0 0) := kgc.cell 9
  have gc_10 : wn14.cell? ⟨gc, 10, none⟩ = some (.int .i64 0) := kgc.cell 10
  have gc_11 : wn14.cell? ⟨gc, 11, none⟩ = some (.int .u64 0) := kgc.cell 11
  have gc_12 : wn14.cell? ⟨gc, 12, none⟩ = some (.int .u64 0) := kgc.cell 12
  have gd_0 : wn14.cell? ⟨gd, 0, none⟩ = some (.int .i64 2) := kgd.cell 0
  have gd_1 : wn14.cell? ⟨gd, 1, none⟩ = some (.int .u64 7) := kgd.cell 1
  have gd_2 : wn14.cell? ⟨gd, 2, none⟩ = some (.int .i64 3) := kgd.cell 2
  have gd_3 : wn14.cell? ⟨gd, 3, none⟩ = some (.int .i64 3) := kgd.cell 3
  have gd_4 : wn14.cell? ⟨gd, 4, none⟩ = some (.int .u64 2) := kgd.cell 4
  have gd_5 : wn14.cell? ⟨gd, 5, none⟩ = some (.int .u64 5) := kgd.cell 5
  have gd_6 : wn14.cell? ⟨gd, 6, none⟩ = some (.int .i64 1) := kgd.cell 6
  have gd_7 : wn14.cell? ⟨gd, 7, none⟩ = some (.int .u64 9) := kgd.cell 7
  have gd_8 : wn14.cell? ⟨gd, 8, none⟩ = some (.slice fa' 0 fc') := kgd.cell 8
  have gd_9 : wn14.cell? ⟨gd, 9, none⟩ = some (.slice ea' 0 ec') := kgd.cell 9
  have gd_10 : wn14.cell? ⟨gd, 10, none⟩ = some (.int .i64 0) := kgd.cell 10
  have gd_11 : wn14.cell? ⟨gd, 11, none⟩ = some (.int .u64 0) := kgd.cell 11
  have gd_12 : wn14.cell? ⟨gd, 12, none⟩ = some (.int .u64 0) := kgd.cell 12
  have ge_0 : wn14.cell? ⟨ge, 0, none⟩ = some (.int .i64 0) := kge.cell 0
  have ge_1 : wn14.cell? ⟨ge, 1, none⟩ = some (.int .u64 0) := kge.cell 1
  have ge_2 : wn14.cell? ⟨ge, 2, none⟩ = some (.int .i64 0) := kge.cell 2
  have ge_3 : wn14.cell? ⟨ge, 3, none⟩ = some (.int .i64 0) := kge.cell 3
  have ge_4 : wn14.cell? ⟨ge, 4, none⟩ = some (.int .u64 0) := kge.cell 4
  have ge_5 : wn14.cell? ⟨ge, 5, none⟩ = some (.int .u64 0) := kge.cell 5
  have ge_6 : wn14.cell? ⟨ge, 6, none⟩ = some (.int .i64 0) := kge.cell 6
  have ge_7 : wn14.cell? ⟨ge, 7, none⟩ = some (.int .u64 0) := kge.cell 7
  have ge_8 : wn14.cell? ⟨ge, 8, none⟩ = some (.slice none 0 0) := kge.cell 8
  have ge_9 : wn14.cell? ⟨ge, 9, none⟩ = some (.slice none 0 0) := kge.cell 9
  have ge_10 : wn14.cell? ⟨ge, 10, none⟩ = some (.int .i64 0) := kge.cell 10
  have ge_11 : wn14.cell? ⟨ge, 11, none⟩ = some (.int .u64 0) := kge.cell 11
  have ge_12 : wn14.cell? ⟨ge, 12, none⟩ = some (.int .u64 0) := kge.cell 12
  go_wp2_with fail
  refine (less0 wn14).mono ?_
  rintro e wn15 ⟨rfl, hBn⟩
  clear ga_0 ga_1 ga_2 ga_3 ga_4 ga_5 ga_6 ga_7 gb_0 gb_1 gb_2 gb_3 gb_4 gb_5 gb_6 gb_7 gc_0 gc_1 gc_2 gc_3 gc_4 gc_5 gc_6 gc_7 gc_8 gc_9 gc_10 gc_11 gc_12 gd_0 gd_1 gd_2 gd_3 gd_4 gd_5 gd_6 gd_7 gd_8 gd_9 gd_10 gd_11 gd_12 ge_0 ge_1 ge_2 ge_3 ge_4 ge_5 ge_6 ge_7 ge_8 ge_9 ge_10 ge_11 ge_12
  replace kga := kga.keep hBn
  replace kgb := kgb.keep hBn
  replace kgc := kgc.keep hBn
  replace kgd := kgd.keep hBn
  replace kge := kge.keep hBn
  replace ho := ho.keep hBn
  replace h1 := h1.keep hBn
  replace h2 := h2.keep hBn
  replace hp := hp.keep hBn
  replace h3 := h3.keep hBn
  replace h4 := h4.keep hBn
  replace hBB := PM.hid (PM.chain hBB.out hBn)
  clear hBn
  clear kga kgb kgc kgd kge ho h1 h2 hp h3 h4
  go_wp2_with fail
  go_ret
  exact ⟨by first | rfl | simp, hBB.out⟩
set_option maxRecDepth 100000 in
set_option maxHeartbeats 4000000 in
theorem few11_any (x : PM.En) (fv ev : Value) (w : World) (hf : PM.TV w fv x.fil) (he : PM.EVL w ev x.evs) :
    Calls Try.prog 10 #[.agg (PM.enC x fv ev).toArray] w fun e w' => (∃ b, e = .returned (.bool b)) ∧ Below w.heap.size w w' := by
  obtain ⟨ea, ec, hee⟩ := he.len
  subst hee
  obtain ⟨fa, fc, hfe⟩ := hf.len
  subst hfe
  have hbe := he.bound
  unfold maxLen at hbe
  obtain ⟨kd, ⟨ib, il, is⟩, cl, sub, fil, evs⟩ := x
  unfold PM.enC
  simp only at hf he hbe ⊢
  obtain ⟨L, hL⟩ : ∃ F, F = evs.length := ⟨_, rfl⟩
  obtain ⟨F, hF⟩ : ∃ F, F = fil.length := ⟨_, rfl⟩
  rw [← hL] at he hbe ⊢
  rw [← hF] at hf ⊢
  have hLh := PM.hid hL
  clear hL hF
  obtain ⟨g, hg⟩ : ∃ g, g = w.heap.size := ⟨_, rfl⟩
  obtain ⟨w1, hw1⟩ : ∃ W, W = w.alloc (.cells #[.int .i64 kd, .int .i64 ib, .int .u64 (il : Int), .int .u64 (is : Int), .int .i64 cl, .int .u64 (sub : Int), .slice fa F fc, .slice ea L ec] 30) := ⟨_, rfl⟩
  have hal : Below w.heap.size w w1 := by rw [hw1]; exact (Below.refl _ _).alloc (Nat.le_refl _) _
  have kg : PM.BK w1 g #[.int .i64 kd, .int .i64 ib, .int .u64 (il : Int), .int .u64 (is : Int), .int .i64 cl, .int .u64 (sub : Int), .slice fa F fc, .slice ea L ec] 30 := by rw [hw1, hg]; exact PM.BK.new _ _ _
  replace hf := PM.hid (hf.keep hal)
  replace he := PM.hid (he.keep hal)
  have hB := PM.hid hal
  clear hal
  have c6 : w1.cell? ⟨g, 6, none⟩ = some (.slice fa F fc) := kg.cell 6
  have c7 : w1.cell? ⟨g, 7, none⟩ = some (.slice ea L ec) := kg.cell 7
  by_cases hbig : 10 < L
  · have hb : (10 : Int) < (L : Int) := by omega
    go_enter Try.func10, Try.ntmps10
    go_upto_region 1 with fail
    rw [← hw1, ← hg]
    clear hw1 hg kg
    go_wp2_with fail
    go_ret
    exact ⟨⟨_, rfl⟩, hB.out⟩
  have hb : ¬ (10 : Int) < (L : Int) := by omega
  go_enter Try.func10, Try.ntmps10
  go_upto_region 1 with fail
  rw [← hw1, ← hg]
  clear hw1 hg kg
  go_wp2_with fail
  go_loopw [3] (fun i wr => ∃ k : Nat, i = .int .i64 k ∧ k ≤ L ∧ wr = w1) (fun i _ => L - (intOf i).toNat)
  case atStart => exact ⟨0, rfl, by omega, by first | rfl | trivial⟩
  case round =>
    obtain ⟨k, rfl, hk, rfl⟩ := hrel
    by_cases hlt : k < L
    · obtain ⟨x, hx⟩ : ∃ x, evs[k]? = some x := ⟨evs[k]'(by rw [← hLh.out]; exact hlt), List.getElem?_eq_getElem _⟩
      obtain ⟨b, off, rfl, hce⟩ := PM.RR.opn he.out (by rw [← hLh.out]; omega)
      obtain ⟨cs, hl0, xv, hcs, hxv⟩ := hce k x hx
      have c0 := hl0 0 xv (by rw [hcs]; rfl)
      rw [Nat.mul_one, Nat.add_zero] at c0
      have hfw := few_any xv x wr hxv
      clear hx hce hl0 hcs hxv cs
      go_wp2_with fail
      refine hfw.mono ?_
      clear hfw c0
      rintro e W5 ⟨hF, rfl⟩
      rcases hF with ⟨rfl, hF⟩ | ⟨rfl, hF⟩
      · clear hF
        go_wp2_with fail
        exact ⟨⟨k + 1, by go_num, by omega, by first | rfl | trivial⟩, by simp only [intOf]; omega⟩
      · clear hF
        go_wp2_with fail
        go_ret
        exact ⟨⟨_, rfl⟩, hB.out⟩
    · obtain rfl : k = L := by omega
      go_wp2_with fail
      refine (ffew_any _ fil wr hf.out).mono ?_
      rintro e W5 ⟨hF, rfl⟩
      rcases hF with ⟨rfl, hF⟩ | ⟨rfl, hF⟩
      all_goals
        clear hF
        go_wp2_with fail
        go_ret
        exact ⟨⟨_, rfl⟩, hB.out⟩
end Go.Proofs.Ytklgibkdbdhaiaa

/-
  THE WALKS OF LAYER 11's STATEMENTS: names, less.
-/
namespace Go.Proofs.Ytklgibkdbdhaiaa
open Go.RowKit
set_option linter.unusedVariables false
set_option linter.unusedSimpArgs false
theorem entryNames_walk (w : World) : Calls Try.prog 3 #[] w fun e w' => e = .returned (.bool true) ∧ Below w.heap.size w w' := by
  go_enter Try.func3, Try.ntmps3
  go_wp2_with fail
  refine (awake11_any w).mono ?_
  rintro e w1 ⟨rfl, hB⟩
  replace hB := PM.hid hB
  go_wp2_with fail
  go_ret
  exact ⟨rfl, hB.out⟩
set_option maxRecDepth 100000 in
set_option maxHeartbeats 400000 in
theorem idne_run (a b : PM.Id) : ∀ w : World, Sem.run Try.prog (binOp .neq 25 (.agg #[.int .i64 a.br, .int .u64 (a.life : Int), .int .u64 (a.ser : Int)]) (.agg #[.int .i64 b.br, .int .u64 (b.life : Int), .int .u64 (b.ser : Int)])) w = .ok (.bool (decide (a ≠ b))) w := by
  intro w
  rw [run_neq_struct, show (10000 : Nat) = 9999 + 1 from rfl, run_equalIn_agg w 9999 25 _ _ (by kernel_rfl) (by kernel_rfl)]
  simp only [Program.fieldsOf, Try.underlying25]
  go_simp
  obtain ⟨a1, a2, a3⟩ := a
  obtain ⟨b1, b2, b3⟩ := b
  simp only [ne_eq, PM.Id.mk.injEq]
  by_cases e1 : a1 = b1 <;> by_cases e2 : a2 = b2 <;> by_cases e3 : a3 = b3 <;> simp [e1, e2, e3] <;> omega
set_option maxRecDepth 100000 in
set_option maxHeartbeats 4000000 in
theorem entryLess_walk (a1 : Int) (a2 a3 : Int) (b1 b2 b3 c1 c2 c3 : Int) (ha1 : (Lit.int .i64 a1).wf = true) (ha2 : (Lit.int .u64 a2).wf = true) (ha3 : (Lit.int .u64 a3).wf = true) (hb1 : (Lit.int .i64 b1).wf = true) (hb2 : (Lit.int .u64 b2).wf = true) (hb3 : (Lit.int .u64 b3).wf = true) (hc1 : (Lit.int .i64 c1).wf = true) (hc2 : (Lit.int .u64 c2).wf = true) (hc3 : (Lit.int .u64 c3).wf = true) (w : World) :
    Calls Try.prog 6 #[.agg #[.int .i64 a1, .int .u64 a2, .int .u64 a3], .agg #[.int .i64 b1, .int .u64 b2, .int .u64 b3], .agg #[.int .i64 c1, .int .u64 c2, .int .u64 c3]] w fun e w' => e = .returned (.bool true) ∧ Below w.heap.size w w' := by
  have nat : ∀ x : Int, (Lit.int .u64 x).wf = true → ∃ n : Nat, x = (n : Int) ∧ n < 2 ^ 64 := fun x h => by
    have := Go.bounds_u64 h
    exact ⟨x.toNat, by omega, by omega⟩
  obtain ⟨a2, rfl, na2⟩ := nat _ ha2
  obtain ⟨a3, rfl, na3⟩ := nat _ ha3
  obtain ⟨b2, rfl, nb2⟩ := nat _ hb2
  obtain ⟨b3, rfl, nb3⟩ := nat _ hb3
  obtain ⟨c2, rfl, nc2⟩ := nat _ hc2
  obtain ⟨c3, rfl, nc3⟩ := nat _ hc3
  clear nat
  have lab := less_any ⟨a1, a2, a3⟩ ⟨b1, b2, b3⟩ ⟨ha1, na2, na3⟩ ⟨hb1, nb2, nb3⟩
  have lba := less_any ⟨b1, b2, b3⟩ ⟨a1, a2, a3⟩ ⟨hb1, nb2, nb3⟩ ⟨ha1, na2, na3⟩
  have lbc := less_any ⟨b1, b2, b3⟩ ⟨c1, c2, c3⟩ ⟨hb1, nb2, nb3⟩ ⟨hc1, nc2, nc3⟩
  have lac := less_any ⟨a1, a2, a3⟩ ⟨c1, c2, c3⟩ ⟨ha1, na2, na3⟩ ⟨hc1, nc2, nc3⟩
  have hne := idne_run ⟨a1, a2, a3⟩ ⟨b1, b2, b3⟩
  have p1 : ¬ (PM.idLt ⟨a1, a2, a3⟩ ⟨b1, b2, b3⟩ = true ∧ PM.idLt ⟨b1, b2, b3⟩ ⟨a1, a2, a3⟩ = true) := fun h => PM.idLt_not h.1 h.2
  have p2 := @PM.idLt_tot ⟨a1, a2, a3⟩ ⟨b1, b2, b3⟩
  have p3 := fun h1 h2 => @PM.idLt_trans ⟨a1, a2, a3⟩ ⟨b1, b2, b3⟩ ⟨c1, c2, c3⟩ h1 h2
  rw [← p2] at hne
  clear p2
  unfold PM.idL at lab lba lbc lac
  simp only at lab lba lbc lac hne
  generalize PM.idLt ⟨a1, a2, a3⟩ ⟨b1, b2, b3⟩ = AB at *
  generalize PM.idLt ⟨b1, b2, b3⟩ ⟨a1, a2, a3⟩ = BA at *
  generalize PM.idLt ⟨b1, b2, b3⟩ ⟨c1, c2, c3⟩ = BC at *
  generalize PM.idLt ⟨a1, a2, a3⟩ ⟨c1, c2, c3⟩ = AC at *
  have hP := PM.hid (And.intro p1 p3)
  clear p1 p3
  obtain ⟨ga, hga⟩ : ∃ g, g = w.heap.size := ⟨_, rfl⟩
  obtain ⟨wb0, hwb0⟩ : ∃ W, W = w.alloc (.cells #[.int .i64 a1, .int .u64 (a2 : Int), .int .u64 (a3 : Int)] 25) := ⟨_, rfl⟩
  have swb0 : wb0.heap.size = w.heap.size + 1 := by rw [hwb0]; simp
  have kga : PM.BK wb0 ga #[.int .i64 a1, .int .u64 (a2 : Int), .int .u64 (a3 : Int)] 25 := by rw [hwb0, hga]; exact PM.BK.new _ _ _
  have aga : Below w.heap.size w wb0 := by rw [hwb0]; exact (Below.refl _ _).alloc (Nat.le_refl _) _
  obtain ⟨gb, hgb⟩ : ∃ g, g = w.heap.size + 1 := ⟨_, rfl⟩
  obtain ⟨wb1, hwb1⟩ : ∃ W, W = wb0.alloc (.cells #[.int .i64 b1, .int .u64 (b2 : Int), .int .u64 (b3 : Int)] 25) := ⟨_, rfl⟩
  have swb1 : wb1.heap.size = w.heap.size + 2 := by rw [hwb1]; simp; rw [swb0]
  have kgb : PM.BK wb1 gb #[.int .i64 b1, .int .u64 (b2 : Int), .int .u64 (b3 : Int)] 25 := by rw [hwb1, hgb, ← swb0]; exact PM.BK.new _ _ _
  have agb : Below wb0.heap.size wb0 wb1 := by rw [hwb1]; exact (Below.refl _ _).alloc (Nat.le_refl _) _
  replace kga := kga.keep agb
  obtain ⟨gc, hgc⟩ : ∃ g, g = w.heap.size + 2 := ⟨_, rfl⟩
  obtain ⟨wb2, hwb2⟩ : ∃ W, W = wb1.alloc (.cells #[.int .i64 c1, .int .u64 (c2 : Int), .int .u64 (c3 : Int)] 25) := ⟨_, rfl⟩
  have swb2 : wb2.heap.size = w.heap.size + 3 := by rw [hwb2]; simp; rw [swb1]
  have kgc : PM.BK wb2 gc #[.int .i64 c1, .int .u64 (c2 : Int), .int .u64 (c3 : Int)] 25 := by rw [hwb2, hgc, ← swb1]; exact PM.BK.new _ _ _
  have agc : Below wb1.heap.size wb1 wb2 := by rw [hwb2]; exact (Below.refl _ _).alloc (Nat.le_refl _) _
  replace kga := kga.keep agc
  replace kgb := kgb.keep agc
  have hBB := PM.hid (PM.chain (PM.chain aga agb) agc)
  clear swb0 aga swb1 agb swb2 agc
  go_enter Try.func6, Try.ntmps6
  go_upto_region 1 with fail
  rw [← hwb0, ← hwb1, ← hwb2, ← hgc, ← hgb, ← hga]
  clear hwb0 hwb1 hwb2 hga hgb hgc
  have a_0 : wb2.cell? ⟨ga, 0, none⟩ = some (.int .i64 a1) := kga.cell 0
  have a_1 : wb2.cell? ⟨ga, 1, none⟩ = some (.int .u64 (a2 : Int)) := kga.cell 1
  have a_2 : wb2.cell? ⟨ga, 2, none⟩ = some (.int .u64 (a3 : Int)) := kga.cell 2
  have b_0 : wb2.cell? ⟨gb, 0, none⟩ = some (.int .i64 b1) := kgb.cell 0
  have b_1 : wb2.cell? ⟨gb, 1, none⟩ = some (.int .u64 (b2 : Int)) := kgb.cell 1
  have b_2 : wb2.cell? ⟨gb, 2, none⟩ = some (.int .u64 (b3 : Int)) := kgb.cell 2
  have c_0 : wb2.cell? ⟨gc, 0, none⟩ = some (.int .i64 c1) := kgc.cell 0
  have c_1 : wb2.cell? ⟨gc, 1, none⟩ = some (.int .u64 (c2 : Int)) := kgc.cell 1
  have c_2 : wb2.cell? ⟨gc, 2, none⟩ = some (.int .u64 (c3 : Int)) := kgc.cell 2
  go_wp2_with fail
  refine (awake11_any wb2).mono ?_
  rintro e w1 ⟨rfl, hB1⟩
  clear a_0 a_1 a_2 b_0 b_1 b_2 c_0 c_1 c_2
  replace kga := kga.keep hB1
  replace kgb := kgb.keep hB1
  replace kgc := kgc.keep hB1
  replace hBB := PM.hid (PM.chain hBB.out hB1)
  clear hB1
  have a_0 : w1.cell? ⟨ga, 0, none⟩ = some (.int .i64 a1) := kga.cell 0
  have a_1 : w1.cell? ⟨ga, 1, none⟩ = some (.int .u64 (a2 : Int)) := kga.cell 1
  have a_2 : w1.cell? ⟨ga, 2, none⟩ = some (.int .u64 (a3 : Int)) := kga.cell 2
  have b_0 : w1.cell? ⟨gb, 0, none⟩ = some (.int .i64 b1) := kgb.cell 0
  have b_1 : w1.cell? ⟨gb, 1, none⟩ = some (.int .u64 (b2 : Int)) := kgb.cell 1
  have b_2 : w1.cell? ⟨gb, 2, none⟩ = some (.int .u64 (b3 : Int)) := kgb.cell 2
  have c_0 : w1.cell? ⟨gc, 0, none⟩ = some (.int .i64 c1) := kgc.cell 0
  have c_1 : w1.cell? ⟨gc, 1, none⟩ = some (.int .u64 (c2 : Int)) := kgc.cell 1
  have c_2 : w1.cell? ⟨gc, 2, none⟩ = some (.int .u64 (c3 : Int)) := kgc.cell 2
  go_wp2_with fail
  refine (lab w1).mono ?_
  rintro e w2 ⟨rfl, hB2⟩
  clear a_0 a_1 a_2 b_0 b_1 b_2 c_0 c_1 c_2
  replace kga := kga.keep hB2
  replace kgb := kgb.keep hB2
  replace kgc := kgc.keep hB2
  replace hBB := PM.hid (PM.chain hBB.out hB2)
  clear hB2
  have a_0 : w2.cell? ⟨ga, 0, none⟩ = some (.int .i64 a1) := kga.cell 0
  have a_1 : w2.cell? ⟨ga, 1, none⟩ = some (.int .u64 (a2 : Int)) := kga.cell 1
  have a_2 : w2.cell? ⟨ga, 2, none⟩ = some (.int .u64 (a3 : Int)) := kga.cell 2
  have b_0 : w2.cell? ⟨gb, 0, none⟩ = some (.int .i64 b1) := kgb.cell 0
  have b_1 : w2.cell? ⟨gb, 1, none⟩ = some (.int .u64 (b2 : Int)) := kgb.cell 1
  have b_2 : w2.cell? ⟨gb, 2, none⟩ = some (.int .u64 (b3 : Int)) := kgb.cell 2
  have c_0 : w2.cell? ⟨gc, 0, none⟩ = some (.int .i64 c1) := kgc.cell 0
  have c_1 : w2.cell? ⟨gc, 1, none⟩ = some (.int .u64 (c2 : Int)) := kgc.cell 1
  have c_2 : w2.cell? ⟨gc, 2, none⟩ = some (.int .u64 (c3 : Int)) := kgc.cell 2
  go_wp2_with fail
  refine (lba w2).mono ?_
  rintro e w3 ⟨rfl, hB3⟩
  clear a_0 a_1 a_2 b_0 b_1 b_2 c_0 c_1 c_2
  replace kga := kga.keep hB3
  replace kgb := kgb.keep hB3
  replace kgc := kgc.keep hB3
  replace hBB := PM.hid (PM.chain hBB.out hB3)
  clear hB3
  have a_0 : w3.cell? ⟨ga, 0, none⟩ = some (.int .i64 a1) := kga.cell 0
  have a_1 : w3.cell? ⟨ga, 1, none⟩ = some (.int .u64 (a2 : Int)) := kga.cell 1
  have a_2 : w3.cell? ⟨ga, 2, none⟩ = some (.int .u64 (a3 : Int)) := kga.cell 2
  have b_0 : w3.cell? ⟨gb, 0, none⟩ = some (.int .i64 b1) := kgb.cell 0
  have b_1 : w3.cell? ⟨gb, 1, none⟩ = some (.int .u64 (b2 : Int)) := kgb.cell 1
  have b_2 : w3.cell? ⟨gb, 2, none⟩ = some (.int .u64 (b3 : Int)) := kgb.cell 2
  have c_0 : w3.cell? ⟨gc, 0, none⟩ = some (.int .i64 c1) := kgc.cell 0
  have c_1 : w3.cell? ⟨gc, 1, none⟩ = some (.int .u64 (c2 : Int)) := kgc.cell 1
  have c_2 : w3.cell? ⟨gc, 2, none⟩ = some (.int .u64 (c3 : Int)) := kgc.cell 2
  cases AB
  · cases BA
    all_goals
      go_wp2_with fail
      go_ret
      exact ⟨rfl, hBB.out⟩
  · cases BA
    case true => exact absurd ⟨by trivial, by trivial⟩ hP.out.1
    go_wp2_with fail
    refine (lbc w3).mono ?_
    rintro e w4 ⟨rfl, hB4⟩
    clear a_0 a_1 a_2 b_0 b_1 b_2 c_0 c_1 c_2
    replace kga := kga.keep hB4
    replace kgb := kgb.keep hB4
    replace kgc := kgc.keep hB4
    replace hBB := PM.hid (PM.chain hBB.out hB4)
    clear hB4
    have a_0 : w4.cell? ⟨ga, 0, none⟩ = some (.int .i64 a1) := kga.cell 0
    have a_1 : w4.cell? ⟨ga, 1, none⟩ = some (.int .u64 (a2 : Int)) := kga.cell 1
    have a_2 : w4.cell? ⟨ga, 2, none⟩ = some (.int .u64 (a3 : Int)) := kga.cell 2
    have b_0 : w4.cell? ⟨gb, 0, none⟩ = some (.int .i64 b1) := kgb.cell 0
    have b_1 : w4.cell? ⟨gb, 1, none⟩ = some (.int .u64 (b2 : Int)) := kgb.cell 1
    have b_2 : w4.cell? ⟨gb, 2, none⟩ = some (.int .u64 (b3 : Int)) := kgb.cell 2
    have c_0 : w4.cell? ⟨gc, 0, none⟩ = some (.int .i64 c1) := kgc.cell 0
    have c_1 : w4.cell? ⟨gc, 1, none⟩ = some (.int .u64 (c2 : Int)) := kgc.cell 1
    have c_2 : w4.cell? ⟨gc, 2, none⟩ = some (.int .u64 (c3 : Int)) := kgc.cell 2
    cases BC
    · go_wp2_with fail
      go_ret
      exact ⟨rfl, hBB.out⟩
    · have hac := hP.out.2 (by trivial) (by trivial)
      subst hac
      go_wp2_with fail
      refine (lac w4).mono ?_
      rintro e w5 ⟨rfl, hB5⟩
      replace hBB := PM.hid (PM.chain hBB.out hB5)
      clear hB5
      go_wp2_with fail
      go_ret
      exact ⟨rfl, hBB.out⟩
end Go.Proofs.Ytklgibkdbdhaiaa
