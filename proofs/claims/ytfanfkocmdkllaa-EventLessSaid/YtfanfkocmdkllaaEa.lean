/-
  THE CALL AT THE HEAD OF ALL STATEMENTS OF LAYER 4.
-/
import Derived.Test.YtfanfkocmdkllaaEk
import Derived.Test.YtfanfkocmdkllaaEl
import Derived.Test.YtfanfkocmdkllaaEi
import Derived.Test.YtfanfkocmdkllaaEg
namespace Go.Proofs.Ytfanfkocmdkllaa
open Go.RowKit
set_option linter.unusedVariables false
namespace PM
def x5 : At := ⟨⟨#[112]⟩, 1, 5, ⟨#[]⟩⟩
theorem x5_ok : chkP [x5] := by
  refine ⟨by decide, by decide, fun i hi x hx => ?_⟩
  simp at hi
  subst hi
  simp at hx
  subst hx
  exact ⟨by decide, fun y h => absurd h (by decide)⟩
theorem x5_enc : encB [x5] = [1, 1, 1, 1, 112, 1, 1, 1, 10, 0] := by decide
theorem x5_wf : ∀ x ∈ [x5], x.wf := by
  intro x hx
  simp at hx
  subst hx
  exact ⟨by decide, by decide, by decide, by decide⟩
theorem x5_dec : decE [1, 1, 1, 1, 112, 1, 1, 1, 10, 0] = some [x5] := by
  have s1 : stepN [1, 1, 1, 1, 112, 1, 1, 1, 10, 0] false = (1, [1, 1, 112, 1, 1, 1, 10, 0], false) := by decide
  have s2 : stepB [1, 1, 112, 1, 1, 1, 10, 0] false 16 = ([112], [1, 1, 1, 10, 0], false) := by decide
  have s3 : stepV [1, 1, 1, 10, 0] false = ((1, 5, []), [], false) := by decide
  have s4 : stepsE 1 [1, 1, 112, 1, 1, 1, 10, 0] false = ([x5], [], false) := by
    simp only [stepsE, s2, s3]
    rfl
  unfold decE
  rw [s1]
  rw [decF_yes (by decide) (by rw [s4]) (by rw [s4]) (by rw [s4]; exact x5_ok), s4]
theorem nil_dec : decE [] = none := by
  unfold decE
  rw [show stepN [] false = (0, [], true) from by decide]
  exact decF_no (by decide) (by simp [stepsE])
theorem x5_found {k n : Int} {s : ByteArray} {f : Bool} (h : FoundV ⟨#[112]⟩ [x5] k n s f) : k = 1 ∧ n = 5 ∧ s = ⟨#[]⟩ ∧ f = true := by
  rcases h with ⟨_, _, _, _, h⟩ | ⟨j, z, hf, hk, hn, hs, hz, _⟩
  · exfalso
    rcases h with ⟨_, h⟩ | ⟨k, z, h, _⟩
    · have := h 0 x5 rfl
      rw [ByteArray.toList_eq, ByteArray.toList_eq] at this
      revert this; decide
    · omega
  · match j, hz with
    | 0, hz => simp at hz; subst hz; exact ⟨hk, hn, hs, hf⟩
    | j + 1, hz => simp at hz
theorem x5_not {k n : Int} {s : ByteArray} {f : Bool} (h : FoundV ⟨#[113]⟩ [x5] k n s f) : k = 0 ∧ n = 0 ∧ s = ⟨#[]⟩ ∧ f = false := by
  rcases h with ⟨hf, hk, hn, hs, _⟩ | ⟨j, z, hf, hk, hn, hs, hz, h⟩
  · exact ⟨hk, hn, hs, hf⟩
  · exfalso
    rcases h with ⟨h, _⟩ | ⟨k', z', h, h1, h2, _⟩
    · omega
    · match k', h1 with
      | 0, h1 => simp at h1; subst h1; rw [ByteArray.toList_eq, ByteArray.toList_eq] at h2; revert h2; decide
      | j + 1, h1 => simp at h1
end PM
set_option maxHeartbeats 4000000 in
set_option maxRecDepth 100000 in
theorem awake4 (w : World) :
    Calls Try.prog 10 #[] w fun e w' => e = .returned (.bool true) ∧ Below w.heap.size w w' := by
  go_enter Try.func10, Try.ntmps10
  go_wp2_with fail
  refine (int_any _ _).mono ?_
  rintro e w1 ⟨rfl, hB1⟩
  go_wp2_with fail
  obtain ⟨gx, hgx⟩ : ∃ g, g = w1.heap.size := ⟨_, rfl⟩
  obtain ⟨w2, hw2⟩ : ∃ W, W = w1.alloc (.cells #[.string ⟨#[112]⟩, .int .i64 1, .int .i64 5, .string ⟨#[]⟩] 43) := ⟨_, rfl⟩
  have hX : PM.EV w2 (.slice (some ⟨gx, 0, none⟩) 1 1) [PM.x5] := by rw [hw2, hgx]; exact (PM.EM.lit PM.attL_len w1 43 PM.x5).ev
  have hB2 : Below w.heap.size w w2 := by rw [hw2]; exact PM.chain hB1 ((Below.refl _ _).alloc (Nat.le_refl _) _)
  rw [← hw2, ← hgx]
  clear hw2 hgx hB1
  refine (encode_any _ _ w2 hX PM.x5_wf).mono ?_
  rintro e w3 ⟨o3, rfl, ho3, _, hB3⟩
  have ho3' := ho3 PM.x5_ok
  clear ho3
  rw [PM.chk_yes PM.x5_ok]
  rw [PM.x5_enc] at ho3'
  have hs2 := ho3'.bs
  have hX3 := hX.keep hB3
  have hB3' := PM.chain hB2 hB3
  clear ho3' hX hB2 hB3
  go_wp2_with fail
  refine (decode_any _ _ w3 hs2 (by decide)).mono ?_
  rintro e w4 ⟨o4, rfl, ho4, _, hB4⟩
  have hY := (PM.OM.em PM.attL_len (ho4 _ PM.x5_dec)).ev
  rw [show PM.decN [1, 1, 1, 1, 112, 1, 1, 1, 10, 0] = 0 from by unfold PM.decN; rw [PM.x5_dec]; rfl]
  have hX4 := hX3.keep hB4
  have hs4 := hs2.keep hB4
  have hB4' := PM.chain hB3' hB4
  clear ho4 hX3 hs2 hB3' hB4
  go_wp2_with fail
  refine (efind_any _ ⟨#[112]⟩ _ w4 hX4).mono ?_
  rintro e w5 ⟨k5, n5, s5, f5, rfl, hF5, hB5⟩
  obtain ⟨rfl, rfl, rfl, rfl⟩ := PM.x5_found hF5
  have hX5 := hX4.keep hB5
  have hY5 := hY.keep hB5
  have hs5 := hs4.keep hB5
  have hB5' := PM.chain hB4' hB5
  clear hF5 hX4 hY hs4 hB4' hB5
  go_wp2_with fail
  obtain ⟨g6, hg6⟩ : ∃ g, g = w5.heap.size := ⟨_, rfl⟩
  obtain ⟨w6, hw6⟩ : ∃ W, W = w5.alloc (.cells #[.int .i64 1, .int .i64 5, .string ⟨#[]⟩] 31) := ⟨_, rfl⟩
  have hal : Below w5.heap.size w5 w6 := by rw [hw6]; exact (Below.refl _ _).alloc (Nat.le_refl _) _
  have hv6 : PM.BK w6 g6 #[.int .i64 1, .int .i64 5, .string ⟨#[]⟩] 31 := by rw [hw6, hg6]; exact PM.BK.new _ _ _
  have hX6 := hX5.keep hal
  have hY6 := hY5.keep hal
  have hs6 := hs5.keep hal
  have hB6' := PM.chain hB5' hal
  rw [← hw6, ← hg6]
  clear hw6 hg6 hX5 hY5 hs5 hB5' hal
  refine (efind_any _ ⟨#[113]⟩ _ w6 hX6).mono ?_
  rintro e w7 ⟨k7, n7, s7, f7, rfl, hF7, hB7⟩
  obtain ⟨rfl, rfl, rfl, rfl⟩ := PM.x5_not hF7
  have hX7 := hX6.keep hB7
  have hY7 := hY6.keep hB7
  have hs7 := hs6.keep hB7
  have hv7 := hv6.keep hB7
  have hB7' := PM.chain hB6' hB7
  clear hF7 hX6 hY6 hs6 hB6' hB7 hv6
  go_wp2_with fail
  obtain ⟨w8, hw8⟩ : ∃ W, W = w7.alloc (.cells #[.int .i64 0, .int .i64 0, .string ⟨#[]⟩] 31) := ⟨_, rfl⟩
  have hal : Below w7.heap.size w7 w8 := by rw [hw8]; exact (Below.refl _ _).alloc (Nat.le_refl _) _
  have hX8 := hX7.keep hal
  have hY8 := hY7.keep hal
  have hs8 := hs7.keep hal
  have hv8 := hv7.keep hal
  have hB8' := PM.chain hB7' hal
  rw [← hw8]
  clear hw8 hX7 hY7 hs7 hB7' hal hv7
  refine (decode_any _ [] w8 (PM.BS.nil _) (by decide)).mono ?_
  rintro e w9 ⟨o9, rfl, _, _, hB9⟩
  rw [show PM.decN [] = 40 from by unfold PM.decN; rw [PM.nil_dec]; rfl]
  have hX9 := hX8.keep hB9
  have hY9 := hY8.keep hB9
  have hs9 := hs8.keep hB9
  have hv9 := hv8.keep hB9
  have hB9' := PM.chain hB8' hB9
  clear hX8 hY8 hs8 hB8' hB9 hv8
  go_wp2_with fail
  refine (esame_any _ _ _ _ w9 hX9 hY9).mono ?_
  rintro e w10 ⟨hsm, hB10⟩
  have hsm' : e = .returned (.bool true) := by
    rcases hsm with ⟨h, _⟩ | ⟨_, h⟩
    · exact h
    · exact absurd rfl h
  subst hsm'
  have hX := hX9.keep hB10
  have hs2 := hs9.keep hB10
  have hv := hv9.keep hB10
  have hBf := PM.chain hB9' hB10
  clear hsm hX9 hY9 hs9 hv9 hB9' hB10
  have q0 := hv.cell 0
  have q1 := hv.cell 1
  have q2 := hv.cell 2
  replace q0 : w10.cell? ⟨g6, 0, none⟩ = some (.int .i64 1) := q0
  replace q1 : w10.cell? ⟨g6, 1, none⟩ = some (.int .i64 5) := q1
  replace q2 : w10.cell? ⟨g6, 2, none⟩ = some (.string ⟨#[]⟩) := q2
  clear hv
  go_wp2_with fail
  refine PM.wp_region_st [some 43, some 44, some 45, some 46, some 47, some 48, some 49, some 50, some 51, some 52, some 53, some 54, some 55, some 56, some 57, some 58, some 59, some 60, some 61, some 62, some 63, some 64, some 65, some 66, some 67, some 68, some 69, some 70, some 71, some 72, some 73, some 74, some 75, some 76, some 77, some 78, some 79, some 80, some 81, some 82, some 83, some 84, some 85, some 86, some 0] [fun x w' => PM.BS w' x [1, 1, 1, 1, 112, 1, 1, 1, 10, 0], fun x _ => x = .string ⟨#[1, 1, 1, 1, 112, 1, 1, 1, 10, 0]⟩, fun x w' => PM.BS w' x [1, 1, 1, 1, 112, 1, 1, 1, 10, 0], fun x _ => x = .string ⟨#[1, 1, 1, 1, 112, 1, 1, 1, 10, 0]⟩, fun x _ => x = .bool true, fun x _ => x = .bool true, fun x _ => x = .int .i64 0, fun x _ => x = .bool true, fun x _ => x = .bool true, fun x _ => x = .bool true, fun x _ => x = .bool true, fun x _ => x = .bool true, fun x _ => x = .bool true, fun x _ => x = .int .i64 0, fun x _ => x = .bool true, fun x _ => x = .bool true, fun x _ => x = .bool true, fun x _ => x = .agg #[.int .i64 1, .int .i64 5, .string ⟨#[]⟩], fun x _ => x = .agg #[.int .i64 1, .int .i64 5, .string ⟨#[]⟩], fun x _ => x = .bool true, fun x _ => x = .bool true, fun x _ => x = .bool true, fun x _ => x = .bool true, fun x _ => x = .bool true, fun x _ => x = .bool true, fun x _ => x = .bool false, fun x _ => x = .bool true, fun x _ => x = .bool true, fun x _ => x = .bool true, fun x _ => x = .int .i64 40, fun x _ => x = .bool true, fun x _ => x = .bool true, fun x _ => x = .bool true, fun x _ => x = .slice (some ⟨gx, 0, none⟩) 1 1, fun x _ => x = .int .i64 0, fun x _ => x = .bool true, fun x _ => x = .bool true, fun x _ => x = .bool true, fun x _ => x = .bool true, fun x _ => x = .bool true, fun x _ => x = .bool true, fun x _ => x = .bool false, fun x _ => x = .bool true, fun x _ => x = .bool true, fun x _ => x = .bool true] (by kernel_rfl) (by kernel_rfl) (by kernel_rfl) ?_ ?_ ?_
  · simp only [List.forall_mem_cons]
    refine ⟨?_, ?_, ?_, ?_, ?_, ?_, ?_, ?_, ?_, ?_, ?_, ?_, ?_, ?_, ?_, ?_, ?_, ?_, ?_, ?_, ?_, ?_, ?_, ?_, ?_, ?_, ?_, ?_, ?_, ?_, ?_, ?_, ?_, ?_, ?_, ?_, ?_, ?_, ?_, ?_, ?_, ?_, ?_, ?_, ?_, by simp⟩
    all_goals (intro x W W' h hb; first | exact h | exact PM.BS.keep hb h | exact PM.OW.keep hb h)
  · refine ⟨?_, ?_, ?_, ?_, ?_, ?_, ?_, ?_, ?_, ?_, ?_, ?_, ?_, ?_, ?_, ?_, ?_, ?_, ?_, ?_, ?_, ?_, ?_, ?_, ?_, ?_, ?_, ?_, ?_, ?_, ?_, ?_, ?_, ?_, ?_, ?_, ?_, ?_, ?_, ?_, ?_, ?_, ?_, ?_, ?_, trivial⟩
    all_goals
      intro a W hB hF hd
      have k1 := hF 1 rfl
      have k2 := hF 2 rfl
      have k3 := hF 3 rfl
      have k5 := hF 5 rfl
      have k6 := hF 6 rfl
      have k7 := hF 7 rfl
      have k9 := hF 9 rfl
      have k11 := hF 11 rfl
      have k12 := hF 12 rfl
      have hs2' := hs2.keep hB
      have hX' := hX.keep hB
      have q0' := PM.cellA hB q0
      have q1' := PM.cellA hB q1
      have q2' := PM.cellA hB q2
      clear hF
      simp [PM.depsL, PM.spec, PM.sl, Region.binds] at hd k1 k2 k3 k5 k6 k7 k9 k11 k12
      simp only [PM.wantL, PM.spec]
      try simp only [PM.sl]
      first | (have kc := PM.run_str bty Try.underlying9 hd) | (have kc := PM.run_str bty Try.underlying9 hd.1) | skip
      go_simp
    all_goals try exact Below.refl _ _
    · exact ⟨Below.refl _ _, _, rfl, hs2'⟩
    · exact ⟨(Below.refl _ _).alloc (Nat.le_refl _) _, _, rfl, PM.BS.lit W _ [1, 1, 1, 1, 112, 1, 1, 1, 10, 0] (by decide)⟩
    · refine (int_any _ _).mono ?_
      rintro e w' ⟨rfl, hb⟩
      exact ⟨hb, rfl⟩
    · refine (echeck_any _ _ W hX').mono ?_
      rintro e w' ⟨rfl, hb⟩
      exact ⟨hb, by rw [PM.chk_yes PM.x5_ok]⟩
    · refine (name_any _ W).mono ?_
      rintro e w' ⟨rfl, hb⟩
      exact ⟨hb, by rw [show PM.nameL (ByteArray.mk #[97, 49]).data.toList = true from by decide]⟩
    · refine (name_any _ W).mono ?_
      rintro e w' ⟨rfl, hb⟩
      exact ⟨hb, by rw [show PM.nameL (ByteArray.mk #[65]).data.toList = false from by decide]⟩
  · intro G W hB hF hS
    simp [PM.allSp, PM.spec] at hS
    have h0 : G 0 = .bool true := by simp [hS]
    rw [show ((List.range (Array.size _)).map G).toArray = #[G 0, G 1, G 2, G 3, G 4, G 5, G 6, G 7, G 8, G 9, G 10, G 11, G 12, G 13, G 14, G 15, G 16, G 17, G 18, G 19, G 20, G 21, G 22, G 23, G 24, G 25, G 26, G 27, G 28, G 29, G 30, G 31, G 32, G 33, G 34, G 35, G 36, G 37, G 38, G 39, G 40, G 41, G 42, G 43, G 44, G 45, G 46, G 47, G 48, G 49, G 50, G 51, G 52, G 53, G 54, G 55, G 56, G 57, G 58, G 59, G 60, G 61, G 62, G 63, G 64, G 65, G 66, G 67, G 68, G 69, G 70, G 71, G 72, G 73, G 74, G 75, G 76, G 77, G 78, G 79, G 80, G 81, G 82, G 83, G 84, G 85, G 86] from rfl]
    clear hF hS
    go_wp2
    go_ret
    exact ⟨by simp [h0], PM.chain hBf hB⟩
end Go.Proofs.Ytfanfkocmdkllaa
