/-
  Helpers; CONTRACT of layer 13's awake; the walk of WireNames.
-/
import Derived.Test.YtokfookandfemaaUg
namespace Go.Proofs.Ytokfookandfemaa
open Go.RowKit
set_option linter.unusedVariables false
set_option linter.unusedSimpArgs false
namespace PM
theorem msB_le {m : Ms} (hm : m.wf) (hok : msOkB m = true) : (msB m).length ≤ 4000000 := by
  have h := msOk_iff.1 hok
  have e1 := numB_le (u64_lt m.kind)
  have e2 := numB_le hm.hv
  have f1 := lstB_le (f := voB) (fun x hx => Nat.le_trans (voB_le (hm.vo x hx)) (by omega)) h.votes.1
  have f2 := lstB_le (f := enBB) (fun x hx => enBB_le (h.asks.2 x hx) (hm.ak x hx)) h.asks.1
  have f3 := lstB_le (f := enBB) (fun x hx => enBB_le (h.entries.2 x hx) (hm.en x hx)) h.entries.1
  have f4 := lstB_le (f := enBB) (fun x hx => enBB_le (h.prepares.2 x hx) (hm.pr x hx)) h.prepares.1
  have f5 := lstB_le (f := idB) (fun x hx => Nat.le_trans (idB_le (hm.ab x hx)) (by omega)) h.aborts.1
  have f6 := lstB_le (f := idB) (fun x hx => Nat.le_trans (idB_le (hm.es x hx)) (by omega)) h.ends.1
  unfold msB
  split
  · simp only [List.length_append]; omega
  · simp only [List.length_append]; omega
theorem msB_pos (m : Ms) : 0 < (msB m).length := by
  unfold msB
  rw [List.length_append, numB_length]
  omega
theorem msB_inj {m y : Ms} (hm : m.wf) (hok : msOkB m = true) (hy : y.wf) (hok2 : msOkB y = true) (h : msB m = msB y) : m = y := by
  have a := decM_enc hm hok
  rw [h, decM_enc hy hok2] at a
  injection a with a
  exact a.symm
/-- the message that awake's is -/
def MA : Ms := ⟨1, 5, [], [], [], [], [], []⟩
theorem MA_wf : MA.wf := ⟨rfl, by decide, by simp [MA], by simp [MA], by simp [MA], by simp [MA], by simp [MA], by simp [MA]⟩
theorem MA_ok : msOkB MA = true := msOk_iff.2 ⟨.inl ⟨rfl, rfl, rfl, rfl, rfl⟩, ⟨by simp [MA], by simp [MA]⟩, ⟨by simp [MA], by simp [MA]⟩, ⟨by simp [MA], by simp [MA]⟩, ⟨by simp [MA], by simp [MA]⟩, ⟨by simp [MA], by simp [MA]⟩, ⟨by simp [MA], by simp [MA]⟩⟩
theorem MA_B : msB MA = [1, 1, 1, 5, 0, 0] := by decide +kernel
theorem MA_R (w : World) : msR w (msC MA (.slice none 0 0) (.slice none 0 0) (.slice none 0 0) (.slice none 0 0) (.slice none 0 0) (.slice none 0 0)) MA := ⟨_, _, _, _, _, _, rfl, EM.nil _, RR.nil _, RR.nil _, RR.nil _, EM.nil _, EM.nil _⟩
theorem MA_S : msSm MA := ⟨by simp [MA], by simp [MA], by simp [MA], by simp [MA], by simp [MA], by simp [MA]⟩
theorem Ms0_no : msOkB Ms0 = false := by
  cases h : msOkB Ms0
  · rfl
  · rcases (msOk_iff.1 h).kind with ⟨k, _⟩ | ⟨k, _⟩ <;> cases k
theorem Ms0_S : msSm Ms0 := ⟨by simp [Ms0], by simp [Ms0], by simp [Ms0], by simp [Ms0], by simp [Ms0], by simp [Ms0]⟩
end PM
theorem PM.OW.lit00 (E : TypeId) (W : World) (B : Nat) (hB : B ≤ W.heap.size) : PM.OW E B (W.alloc (.cells #[] E)) (.slice (some ⟨W.heap.size, 0, none⟩) 0 0) [] :=
  World.ownsRow_made W #[] 0 hB (by decide) rfl
theorem wdec_yes (v : Value) (m : PM.Ms) (hm : m.wf) (hok : PM.msOkB m = true) (w : World) (hv : PM.BS w v (PM.msB m)) :
    Calls Try.prog 15 #[v] w fun e w' => ∃ xa0 xc0 xa1 xc1 xa2 xc2 xa3 xc3 xa4 xc4 xa5 xc5, e = .returned (.tuple #[.agg #[.int .i64 m.kind, .int .u64 (m.hav : Int), .slice xa0 m.votes.length xc0, .slice xa1 m.asks.length xc1, .slice xa2 m.entries.length xc2, .slice xa3 m.prepares.length xc3, .slice xa4 m.aborts.length xc4, .slice xa5 m.ends.length xc5], .int .i64 0]) ∧ PM.msR w' (PM.msC m (.slice xa0 m.votes.length xc0) (.slice xa1 m.asks.length xc1) (.slice xa2 m.entries.length xc2) (.slice xa3 m.prepares.length xc3) (.slice xa4 m.aborts.length xc4) (.slice xa5 m.ends.length xc5)) m ∧ Below w.heap.size w w' := by
  refine (wdecode_any v _ w hv (by have := PM.msB_le hm hok; omega)).mono ?_
  rintro e w' ⟨y, a0, c0, a1, c1, a2, c2, a3, c3, a4, c4, a5, c5, n, rfl, hR, -, hc, hB⟩
  rcases hc with ⟨rfl, hd⟩ | ⟨_, hd, _⟩
  · rw [PM.decM_enc hm hok] at hd
    injection hd with hd
    subst hd
    exact ⟨_, _, _, _, _, _, _, _, _, _, _, _, rfl, hR, hB⟩
  · rw [PM.decM_enc hm hok] at hd
    cases hd
theorem wdec_no (v : Value) (l : List UInt8) (hl : l.length ≤ 70368744177664) (hno : PM.decM l = none) (w : World) (hv : PM.BS w v l) :
    Calls Try.prog 15 #[v] w fun e w' => ∃ xa0 xc0 xa1 xc1 xa2 xc2 xa3 xc3 xa4 xc4 xa5 xc5, e = .returned (.tuple #[.agg #[.int .i64 0, .int .u64 0, .slice xa0 0 xc0, .slice xa1 0 xc1, .slice xa2 0 xc2, .slice xa3 0 xc3, .slice xa4 0 xc4, .slice xa5 0 xc5], .int .i64 130]) ∧ Below w.heap.size w w' := by
  refine (wdecode_any v _ w hv hl).mono ?_
  rintro e w' ⟨y, a0, c0, a1, c1, a2, c2, a3, c3, a4, c4, a5, c5, n, rfl, hR, -, hc, hB⟩
  rcases hc with ⟨rfl, hd⟩ | ⟨rfl, hd, rfl⟩
  · rw [hno] at hd
    cases hd
  · exact ⟨_, _, _, _, _, _, _, _, _, _, _, _, rfl, hB⟩
theorem encA (w : World) : Calls Try.prog 11 #[.agg #[.int .i64 1, .int .u64 5, .slice none 0 0, .slice none 0 0, .slice none 0 0, .slice none 0 0, .slice none 0 0, .slice none 0 0]] w fun e w' => ∃ oa oc, e = .returned (.tuple #[.slice oa 6 oc, .int .i64 0]) ∧ PM.BS w' (.slice oa 6 oc) [1, 1, 1, 5, 0, 0] ∧ Below w.heap.size w w' := by
  refine (wencode_yes PM.MA none 0 0 none 0 0 none 0 0 none 0 0 none 0 0 none 0 0 w PM.MA_wf PM.MA_S (PM.MA_R w) PM.MA_ok).mono ?_
  rintro e w' ⟨o, rfl, ho, hB⟩
  have h := ho.bs
  rw [PM.MA_B] at h
  obtain ⟨oa, oc, rfl⟩ := h.len
  exact ⟨oa, oc, rfl, h, hB⟩
theorem decA (v : Value) (w : World) (hv : PM.BS w v [1, 1, 1, 5, 0, 0]) : Calls Try.prog 15 #[v] w fun e w' => ∃ xa0 xc0 xa1 xc1 xa2 xc2 xa3 xc3 xa4 xc4 xa5 xc5, e = .returned (.tuple #[.agg #[.int .i64 1, .int .u64 5, .slice xa0 0 xc0, .slice xa1 0 xc1, .slice xa2 0 xc2, .slice xa3 0 xc3, .slice xa4 0 xc4, .slice xa5 0 xc5], .int .i64 0]) ∧ PM.msR w' (PM.msC PM.MA (.slice xa0 0 xc0) (.slice xa1 0 xc1) (.slice xa2 0 xc2) (.slice xa3 0 xc3) (.slice xa4 0 xc4) (.slice xa5 0 xc5)) PM.MA ∧ Below w.heap.size w w' := wdec_yes v PM.MA PM.MA_wf PM.MA_ok w (by rw [PM.MA_B]; exact hv)
theorem chkA (xa0 xa1 xa2 xa3 xa4 xa5 : Option Addr) (xc0 xc1 xc2 xc3 xc4 xc5 : Nat) (w : World) (hR : PM.msR w (PM.msC PM.MA (.slice xa0 0 xc0) (.slice xa1 0 xc1) (.slice xa2 0 xc2) (.slice xa3 0 xc3) (.slice xa4 0 xc4) (.slice xa5 0 xc5)) PM.MA) : Calls Try.prog 13 #[.agg #[.int .i64 1, .int .u64 5, .slice xa0 0 xc0, .slice xa1 0 xc1, .slice xa2 0 xc2, .slice xa3 0 xc3, .slice xa4 0 xc4, .slice xa5 0 xc5]] w fun e w' => e = .returned (.int .i64 0) ∧ Below w.heap.size w w' := by
  have h := wcheck_any PM.MA xa0 0 xc0 xa1 0 xc1 xa2 0 xc2 xa3 0 xc3 xa4 0 xc4 xa5 0 xc5 w PM.MA_wf PM.MA_S hR
  rw [PM.msE_yes PM.MA_ok] at h
  exact h
theorem chkZ (w : World) : Calls Try.prog 13 #[.agg #[.int .i64 0, .int .u64 0, .slice none 0 0, .slice none 0 0, .slice none 0 0, .slice none 0 0, .slice none 0 0, .slice none 0 0]] w fun e w' => e = .returned (.int .i64 130) ∧ Below w.heap.size w w' := by
  have h := wcheck_any PM.Ms0 none 0 0 none 0 0 none 0 0 none 0 0 none 0 0 none 0 0 w PM.Ms0_wf PM.Ms0_S (PM.Ms0_R w)
  rw [PM.msE_no PM.Ms0_no] at h
  exact h
set_option maxRecDepth 100000 in
set_option maxHeartbeats 16000000 in
theorem awake13_any (w : World) : Calls Try.prog 9 #[] w fun e w' => e = .returned (.bool true) ∧ Below w.heap.size w w' := by
  have hlong : Hid (PM.decM ([] ++ [1, 1, 1, 5, 0, 0] ++ [(0 : UInt8)]) = none) := PM.hid (by
    have := PM.decM_long PM.MA_wf PM.MA_ok (t := [(0 : UInt8)]) (by simp)
    rw [PM.MA_B] at this
    exact this)
  go_enter Try.func9, Try.ntmps9
  go_wp2_with fail
  refine (encA w).mono ?_
  rintro e w1 ⟨oa, oc, rfl, ho, hB1⟩
  have hBB := PM.hid hB1
  clear hB1
  go_wp2_with fail
  refine (decA _ w1 ho).mono ?_
  rintro e w2 ⟨xa0, xc0, xa1, xc1, xa2, xc2, xa3, xc3, xa4, xc4, xa5, xc5, rfl, hR, hBn⟩
  replace ho := ho.keep hBn
  replace hBB := PM.hid (PM.chain hBB.out hBn)
  clear hBn
  go_upto_region 3 with fail
  obtain ⟨gx, hgx⟩ : ∃ g, g = w2.heap.size := ⟨_, rfl⟩
  obtain ⟨w3, hw3⟩ : ∃ W, W = w2.alloc (.cells #[.int .i64 1, .int .u64 5, .slice xa0 0 xc0, .slice xa1 0 xc1, .slice xa2 0 xc2, .slice xa3 0 xc3, .slice xa4 0 xc4, .slice xa5 0 xc5] 28) := ⟨_, rfl⟩
  have hBn : Below w2.heap.size w2 w3 := by rw [hw3]; exact (Below.refl _ _).alloc (Nat.le_refl _) _
  have kx : PM.BK w3 gx #[.int .i64 1, .int .u64 5, .slice xa0 0 xc0, .slice xa1 0 xc1, .slice xa2 0 xc2, .slice xa3 0 xc3, .slice xa4 0 xc4, .slice xa5 0 xc5] 28 := by rw [hw3, hgx]; exact PM.BK.new _ _ _
  rw [← hw3, ← hgx]
  clear hw3 hgx
  replace ho := ho.keep hBn
  replace hR := PM.msR_lasts _ _ _ _ hBn hR
  replace hBB := PM.hid (PM.chain hBB.out hBn)
  clear hBn
  have om := PM.OW.lit00 5 w3 w3.heap.size (Nat.le_refl _)
  have hal : Below w3.heap.size w3 (w3.alloc (.cells #[] 5)) := (Below.refl _ _).alloc (Nat.le_refl _) _
  have hs := ho.keep hal
  have hz := hal.size
  have hkeep := PM.hid (And.intro hBB.out (And.intro ho (And.intro hR kx)))
  clear hBB ho hR kx
  go_wp2_with (at_builtin; refine PM.wpList_app bty w3.heap.size rfl _ _ rfl _ _ [] [1, 1, 1, 5, 0, 0] rfl rfl om hs (by simp) hz ?_; intro v7 w7 q1 q2 _; have hz7 : w3.heap.size ≤ w7.heap.size := (Nat.le_trans hz q2.size); have hq := PM.hid (hal.trans q2); have hlX : ([] ++ [(1 : UInt8), 1, 1, 5, 0, 0]).length + 1 ≤ 140737488355328 := (by simp); clear om hs hz hal q2; go_wp2_with (at_builtin; refine PM.wpList_app1 bty w3.heap.size w7 rfl _ _ rfl v7 ([] ++ [1, 1, 1, 5, 0, 0]) _ (0 : UInt8) rfl rfl rfl rfl q1 hlX hz7 ?_; intro v8 w8 q3 q4; have hq8 := PM.hid (hq.out.trans q4); have hs8 := q3.bs; clear q1 hz7 hlX hq q3 q4))
  refine (wdec_no _ _ (by simp) hlong.out w8 hs8).mono ?_
  rintro e w9 ⟨ya0, yc0, ya1, yc1, ya2, yc2, ya3, yc3, ya4, yc4, ya5, yc5, rfl, hBn⟩
  have hq9 := PM.hid (PM.chain hq8.out hBn)
  obtain ⟨hBB, ho, hR, kx⟩ := hkeep.out
  replace ho := ho.keep hq9.out
  replace hR := PM.msR_lasts _ _ _ _ hq9.out hR
  replace kx := kx.keep hq9.out
  replace hBB := PM.hid (PM.chain hBB hq9.out)
  clear hBn hq9 hq8 hs8 hkeep
  go_upto_region 4 with fail
  obtain ⟨gy, hgy⟩ : ∃ g, g = w9.heap.size := ⟨_, rfl⟩
  obtain ⟨wA, hwA⟩ : ∃ W, W = w9.alloc (.cells #[.int .i64 0, .int .u64 0, .slice ya0 0 yc0, .slice ya1 0 yc1, .slice ya2 0 yc2, .slice ya3 0 yc3, .slice ya4 0 yc4, .slice ya5 0 yc5] 28) := ⟨_, rfl⟩
  have hBn : Below w9.heap.size w9 wA := by rw [hwA]; exact (Below.refl _ _).alloc (Nat.le_refl _) _
  have ky : PM.BK wA gy #[.int .i64 0, .int .u64 0, .slice ya0 0 yc0, .slice ya1 0 yc1, .slice ya2 0 yc2, .slice ya3 0 yc3, .slice ya4 0 yc4, .slice ya5 0 yc5] 28 := by rw [hwA, hgy]; exact PM.BK.new _ _ _
  rw [← hwA, ← hgy]
  clear hwA hgy
  replace ho := ho.keep hBn
  replace hR := PM.msR_lasts _ _ _ _ hBn hR
  replace kx := kx.keep hBn
  replace hBB := PM.hid (PM.chain hBB.out hBn)
  clear hBn ky
  obtain ⟨wB, hwB⟩ : ∃ W, W = wA.alloc (.cells #[.int .u8 1, .int .u8 1, .int .u8 1, .int .u8 5, .int .u8 0, .int .u8 0] 5) := ⟨_, rfl⟩
  have hBn : Below wA.heap.size wA wB := by rw [hwB]; exact (Below.refl _ _).alloc (Nat.le_refl _) _
  have hlit : PM.BS wB (.slice (some ⟨wA.heap.size, 0, none⟩) 6 6) [1, 1, 1, 5, 0, 0] := by rw [hwB]; exact PM.BS.lit wA 5 [1, 1, 1, 5, 0, 0] (by decide)
  have kc1 := PM.run_str bty Try.underlying9 ho
  have kc2 := PM.run_str bty Try.underlying9 hlit
  have kx2 := kx.keep hBn
  have y0 : wB.cell? ⟨gx, 0, none⟩ = some (.int .i64 1) := kx2.cell 0
  have y1 : wB.cell? ⟨gx, 1, none⟩ = some (.int .u64 5) := kx2.cell 1
  rw [hwB] at y0 y1 kc2
  have hBh := PM.hid hBn
  have hwh := PM.hid hwB
  clear hBn hlit hwB kx2
  go_wp2_with fail
  rw [← hwh.out]
  clear y0 y1 kc1 kc2 hwh
  replace hR := PM.msR_lasts _ _ _ _ hBh.out hR
  replace kx := kx.keep hBh.out
  replace hBB := PM.hid (PM.chain hBB.out hBh.out)
  clear hBh ho
  refine (chkZ wB).mono ?_
  rintro e wC ⟨rfl, hBn⟩
  replace hR := PM.msR_lasts _ _ _ _ hBn hR
  replace kx := kx.keep hBn
  replace hBB := PM.hid (PM.chain hBB.out hBn)
  clear hBn
  have x0 : wC.cell? ⟨gx, 0, none⟩ = some (.int .i64 1) := kx.cell 0
  have x1 : wC.cell? ⟨gx, 1, none⟩ = some (.int .u64 5) := kx.cell 1
  have x2 : wC.cell? ⟨gx, 2, none⟩ = some (.slice xa0 0 xc0) := kx.cell 2
  have x3 : wC.cell? ⟨gx, 3, none⟩ = some (.slice xa1 0 xc1) := kx.cell 3
  have x4 : wC.cell? ⟨gx, 4, none⟩ = some (.slice xa2 0 xc2) := kx.cell 4
  have x5 : wC.cell? ⟨gx, 5, none⟩ = some (.slice xa3 0 xc3) := kx.cell 5
  have x6 : wC.cell? ⟨gx, 6, none⟩ = some (.slice xa4 0 xc4) := kx.cell 6
  have x7 : wC.cell? ⟨gx, 7, none⟩ = some (.slice xa5 0 xc5) := kx.cell 7
  go_wp2_with fail
  refine (chkA _ _ _ _ _ _ _ _ _ _ _ _ wC hR).mono ?_
  rintro e wD ⟨rfl, hBn⟩
  replace hBB := PM.hid (PM.chain hBB.out hBn)
  clear hBn x0 x1 x2 x3 x4 x5 x6 x7 kx hR
  go_wp2_with fail
  go_ret
  exact ⟨by first | rfl | simp, hBB.out⟩
theorem wireNames_walk (w : World) : Calls Try.prog 3 #[] w fun e w' => e = .returned (.bool true) ∧ Below w.heap.size w w' := by
  go_enter Try.func3, Try.ntmps3
  go_wp2_with fail
  refine (awake13_any w).mono ?_
  rintro e w1 ⟨rfl, hB⟩
  have hBB := PM.hid hB
  clear hB
  go_wp2_with fail
  go_ret
  exact ⟨rfl, hBB.out⟩
end Go.Proofs.Ytokfookandfemaa
