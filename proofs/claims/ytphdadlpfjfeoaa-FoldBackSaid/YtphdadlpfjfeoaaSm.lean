/-
  AWAKE OF LAYER 16. (Written by tools/mk_sm.py.)
-/
import Derived.Test.YtphdadlpfjfeoaaSl
import Derived.Test.YtphdadlpfjfeoaaSj
namespace Go.Proofs.Ytphdadlpfjfeoaa
open Go.RowKit
set_option linter.unusedVariables false
set_option linter.unusedSimpArgs false
namespace PM
theorem OR.enl {TT TA TE E : TypeId} {B B' : Nat} {w : World} {v : Value} {l : List En} (h : OR (enO TT TA TE B) 8 E B' w v l) : EnL w v l := RR.imp h.rr fun cs x ⟨fv, ev, g1, g2, g3⟩ => ⟨fv, ev, g1, g2.em teL_len, evOr_evl g3⟩
end PM
namespace PM
def X0 : En := ⟨3, ⟨1, 1, 1⟩, 0, 0, [], []⟩
def SA : Fs := ⟨1, [], [], []⟩
def SB : Fs := ⟨1, [], [X0], []⟩
def SC : Fs := ⟨1, [X0], [], []⟩
theorem X0_ok : enOk X0 := ⟨⟨by decide, by decide⟩, ⟨by decide, by decide⟩, .inr (.inl ⟨rfl, rfl, rfl⟩)⟩
theorem X0_wf : X0.wf := ⟨by decide, by unfold Id.wf; decide, by decide, by decide, by simp [X0], by simp [X0]⟩
theorem X0_s : EnS X0 := ⟨by simp [X0], by simp [X0], by simp [X0]⟩
theorem pA : rcP ⟨1, 1, En9, Id0⟩ := .inr (.inr ⟨rfl, rfl, En9_nil⟩)
theorem pB : rcP ⟨3, 0, X0, Id0⟩ := (rP_ok ⟨X0_ok, X0_wf⟩).2
theorem pC : rcP ⟨2, 0, X0, Id0⟩ := (rE_ok (n := 0) ⟨X0_ok, X0_wf⟩ (by decide)).2
theorem wA : Rc.wf ⟨1, 1, En9, Id0⟩ := ⟨wfK 1 (by simp), by decide, En9_wf, Id0_wf⟩
theorem wB : Rc.wf ⟨3, 0, X0, Id0⟩ := (rP_ok ⟨X0_ok, X0_wf⟩).1
theorem wC : Rc.wf ⟨2, 0, X0, Id0⟩ := (rE_ok (n := 0) ⟨X0_ok, X0_wf⟩ (by decide)).1
theorem eA : stp Fs0 ⟨1, 1, En9, Id0⟩ = (SA, 0) := by unfold stp; rw [if_pos pA]; rfl
theorem eB : stp SA ⟨3, 0, X0, Id0⟩ = (SB, 0) := by unfold stp; rw [if_pos pB]; rfl
theorem eC : stp SB ⟨2, 0, X0, Id0⟩ = (SC, 0) := by unfold stp; rw [if_pos pC]; rfl
theorem eD : stp SC ⟨2, 0, X0, Id0⟩ = (SC, 160) := by unfold stp; rw [if_pos pC]; rfl
theorem gA : Gd SA := by have := Gd.zero.stp wA; rwa [eA] at this
theorem gB : Gd SB := by have := gA.stp wB; rwa [eB] at this
theorem gC : Gd SC := by have := gB.stp wC; rwa [eC] at this
theorem EnsS.nil : EnsS [] := ⟨by simp, by simp⟩
theorem EnsS.x0 : EnsS [X0] := ⟨by simp, by simp; exact X0_s⟩
theorem recC : ((recL SC).map rcB).length = 2 := by rw [List.length_map, recL_len]; rfl
end PM
theorem stepA_any (w : World) (h0 : PM.EnL w (.slice none 0 0) PM.Fs0.ls) (h1 : PM.EnL w (.slice none 0 0) PM.Fs0.ps) (h2 : PM.EM PM.idL 3 w (.slice none 0 0) PM.Fs0.ab) :
    Calls Try.prog 13 #[.agg #[.int .u64 0, .slice none 0 0, .slice none 0 0, .slice none 0 0], .agg #[.int .i64 1, .int .u64 1, .int .i64 0, .int .i64 0, .int .u64 0, .int .u64 0, .int .i64 0, .int .u64 0, .slice none 0 0, .slice none 0 0, .int .i64 0, .int .u64 0, .int .u64 0]] w fun e w' => PM.RetSt w.heap.size PM.SA 0 e w w' := by
  have := step_any 1 1 PM.En9 none 0 0 none 0 0 PM.Id0 PM.Fs0 none 0 0 none 0 0 none 0 0 w h0 h1 h2 (PM.hid PM.EnsS.nil) (PM.hid PM.EnsS.nil) (PM.hid (by decide)) PM.wA rfl rfl (PM.EM.nil _) (PM.RR.nil _) ⟨by simp [PM.En9], by simp [PM.En9], by simp [PM.En9]⟩
  rw [show PM.rcMk 1 1 PM.En9 PM.Id0 = ⟨1, 1, PM.En9, PM.Id0⟩ from rfl, PM.eA] at this
  exact this
theorem stepB_any (a0 : Option Addr) (n0 c0 : Nat) (a1 : Option Addr) (n1 c1 : Nat) (a2 : Option Addr) (n2 c2 : Nat) (w : World) (h0 : PM.EnL w (.slice a0 n0 c0) PM.SA.ls) (h1 : PM.EnL w (.slice a1 n1 c1) PM.SA.ps) (h2 : PM.EM PM.idL 3 w (.slice a2 n2 c2) PM.SA.ab) :
    Calls Try.prog 13 #[.agg #[.int .u64 1, .slice a0 n0 c0, .slice a1 n1 c1, .slice a2 n2 c2], .agg #[.int .i64 3, .int .u64 0, .int .i64 3, .int .i64 1, .int .u64 1, .int .u64 1, .int .i64 0, .int .u64 0, .slice none 0 0, .slice none 0 0, .int .i64 0, .int .u64 0, .int .u64 0]] w fun e w' => PM.RetSt w.heap.size PM.SB 0 e w w' := by
  have := step_any 3 0 PM.X0 none 0 0 none 0 0 PM.Id0 PM.SA a0 n0 c0 a1 n1 c1 a2 n2 c2 w h0 h1 h2 (PM.hid PM.EnsS.nil) (PM.hid PM.EnsS.nil) (PM.hid (by decide)) PM.wB rfl rfl (PM.EM.nil _) (PM.RR.nil _) PM.X0_s
  rw [show PM.rcMk 3 0 PM.X0 PM.Id0 = ⟨3, 0, PM.X0, PM.Id0⟩ from rfl, PM.eB] at this
  exact this
theorem stepC_any (a0 : Option Addr) (n0 c0 : Nat) (a1 : Option Addr) (n1 c1 : Nat) (a2 : Option Addr) (n2 c2 : Nat) (w : World) (h0 : PM.EnL w (.slice a0 n0 c0) PM.SB.ls) (h1 : PM.EnL w (.slice a1 n1 c1) PM.SB.ps) (h2 : PM.EM PM.idL 3 w (.slice a2 n2 c2) PM.SB.ab) :
    Calls Try.prog 13 #[.agg #[.int .u64 1, .slice a0 n0 c0, .slice a1 n1 c1, .slice a2 n2 c2], .agg #[.int .i64 2, .int .u64 0, .int .i64 3, .int .i64 1, .int .u64 1, .int .u64 1, .int .i64 0, .int .u64 0, .slice none 0 0, .slice none 0 0, .int .i64 0, .int .u64 0, .int .u64 0]] w fun e w' => PM.RetSt w.heap.size PM.SC 0 e w w' := by
  have := step_any 2 0 PM.X0 none 0 0 none 0 0 PM.Id0 PM.SB a0 n0 c0 a1 n1 c1 a2 n2 c2 w h0 h1 h2 (PM.hid PM.EnsS.nil) (PM.hid PM.EnsS.x0) (PM.hid (by decide)) PM.wC rfl rfl (PM.EM.nil _) (PM.RR.nil _) PM.X0_s
  rw [show PM.rcMk 2 0 PM.X0 PM.Id0 = ⟨2, 0, PM.X0, PM.Id0⟩ from rfl, PM.eC] at this
  exact this
theorem stepD_any (a0 : Option Addr) (n0 c0 : Nat) (a1 : Option Addr) (n1 c1 : Nat) (a2 : Option Addr) (n2 c2 : Nat) (w : World) (h0 : PM.EnL w (.slice a0 n0 c0) PM.SC.ls) (h1 : PM.EnL w (.slice a1 n1 c1) PM.SC.ps) (h2 : PM.EM PM.idL 3 w (.slice a2 n2 c2) PM.SC.ab) :
    Calls Try.prog 13 #[.agg #[.int .u64 1, .slice a0 n0 c0, .slice a1 n1 c1, .slice a2 n2 c2], .agg #[.int .i64 2, .int .u64 0, .int .i64 3, .int .i64 1, .int .u64 1, .int .u64 1, .int .i64 0, .int .u64 0, .slice none 0 0, .slice none 0 0, .int .i64 0, .int .u64 0, .int .u64 0]] w fun e w' => PM.RetSt w.heap.size PM.SC 160 e w w' := by
  have := step_any 2 0 PM.X0 none 0 0 none 0 0 PM.Id0 PM.SC a0 n0 c0 a1 n1 c1 a2 n2 c2 w h0 h1 h2 (PM.hid PM.EnsS.x0) (PM.hid PM.EnsS.nil) (PM.hid (by decide)) PM.wC rfl rfl (PM.EM.nil _) (PM.RR.nil _) PM.X0_s
  rw [show PM.rcMk 2 0 PM.X0 PM.Id0 = ⟨2, 0, PM.X0, PM.Id0⟩ from rfl, PM.eD] at this
  exact this
set_option maxRecDepth 100000 in
set_option maxHeartbeats 16000000 in
theorem awake16_any (w : World) : Calls Try.prog 7 #[] w fun e w' => e = .returned (.bool true) ∧ Below w.heap.size w w' := by
  go_enter Try.func7, Try.ntmps7
  obtain ⟨g1, hg1⟩ : ∃ g, g = w.heap.size := ⟨_, rfl⟩
  obtain ⟨w1, hw1⟩ : ∃ W, W = w.alloc (.cells #[.int .i64 3, .int .i64 1, .int .u64 1, .int .u64 1, .int .i64 0, .int .u64 0, .slice none 0 0, .slice none 0 0] 44) := ⟨_, rfl⟩
  have hbw1 : Below w.heap.size w w1 := by rw [hw1]; exact (Below.refl _ _).alloc (Nat.le_refl _) _
  have k1 : PM.BK w1 g1 #[.int .i64 3, .int .i64 1, .int .u64 1, .int .u64 1, .int .i64 0, .int .u64 0, .slice none 0 0, .slice none 0 0] 44 := by rw [hw1, hg1]; exact PM.BK.new _ _ _
  go_upto_region 2 with fail
  rw [← hw1, ← hg1]
  clear hw1 hg1
  have hBB := PM.hid hbw1
  clear hbw1
  have ht := stepA_any w1 (PM.RR.nil _) (PM.RR.nil _) (PM.EM.nil _)
  have y0 : w1.cell? ⟨g1, 0, none⟩ = some (.int .i64 3) := k1.cell 0
  have y1 : w1.cell? ⟨g1, 1, none⟩ = some (.int .i64 1) := k1.cell 1
  have y2 : w1.cell? ⟨g1, 2, none⟩ = some (.int .u64 1) := k1.cell 2
  have y3 : w1.cell? ⟨g1, 3, none⟩ = some (.int .u64 1) := k1.cell 3
  have y4 : w1.cell? ⟨g1, 4, none⟩ = some (.int .i64 0) := k1.cell 4
  have y5 : w1.cell? ⟨g1, 5, none⟩ = some (.int .u64 0) := k1.cell 5
  have y6 : w1.cell? ⟨g1, 6, none⟩ = some (.slice none 0 0) := k1.cell 6
  have y7 : w1.cell? ⟨g1, 7, none⟩ = some (.slice none 0 0) := k1.cell 7
  go_wp2_with fail
  refine ht.mono ?_
  clear ht
  rintro e v1 ⟨u2, un2, uc2, p2, pn2, pc2, t2, tn2, tc2, rfl, ra2, rb2, rc2, hBn⟩
  clear y0 y1 y2 y3 y4 y5 y6 y7
  obtain rfl : un2 = 0 := by obtain ⟨_, _, hle⟩ := ra2.rr.len; injection hle
  obtain rfl : pn2 = 0 := by obtain ⟨_, _, hle⟩ := rb2.rr.len; injection hle
  try simp only [show ((PM.SA.lf : Nat) : Int) = 1 from rfl, show ((PM.SB.lf : Nat) : Int) = 1 from rfl, show ((PM.SC.lf : Nat) : Int) = 1 from rfl]
  go_upto_region 3 with fail
  obtain ⟨g2, hg2⟩ : ∃ g, g = v1.heap.size := ⟨_, rfl⟩
  obtain ⟨w2, hw2⟩ : ∃ W, W = v1.alloc (.cells #[.int .u64 1, .slice u2 0 uc2, .slice p2 0 pc2, .slice t2 tn2 tc2] 28) := ⟨_, rfl⟩
  have hbw2 : Below v1.heap.size v1 w2 := by rw [hw2]; exact (Below.refl _ _).alloc (Nat.le_refl _) _
  have k2 : PM.BK w2 g2 #[.int .u64 1, .slice u2 0 uc2, .slice p2 0 pc2, .slice t2 tn2 tc2] 28 := by rw [hw2, hg2]; exact PM.BK.new _ _ _
  rw [← hw2, ← hg2]
  clear hw2 hg2
  have hbw := PM.chain hBn hbw2
  clear hBn
  replace ra2 := PM.OR.keep PM.enO_lasts hbw2 ra2
  replace rb2 := PM.OR.keep PM.enO_lasts hbw2 rb2
  replace rc2 := rc2.keep hbw2
  clear hbw2
  replace k1 := k1.keep hbw
  replace hBB := PM.hid (PM.chain hBB.out hbw)
  clear hbw
  have ht := stepB_any u2 0 uc2 p2 0 pc2 t2 tn2 tc2 w2 (PM.OR.enl ra2) (PM.OR.enl rb2) (rc2.em PM.idL_len)
  have x0 : w2.cell? ⟨g2, 0, none⟩ = some (.int .u64 1) := k2.cell 0
  have x1 : w2.cell? ⟨g2, 1, none⟩ = some (.slice u2 0 uc2) := k2.cell 1
  have x2 : w2.cell? ⟨g2, 2, none⟩ = some (.slice p2 0 pc2) := k2.cell 2
  have x3 : w2.cell? ⟨g2, 3, none⟩ = some (.slice t2 tn2 tc2) := k2.cell 3
  have y0 : w2.cell? ⟨g1, 0, none⟩ = some (.int .i64 3) := k1.cell 0
  have y1 : w2.cell? ⟨g1, 1, none⟩ = some (.int .i64 1) := k1.cell 1
  have y2 : w2.cell? ⟨g1, 2, none⟩ = some (.int .u64 1) := k1.cell 2
  have y3 : w2.cell? ⟨g1, 3, none⟩ = some (.int .u64 1) := k1.cell 3
  have y4 : w2.cell? ⟨g1, 4, none⟩ = some (.int .i64 0) := k1.cell 4
  have y5 : w2.cell? ⟨g1, 5, none⟩ = some (.int .u64 0) := k1.cell 5
  have y6 : w2.cell? ⟨g1, 6, none⟩ = some (.slice none 0 0) := k1.cell 6
  have y7 : w2.cell? ⟨g1, 7, none⟩ = some (.slice none 0 0) := k1.cell 7
  go_wp2_with fail
  refine ht.mono ?_
  clear ht
  rintro e v2 ⟨u4, un4, uc4, p4, pn4, pc4, t4, tn4, tc4, rfl, ra4, rb4, rc4, hBn⟩
  clear x0 x1 x2 x3
  clear y0 y1 y2 y3 y4 y5 y6 y7
  obtain rfl : un4 = 0 := by obtain ⟨_, _, hle⟩ := ra4.rr.len; injection hle
  obtain rfl : pn4 = 1 := by obtain ⟨_, _, hle⟩ := rb4.rr.len; injection hle
  try simp only [show ((PM.SA.lf : Nat) : Int) = 1 from rfl, show ((PM.SB.lf : Nat) : Int) = 1 from rfl, show ((PM.SC.lf : Nat) : Int) = 1 from rfl]
  go_upto_region 4 with fail
  obtain ⟨g4, hg4⟩ : ∃ g, g = v2.heap.size := ⟨_, rfl⟩
  obtain ⟨w4, hw4⟩ : ∃ W, W = v2.alloc (.cells #[.int .u64 1, .slice u4 0 uc4, .slice p4 1 pc4, .slice t4 tn4 tc4] 28) := ⟨_, rfl⟩
  have hbw4 : Below v2.heap.size v2 w4 := by rw [hw4]; exact (Below.refl _ _).alloc (Nat.le_refl _) _
  have k4 : PM.BK w4 g4 #[.int .u64 1, .slice u4 0 uc4, .slice p4 1 pc4, .slice t4 tn4 tc4] 28 := by rw [hw4, hg4]; exact PM.BK.new _ _ _
  rw [← hw4, ← hg4]
  clear hw4 hg4
  have hbw := PM.chain hBn hbw4
  clear hBn
  replace ra4 := PM.OR.keep PM.enO_lasts hbw4 ra4
  replace rb4 := PM.OR.keep PM.enO_lasts hbw4 rb4
  replace rc4 := rc4.keep hbw4
  clear hbw4
  replace k1 := k1.keep hbw
  replace hBB := PM.hid (PM.chain hBB.out hbw)
  clear hbw
  clear k2 ra2 rb2 rc2
  have ht := stepC_any u4 0 uc4 p4 1 pc4 t4 tn4 tc4 w4 (PM.OR.enl ra4) (PM.OR.enl rb4) (rc4.em PM.idL_len)
  have x0 : w4.cell? ⟨g4, 0, none⟩ = some (.int .u64 1) := k4.cell 0
  have x1 : w4.cell? ⟨g4, 1, none⟩ = some (.slice u4 0 uc4) := k4.cell 1
  have x2 : w4.cell? ⟨g4, 2, none⟩ = some (.slice p4 1 pc4) := k4.cell 2
  have x3 : w4.cell? ⟨g4, 3, none⟩ = some (.slice t4 tn4 tc4) := k4.cell 3
  have y0 : w4.cell? ⟨g1, 0, none⟩ = some (.int .i64 3) := k1.cell 0
  have y1 : w4.cell? ⟨g1, 1, none⟩ = some (.int .i64 1) := k1.cell 1
  have y2 : w4.cell? ⟨g1, 2, none⟩ = some (.int .u64 1) := k1.cell 2
  have y3 : w4.cell? ⟨g1, 3, none⟩ = some (.int .u64 1) := k1.cell 3
  have y4 : w4.cell? ⟨g1, 4, none⟩ = some (.int .i64 0) := k1.cell 4
  have y5 : w4.cell? ⟨g1, 5, none⟩ = some (.int .u64 0) := k1.cell 5
  have y6 : w4.cell? ⟨g1, 6, none⟩ = some (.slice none 0 0) := k1.cell 6
  have y7 : w4.cell? ⟨g1, 7, none⟩ = some (.slice none 0 0) := k1.cell 7
  go_wp2_with fail
  refine ht.mono ?_
  clear ht
  rintro e v4 ⟨u6, un6, uc6, p6, pn6, pc6, t6, tn6, tc6, rfl, ra6, rb6, rc6, hBn⟩
  clear x0 x1 x2 x3
  clear y0 y1 y2 y3 y4 y5 y6 y7
  obtain rfl : un6 = 1 := by obtain ⟨_, _, hle⟩ := ra6.rr.len; injection hle
  obtain rfl : pn6 = 0 := by obtain ⟨_, _, hle⟩ := rb6.rr.len; injection hle
  try simp only [show ((PM.SA.lf : Nat) : Int) = 1 from rfl, show ((PM.SB.lf : Nat) : Int) = 1 from rfl, show ((PM.SC.lf : Nat) : Int) = 1 from rfl]
  go_upto_region 5 with fail
  obtain ⟨g6, hg6⟩ : ∃ g, g = v4.heap.size := ⟨_, rfl⟩
  obtain ⟨w6, hw6⟩ : ∃ W, W = v4.alloc (.cells #[.int .u64 1, .slice u6 1 uc6, .slice p6 0 pc6, .slice t6 tn6 tc6] 28) := ⟨_, rfl⟩
  have hbw6 : Below v4.heap.size v4 w6 := by rw [hw6]; exact (Below.refl _ _).alloc (Nat.le_refl _) _
  have k6 : PM.BK w6 g6 #[.int .u64 1, .slice u6 1 uc6, .slice p6 0 pc6, .slice t6 tn6 tc6] 28 := by rw [hw6, hg6]; exact PM.BK.new _ _ _
  rw [← hw6, ← hg6]
  clear hw6 hg6
  have hbw := PM.chain hBn hbw6
  clear hBn
  replace ra6 := PM.OR.keep PM.enO_lasts hbw6 ra6
  replace rb6 := PM.OR.keep PM.enO_lasts hbw6 rb6
  replace rc6 := rc6.keep hbw6
  clear hbw6
  replace k1 := k1.keep hbw
  replace k4 := k4.keep hbw
  replace ra4 := PM.OR.keep PM.enO_lasts hbw ra4
  replace rb4 := PM.OR.keep PM.enO_lasts hbw rb4
  replace rc4 := rc4.keep hbw
  replace hBB := PM.hid (PM.chain hBB.out hbw)
  clear hbw
  have ht := stepD_any u6 1 uc6 p6 0 pc6 t6 tn6 tc6 w6 (PM.OR.enl ra6) (PM.OR.enl rb6) (rc6.em PM.idL_len)
  have x0 : w6.cell? ⟨g6, 0, none⟩ = some (.int .u64 1) := k6.cell 0
  have x1 : w6.cell? ⟨g6, 1, none⟩ = some (.slice u6 1 uc6) := k6.cell 1
  have x2 : w6.cell? ⟨g6, 2, none⟩ = some (.slice p6 0 pc6) := k6.cell 2
  have x3 : w6.cell? ⟨g6, 3, none⟩ = some (.slice t6 tn6 tc6) := k6.cell 3
  have y0 : w6.cell? ⟨g1, 0, none⟩ = some (.int .i64 3) := k1.cell 0
  have y1 : w6.cell? ⟨g1, 1, none⟩ = some (.int .i64 1) := k1.cell 1
  have y2 : w6.cell? ⟨g1, 2, none⟩ = some (.int .u64 1) := k1.cell 2
  have y3 : w6.cell? ⟨g1, 3, none⟩ = some (.int .u64 1) := k1.cell 3
  have y4 : w6.cell? ⟨g1, 4, none⟩ = some (.int .i64 0) := k1.cell 4
  have y5 : w6.cell? ⟨g1, 5, none⟩ = some (.int .u64 0) := k1.cell 5
  have y6 : w6.cell? ⟨g1, 6, none⟩ = some (.slice none 0 0) := k1.cell 6
  have y7 : w6.cell? ⟨g1, 7, none⟩ = some (.slice none 0 0) := k1.cell 7
  go_wp2_with fail
  refine ht.mono ?_
  clear ht
  rintro e v6 ⟨u8, un8, uc8, p8, pn8, pc8, t8, tn8, tc8, rfl, ra8, rb8, rc8, hBn⟩
  clear x0 x1 x2 x3
  clear y0 y1 y2 y3 y4 y5 y6 y7
  obtain rfl : un8 = 1 := by obtain ⟨_, _, hle⟩ := ra8.rr.len; injection hle
  obtain rfl : pn8 = 0 := by obtain ⟨_, _, hle⟩ := rb8.rr.len; injection hle
  try simp only [show ((PM.SA.lf : Nat) : Int) = 1 from rfl, show ((PM.SB.lf : Nat) : Int) = 1 from rfl, show ((PM.SC.lf : Nat) : Int) = 1 from rfl]
  go_upto_region 6 with fail
  obtain ⟨g8, hg8⟩ : ∃ g, g = v6.heap.size := ⟨_, rfl⟩
  obtain ⟨w8, hw8⟩ : ∃ W, W = v6.alloc (.cells #[.int .u64 1, .slice u8 1 uc8, .slice p8 0 pc8, .slice t8 tn8 tc8] 28) := ⟨_, rfl⟩
  have hbw8 : Below v6.heap.size v6 w8 := by rw [hw8]; exact (Below.refl _ _).alloc (Nat.le_refl _) _
  have k8 : PM.BK w8 g8 #[.int .u64 1, .slice u8 1 uc8, .slice p8 0 pc8, .slice t8 tn8 tc8] 28 := by rw [hw8, hg8]; exact PM.BK.new _ _ _
  rw [← hw8, ← hg8]
  clear hw8 hg8
  have hbw := PM.chain hBn hbw8
  clear hBn
  replace ra8 := PM.OR.keep PM.enO_lasts hbw8 ra8
  replace rb8 := PM.OR.keep PM.enO_lasts hbw8 rb8
  replace rc8 := rc8.keep hbw8
  clear hbw8
  replace k1 := k1.keep hbw
  replace k4 := k4.keep hbw
  replace ra4 := PM.OR.keep PM.enO_lasts hbw ra4
  replace rb4 := PM.OR.keep PM.enO_lasts hbw rb4
  replace rc4 := rc4.keep hbw
  replace k6 := k6.keep hbw
  replace ra6 := PM.OR.keep PM.enO_lasts hbw ra6
  replace rb6 := PM.OR.keep PM.enO_lasts hbw rb6
  replace rc6 := rc6.keep hbw
  replace hBB := PM.hid (PM.chain hBB.out hbw)
  clear hbw
  clear k8 ra8 rb8 rc8
  obtain rfl : tn6 = 0 := by obtain ⟨_, _, hle⟩ := (rc6.em PM.idL_len).len; injection hle
  have ht := records_any PM.SC u6 1 uc6 p6 0 pc6 t6 0 tc6 w8 (PM.OR.enl ra6) (PM.OR.enl rb6) (rc6.em PM.idL_len) rfl rfl rfl (by decide) (by decide) (by decide) (fun r hr => (PM.recL_ok PM.gC (by decide) r hr).1)
  have x0 : w8.cell? ⟨g6, 0, none⟩ = some (.int .u64 1) := k6.cell 0
  have x1 : w8.cell? ⟨g6, 1, none⟩ = some (.slice u6 1 uc6) := k6.cell 1
  have x2 : w8.cell? ⟨g6, 2, none⟩ = some (.slice p6 0 pc6) := k6.cell 2
  have x3 : w8.cell? ⟨g6, 3, none⟩ = some (.slice t6 0 tc6) := k6.cell 3
  go_wp2_with fail
  refine ht.mono ?_
  clear ht
  rintro e v8 ⟨o, c, rfl, hor, hbw⟩
  clear x0 x1 x2 x3
  rcases hor with ⟨rfl, -, hrow⟩ | ⟨-, ⟨r, hr, hnr⟩, -⟩
  case inr => exact (hnr (PM.recL_ok PM.gC (by decide) r hr).2).elim
  obtain ⟨oa, oc, rfl⟩ := hrow.rr.len
  rw [PM.recC]
  replace k1 := k1.keep hbw
  replace k4 := k4.keep hbw
  replace ra4 := PM.OR.keep PM.enO_lasts hbw ra4
  replace rb4 := PM.OR.keep PM.enO_lasts hbw rb4
  replace rc4 := rc4.keep hbw
  replace k6 := k6.keep hbw
  replace ra6 := PM.OR.keep PM.enO_lasts hbw ra6
  replace rb6 := PM.OR.keep PM.enO_lasts hbw rb6
  replace rc6 := rc6.keep hbw
  replace hBB := PM.hid (PM.chain hBB.out hbw)
  clear hbw
  go_upto_region 7 with fail
  have ht := all_any (.slice oa 2 oc) ((PM.recL PM.SC).map PM.rcB) v8 (by have := PM.RR.imp hrow.rr fun cs x h => PM.bbO_bsR h; rwa [PM.recC] at this) (by rw [PM.recC]; decide) (fun q hq => by obtain ⟨r, hr, rfl⟩ := List.mem_map.1 hq; obtain ⟨h1, h2⟩ := PM.recL_ok PM.gC (by decide) r hr; have := PM.rcB_le h1 h2; omega)
  rw [PM.back_all PM.gC (by decide)] at ht
  go_wp2_with fail
  refine ht.mono ?_
  clear ht hrow
  rintro e v9 ⟨u9, un9, uc9, p9, pn9, pc9, t9, tn9, tc9, rfl, ra9, rb9, rc9, hbw⟩
  obtain rfl : un9 = 1 := by obtain ⟨_, _, hle⟩ := ra9.rr.len; injection hle
  simp only [show ((PM.SC.lf : Nat) : Int) = 1 from rfl]
  replace k1 := k1.keep hbw
  replace k4 := k4.keep hbw
  replace ra4 := PM.OR.keep PM.enO_lasts hbw ra4
  replace rb4 := PM.OR.keep PM.enO_lasts hbw rb4
  replace rc4 := rc4.keep hbw
  replace k6 := k6.keep hbw
  replace ra6 := PM.OR.keep PM.enO_lasts hbw ra6
  replace rb6 := PM.OR.keep PM.enO_lasts hbw rb6
  replace rc6 := rc6.keep hbw
  replace hBB := PM.hid (PM.chain hBB.out hbw)
  clear hbw ra9 rb9 rc9
  have hal : ∀ o, Below v9.heap.size v9 (v9.alloc o) := fun o => (Below.refl _ _).alloc (Nat.le_refl _) o
  have my0 : ∀ o, (v9.alloc o).cell? ⟨g1, 0, none⟩ = some (.int .i64 3) := fun o => (k1.keep (hal o)).cell 0
  have my1 : ∀ o, (v9.alloc o).cell? ⟨g1, 1, none⟩ = some (.int .i64 1) := fun o => (k1.keep (hal o)).cell 1
  have my2 : ∀ o, (v9.alloc o).cell? ⟨g1, 2, none⟩ = some (.int .u64 1) := fun o => (k1.keep (hal o)).cell 2
  have my3 : ∀ o, (v9.alloc o).cell? ⟨g1, 3, none⟩ = some (.int .u64 1) := fun o => (k1.keep (hal o)).cell 3
  have my4 : ∀ o, (v9.alloc o).cell? ⟨g1, 4, none⟩ = some (.int .i64 0) := fun o => (k1.keep (hal o)).cell 4
  have my5 : ∀ o, (v9.alloc o).cell? ⟨g1, 5, none⟩ = some (.int .u64 0) := fun o => (k1.keep (hal o)).cell 5
  have my6 : ∀ o, (v9.alloc o).cell? ⟨g1, 6, none⟩ = some (.slice none 0 0) := fun o => (k1.keep (hal o)).cell 6
  have my7 : ∀ o, (v9.alloc o).cell? ⟨g1, 7, none⟩ = some (.slice none 0 0) := fun o => (k1.keep (hal o)).cell 7
  have mb0 : ∀ o, (v9.alloc o).cell? ⟨g4, 0, none⟩ = some (.int .u64 1) := fun o => (k4.keep (hal o)).cell 0
  have mb1 : ∀ o, (v9.alloc o).cell? ⟨g4, 1, none⟩ = some (.slice u4 0 uc4) := fun o => (k4.keep (hal o)).cell 1
  have mb2 : ∀ o, (v9.alloc o).cell? ⟨g4, 2, none⟩ = some (.slice p4 1 pc4) := fun o => (k4.keep (hal o)).cell 2
  have mb3 : ∀ o, (v9.alloc o).cell? ⟨g4, 3, none⟩ = some (.slice t4 tn4 tc4) := fun o => (k4.keep (hal o)).cell 3
  have mc0 : ∀ o, (v9.alloc o).cell? ⟨g6, 0, none⟩ = some (.int .u64 1) := fun o => (k6.keep (hal o)).cell 0
  have mc1 : ∀ o, (v9.alloc o).cell? ⟨g6, 1, none⟩ = some (.slice u6 1 uc6) := fun o => (k6.keep (hal o)).cell 1
  have mc2 : ∀ o, (v9.alloc o).cell? ⟨g6, 2, none⟩ = some (.slice p6 0 pc6) := fun o => (k6.keep (hal o)).cell 2
  have mc3 : ∀ o, (v9.alloc o).cell? ⟨g6, 3, none⟩ = some (.slice t6 0 tc6) := fun o => (k6.keep (hal o)).cell 3
  have ht := fun o => hasS_any 1 u6 1 uc6 p6 0 pc6 t6 0 tc6 ⟨1, 1, 1⟩ _ (v9.alloc o) (PM.RR.keep PM.enR_lasts (hal o) (PM.OR.enl ra6))
  rw [show PM.hasE PM.SC.ls ⟨1, 1, 1⟩ = true from by decide] at ht
  replace hal := PM.hid hal
  go_wp2_with fail
  refine (ht _).mono ?_
  clear ht
  rintro e va ⟨rfl, hbw⟩
  replace hbw := PM.chain (hal.out _) hbw
  clear hal my0 my1 my2 my3 my4 my5 my6 my7 mb0 mb1 mb2 mb3 mc0 mc1 mc2 mc3
  replace k1 := k1.keep hbw
  replace k4 := k4.keep hbw
  replace ra4 := PM.OR.keep PM.enO_lasts hbw ra4
  replace rb4 := PM.OR.keep PM.enO_lasts hbw rb4
  replace rc4 := rc4.keep hbw
  replace k6 := k6.keep hbw
  replace ra6 := PM.OR.keep PM.enO_lasts hbw ra6
  replace rb6 := PM.OR.keep PM.enO_lasts hbw rb6
  replace rc6 := rc6.keep hbw
  replace hBB := PM.hid (PM.chain hBB.out hbw)
  clear hbw
  have ht := promS_any 1 u4 0 uc4 p4 1 pc4 t4 tn4 tc4 ⟨1, 1, 1⟩ _ va (PM.OR.enl rb4)
  rw [show PM.hasE PM.SB.ps ⟨1, 1, 1⟩ = true from by decide] at ht
  have y0 : va.cell? ⟨g1, 0, none⟩ = some (.int .i64 3) := k1.cell 0
  have y1 : va.cell? ⟨g1, 1, none⟩ = some (.int .i64 1) := k1.cell 1
  have y2 : va.cell? ⟨g1, 2, none⟩ = some (.int .u64 1) := k1.cell 2
  have y3 : va.cell? ⟨g1, 3, none⟩ = some (.int .u64 1) := k1.cell 3
  have y4 : va.cell? ⟨g1, 4, none⟩ = some (.int .i64 0) := k1.cell 4
  have y5 : va.cell? ⟨g1, 5, none⟩ = some (.int .u64 0) := k1.cell 5
  have y6 : va.cell? ⟨g1, 6, none⟩ = some (.slice none 0 0) := k1.cell 6
  have y7 : va.cell? ⟨g1, 7, none⟩ = some (.slice none 0 0) := k1.cell 7
  have b0 : va.cell? ⟨g4, 0, none⟩ = some (.int .u64 1) := k4.cell 0
  have b1 : va.cell? ⟨g4, 1, none⟩ = some (.slice u4 0 uc4) := k4.cell 1
  have b2 : va.cell? ⟨g4, 2, none⟩ = some (.slice p4 1 pc4) := k4.cell 2
  have b3 : va.cell? ⟨g4, 3, none⟩ = some (.slice t4 tn4 tc4) := k4.cell 3
  have c0 : va.cell? ⟨g6, 0, none⟩ = some (.int .u64 1) := k6.cell 0
  have c1 : va.cell? ⟨g6, 1, none⟩ = some (.slice u6 1 uc6) := k6.cell 1
  have c2 : va.cell? ⟨g6, 2, none⟩ = some (.slice p6 0 pc6) := k6.cell 2
  have c3 : va.cell? ⟨g6, 3, none⟩ = some (.slice t6 0 tc6) := k6.cell 3
  go_wp2_with fail
  refine ht.mono ?_
  clear ht
  rintro e vb ⟨rfl, hbw⟩
  clear y0 y1 y2 y3 y4 y5 y6 y7
  clear b0 b1 b2 b3
  clear c0 c1 c2 c3
  replace k1 := k1.keep hbw
  replace k4 := k4.keep hbw
  replace ra4 := PM.OR.keep PM.enO_lasts hbw ra4
  replace rb4 := PM.OR.keep PM.enO_lasts hbw rb4
  replace rc4 := rc4.keep hbw
  replace k6 := k6.keep hbw
  replace ra6 := PM.OR.keep PM.enO_lasts hbw ra6
  replace rb6 := PM.OR.keep PM.enO_lasts hbw rb6
  replace rc6 := rc6.keep hbw
  replace hBB := PM.hid (PM.chain hBB.out hbw)
  clear hbw
  have ht := promS_any 1 u6 1 uc6 p6 0 pc6 t6 0 tc6 ⟨1, 1, 1⟩ _ vb (PM.OR.enl rb6)
  rw [show PM.hasE PM.SC.ps ⟨1, 1, 1⟩ = false from by decide] at ht
  have y0 : vb.cell? ⟨g1, 0, none⟩ = some (.int .i64 3) := k1.cell 0
  have y1 : vb.cell? ⟨g1, 1, none⟩ = some (.int .i64 1) := k1.cell 1
  have y2 : vb.cell? ⟨g1, 2, none⟩ = some (.int .u64 1) := k1.cell 2
  have y3 : vb.cell? ⟨g1, 3, none⟩ = some (.int .u64 1) := k1.cell 3
  have y4 : vb.cell? ⟨g1, 4, none⟩ = some (.int .i64 0) := k1.cell 4
  have y5 : vb.cell? ⟨g1, 5, none⟩ = some (.int .u64 0) := k1.cell 5
  have y6 : vb.cell? ⟨g1, 6, none⟩ = some (.slice none 0 0) := k1.cell 6
  have y7 : vb.cell? ⟨g1, 7, none⟩ = some (.slice none 0 0) := k1.cell 7
  have b0 : vb.cell? ⟨g4, 0, none⟩ = some (.int .u64 1) := k4.cell 0
  have b1 : vb.cell? ⟨g4, 1, none⟩ = some (.slice u4 0 uc4) := k4.cell 1
  have b2 : vb.cell? ⟨g4, 2, none⟩ = some (.slice p4 1 pc4) := k4.cell 2
  have b3 : vb.cell? ⟨g4, 3, none⟩ = some (.slice t4 tn4 tc4) := k4.cell 3
  have c0 : vb.cell? ⟨g6, 0, none⟩ = some (.int .u64 1) := k6.cell 0
  have c1 : vb.cell? ⟨g6, 1, none⟩ = some (.slice u6 1 uc6) := k6.cell 1
  have c2 : vb.cell? ⟨g6, 2, none⟩ = some (.slice p6 0 pc6) := k6.cell 2
  have c3 : vb.cell? ⟨g6, 3, none⟩ = some (.slice t6 0 tc6) := k6.cell 3
  go_wp2_with fail
  refine ht.mono ?_
  clear ht
  rintro e vc ⟨rfl, hbw⟩
  clear y0 y1 y2 y3 y4 y5 y6 y7
  clear b0 b1 b2 b3
  clear c0 c1 c2 c3
  replace k1 := k1.keep hbw
  replace k4 := k4.keep hbw
  replace ra4 := PM.OR.keep PM.enO_lasts hbw ra4
  replace rb4 := PM.OR.keep PM.enO_lasts hbw rb4
  replace rc4 := rc4.keep hbw
  replace k6 := k6.keep hbw
  replace ra6 := PM.OR.keep PM.enO_lasts hbw ra6
  replace rb6 := PM.OR.keep PM.enO_lasts hbw rb6
  replace rc6 := rc6.keep hbw
  replace hBB := PM.hid (PM.chain hBB.out hbw)
  clear hbw
  have ht := abortS_any 1 u6 1 uc6 p6 0 pc6 t6 0 tc6 ⟨1, 1, 1⟩ _ vc (rc6.em PM.idL_len)
  rw [show PM.hasI PM.SC.ab ⟨1, 1, 1⟩ = false from by decide] at ht
  have y0 : vc.cell? ⟨g1, 0, none⟩ = some (.int .i64 3) := k1.cell 0
  have y1 : vc.cell? ⟨g1, 1, none⟩ = some (.int .i64 1) := k1.cell 1
  have y2 : vc.cell? ⟨g1, 2, none⟩ = some (.int .u64 1) := k1.cell 2
  have y3 : vc.cell? ⟨g1, 3, none⟩ = some (.int .u64 1) := k1.cell 3
  have y4 : vc.cell? ⟨g1, 4, none⟩ = some (.int .i64 0) := k1.cell 4
  have y5 : vc.cell? ⟨g1, 5, none⟩ = some (.int .u64 0) := k1.cell 5
  have y6 : vc.cell? ⟨g1, 6, none⟩ = some (.slice none 0 0) := k1.cell 6
  have y7 : vc.cell? ⟨g1, 7, none⟩ = some (.slice none 0 0) := k1.cell 7
  have b0 : vc.cell? ⟨g4, 0, none⟩ = some (.int .u64 1) := k4.cell 0
  have b1 : vc.cell? ⟨g4, 1, none⟩ = some (.slice u4 0 uc4) := k4.cell 1
  have b2 : vc.cell? ⟨g4, 2, none⟩ = some (.slice p4 1 pc4) := k4.cell 2
  have b3 : vc.cell? ⟨g4, 3, none⟩ = some (.slice t4 tn4 tc4) := k4.cell 3
  have c0 : vc.cell? ⟨g6, 0, none⟩ = some (.int .u64 1) := k6.cell 0
  have c1 : vc.cell? ⟨g6, 1, none⟩ = some (.slice u6 1 uc6) := k6.cell 1
  have c2 : vc.cell? ⟨g6, 2, none⟩ = some (.slice p6 0 pc6) := k6.cell 2
  have c3 : vc.cell? ⟨g6, 3, none⟩ = some (.slice t6 0 tc6) := k6.cell 3
  go_wp2_with fail
  refine ht.mono ?_
  clear ht
  rintro e vd ⟨rfl, hbw⟩
  clear y0 y1 y2 y3 y4 y5 y6 y7
  clear b0 b1 b2 b3
  clear c0 c1 c2 c3
  replace hBB := PM.hid (PM.chain hBB.out hbw)
  clear hbw k1 k4 k6 ra4 rb4 rc4 ra6 rb6 rc6
  go_wp2_with fail
  go_ret
  exact ⟨by first | rfl | simp, hBB.out⟩
end Go.Proofs.Ytphdadlpfjfeoaa
