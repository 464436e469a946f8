/-
  AWAKE OF LAYER 19.
-/
import Derived.Test.YtlijmmldfdmajaaOe
import Derived.Test.YtlijmmldfdmajaaJA
namespace Go.Proofs.Ytlijmmldfdmajaa
open Go.RowKit
set_option linter.unusedVariables false
set_option linter.unusedSimpArgs false
namespace PM
def XA : En := ⟨1, ⟨0, 0, 1⟩, 0, 0, [], []⟩
def YA : En := ⟨2, ⟨0, 0, 2⟩, 0, 0, [], []⟩
def KA : Ms := ⟨0, 0, [⟨⟨0, 0, 1⟩, true⟩, ⟨⟨0, 0, 2⟩, false⟩], [], [], [], [], []⟩
theorem EnL.litB (W : World) (E : TypeId) (ls : List En) (hb : ∀ x ∈ ls, x.fil = [] ∧ x.evs = []) (n : Nat) (hn : n = ls.length) (hmax : ls.length ≤ maxLen) (cs : Array Value) (hcs : cs = ((ls.map fun x => enCe x none 0 0 none 0 0).flatMap ceL).toArray) : EnL (W.alloc (.cells cs E)) (.slice (some ⟨W.heap.size, 0, none⟩) n n) ls :=
  RR.litsW enR_lasts W E (ls.map fun x => enCe x none 0 0 none 0 0) ls n cs hcs hn (by simp) hmax (fun i c0 x h1 h2 => by
    rw [List.getElem?_map, h2] at h1
    simp at h1
    subst h1
    obtain ⟨h3, h4⟩ := hb x (List.mem_of_getElem? h2)
    exact ⟨_, _, rfl, by rw [h3]; exact EM.nil _, by rw [h4]; exact RR.nil _⟩)
def msCe (x : Ms) (a0 : Option Addr) (n0 c0 : Nat) (a1 : Option Addr) (n1 c1 : Nat) (a2 : Option Addr) (n2 c2 : Nat) (a3 : Option Addr) (n3 c3 : Nat) (a4 : Option Addr) (n4 c4 : Nat) (a5 : Option Addr) (n5 c5 : Nat) : Ce 8 :=
  ⟨msC x (.slice a0 n0 c0) (.slice a1 n1 c1) (.slice a2 n2 c2) (.slice a3 n3 c3) (.slice a4 n4 c4) (.slice a5 n5 c5), rfl, by
    intro u hu
    simp only [msC, List.mem_cons, List.not_mem_nil, or_false] at hu
    rcases hu with rfl | rfl | rfl | rfl | rfl | rfl | rfl | rfl <;> rfl⟩
theorem MsL.litA (W : World) (E : TypeId) {a : Option Addr} (h : EM voL 4 W (.slice a 2 2) KA.votes) : MsL (W.alloc (.cells #[.int .i64 0, .int .u64 0, .slice a 2 2, .slice none 0 0, .slice none 0 0, .slice none 0 0, .slice none 0 0, .slice none 0 0] E)) (.slice (some ⟨W.heap.size, 0, none⟩) 1 1) [KA] :=
  RR.lit1 msR_lasts W E (msCe KA a 2 2 none 0 0 none 0 0 none 0 0 none 0 0 none 0 0) KA _ rfl ⟨_, _, _, _, _, _, rfl, h, RR.nil _, RR.nil _, RR.nil _, EM.nil _, EM.nil _⟩
/-- the name of the one entry of a row -/
theorem OR.one {TT TA TE E : TypeId} {B B' : Nat} {w : World} {v : Value} {x : En} (h : OR (enO TT TA TE B) 8 E B' w v [x]) : ∃ b off c, v = .slice (some ⟨b, off, none⟩) 1 c ∧ w.cell? ⟨b, off + 1, none⟩ = some (.int .i64 x.id.br) ∧ w.cell? ⟨b, off + 2, none⟩ = some (.int .u64 (x.id.life : Int)) ∧ w.cell? ⟨b, off + 3, none⟩ = some (.int .u64 (x.id.ser : Int)) := by
  obtain ⟨a, c, rfl⟩ := h.rr.len
  obtain ⟨b, off, rfl, hce⟩ := RR.opn h.rr (by simp)
  obtain ⟨cs, hl, fv, ev, hcs, _⟩ := hce 0 x rfl
  rw [hcs] at hl
  simp only [Nat.zero_mul, Nat.add_zero] at hl
  exact ⟨b, off, c, rfl, hl 1 _ rfl, hl 2 _ rfl, hl 3 _ rfl⟩
theorem EM.one {w : World} {v : Value} {x : Id} (h : EM idL 3 w v [x]) : ∃ b off c, v = .slice (some ⟨b, off, none⟩) 1 c ∧ w.cell? ⟨b, off, none⟩ = some (.int .i64 x.br) ∧ w.cell? ⟨b, off + 1, none⟩ = some (.int .u64 (x.life : Int)) ∧ w.cell? ⟨b, off + 2, none⟩ = some (.int .u64 (x.ser : Int)) := by
  obtain ⟨b, off, c, hv, _, _, hl⟩ := EM.open1 h (by simp)
  have h0 := hl 0 x rfl
  simp only [Nat.zero_mul, Nat.add_zero] at h0
  exact ⟨b, off, c, hv, h0 0 _ rfl, h0 1 _ rfl, h0 2 _ rfl⟩

theorem EnsS.bare {l : List En} (hl : l.length ≤ 1000) (h : ∀ x ∈ l, x.fil = [] ∧ x.evs = []) : EnsS l := ⟨hl, fun x hx => by
  obtain ⟨h1, h2⟩ := h x hx
  exact ⟨by rw [h1]; simp, by rw [h2]; simp, by rw [h2]; simp⟩⟩
theorem bareXYX : ∀ x ∈ [XA, YA, XA], x.fil = [] ∧ x.evs = [] := by simp [XA, YA]
theorem bareYXX : ∀ x ∈ [YA, XA, XA], x.fil = [] ∧ x.evs = [] := by simp [XA, YA]
theorem bareXY : ∀ x ∈ [XA, YA], x.fil = [] ∧ x.evs = [] := by simp [XA, YA]
end PM
set_option maxRecDepth 100000 in
set_option maxHeartbeats 16000000 in
theorem awake19_any (w : World) : Calls Try.prog 8 #[] w fun e w' => e = .returned (.bool true) ∧ Below w.heap.size w w' := by
  go_enter Try.func8, Try.ntmps8
  obtain ⟨g1, hg1⟩ : ∃ g, g = w.heap.size := ⟨_, rfl⟩
  obtain ⟨w1, hw1⟩ : ∃ W, W = w.alloc (.cells #[.int .i64 1, .int .i64 0, .int .u64 0, .int .u64 1, .int .i64 0, .int .u64 0, .slice none 0 0, .slice none 0 0] 38) := ⟨_, rfl⟩
  have hbw1 : Below w.heap.size w w1 := by rw [hw1]; exact (Below.refl _ _).alloc (Nat.le_refl _) _
  have k1 : PM.BK w1 g1 #[.int .i64 1, .int .i64 0, .int .u64 0, .int .u64 1, .int .i64 0, .int .u64 0, .slice none 0 0, .slice none 0 0] 38 := by rw [hw1, hg1]; exact PM.BK.new _ _ _
  go_upto_region 2 with fail
  rw [← hw1, ← hg1]
  clear hw1 hg1
  have hBB := PM.hid hbw1
  clear hbw1
  obtain ⟨g2, hg2⟩ : ∃ g, g = w1.heap.size := ⟨_, rfl⟩
  obtain ⟨w2, hw2⟩ : ∃ W, W = w1.alloc (.cells #[.int .i64 2, .int .i64 0, .int .u64 0, .int .u64 2, .int .i64 0, .int .u64 0, .slice none 0 0, .slice none 0 0] 38) := ⟨_, rfl⟩
  have hbw2 : Below w1.heap.size w1 w2 := by rw [hw2]; exact (Below.refl _ _).alloc (Nat.le_refl _) _
  have k2 : PM.BK w2 g2 #[.int .i64 2, .int .i64 0, .int .u64 0, .int .u64 2, .int .i64 0, .int .u64 0, .slice none 0 0, .slice none 0 0] 38 := by rw [hw2, hg2]; exact PM.BK.new _ _ _
  go_upto_region 3 with fail
  rw [← hw2, ← hg2]
  clear hw2 hg2
  replace k1 := k1.keep hbw2
  replace hBB := PM.hid (PM.chain hBB.out hbw2)
  clear hbw2
  obtain ⟨g3, hg3⟩ : ∃ g, g = w2.heap.size := ⟨_, rfl⟩
  obtain ⟨w3, hw3⟩ : ∃ W, W = w2.alloc (.cells #[.int .i64 1, .int .i64 0, .int .u64 0, .int .u64 1, .int .i64 0, .int .u64 0, .slice none 0 0, .slice none 0 0, .int .i64 2, .int .i64 0, .int .u64 0, .int .u64 2, .int .i64 0, .int .u64 0, .slice none 0 0, .slice none 0 0, .int .i64 1, .int .i64 0, .int .u64 0, .int .u64 1, .int .i64 0, .int .u64 0, .slice none 0 0, .slice none 0 0] 38) := ⟨_, rfl⟩
  have hbw3 : Below w2.heap.size w2 w3 := by rw [hw3]; exact (Below.refl _ _).alloc (Nat.le_refl _) _
  have ew3 : PM.EnL w3 (.slice (some ⟨g3, 0, none⟩) 3 3) [PM.XA, PM.YA, PM.XA] := by rw [hw3, hg3]; exact PM.EnL.litB _ _ [PM.XA, PM.YA, PM.XA] PM.bareXYX 3 rfl (show 3 ≤ maxLen from by decide) _ rfl
  have ha := admit_any 0 none 0 0 none 0 0 none 0 0 (.slice none 0 0) _ [] [] [] [PM.XA, PM.YA, PM.XA] [] w3 ⟨PM.RR.nil _, PM.RR.nil _, PM.EM.nil _⟩ (PM.RR.nil _) ew3 (PM.EnsS.bare (by simp) (by simp)) (PM.EnsS.bare (by simp) PM.bareXYX)
  rw [show PM.adm (fun i => PM.hasE [] i || PM.hasI [] i) [] [PM.XA, PM.YA, PM.XA] = ([PM.XA], [PM.YA]) from by rfl] at ha
  have x0 : w2.cell? ⟨g1, 0, none⟩ = some (.int .i64 1) := k1.cell 0
  have x1 : w2.cell? ⟨g1, 1, none⟩ = some (.int .i64 0) := k1.cell 1
  have x2 : w2.cell? ⟨g1, 2, none⟩ = some (.int .u64 0) := k1.cell 2
  have x3 : w2.cell? ⟨g1, 3, none⟩ = some (.int .u64 1) := k1.cell 3
  have x4 : w2.cell? ⟨g1, 4, none⟩ = some (.int .i64 0) := k1.cell 4
  have x5 : w2.cell? ⟨g1, 5, none⟩ = some (.int .u64 0) := k1.cell 5
  have x6 : w2.cell? ⟨g1, 6, none⟩ = some (.slice none 0 0) := k1.cell 6
  have x7 : w2.cell? ⟨g1, 7, none⟩ = some (.slice none 0 0) := k1.cell 7
  have y0 : w2.cell? ⟨g2, 0, none⟩ = some (.int .i64 2) := k2.cell 0
  have y1 : w2.cell? ⟨g2, 1, none⟩ = some (.int .i64 0) := k2.cell 1
  have y2 : w2.cell? ⟨g2, 2, none⟩ = some (.int .u64 0) := k2.cell 2
  have y3 : w2.cell? ⟨g2, 3, none⟩ = some (.int .u64 2) := k2.cell 3
  have y4 : w2.cell? ⟨g2, 4, none⟩ = some (.int .i64 0) := k2.cell 4
  have y5 : w2.cell? ⟨g2, 5, none⟩ = some (.int .u64 0) := k2.cell 5
  have y6 : w2.cell? ⟨g2, 6, none⟩ = some (.slice none 0 0) := k2.cell 6
  have y7 : w2.cell? ⟨g2, 7, none⟩ = some (.slice none 0 0) := k2.cell 7
  go_wp2_with fail
  rw [← hw3, ← hg3]
  refine ha.mono ?_
  clear ha
  rintro e w4 ⟨u3, u4, rfl, hu3, hu4, hBn⟩
  clear x0 x1 x2 x3 x4 x5 x6 x7
  clear y0 y1 y2 y3 y4 y5 y6 y7
  have hbw := PM.chain hbw3 hBn
  clear hbw3 hBn hw3 hg3 ew3
  replace k1 := k1.keep hbw
  replace k2 := k2.keep hbw
  replace hBB := PM.hid (PM.chain hBB.out hbw)
  clear hbw
  obtain ⟨b3, o3, c3, rfl, r31, r32, r33⟩ := PM.OR.one hu3
  obtain ⟨b4, o4, c4, rfl, r41, r42, r43⟩ := PM.OR.one hu4
  clear hu3 hu4
  simp only [PM.XA, PM.YA] at r31 r32 r33 r41 r42 r43
  obtain ⟨g5, hg5⟩ : ∃ g, g = w4.heap.size := ⟨_, rfl⟩
  obtain ⟨w5, hw5⟩ : ∃ W, W = w4.alloc (.cells #[.int .i64 1, .int .i64 0, .int .u64 0, .int .u64 1, .int .i64 0, .int .u64 0, .slice none 0 0, .slice none 0 0, .int .i64 2, .int .i64 0, .int .u64 0, .int .u64 2, .int .i64 0, .int .u64 0, .slice none 0 0, .slice none 0 0] 38) := ⟨_, rfl⟩
  have hbw5 : Below w4.heap.size w4 w5 := by rw [hw5]; exact (Below.refl _ _).alloc (Nat.le_refl _) _
  obtain ⟨g6, hg6⟩ : ∃ g, g = w5.heap.size := ⟨_, rfl⟩
  obtain ⟨w6, hw6⟩ : ∃ W, W = w5.alloc (.cells #[.int .i64 0, .int .u64 0, .int .u64 1, .bool true, .int .i64 0, .int .u64 0, .int .u64 2, .bool false] 51) := ⟨_, rfl⟩
  have hbw6 : Below w5.heap.size w5 w6 := by rw [hw6]; exact (Below.refl _ _).alloc (Nat.le_refl _) _
  obtain ⟨g7, hg7⟩ : ∃ g, g = w6.heap.size := ⟨_, rfl⟩
  obtain ⟨w7, hw7⟩ : ∃ W, W = w6.alloc (.cells #[.int .i64 0, .int .u64 0, .slice (some ⟨g6, 0, none⟩) 2 2, .slice none 0 0, .slice none 0 0, .slice none 0 0, .slice none 0 0, .slice none 0 0] 54) := ⟨_, rfl⟩
  have hbw7 : Below w6.heap.size w6 w7 := by rw [hw7]; exact (Below.refl _ _).alloc (Nat.le_refl _) _
  have ew5 : PM.EnL w5 (.slice (some ⟨g5, 0, none⟩) 2 2) [PM.XA, PM.YA] := by rw [hw5, hg5]; exact PM.EnL.litB _ _ [PM.XA, PM.YA] PM.bareXY 2 rfl (show 2 ≤ maxLen from by decide) _ rfl
  have s5 : w5.heap.size = w4.heap.size + 1 := by rw [hw5]; simp
  have s6 : w6.heap.size = w4.heap.size + 1 + 1 := by rw [hw6]; simp [s5]
  have e6 : PM.EM PM.voL 4 w6 (.slice (some ⟨g6, 0, none⟩) 2 2) PM.KA.votes := by rw [hw6, hg6]; exact PM.EM.litsW PM.voL_len _ _ PM.KA.votes 2 rfl (show 2 ≤ maxLen from by decide) _ rfl
  have e7 : PM.MsL w7 (.slice (some ⟨g7, 0, none⟩) 1 1) [PM.KA] := by rw [hw7, hg7]; exact PM.MsL.litA w6 _ e6
  have ht := decide_any _ _ [PM.XA, PM.YA] [PM.KA] w7 (PM.EnL.keep (PM.EnL.keep ew5 hbw6) hbw7) e7 (PM.EnsS.bare (by simp) PM.bareXY)
  rw [show PM.yesL [PM.KA] [PM.XA, PM.YA] = [PM.XA] from by rfl, show PM.noL [PM.KA] [PM.XA, PM.YA] = [⟨0, 0, 2⟩] from by decide, show PM.restL [PM.KA] [PM.XA, PM.YA] = [] from by rfl] at ht
  rw [hg5, hg7, s6, hw7, hg6, s5, hw6, hw5] at ht
  have hc7 := PM.hid (PM.chain (PM.chain hbw5 hbw6) hbw7)
  have x0 : w4.cell? ⟨g1, 0, none⟩ = some (.int .i64 1) := k1.cell 0
  have x1 : w4.cell? ⟨g1, 1, none⟩ = some (.int .i64 0) := k1.cell 1
  have x2 : w4.cell? ⟨g1, 2, none⟩ = some (.int .u64 0) := k1.cell 2
  have x3 : w4.cell? ⟨g1, 3, none⟩ = some (.int .u64 1) := k1.cell 3
  have x4 : w4.cell? ⟨g1, 4, none⟩ = some (.int .i64 0) := k1.cell 4
  have x5 : w4.cell? ⟨g1, 5, none⟩ = some (.int .u64 0) := k1.cell 5
  have x6 : w4.cell? ⟨g1, 6, none⟩ = some (.slice none 0 0) := k1.cell 6
  have x7 : w4.cell? ⟨g1, 7, none⟩ = some (.slice none 0 0) := k1.cell 7
  have y0 : w4.cell? ⟨g2, 0, none⟩ = some (.int .i64 2) := k2.cell 0
  have y1 : w4.cell? ⟨g2, 1, none⟩ = some (.int .i64 0) := k2.cell 1
  have y2 : w4.cell? ⟨g2, 2, none⟩ = some (.int .u64 0) := k2.cell 2
  have y3 : w4.cell? ⟨g2, 3, none⟩ = some (.int .u64 2) := k2.cell 3
  have y4 : w4.cell? ⟨g2, 4, none⟩ = some (.int .i64 0) := k2.cell 4
  have y5 : w4.cell? ⟨g2, 5, none⟩ = some (.int .u64 0) := k2.cell 5
  have y6 : w4.cell? ⟨g2, 6, none⟩ = some (.slice none 0 0) := k2.cell 6
  have y7 : w4.cell? ⟨g2, 7, none⟩ = some (.slice none 0 0) := k2.cell 7
  have hww : Hid (w7 = ((w4.alloc (.cells #[.int .i64 1, .int .i64 0, .int .u64 0, .int .u64 1, .int .i64 0, .int .u64 0, .slice none 0 0, .slice none 0 0, .int .i64 2, .int .i64 0, .int .u64 0, .int .u64 2, .int .i64 0, .int .u64 0, .slice none 0 0, .slice none 0 0] 38)).alloc (.cells #[.int .i64 0, .int .u64 0, .int .u64 1, .bool true, .int .i64 0, .int .u64 0, .int .u64 2, .bool false] 51)).alloc (.cells #[.int .i64 0, .int .u64 0, .slice (some ⟨w4.heap.size + 1, 0, none⟩) 2 2, .slice none 0 0, .slice none 0 0, .slice none 0 0, .slice none 0 0, .slice none 0 0] 54)) := PM.hid (by rw [hw7, hg6, s5, hw6, hw5])
  clear hbw5 hbw6 hbw7 ew5 e6 e7 s5 s6 hw5 hw6 hw7 hg5 hg6 hg7
  have x51 : ∀ o, (w4.alloc o).cell? ⟨g1, 1, none⟩ = some (.int .i64 0) := fun o => PM.cellA ((Below.refl _ _).alloc (Nat.le_refl _) o) x1
  have x52 : ∀ o, (w4.alloc o).cell? ⟨g1, 2, none⟩ = some (.int .u64 0) := fun o => PM.cellA ((Below.refl _ _).alloc (Nat.le_refl _) o) x2
  have x53 : ∀ o, (w4.alloc o).cell? ⟨g1, 3, none⟩ = some (.int .u64 1) := fun o => PM.cellA ((Below.refl _ _).alloc (Nat.le_refl _) o) x3
  have y51 : ∀ o, (w4.alloc o).cell? ⟨g2, 1, none⟩ = some (.int .i64 0) := fun o => PM.cellA ((Below.refl _ _).alloc (Nat.le_refl _) o) y1
  have y52 : ∀ o, (w4.alloc o).cell? ⟨g2, 2, none⟩ = some (.int .u64 0) := fun o => PM.cellA ((Below.refl _ _).alloc (Nat.le_refl _) o) y2
  have y53 : ∀ o, (w4.alloc o).cell? ⟨g2, 3, none⟩ = some (.int .u64 2) := fun o => PM.cellA ((Below.refl _ _).alloc (Nat.le_refl _) o) y3
  go_wp2_with fail
  refine ht.mono ?_
  clear ht
  rintro e w8 ⟨u5, u6, u7, rfl, hu5, hu6, hu7, hBn⟩
  rw [← hww.out] at hBn
  clear x0 x1 x2 x3 x4 x5 x6 x7
  clear y0 y1 y2 y3 y4 y5 y6 y7
  clear x51 x52 x53 y51 y52 y53
  have hbw := PM.chain hc7.out hBn
  clear hBn hww hc7
  replace k1 := k1.keep hbw
  replace k2 := k2.keep hbw
  replace r31 := PM.cellA hbw r31
  replace r32 := PM.cellA hbw r32
  replace r33 := PM.cellA hbw r33
  replace r41 := PM.cellA hbw r41
  replace r42 := PM.cellA hbw r42
  replace r43 := PM.cellA hbw r43
  replace hBB := PM.hid (PM.chain hBB.out hbw)
  clear hbw
  obtain ⟨b5, o5, c5, rfl, r51, r52, r53⟩ := PM.OR.one hu5
  obtain ⟨b6, o6, c6, rfl, r61, r62, r63⟩ := PM.EM.one (hu6.em PM.idL_len)
  obtain ⟨a7, c7, rfl⟩ := hu7.rr.len
  clear hu5 hu6 hu7 w7
  simp only [PM.XA, PM.YA] at r51 r52 r53
  simp only [] at r61 r62 r63
  obtain ⟨g9, hg9⟩ : ∃ g, g = w8.heap.size := ⟨_, rfl⟩
  obtain ⟨w9, hw9⟩ : ∃ W, W = w8.alloc (.cells #[.int .i64 0, .int .u64 0, .int .u64 1] 33) := ⟨_, rfl⟩
  have hbw9 : Below w8.heap.size w8 w9 := by rw [hw9]; exact (Below.refl _ _).alloc (Nat.le_refl _) _
  obtain ⟨ga, hga⟩ : ∃ g, g = w9.heap.size := ⟨_, rfl⟩
  obtain ⟨wa, hwa⟩ : ∃ W, W = w9.alloc (.cells #[.int .i64 2, .int .i64 0, .int .u64 0, .int .u64 2, .int .i64 0, .int .u64 0, .slice none 0 0, .slice none 0 0, .int .i64 1, .int .i64 0, .int .u64 0, .int .u64 1, .int .i64 0, .int .u64 0, .slice none 0 0, .slice none 0 0, .int .i64 1, .int .i64 0, .int .u64 0, .int .u64 1, .int .i64 0, .int .u64 0, .slice none 0 0, .slice none 0 0] 38) := ⟨_, rfl⟩
  have hbwa : Below w9.heap.size w9 wa := by rw [hwa]; exact (Below.refl _ _).alloc (Nat.le_refl _) _
  have ewa : PM.EnL wa (.slice (some ⟨ga, 0, none⟩) 3 3) [PM.YA, PM.XA, PM.XA] := by rw [hwa, hga]; exact PM.EnL.litB _ _ [PM.YA, PM.XA, PM.XA] PM.bareYXX 3 rfl (show 3 ≤ maxLen from by decide) _ rfl
  have s9 : w9.heap.size = w8.heap.size + 1 := by rw [hw9]; simp
  have e9 : PM.EM PM.idL 3 w9 (.slice (some ⟨g9, 0, none⟩) 1 1) [⟨0, 0, 1⟩] := by rw [hw9, hg9]; exact PM.EM.litsW PM.idL_len _ _ [⟨0, 0, 1⟩] 1 rfl (show 1 ≤ maxLen from by decide) _ rfl
  have ht := told_any _ _ [⟨0, 0, 1⟩] [PM.YA, PM.XA, PM.XA] wa (e9.keep hbwa) ewa
  rw [show PM.toldL [⟨0, 0, 1⟩] [PM.YA, PM.XA, PM.XA] = [⟨0, 0, 1⟩] from by decide] at ht
  rw [hg9, hga, s9, hwa, hw9] at ht
  have hc7 := PM.hid (PM.chain hbw9 hbwa)
  have x0 : w8.cell? ⟨g1, 0, none⟩ = some (.int .i64 1) := k1.cell 0
  have x1 : w8.cell? ⟨g1, 1, none⟩ = some (.int .i64 0) := k1.cell 1
  have x2 : w8.cell? ⟨g1, 2, none⟩ = some (.int .u64 0) := k1.cell 2
  have x3 : w8.cell? ⟨g1, 3, none⟩ = some (.int .u64 1) := k1.cell 3
  have x4 : w8.cell? ⟨g1, 4, none⟩ = some (.int .i64 0) := k1.cell 4
  have x5 : w8.cell? ⟨g1, 5, none⟩ = some (.int .u64 0) := k1.cell 5
  have x6 : w8.cell? ⟨g1, 6, none⟩ = some (.slice none 0 0) := k1.cell 6
  have x7 : w8.cell? ⟨g1, 7, none⟩ = some (.slice none 0 0) := k1.cell 7
  have y0 : w8.cell? ⟨g2, 0, none⟩ = some (.int .i64 2) := k2.cell 0
  have y1 : w8.cell? ⟨g2, 1, none⟩ = some (.int .i64 0) := k2.cell 1
  have y2 : w8.cell? ⟨g2, 2, none⟩ = some (.int .u64 0) := k2.cell 2
  have y3 : w8.cell? ⟨g2, 3, none⟩ = some (.int .u64 2) := k2.cell 3
  have y4 : w8.cell? ⟨g2, 4, none⟩ = some (.int .i64 0) := k2.cell 4
  have y5 : w8.cell? ⟨g2, 5, none⟩ = some (.int .u64 0) := k2.cell 5
  have y6 : w8.cell? ⟨g2, 6, none⟩ = some (.slice none 0 0) := k2.cell 6
  have y7 : w8.cell? ⟨g2, 7, none⟩ = some (.slice none 0 0) := k2.cell 7
  have hww : Hid (wa = (w8.alloc (.cells #[.int .i64 0, .int .u64 0, .int .u64 1] 33)).alloc (.cells #[.int .i64 2, .int .i64 0, .int .u64 0, .int .u64 2, .int .i64 0, .int .u64 0, .slice none 0 0, .slice none 0 0, .int .i64 1, .int .i64 0, .int .u64 0, .int .u64 1, .int .i64 0, .int .u64 0, .slice none 0 0, .slice none 0 0, .int .i64 1, .int .i64 0, .int .u64 0, .int .u64 1, .int .i64 0, .int .u64 0, .slice none 0 0, .slice none 0 0] 38)) := PM.hid (by rw [hwa, hw9])
  clear hbw9 hbwa ewa e9 s9 hw9 hwa hg9 hga
  have x50 : ∀ o, (w8.alloc o).cell? ⟨g1, 0, none⟩ = some (.int .i64 1) := fun o => PM.cellA ((Below.refl _ _).alloc (Nat.le_refl _) o) x0
  have x51 : ∀ o, (w8.alloc o).cell? ⟨g1, 1, none⟩ = some (.int .i64 0) := fun o => PM.cellA ((Below.refl _ _).alloc (Nat.le_refl _) o) x1
  have x52 : ∀ o, (w8.alloc o).cell? ⟨g1, 2, none⟩ = some (.int .u64 0) := fun o => PM.cellA ((Below.refl _ _).alloc (Nat.le_refl _) o) x2
  have x53 : ∀ o, (w8.alloc o).cell? ⟨g1, 3, none⟩ = some (.int .u64 1) := fun o => PM.cellA ((Below.refl _ _).alloc (Nat.le_refl _) o) x3
  have x54 : ∀ o, (w8.alloc o).cell? ⟨g1, 4, none⟩ = some (.int .i64 0) := fun o => PM.cellA ((Below.refl _ _).alloc (Nat.le_refl _) o) x4
  have x55 : ∀ o, (w8.alloc o).cell? ⟨g1, 5, none⟩ = some (.int .u64 0) := fun o => PM.cellA ((Below.refl _ _).alloc (Nat.le_refl _) o) x5
  have x56 : ∀ o, (w8.alloc o).cell? ⟨g1, 6, none⟩ = some (.slice none 0 0) := fun o => PM.cellA ((Below.refl _ _).alloc (Nat.le_refl _) o) x6
  have x57 : ∀ o, (w8.alloc o).cell? ⟨g1, 7, none⟩ = some (.slice none 0 0) := fun o => PM.cellA ((Below.refl _ _).alloc (Nat.le_refl _) o) x7
  have y50 : ∀ o, (w8.alloc o).cell? ⟨g2, 0, none⟩ = some (.int .i64 2) := fun o => PM.cellA ((Below.refl _ _).alloc (Nat.le_refl _) o) y0
  have y51 : ∀ o, (w8.alloc o).cell? ⟨g2, 1, none⟩ = some (.int .i64 0) := fun o => PM.cellA ((Below.refl _ _).alloc (Nat.le_refl _) o) y1
  have y52 : ∀ o, (w8.alloc o).cell? ⟨g2, 2, none⟩ = some (.int .u64 0) := fun o => PM.cellA ((Below.refl _ _).alloc (Nat.le_refl _) o) y2
  have y53 : ∀ o, (w8.alloc o).cell? ⟨g2, 3, none⟩ = some (.int .u64 2) := fun o => PM.cellA ((Below.refl _ _).alloc (Nat.le_refl _) o) y3
  have y54 : ∀ o, (w8.alloc o).cell? ⟨g2, 4, none⟩ = some (.int .i64 0) := fun o => PM.cellA ((Below.refl _ _).alloc (Nat.le_refl _) o) y4
  have y55 : ∀ o, (w8.alloc o).cell? ⟨g2, 5, none⟩ = some (.int .u64 0) := fun o => PM.cellA ((Below.refl _ _).alloc (Nat.le_refl _) o) y5
  have y56 : ∀ o, (w8.alloc o).cell? ⟨g2, 6, none⟩ = some (.slice none 0 0) := fun o => PM.cellA ((Below.refl _ _).alloc (Nat.le_refl _) o) y6
  have y57 : ∀ o, (w8.alloc o).cell? ⟨g2, 7, none⟩ = some (.slice none 0 0) := fun o => PM.cellA ((Below.refl _ _).alloc (Nat.le_refl _) o) y7
  go_wp2_with fail
  refine ht.mono ?_
  clear ht
  rintro e wb ⟨u8, rfl, hu8, hBn⟩
  rw [← hww.out] at hBn
  clear x0 x1 x2 x3 x4 x5 x6 x7
  clear y0 y1 y2 y3 y4 y5 y6 y7
  clear x50 x51 x52 x53 x54 x55 x56 x57 y50 y51 y52 y53 y54 y55 y56 y57
  have hbw := PM.chain hc7.out hBn
  clear hBn hww hc7
  replace k1 := k1.keep hbw
  replace k2 := k2.keep hbw
  replace r31 := PM.cellA hbw r31
  replace r32 := PM.cellA hbw r32
  replace r33 := PM.cellA hbw r33
  replace r41 := PM.cellA hbw r41
  replace r42 := PM.cellA hbw r42
  replace r43 := PM.cellA hbw r43
  replace r51 := PM.cellA hbw r51
  replace r52 := PM.cellA hbw r52
  replace r53 := PM.cellA hbw r53
  replace r61 := PM.cellA hbw r61
  replace r62 := PM.cellA hbw r62
  replace r63 := PM.cellA hbw r63
  replace hBB := PM.hid (PM.chain hBB.out hbw)
  clear hbw
  obtain ⟨b8, o8, c8, rfl, r81, r82, r83⟩ := PM.EM.one (hu8.em PM.idL_len)
  clear hu8 wa
  simp only [] at r81 r82 r83
  obtain ⟨gc, hgc⟩ : ∃ g, g = wb.heap.size := ⟨_, rfl⟩
  obtain ⟨wc, hwc⟩ : ∃ W, W = wb.alloc (.cells #[.int .i64 1, .int .i64 0, .int .u64 0, .int .u64 1, .int .i64 0, .int .u64 0, .slice none 0 0, .slice none 0 0, .int .i64 2, .int .i64 0, .int .u64 0, .int .u64 2, .int .i64 0, .int .u64 0, .slice none 0 0, .slice none 0 0] 38) := ⟨_, rfl⟩
  have hbwc : Below wb.heap.size wb wc := by rw [hwc]; exact (Below.refl _ _).alloc (Nat.le_refl _) _
  have ewc : PM.EnL wc (.slice (some ⟨gc, 0, none⟩) 2 2) [PM.XA, PM.YA] := by rw [hwc, hgc]; exact PM.EnL.litB _ _ [PM.XA, PM.YA] PM.bareXY 2 rfl (show 2 ≤ maxLen from by decide) _ rfl
  have ht := from_any _ [PM.XA, PM.YA] 1 (by decide) wc ewc (PM.EnsS.bare (by simp) PM.bareXY)
  rw [show PM.fromL [PM.XA, PM.YA] 1 = [PM.YA] from by rfl] at ht
  have x0 : wb.cell? ⟨g1, 0, none⟩ = some (.int .i64 1) := k1.cell 0
  have x1 : wb.cell? ⟨g1, 1, none⟩ = some (.int .i64 0) := k1.cell 1
  have x2 : wb.cell? ⟨g1, 2, none⟩ = some (.int .u64 0) := k1.cell 2
  have x3 : wb.cell? ⟨g1, 3, none⟩ = some (.int .u64 1) := k1.cell 3
  have x4 : wb.cell? ⟨g1, 4, none⟩ = some (.int .i64 0) := k1.cell 4
  have x5 : wb.cell? ⟨g1, 5, none⟩ = some (.int .u64 0) := k1.cell 5
  have x6 : wb.cell? ⟨g1, 6, none⟩ = some (.slice none 0 0) := k1.cell 6
  have x7 : wb.cell? ⟨g1, 7, none⟩ = some (.slice none 0 0) := k1.cell 7
  have y0 : wb.cell? ⟨g2, 0, none⟩ = some (.int .i64 2) := k2.cell 0
  have y1 : wb.cell? ⟨g2, 1, none⟩ = some (.int .i64 0) := k2.cell 1
  have y2 : wb.cell? ⟨g2, 2, none⟩ = some (.int .u64 0) := k2.cell 2
  have y3 : wb.cell? ⟨g2, 3, none⟩ = some (.int .u64 2) := k2.cell 3
  have y4 : wb.cell? ⟨g2, 4, none⟩ = some (.int .i64 0) := k2.cell 4
  have y5 : wb.cell? ⟨g2, 5, none⟩ = some (.int .u64 0) := k2.cell 5
  have y6 : wb.cell? ⟨g2, 6, none⟩ = some (.slice none 0 0) := k2.cell 6
  have y7 : wb.cell? ⟨g2, 7, none⟩ = some (.slice none 0 0) := k2.cell 7
  go_wp2_with fail
  rw [← hwc, ← hgc]
  refine ht.mono ?_
  clear ht
  rintro e wd ⟨u9, rfl, hu9, hBn⟩
  clear x0 x1 x2 x3 x4 x5 x6 x7
  clear y0 y1 y2 y3 y4 y5 y6 y7
  have hbw := PM.chain hbwc hBn
  clear hbwc hBn hwc hgc ewc
  replace k1 := k1.keep hbw
  replace k2 := k2.keep hbw
  replace r31 := PM.cellA hbw r31
  replace r32 := PM.cellA hbw r32
  replace r33 := PM.cellA hbw r33
  replace r41 := PM.cellA hbw r41
  replace r42 := PM.cellA hbw r42
  replace r43 := PM.cellA hbw r43
  replace r51 := PM.cellA hbw r51
  replace r52 := PM.cellA hbw r52
  replace r53 := PM.cellA hbw r53
  replace r61 := PM.cellA hbw r61
  replace r62 := PM.cellA hbw r62
  replace r63 := PM.cellA hbw r63
  replace r81 := PM.cellA hbw r81
  replace r82 := PM.cellA hbw r82
  replace r83 := PM.cellA hbw r83
  replace hBB := PM.hid (PM.chain hBB.out hbw)
  clear hbw
  obtain ⟨b9, o9, c9, rfl, r91, r92, r93⟩ := PM.OR.one hu9
  clear hu9
  simp only [PM.XA, PM.YA] at r91 r92 r93
  have x0 : wd.cell? ⟨g1, 0, none⟩ = some (.int .i64 1) := k1.cell 0
  have x1 : wd.cell? ⟨g1, 1, none⟩ = some (.int .i64 0) := k1.cell 1
  have x2 : wd.cell? ⟨g1, 2, none⟩ = some (.int .u64 0) := k1.cell 2
  have x3 : wd.cell? ⟨g1, 3, none⟩ = some (.int .u64 1) := k1.cell 3
  have x4 : wd.cell? ⟨g1, 4, none⟩ = some (.int .i64 0) := k1.cell 4
  have x5 : wd.cell? ⟨g1, 5, none⟩ = some (.int .u64 0) := k1.cell 5
  have x6 : wd.cell? ⟨g1, 6, none⟩ = some (.slice none 0 0) := k1.cell 6
  have x7 : wd.cell? ⟨g1, 7, none⟩ = some (.slice none 0 0) := k1.cell 7
  have y0 : wd.cell? ⟨g2, 0, none⟩ = some (.int .i64 2) := k2.cell 0
  have y1 : wd.cell? ⟨g2, 1, none⟩ = some (.int .i64 0) := k2.cell 1
  have y2 : wd.cell? ⟨g2, 2, none⟩ = some (.int .u64 0) := k2.cell 2
  have y3 : wd.cell? ⟨g2, 3, none⟩ = some (.int .u64 2) := k2.cell 3
  have y4 : wd.cell? ⟨g2, 4, none⟩ = some (.int .i64 0) := k2.cell 4
  have y5 : wd.cell? ⟨g2, 5, none⟩ = some (.int .u64 0) := k2.cell 5
  have y6 : wd.cell? ⟨g2, 6, none⟩ = some (.slice none 0 0) := k2.cell 6
  have y7 : wd.cell? ⟨g2, 7, none⟩ = some (.slice none 0 0) := k2.cell 7
  simp only [List.length_nil]
  have q1 := ideq_run ⟨0, 0, 1⟩ ⟨0, 0, 1⟩
  have q2 := ideq_run ⟨0, 0, 2⟩ ⟨0, 0, 2⟩
  rw [decide_eq_true (rfl : (⟨0, 0, 1⟩ : PM.Id) = ⟨0, 0, 1⟩)] at q1
  rw [decide_eq_true (rfl : (⟨0, 0, 2⟩ : PM.Id) = ⟨0, 0, 2⟩)] at q2
  simp only [] at q1 q2
  clear k1 k2
  go_upto_region 9 with fail
  go_region
  all_goals (try go_wp2_with fail)
  all_goals go_ret
  all_goals exact ⟨by simp, hBB.out.drew⟩
end Go.Proofs.Ytlijmmldfdmajaa
