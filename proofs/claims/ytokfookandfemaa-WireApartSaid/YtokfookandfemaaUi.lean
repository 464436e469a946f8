/-
  CONTRACT of postilionref13.Same.
-/
import Derived.Test.YtokfookandfemaaUh
import Derived.Test.YtokfookandfemaaOi
import Derived.Test.YtokfookandfemaaUa
namespace Go.Proofs.Ytokfookandfemaa
open Go.RowKit
set_option linter.unusedVariables false
set_option linter.unusedSimpArgs false
set_option maxRecDepth 100000 in
set_option maxHeartbeats 16000000 in
theorem same13_any (x y : PM.Ms) (aa0 : Option Addr) (an0 ac0 : Nat) (aa1 : Option Addr) (an1 ac1 : Nat) (aa2 : Option Addr) (an2 ac2 : Nat) (aa3 : Option Addr) (an3 ac3 : Nat) (aa4 : Option Addr) (an4 ac4 : Nat) (aa5 : Option Addr) (an5 ac5 : Nat) (ba0 : Option Addr) (bn0 bc0 : Nat) (ba1 : Option Addr) (bn1 bc1 : Nat) (ba2 : Option Addr) (bn2 bc2 : Nat) (ba3 : Option Addr) (bn3 bc3 : Nat) (ba4 : Option Addr) (bn4 bc4 : Nat) (ba5 : Option Addr) (bn5 bc5 : Nat) (w : World) (hx : x.wf) (hy : y.wf) (hRx : PM.msR w (PM.msC x (.slice aa0 an0 ac0) (.slice aa1 an1 ac1) (.slice aa2 an2 ac2) (.slice aa3 an3 ac3) (.slice aa4 an4 ac4) (.slice aa5 an5 ac5)) x) (hRy : PM.msR w (PM.msC y (.slice ba0 bn0 bc0) (.slice ba1 bn1 bc1) (.slice ba2 bn2 bc2) (.slice ba3 bn3 bc3) (.slice ba4 bn4 bc4) (.slice ba5 bn5 bc5)) y) :
    Calls Try.prog 17 #[.agg #[.int .i64 x.kind, .int .u64 (x.hav : Int), .slice aa0 an0 ac0, .slice aa1 an1 ac1, .slice aa2 an2 ac2, .slice aa3 an3 ac3, .slice aa4 an4 ac4, .slice aa5 an5 ac5], .agg #[.int .i64 y.kind, .int .u64 (y.hav : Int), .slice ba0 bn0 bc0, .slice ba1 bn1 bc1, .slice ba2 bn2 bc2, .slice ba3 bn3 bc3, .slice ba4 bn4 bc4, .slice ba5 bn5 bc5]] w fun e w' => (e = .returned (.bool true) ∧ x = y ∨ e = .returned (.bool false) ∧ ¬ x = y) ∧ Below w.heap.size w w' := by
  obtain ⟨_, _, _, _, _, _, hcs, h0, h1, h2, h3, h4, h5⟩ := hRx
  unfold PM.msC at hcs
  simp only [List.cons.injEq, and_true, true_and] at hcs
  obtain ⟨rfl, rfl, rfl, rfl, rfl, rfl⟩ := hcs
  obtain ⟨_, _, _, _, _, _, hcs, i0, i1, i2, i3, i4, i5⟩ := hRy
  unfold PM.msC at hcs
  simp only [List.cons.injEq, and_true, true_and] at hcs
  obtain ⟨rfl, rfl, rfl, rfl, rfl, rfl⟩ := hcs
  obtain ⟨b0, hb0⟩ : ∃ b : Bool, (b = true ↔ x.asks = y.asks) := by
    by_cases h : x.asks = y.asks
    · exact ⟨true, by simp [h]⟩
    · exact ⟨false, by simp [h]⟩
  have f0 : Hid (∀ W : World, Below w.heap.size w W → Calls Try.prog 53 #[.slice aa1 an1 ac1, .slice ba1 bn1 bc1] W fun e w' => e = .returned (.bool b0) ∧ Below W.heap.size W w') := PM.hid fun W hb => (sameEns_any _ _ x.asks y.asks W (PM.EnL.keep h1 hb) (PM.EnL.keep i1 hb) hx.ak hy.ak).mono fun e w' h => by
    rcases h with ⟨⟨h1, h2⟩ | ⟨h1, h2⟩, h3⟩
    · exact ⟨by rw [h1, hb0.2 h2], h3⟩
    · refine ⟨?_, h3⟩
      cases hbb : b0
      · exact h1
      · exact absurd (hb0.1 hbb) h2
  obtain ⟨b1, hb1⟩ : ∃ b : Bool, (b = true ↔ x.entries = y.entries) := by
    by_cases h : x.entries = y.entries
    · exact ⟨true, by simp [h]⟩
    · exact ⟨false, by simp [h]⟩
  have f1 : Hid (∀ W : World, Below w.heap.size w W → Calls Try.prog 53 #[.slice aa2 an2 ac2, .slice ba2 bn2 bc2] W fun e w' => e = .returned (.bool b1) ∧ Below W.heap.size W w') := PM.hid fun W hb => (sameEns_any _ _ x.entries y.entries W (PM.EnL.keep h2 hb) (PM.EnL.keep i2 hb) hx.en hy.en).mono fun e w' h => by
    rcases h with ⟨⟨h1, h2⟩ | ⟨h1, h2⟩, h3⟩
    · exact ⟨by rw [h1, hb1.2 h2], h3⟩
    · refine ⟨?_, h3⟩
      cases hbb : b1
      · exact h1
      · exact absurd (hb1.1 hbb) h2
  obtain ⟨b2, hb2⟩ : ∃ b : Bool, (b = true ↔ x.prepares = y.prepares) := by
    by_cases h : x.prepares = y.prepares
    · exact ⟨true, by simp [h]⟩
    · exact ⟨false, by simp [h]⟩
  have f2 : Hid (∀ W : World, Below w.heap.size w W → Calls Try.prog 53 #[.slice aa3 an3 ac3, .slice ba3 bn3 bc3] W fun e w' => e = .returned (.bool b2) ∧ Below W.heap.size W w') := PM.hid fun W hb => (sameEns_any _ _ x.prepares y.prepares W (PM.EnL.keep h3 hb) (PM.EnL.keep i3 hb) hx.pr hy.pr).mono fun e w' h => by
    rcases h with ⟨⟨h1, h2⟩ | ⟨h1, h2⟩, h3⟩
    · exact ⟨by rw [h1, hb2.2 h2], h3⟩
    · refine ⟨?_, h3⟩
      cases hbb : b2
      · exact h1
      · exact absurd (hb2.1 hbb) h2
  obtain ⟨b3, hb3⟩ : ∃ b : Bool, (b = true ↔ x.aborts = y.aborts) := by
    by_cases h : x.aborts = y.aborts
    · exact ⟨true, by simp [h]⟩
    · exact ⟨false, by simp [h]⟩
  have f3 : Hid (∀ W : World, Below w.heap.size w W → Calls Try.prog 54 #[.slice aa4 an4 ac4, .slice ba4 bn4 bc4] W fun e w' => e = .returned (.bool b3) ∧ Below W.heap.size W w') := PM.hid fun W hb => (sameIds_any _ _ x.aborts y.aborts W (h4.keep hb) (i4.keep hb)).mono fun e w' h => by
    rcases h with ⟨⟨h1, h2⟩ | ⟨h1, h2⟩, h3⟩
    · exact ⟨by rw [h1, hb3.2 h2], h3⟩
    · refine ⟨?_, h3⟩
      cases hbb : b3
      · exact h1
      · exact absurd (hb3.1 hbb) h2
  obtain ⟨b4, hb4⟩ : ∃ b : Bool, (b = true ↔ x.ends = y.ends) := by
    by_cases h : x.ends = y.ends
    · exact ⟨true, by simp [h]⟩
    · exact ⟨false, by simp [h]⟩
  have f4 : Hid (∀ W : World, Below w.heap.size w W → Calls Try.prog 54 #[.slice aa5 an5 ac5, .slice ba5 bn5 bc5] W fun e w' => e = .returned (.bool b4) ∧ Below W.heap.size W w') := PM.hid fun W hb => (sameIds_any _ _ x.ends y.ends W (h5.keep hb) (i5.keep hb)).mono fun e w' h => by
    rcases h with ⟨⟨h1, h2⟩ | ⟨h1, h2⟩, h3⟩
    · exact ⟨by rw [h1, hb4.2 h2], h3⟩
    · refine ⟨?_, h3⟩
      cases hbb : b4
      · exact h1
      · exact absurd (hb4.1 hbb) h2
  obtain ⟨b5, hb5⟩ : ∃ b : Bool, (b = true ↔ x.votes = y.votes) := by
    by_cases h : x.votes = y.votes
    · exact ⟨true, by simp [h]⟩
    · exact ⟨false, by simp [h]⟩
  have f5 : Hid (∀ W : World, Below w.heap.size w W → Calls Try.prog 55 #[.slice aa0 an0 ac0, .slice ba0 bn0 bc0] W fun e w' => e = .returned (.bool b5) ∧ Below W.heap.size W w') := PM.hid fun W hb => (sameVos_any _ _ x.votes y.votes W (h0.keep hb) (i0.keep hb)).mono fun e w' h => by
    rcases h with ⟨⟨h1, h2⟩ | ⟨h1, h2⟩, h3⟩
    · exact ⟨by rw [h1, hb5.2 h2], h3⟩
    · refine ⟨?_, h3⟩
      cases hbb : b5
      · exact h1
      · exact absurd (hb5.1 hbb) h2
  have hres : Hid ((x = y) ↔ (x.kind = y.kind ∧ x.hav = y.hav ∧ b0 = true ∧ b1 = true ∧ b2 = true ∧ b3 = true ∧ b4 = true ∧ b5 = true)) := PM.hid (by
    rw [hb0, hb1, hb2, hb3, hb4, hb5]
    obtain ⟨xk, xh, x0, x1, x2, x3, x4, x5⟩ := x
    obtain ⟨yk, yh, y0, y1, y2, y3, y4, y5⟩ := y
    simp only [PM.Ms.mk.injEq]
    constructor
    · rintro ⟨g1, g2, g3, g4, g5, g6, g7, g8⟩; exact ⟨g1, g2, g4, g5, g6, g7, g8, g3⟩
    · rintro ⟨g1, g2, g4, g5, g6, g7, g8, g3⟩; exact ⟨g1, g2, g3, g4, g5, g6, g7, g8⟩)
  obtain ⟨KX, hKX⟩ : ∃ k, k = x.kind := ⟨_, rfl⟩
  obtain ⟨KY, hKY⟩ : ∃ k, k = y.kind := ⟨_, rfl⟩
  obtain ⟨HX, hHX⟩ : ∃ k, k = x.hav := ⟨_, rfl⟩
  obtain ⟨HY, hHY⟩ : ∃ k, k = y.hav := ⟨_, rfl⟩
  obtain ⟨QQ, hQQ⟩ : ∃ q : Prop, q = (x = y) := ⟨_, rfl⟩
  rw [← hQQ, ← hKX, ← hKY, ← hHX, ← hHY] at hres
  rw [← hQQ, ← hKX, ← hKY, ← hHX, ← hHY]
  clear hKX hKY hHX hHY hQQ h0 h1 h2 h3 h4 h5 i0 i1 i2 i3 i4 i5 hx hy hb0 hb1 hb2 hb3 hb4 hb5
  obtain ⟨gx, hgx⟩ : ∃ g, g = w.heap.size := ⟨_, rfl⟩
  obtain ⟨w1, hw1⟩ : ∃ W, W = w.alloc (.cells #[.int .i64 KX, .int .u64 (HX : Int), .slice aa0 an0 ac0, .slice aa1 an1 ac1, .slice aa2 an2 ac2, .slice aa3 an3 ac3, .slice aa4 an4 ac4, .slice aa5 an5 ac5] 28) := ⟨_, rfl⟩
  obtain ⟨gy, hgy⟩ : ∃ g, g = w1.heap.size := ⟨_, rfl⟩
  obtain ⟨w2, hw2⟩ : ∃ W, W = w1.alloc (.cells #[.int .i64 KY, .int .u64 (HY : Int), .slice ba0 bn0 bc0, .slice ba1 bn1 bc1, .slice ba2 bn2 bc2, .slice ba3 bn3 bc3, .slice ba4 bn4 bc4, .slice ba5 bn5 bc5] 28) := ⟨_, rfl⟩
  have hs1 : w1.heap.size = w.heap.size + 1 := by rw [hw1]; simp
  have bb1 : Below w.heap.size w w1 := by rw [hw1]; exact (Below.refl _ _).alloc (Nat.le_refl _) _
  have bb2 : Below w1.heap.size w1 w2 := by rw [hw2]; exact (Below.refl _ _).alloc (Nat.le_refl _) _
  have kx : PM.BK w1 gx #[.int .i64 KX, .int .u64 (HX : Int), .slice aa0 an0 ac0, .slice aa1 an1 ac1, .slice aa2 an2 ac2, .slice aa3 an3 ac3, .slice aa4 an4 ac4, .slice aa5 an5 ac5] 28 := by rw [hw1, hgx]; exact PM.BK.new _ _ _
  replace kx := kx.keep bb2
  have ky : PM.BK w2 gy #[.int .i64 KY, .int .u64 (HY : Int), .slice ba0 bn0 bc0, .slice ba1 bn1 bc1, .slice ba2 bn2 bc2, .slice ba3 bn3 bc3, .slice ba4 bn4 bc4, .slice ba5 bn5 bc5] 28 := by rw [hw2, hgy]; exact PM.BK.new _ _ _
  have hBB := PM.hid (PM.chain bb1 bb2)
  clear bb1 bb2
  go_enter Try.func17, Try.ntmps17
  go_upto_region 1 with fail
  rw [← hs1, ← hgx, ← hw1, ← hw2, ← hgy]
  clear hs1 hgx hw1 hw2 hgy
  have x0 : w2.cell? ⟨gx, 0, none⟩ = some (.int .i64 KX) := kx.cell 0
  have x1 : w2.cell? ⟨gx, 1, none⟩ = some (.int .u64 (HX : Int)) := kx.cell 1
  have x2 : w2.cell? ⟨gx, 2, none⟩ = some (.slice aa0 an0 ac0) := kx.cell 2
  have x3 : w2.cell? ⟨gx, 3, none⟩ = some (.slice aa1 an1 ac1) := kx.cell 3
  have x4 : w2.cell? ⟨gx, 4, none⟩ = some (.slice aa2 an2 ac2) := kx.cell 4
  have x5 : w2.cell? ⟨gx, 5, none⟩ = some (.slice aa3 an3 ac3) := kx.cell 5
  have x6 : w2.cell? ⟨gx, 6, none⟩ = some (.slice aa4 an4 ac4) := kx.cell 6
  have x7 : w2.cell? ⟨gx, 7, none⟩ = some (.slice aa5 an5 ac5) := kx.cell 7
  have y0 : w2.cell? ⟨gy, 0, none⟩ = some (.int .i64 KY) := ky.cell 0
  have y1 : w2.cell? ⟨gy, 1, none⟩ = some (.int .u64 (HY : Int)) := ky.cell 1
  have y2 : w2.cell? ⟨gy, 2, none⟩ = some (.slice ba0 bn0 bc0) := ky.cell 2
  have y3 : w2.cell? ⟨gy, 3, none⟩ = some (.slice ba1 bn1 bc1) := ky.cell 3
  have y4 : w2.cell? ⟨gy, 4, none⟩ = some (.slice ba2 bn2 bc2) := ky.cell 4
  have y5 : w2.cell? ⟨gy, 5, none⟩ = some (.slice ba3 bn3 bc3) := ky.cell 5
  have y6 : w2.cell? ⟨gy, 6, none⟩ = some (.slice ba4 bn4 bc4) := ky.cell 6
  have y7 : w2.cell? ⟨gy, 7, none⟩ = some (.slice ba5 bn5 bc5) := ky.cell 7
  go_wp2_with fail
  refine (f0.out w2 hBB.out).mono ?_
  rintro e w3 ⟨rfl, hBn⟩
  replace kx := kx.keep hBn
  replace ky := ky.keep hBn
  replace hBB := PM.hid (PM.chain hBB.out hBn)
  clear hBn f0 x0 y0 x1 y1 x2 y2 x3 y3 x4 y4 x5 y5 x6 y6 x7 y7
  have x0 : w3.cell? ⟨gx, 0, none⟩ = some (.int .i64 KX) := kx.cell 0
  have x1 : w3.cell? ⟨gx, 1, none⟩ = some (.int .u64 (HX : Int)) := kx.cell 1
  have x2 : w3.cell? ⟨gx, 2, none⟩ = some (.slice aa0 an0 ac0) := kx.cell 2
  have x3 : w3.cell? ⟨gx, 3, none⟩ = some (.slice aa1 an1 ac1) := kx.cell 3
  have x4 : w3.cell? ⟨gx, 4, none⟩ = some (.slice aa2 an2 ac2) := kx.cell 4
  have x5 : w3.cell? ⟨gx, 5, none⟩ = some (.slice aa3 an3 ac3) := kx.cell 5
  have x6 : w3.cell? ⟨gx, 6, none⟩ = some (.slice aa4 an4 ac4) := kx.cell 6
  have x7 : w3.cell? ⟨gx, 7, none⟩ = some (.slice aa5 an5 ac5) := kx.cell 7
  have y0 : w3.cell? ⟨gy, 0, none⟩ = some (.int .i64 KY) := ky.cell 0
  have y1 : w3.cell? ⟨gy, 1, none⟩ = some (.int .u64 (HY : Int)) := ky.cell 1
  have y2 : w3.cell? ⟨gy, 2, none⟩ = some (.slice ba0 bn0 bc0) := ky.cell 2
  have y3 : w3.cell? ⟨gy, 3, none⟩ = some (.slice ba1 bn1 bc1) := ky.cell 3
  have y4 : w3.cell? ⟨gy, 4, none⟩ = some (.slice ba2 bn2 bc2) := ky.cell 4
  have y5 : w3.cell? ⟨gy, 5, none⟩ = some (.slice ba3 bn3 bc3) := ky.cell 5
  have y6 : w3.cell? ⟨gy, 6, none⟩ = some (.slice ba4 bn4 bc4) := ky.cell 6
  have y7 : w3.cell? ⟨gy, 7, none⟩ = some (.slice ba5 bn5 bc5) := ky.cell 7
  go_wp2_with fail
  refine (f1.out w3 hBB.out).mono ?_
  rintro e w4 ⟨rfl, hBn⟩
  replace kx := kx.keep hBn
  replace ky := ky.keep hBn
  replace hBB := PM.hid (PM.chain hBB.out hBn)
  clear hBn f1 x0 y0 x1 y1 x2 y2 x3 y3 x4 y4 x5 y5 x6 y6 x7 y7
  have x0 : w4.cell? ⟨gx, 0, none⟩ = some (.int .i64 KX) := kx.cell 0
  have x1 : w4.cell? ⟨gx, 1, none⟩ = some (.int .u64 (HX : Int)) := kx.cell 1
  have x2 : w4.cell? ⟨gx, 2, none⟩ = some (.slice aa0 an0 ac0) := kx.cell 2
  have x3 : w4.cell? ⟨gx, 3, none⟩ = some (.slice aa1 an1 ac1) := kx.cell 3
  have x4 : w4.cell? ⟨gx, 4, none⟩ = some (.slice aa2 an2 ac2) := kx.cell 4
  have x5 : w4.cell? ⟨gx, 5, none⟩ = some (.slice aa3 an3 ac3) := kx.cell 5
  have x6 : w4.cell? ⟨gx, 6, none⟩ = some (.slice aa4 an4 ac4) := kx.cell 6
  have x7 : w4.cell? ⟨gx, 7, none⟩ = some (.slice aa5 an5 ac5) := kx.cell 7
  have y0 : w4.cell? ⟨gy, 0, none⟩ = some (.int .i64 KY) := ky.cell 0
  have y1 : w4.cell? ⟨gy, 1, none⟩ = some (.int .u64 (HY : Int)) := ky.cell 1
  have y2 : w4.cell? ⟨gy, 2, none⟩ = some (.slice ba0 bn0 bc0) := ky.cell 2
  have y3 : w4.cell? ⟨gy, 3, none⟩ = some (.slice ba1 bn1 bc1) := ky.cell 3
  have y4 : w4.cell? ⟨gy, 4, none⟩ = some (.slice ba2 bn2 bc2) := ky.cell 4
  have y5 : w4.cell? ⟨gy, 5, none⟩ = some (.slice ba3 bn3 bc3) := ky.cell 5
  have y6 : w4.cell? ⟨gy, 6, none⟩ = some (.slice ba4 bn4 bc4) := ky.cell 6
  have y7 : w4.cell? ⟨gy, 7, none⟩ = some (.slice ba5 bn5 bc5) := ky.cell 7
  go_wp2_with fail
  refine (f2.out w4 hBB.out).mono ?_
  rintro e w5 ⟨rfl, hBn⟩
  replace kx := kx.keep hBn
  replace ky := ky.keep hBn
  replace hBB := PM.hid (PM.chain hBB.out hBn)
  clear hBn f2 x0 y0 x1 y1 x2 y2 x3 y3 x4 y4 x5 y5 x6 y6 x7 y7
  have x0 : w5.cell? ⟨gx, 0, none⟩ = some (.int .i64 KX) := kx.cell 0
  have x1 : w5.cell? ⟨gx, 1, none⟩ = some (.int .u64 (HX : Int)) := kx.cell 1
  have x2 : w5.cell? ⟨gx, 2, none⟩ = some (.slice aa0 an0 ac0) := kx.cell 2
  have x3 : w5.cell? ⟨gx, 3, none⟩ = some (.slice aa1 an1 ac1) := kx.cell 3
  have x4 : w5.cell? ⟨gx, 4, none⟩ = some (.slice aa2 an2 ac2) := kx.cell 4
  have x5 : w5.cell? ⟨gx, 5, none⟩ = some (.slice aa3 an3 ac3) := kx.cell 5
  have x6 : w5.cell? ⟨gx, 6, none⟩ = some (.slice aa4 an4 ac4) := kx.cell 6
  have x7 : w5.cell? ⟨gx, 7, none⟩ = some (.slice aa5 an5 ac5) := kx.cell 7
  have y0 : w5.cell? ⟨gy, 0, none⟩ = some (.int .i64 KY) := ky.cell 0
  have y1 : w5.cell? ⟨gy, 1, none⟩ = some (.int .u64 (HY : Int)) := ky.cell 1
  have y2 : w5.cell? ⟨gy, 2, none⟩ = some (.slice ba0 bn0 bc0) := ky.cell 2
  have y3 : w5.cell? ⟨gy, 3, none⟩ = some (.slice ba1 bn1 bc1) := ky.cell 3
  have y4 : w5.cell? ⟨gy, 4, none⟩ = some (.slice ba2 bn2 bc2) := ky.cell 4
  have y5 : w5.cell? ⟨gy, 5, none⟩ = some (.slice ba3 bn3 bc3) := ky.cell 5
  have y6 : w5.cell? ⟨gy, 6, none⟩ = some (.slice ba4 bn4 bc4) := ky.cell 6
  have y7 : w5.cell? ⟨gy, 7, none⟩ = some (.slice ba5 bn5 bc5) := ky.cell 7
  go_wp2_with fail
  refine (f3.out w5 hBB.out).mono ?_
  rintro e w6 ⟨rfl, hBn⟩
  replace kx := kx.keep hBn
  replace ky := ky.keep hBn
  replace hBB := PM.hid (PM.chain hBB.out hBn)
  clear hBn f3 x0 y0 x1 y1 x2 y2 x3 y3 x4 y4 x5 y5 x6 y6 x7 y7
  have x0 : w6.cell? ⟨gx, 0, none⟩ = some (.int .i64 KX) := kx.cell 0
  have x1 : w6.cell? ⟨gx, 1, none⟩ = some (.int .u64 (HX : Int)) := kx.cell 1
  have x2 : w6.cell? ⟨gx, 2, none⟩ = some (.slice aa0 an0 ac0) := kx.cell 2
  have x3 : w6.cell? ⟨gx, 3, none⟩ = some (.slice aa1 an1 ac1) := kx.cell 3
  have x4 : w6.cell? ⟨gx, 4, none⟩ = some (.slice aa2 an2 ac2) := kx.cell 4
  have x5 : w6.cell? ⟨gx, 5, none⟩ = some (.slice aa3 an3 ac3) := kx.cell 5
  have x6 : w6.cell? ⟨gx, 6, none⟩ = some (.slice aa4 an4 ac4) := kx.cell 6
  have x7 : w6.cell? ⟨gx, 7, none⟩ = some (.slice aa5 an5 ac5) := kx.cell 7
  have y0 : w6.cell? ⟨gy, 0, none⟩ = some (.int .i64 KY) := ky.cell 0
  have y1 : w6.cell? ⟨gy, 1, none⟩ = some (.int .u64 (HY : Int)) := ky.cell 1
  have y2 : w6.cell? ⟨gy, 2, none⟩ = some (.slice ba0 bn0 bc0) := ky.cell 2
  have y3 : w6.cell? ⟨gy, 3, none⟩ = some (.slice ba1 bn1 bc1) := ky.cell 3
  have y4 : w6.cell? ⟨gy, 4, none⟩ = some (.slice ba2 bn2 bc2) := ky.cell 4
  have y5 : w6.cell? ⟨gy, 5, none⟩ = some (.slice ba3 bn3 bc3) := ky.cell 5
  have y6 : w6.cell? ⟨gy, 6, none⟩ = some (.slice ba4 bn4 bc4) := ky.cell 6
  have y7 : w6.cell? ⟨gy, 7, none⟩ = some (.slice ba5 bn5 bc5) := ky.cell 7
  go_wp2_with fail
  refine (f4.out w6 hBB.out).mono ?_
  rintro e w7 ⟨rfl, hBn⟩
  replace kx := kx.keep hBn
  replace ky := ky.keep hBn
  replace hBB := PM.hid (PM.chain hBB.out hBn)
  clear hBn f4 x0 y0 x1 y1 x2 y2 x3 y3 x4 y4 x5 y5 x6 y6 x7 y7
  have x0 : w7.cell? ⟨gx, 0, none⟩ = some (.int .i64 KX) := kx.cell 0
  have x1 : w7.cell? ⟨gx, 1, none⟩ = some (.int .u64 (HX : Int)) := kx.cell 1
  have x2 : w7.cell? ⟨gx, 2, none⟩ = some (.slice aa0 an0 ac0) := kx.cell 2
  have x3 : w7.cell? ⟨gx, 3, none⟩ = some (.slice aa1 an1 ac1) := kx.cell 3
  have x4 : w7.cell? ⟨gx, 4, none⟩ = some (.slice aa2 an2 ac2) := kx.cell 4
  have x5 : w7.cell? ⟨gx, 5, none⟩ = some (.slice aa3 an3 ac3) := kx.cell 5
  have x6 : w7.cell? ⟨gx, 6, none⟩ = some (.slice aa4 an4 ac4) := kx.cell 6
  have x7 : w7.cell? ⟨gx, 7, none⟩ = some (.slice aa5 an5 ac5) := kx.cell 7
  have y0 : w7.cell? ⟨gy, 0, none⟩ = some (.int .i64 KY) := ky.cell 0
  have y1 : w7.cell? ⟨gy, 1, none⟩ = some (.int .u64 (HY : Int)) := ky.cell 1
  have y2 : w7.cell? ⟨gy, 2, none⟩ = some (.slice ba0 bn0 bc0) := ky.cell 2
  have y3 : w7.cell? ⟨gy, 3, none⟩ = some (.slice ba1 bn1 bc1) := ky.cell 3
  have y4 : w7.cell? ⟨gy, 4, none⟩ = some (.slice ba2 bn2 bc2) := ky.cell 4
  have y5 : w7.cell? ⟨gy, 5, none⟩ = some (.slice ba3 bn3 bc3) := ky.cell 5
  have y6 : w7.cell? ⟨gy, 6, none⟩ = some (.slice ba4 bn4 bc4) := ky.cell 6
  have y7 : w7.cell? ⟨gy, 7, none⟩ = some (.slice ba5 bn5 bc5) := ky.cell 7
  go_wp2_with fail
  refine (f5.out w7 hBB.out).mono ?_
  rintro e w8 ⟨rfl, hBn⟩
  replace kx := kx.keep hBn
  replace ky := ky.keep hBn
  replace hBB := PM.hid (PM.chain hBB.out hBn)
  clear hBn f5 x0 y0 x1 y1 x2 y2 x3 y3 x4 y4 x5 y5 x6 y6 x7 y7
  have x0 : w8.cell? ⟨gx, 0, none⟩ = some (.int .i64 KX) := kx.cell 0
  have x1 : w8.cell? ⟨gx, 1, none⟩ = some (.int .u64 (HX : Int)) := kx.cell 1
  have x2 : w8.cell? ⟨gx, 2, none⟩ = some (.slice aa0 an0 ac0) := kx.cell 2
  have x3 : w8.cell? ⟨gx, 3, none⟩ = some (.slice aa1 an1 ac1) := kx.cell 3
  have x4 : w8.cell? ⟨gx, 4, none⟩ = some (.slice aa2 an2 ac2) := kx.cell 4
  have x5 : w8.cell? ⟨gx, 5, none⟩ = some (.slice aa3 an3 ac3) := kx.cell 5
  have x6 : w8.cell? ⟨gx, 6, none⟩ = some (.slice aa4 an4 ac4) := kx.cell 6
  have x7 : w8.cell? ⟨gx, 7, none⟩ = some (.slice aa5 an5 ac5) := kx.cell 7
  have y0 : w8.cell? ⟨gy, 0, none⟩ = some (.int .i64 KY) := ky.cell 0
  have y1 : w8.cell? ⟨gy, 1, none⟩ = some (.int .u64 (HY : Int)) := ky.cell 1
  have y2 : w8.cell? ⟨gy, 2, none⟩ = some (.slice ba0 bn0 bc0) := ky.cell 2
  have y3 : w8.cell? ⟨gy, 3, none⟩ = some (.slice ba1 bn1 bc1) := ky.cell 3
  have y4 : w8.cell? ⟨gy, 4, none⟩ = some (.slice ba2 bn2 bc2) := ky.cell 4
  have y5 : w8.cell? ⟨gy, 5, none⟩ = some (.slice ba3 bn3 bc3) := ky.cell 5
  have y6 : w8.cell? ⟨gy, 6, none⟩ = some (.slice ba4 bn4 bc4) := ky.cell 6
  have y7 : w8.cell? ⟨gy, 7, none⟩ = some (.slice ba5 bn5 bc5) := ky.cell 7
  clear kx ky
  by_cases hk : KX = KY
  case neg =>
    have q1 : (KX == KY) = false := by simpa using hk
    have hkh := PM.hid hk
    clear hk
    go_wp2_with fail
    go_ret
    exact ⟨.inr ⟨by first | rfl | simp, fun h => hkh.out (hres.out.1 h).1⟩, hBB.out⟩
  subst hk
  by_cases hh : HX = HY
  case neg =>
    have q1 : ((HX : Int) == (HY : Int)) = false := by simp; omega
    have hkh := PM.hid hh
    clear hh
    go_wp2_with fail
    go_ret
    exact ⟨.inr ⟨by first | rfl | simp, fun h => hkh.out (hres.out.1 h).2.1⟩, hBB.out⟩
  subst hh
  cases b0
  case false =>
    go_wp2_with fail
    go_ret
    exact ⟨.inr ⟨by first | rfl | simp, fun h => Bool.noConfusion (hres.out.1 h).2.2.1⟩, hBB.out⟩
  cases b1
  case false =>
    go_wp2_with fail
    go_ret
    exact ⟨.inr ⟨by first | rfl | simp, fun h => Bool.noConfusion (hres.out.1 h).2.2.2.1⟩, hBB.out⟩
  cases b2
  case false =>
    go_wp2_with fail
    go_ret
    exact ⟨.inr ⟨by first | rfl | simp, fun h => Bool.noConfusion (hres.out.1 h).2.2.2.2.1⟩, hBB.out⟩
  cases b3
  case false =>
    go_wp2_with fail
    go_ret
    exact ⟨.inr ⟨by first | rfl | simp, fun h => Bool.noConfusion (hres.out.1 h).2.2.2.2.2.1⟩, hBB.out⟩
  cases b4
  case false =>
    go_wp2_with fail
    go_ret
    exact ⟨.inr ⟨by first | rfl | simp, fun h => Bool.noConfusion (hres.out.1 h).2.2.2.2.2.2.1⟩, hBB.out⟩
  cases b5
  case false =>
    go_wp2_with fail
    go_ret
    exact ⟨.inr ⟨by first | rfl | simp, fun h => Bool.noConfusion (hres.out.1 h).2.2.2.2.2.2.2⟩, hBB.out⟩
  go_wp2_with fail
  go_ret
  exact ⟨.inl ⟨by first | rfl | simp, hres.out.2 (by simp)⟩, hBB.out⟩
end Go.Proofs.Ytokfookandfemaa
