/-
  CONTRACT of postilionref16.Same. (Written by tools/mk_si.py.)
-/
import Derived.Test.YtphdadlpfjfeoaaUh
import Derived.Test.YtphdadlpfjfeoaaOi
import Derived.Test.YtphdadlpfjfeoaaSb
import Derived.Test.YtphdadlpfjfeoaaWa
namespace Go.Proofs.Ytphdadlpfjfeoaa
open Go.RowKit
set_option linter.unusedVariables false
set_option linter.unusedSimpArgs false
set_option maxRecDepth 100000 in
set_option maxHeartbeats 16000000 in
theorem same16_any (x y : PM.Fs) (aa0 : Option Addr) (an0 ac0 : Nat) (aa1 : Option Addr) (an1 ac1 : Nat) (aa2 : Option Addr) (an2 ac2 : Nat) (ba0 : Option Addr) (bn0 bc0 : Nat) (ba1 : Option Addr) (bn1 bc1 : Nat) (ba2 : Option Addr) (bn2 bc2 : Nat) (w : World) (wx : (∀ z ∈ x.ls, z.wf) ∧ ∀ z ∈ x.ps, z.wf) (wy : (∀ z ∈ y.ls, z.wf) ∧ ∀ z ∈ y.ps, z.wf)
    (hRx : PM.StR w (.slice aa0 an0 ac0) (.slice aa1 an1 ac1) (.slice aa2 an2 ac2) x.ls x.ps x.ab) (hRy : PM.StR w (.slice ba0 bn0 bc0) (.slice ba1 bn1 bc1) (.slice ba2 bn2 bc2) y.ls y.ps y.ab) :
    Calls Try.prog 11 #[.agg #[.int .u64 (x.lf : Int), .slice aa0 an0 ac0, .slice aa1 an1 ac1, .slice aa2 an2 ac2], .agg #[.int .u64 (y.lf : Int), .slice ba0 bn0 bc0, .slice ba1 bn1 bc1, .slice ba2 bn2 bc2]] w fun e w' => (e = .returned (.bool true) ∧ x = y ∨ e = .returned (.bool false) ∧ ¬ x = y) ∧ Below w.heap.size w w' := by
  obtain ⟨h0, h1, h2⟩ := hRx
  obtain ⟨i0, i1, i2⟩ := hRy
  obtain ⟨b0, hb0⟩ : ∃ b : Bool, (b = true ↔ x.ls = y.ls) := by
    by_cases h : x.ls = y.ls
    · exact ⟨true, by simp [h]⟩
    · exact ⟨false, by simp [h]⟩
  have f0 : Hid (∀ W : World, Below w.heap.size w W → Calls Try.prog 14 #[.slice aa0 an0 ac0, .slice ba0 bn0 bc0] W fun e w' => e = .returned (.bool b0) ∧ Below W.heap.size W w') := PM.hid fun W hb => (sameEns_any _ _ x.ls y.ls W (PM.EnL.keep h0 hb) (PM.EnL.keep i0 hb) wx.1 wy.1).mono fun e w' h => by
    rcases h with ⟨⟨h1, h2⟩ | ⟨h1, h2⟩, h3⟩
    · exact ⟨by rw [h1, hb0.2 h2], h3⟩
    · refine ⟨?_, h3⟩
      cases hbb : b0
      · exact h1
      · exact absurd (hb0.1 hbb) h2
  obtain ⟨b1, hb1⟩ : ∃ b : Bool, (b = true ↔ x.ps = y.ps) := by
    by_cases h : x.ps = y.ps
    · exact ⟨true, by simp [h]⟩
    · exact ⟨false, by simp [h]⟩
  have f1 : Hid (∀ W : World, Below w.heap.size w W → Calls Try.prog 14 #[.slice aa1 an1 ac1, .slice ba1 bn1 bc1] W fun e w' => e = .returned (.bool b1) ∧ Below W.heap.size W w') := PM.hid fun W hb => (sameEns_any _ _ x.ps y.ps W (PM.EnL.keep h1 hb) (PM.EnL.keep i1 hb) wx.2 wy.2).mono fun e w' h => by
    rcases h with ⟨⟨h1, h2⟩ | ⟨h1, h2⟩, h3⟩
    · exact ⟨by rw [h1, hb1.2 h2], h3⟩
    · refine ⟨?_, h3⟩
      cases hbb : b1
      · exact h1
      · exact absurd (hb1.1 hbb) h2
  obtain ⟨b2, hb2⟩ : ∃ b : Bool, (b = true ↔ x.ab = y.ab) := by
    by_cases h : x.ab = y.ab
    · exact ⟨true, by simp [h]⟩
    · exact ⟨false, by simp [h]⟩
  have f2 : Hid (∀ W : World, Below w.heap.size w W → Calls Try.prog 15 #[.slice aa2 an2 ac2, .slice ba2 bn2 bc2] W fun e w' => e = .returned (.bool b2) ∧ Below W.heap.size W w') := PM.hid fun W hb => (sameIds_any _ _ x.ab y.ab W (h2.keep hb) (i2.keep hb)).mono fun e w' h => by
    rcases h with ⟨⟨h1, h2⟩ | ⟨h1, h2⟩, h3⟩
    · exact ⟨by rw [h1, hb2.2 h2], h3⟩
    · refine ⟨?_, h3⟩
      cases hbb : b2
      · exact h1
      · exact absurd (hb2.1 hbb) h2
  have hres : Hid ((x = y) ↔ (x.lf = y.lf ∧ b0 = true ∧ b1 = true ∧ b2 = true)) := PM.hid (by
    rw [hb0, hb1, hb2]
    obtain ⟨xh, x0, x1, x2⟩ := x
    obtain ⟨yh, y0, y1, y2⟩ := y
    simp only [PM.Fs.mk.injEq])
  obtain ⟨HX, hHX⟩ : ∃ k, k = x.lf := ⟨_, rfl⟩
  obtain ⟨HY, hHY⟩ : ∃ k, k = y.lf := ⟨_, rfl⟩
  obtain ⟨QQ, hQQ⟩ : ∃ q : Prop, q = (x = y) := ⟨_, rfl⟩
  rw [← hQQ, ← hHX, ← hHY] at hres
  rw [← hQQ, ← hHX, ← hHY]
  clear hHX hHY hQQ h0 h1 h2 i0 i1 i2 wx wy hb0 hb1 hb2
  obtain ⟨gx, hgx⟩ : ∃ g, g = w.heap.size := ⟨_, rfl⟩
  obtain ⟨w1, hw1⟩ : ∃ W, W = w.alloc (.cells #[.int .u64 (HX : Int), .slice aa0 an0 ac0, .slice aa1 an1 ac1, .slice aa2 an2 ac2] 28) := ⟨_, rfl⟩
  obtain ⟨gy, hgy⟩ : ∃ g, g = w1.heap.size := ⟨_, rfl⟩
  obtain ⟨w2, hw2⟩ : ∃ W, W = w1.alloc (.cells #[.int .u64 (HY : Int), .slice ba0 bn0 bc0, .slice ba1 bn1 bc1, .slice ba2 bn2 bc2] 28) := ⟨_, rfl⟩
  have hs1 : w1.heap.size = w.heap.size + 1 := by rw [hw1]; simp
  have bb1 : Below w.heap.size w w1 := by rw [hw1]; exact (Below.refl _ _).alloc (Nat.le_refl _) _
  have bb2 : Below w1.heap.size w1 w2 := by rw [hw2]; exact (Below.refl _ _).alloc (Nat.le_refl _) _
  have kx : PM.BK w1 gx #[.int .u64 (HX : Int), .slice aa0 an0 ac0, .slice aa1 an1 ac1, .slice aa2 an2 ac2] 28 := by rw [hw1, hgx]; exact PM.BK.new _ _ _
  replace kx := kx.keep bb2
  have ky : PM.BK w2 gy #[.int .u64 (HY : Int), .slice ba0 bn0 bc0, .slice ba1 bn1 bc1, .slice ba2 bn2 bc2] 28 := by rw [hw2, hgy]; exact PM.BK.new _ _ _
  have hBB := PM.hid (PM.chain bb1 bb2)
  clear bb1 bb2
  go_enter Try.func11, Try.ntmps11
  go_upto_region 1 with fail
  rw [← hs1, ← hgx, ← hw1, ← hw2, ← hgy]
  clear hs1 hgx hw1 hw2 hgy
  have x0 : w2.cell? ⟨gx, 0, none⟩ = some (.int .u64 (HX : Int)) := kx.cell 0
  have x1 : w2.cell? ⟨gx, 1, none⟩ = some (.slice aa0 an0 ac0) := kx.cell 1
  have x2 : w2.cell? ⟨gx, 2, none⟩ = some (.slice aa1 an1 ac1) := kx.cell 2
  have x3 : w2.cell? ⟨gx, 3, none⟩ = some (.slice aa2 an2 ac2) := kx.cell 3
  have y0 : w2.cell? ⟨gy, 0, none⟩ = some (.int .u64 (HY : Int)) := ky.cell 0
  have y1 : w2.cell? ⟨gy, 1, none⟩ = some (.slice ba0 bn0 bc0) := ky.cell 1
  have y2 : w2.cell? ⟨gy, 2, none⟩ = some (.slice ba1 bn1 bc1) := ky.cell 2
  have y3 : w2.cell? ⟨gy, 3, none⟩ = some (.slice ba2 bn2 bc2) := ky.cell 3
  go_wp2_with fail
  refine (f0.out w2 hBB.out).mono ?_
  rintro e w3 ⟨rfl, hBn⟩
  replace kx := kx.keep hBn
  replace ky := ky.keep hBn
  replace hBB := PM.hid (PM.chain hBB.out hBn)
  clear hBn f0 x0 y0 x1 y1 x2 y2 x3 y3
  have x0 : w3.cell? ⟨gx, 0, none⟩ = some (.int .u64 (HX : Int)) := kx.cell 0
  have x1 : w3.cell? ⟨gx, 1, none⟩ = some (.slice aa0 an0 ac0) := kx.cell 1
  have x2 : w3.cell? ⟨gx, 2, none⟩ = some (.slice aa1 an1 ac1) := kx.cell 2
  have x3 : w3.cell? ⟨gx, 3, none⟩ = some (.slice aa2 an2 ac2) := kx.cell 3
  have y0 : w3.cell? ⟨gy, 0, none⟩ = some (.int .u64 (HY : Int)) := ky.cell 0
  have y1 : w3.cell? ⟨gy, 1, none⟩ = some (.slice ba0 bn0 bc0) := ky.cell 1
  have y2 : w3.cell? ⟨gy, 2, none⟩ = some (.slice ba1 bn1 bc1) := ky.cell 2
  have y3 : w3.cell? ⟨gy, 3, none⟩ = some (.slice ba2 bn2 bc2) := ky.cell 3
  go_wp2_with fail
  refine (f1.out w3 hBB.out).mono ?_
  rintro e w4 ⟨rfl, hBn⟩
  replace kx := kx.keep hBn
  replace ky := ky.keep hBn
  replace hBB := PM.hid (PM.chain hBB.out hBn)
  clear hBn f1 x0 y0 x1 y1 x2 y2 x3 y3
  have x0 : w4.cell? ⟨gx, 0, none⟩ = some (.int .u64 (HX : Int)) := kx.cell 0
  have x1 : w4.cell? ⟨gx, 1, none⟩ = some (.slice aa0 an0 ac0) := kx.cell 1
  have x2 : w4.cell? ⟨gx, 2, none⟩ = some (.slice aa1 an1 ac1) := kx.cell 2
  have x3 : w4.cell? ⟨gx, 3, none⟩ = some (.slice aa2 an2 ac2) := kx.cell 3
  have y0 : w4.cell? ⟨gy, 0, none⟩ = some (.int .u64 (HY : Int)) := ky.cell 0
  have y1 : w4.cell? ⟨gy, 1, none⟩ = some (.slice ba0 bn0 bc0) := ky.cell 1
  have y2 : w4.cell? ⟨gy, 2, none⟩ = some (.slice ba1 bn1 bc1) := ky.cell 2
  have y3 : w4.cell? ⟨gy, 3, none⟩ = some (.slice ba2 bn2 bc2) := ky.cell 3
  go_wp2_with fail
  refine (f2.out w4 hBB.out).mono ?_
  rintro e w5 ⟨rfl, hBn⟩
  replace kx := kx.keep hBn
  replace ky := ky.keep hBn
  replace hBB := PM.hid (PM.chain hBB.out hBn)
  clear hBn f2 x0 y0 x1 y1 x2 y2 x3 y3
  have x0 : w5.cell? ⟨gx, 0, none⟩ = some (.int .u64 (HX : Int)) := kx.cell 0
  have x1 : w5.cell? ⟨gx, 1, none⟩ = some (.slice aa0 an0 ac0) := kx.cell 1
  have x2 : w5.cell? ⟨gx, 2, none⟩ = some (.slice aa1 an1 ac1) := kx.cell 2
  have x3 : w5.cell? ⟨gx, 3, none⟩ = some (.slice aa2 an2 ac2) := kx.cell 3
  have y0 : w5.cell? ⟨gy, 0, none⟩ = some (.int .u64 (HY : Int)) := ky.cell 0
  have y1 : w5.cell? ⟨gy, 1, none⟩ = some (.slice ba0 bn0 bc0) := ky.cell 1
  have y2 : w5.cell? ⟨gy, 2, none⟩ = some (.slice ba1 bn1 bc1) := ky.cell 2
  have y3 : w5.cell? ⟨gy, 3, none⟩ = some (.slice ba2 bn2 bc2) := ky.cell 3
  clear kx ky
  cases b0
  case false =>
    go_wp2_with fail
    go_ret
    exact ⟨.inr ⟨by first | rfl | simp, fun h => Bool.noConfusion (hres.out.1 h).2.1⟩, hBB.out⟩
  cases b1
  case false =>
    go_wp2_with fail
    go_ret
    exact ⟨.inr ⟨by first | rfl | simp, fun h => Bool.noConfusion (hres.out.1 h).2.2.1⟩, hBB.out⟩
  cases b2
  case false =>
    go_wp2_with fail
    go_ret
    exact ⟨.inr ⟨by first | rfl | simp, fun h => Bool.noConfusion (hres.out.1 h).2.2.2⟩, hBB.out⟩
  by_cases hh : HX = HY
  case neg =>
    have q1 : ((HX : Int) == (HY : Int)) = false := by simp; omega
    have hkh := PM.hid hh
    clear hh
    go_wp2_with fail
    go_ret
    exact ⟨.inr ⟨by first | rfl | simp, fun h => hkh.out (hres.out.1 h).1⟩, hBB.out⟩
  subst hh
  go_wp2_with fail
  go_ret
  exact ⟨.inl ⟨by first | rfl | simp, hres.out.2 (by simp)⟩, hBB.out⟩
end Go.Proofs.Ytphdadlpfjfeoaa
