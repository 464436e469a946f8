/-
  THE WALK OF WireApart.
-/
import Derived.Test.YtokfookandfemaaUk
import Derived.Test.YtokfookandfemaaUi
namespace Go.Proofs.Ytokfookandfemaa
open Go.RowKit
set_option linter.unusedVariables false
set_option linter.unusedSimpArgs false
set_option maxRecDepth 100000 in
set_option maxHeartbeats 16000000 in
theorem wireApart_walkA (x y : PM.Ms) (aa0 : Option Addr) (an0 ac0 : Nat) (aa1 : Option Addr) (an1 ac1 : Nat) (aa2 : Option Addr) (an2 ac2 : Nat) (aa3 : Option Addr) (an3 ac3 : Nat) (aa4 : Option Addr) (an4 ac4 : Nat) (aa5 : Option Addr) (an5 ac5 : Nat) (ba0 : Option Addr) (bn0 bc0 : Nat) (ba1 : Option Addr) (bn1 bc1 : Nat) (ba2 : Option Addr) (bn2 bc2 : Nat) (ba3 : Option Addr) (bn3 bc3 : Nat) (ba4 : Option Addr) (bn4 bc4 : Nat) (ba5 : Option Addr) (bn5 bc5 : Nat) (hx : x.wf) (hy : y.wf) (w : World) (hRx : PM.msR w (PM.msC x (.slice aa0 an0 ac0) (.slice aa1 an1 ac1) (.slice aa2 an2 ac2) (.slice aa3 an3 ac3) (.slice aa4 an4 ac4) (.slice aa5 an5 ac5)) x) (hRy : PM.msR w (PM.msC y (.slice ba0 bn0 bc0) (.slice ba1 bn1 bc1) (.slice ba2 bn2 bc2) (.slice ba3 bn3 bc3) (.slice ba4 bn4 bc4) (.slice ba5 bn5 bc5)) y) :
    Calls Try.prog 7 #[.agg #[.int .i64 x.kind, .int .u64 (x.hav : Int), .slice aa0 an0 ac0, .slice aa1 an1 ac1, .slice aa2 an2 ac2, .slice aa3 an3 ac3, .slice aa4 an4 ac4, .slice aa5 an5 ac5], .agg #[.int .i64 y.kind, .int .u64 (y.hav : Int), .slice ba0 bn0 bc0, .slice ba1 bn1 bc1, .slice ba2 bn2 bc2, .slice ba3 bn3 bc3, .slice ba4 bn4 bc4, .slice ba5 bn5 bc5]] w fun e w' => e = .returned (.bool true) ∧ Below w.heap.size w w' := by
  have fwa : Hid (∀ W : World, Below w.heap.size w W → Calls Try.prog 10 #[.agg #[.int .i64 x.kind, .int .u64 (x.hav : Int), .slice aa0 an0 ac0, .slice aa1 an1 ac1, .slice aa2 an2 ac2, .slice aa3 an3 ac3, .slice aa4 an4 ac4, .slice aa5 an5 ac5]] W fun e w' => (e = .returned (.bool true) ∧ PM.msSm x ∨ e = .returned (.bool false)) ∧ Below W.heap.size W w') := PM.hid fun W hb => by
    obtain ⟨_, _, _, _, _, _, hcs, h0, h1, h2, h3, h4, h5⟩ := hRx
    unfold PM.msC at hcs
    simp only [List.cons.injEq, and_true, true_and] at hcs
    obtain ⟨rfl, rfl, rfl, rfl, rfl, rfl⟩ := hcs
    have n0 : an0 = x.votes.length := by obtain ⟨a, c, h⟩ := h0.len; injection h
    have n4 : an4 = x.aborts.length := by obtain ⟨a, c, h⟩ := h4.len; injection h
    have n5 : an5 = x.ends.length := by obtain ⟨a, c, h⟩ := h5.len; injection h
    refine (fewM_any x.kind x.hav aa0 an0 ac0 aa1 an1 ac1 aa2 an2 ac2 aa3 an3 ac3 aa4 an4 ac4 aa5 an5 ac5 x.asks x.entries x.prepares W (PM.EnL.keep h1 hb) (PM.EnL.keep h2 hb) (PM.EnL.keep h3 hb)).mono ?_
    rintro e w' ⟨⟨rfl, q1, q2, q3, q4, q5, q6⟩ | rfl, hb2⟩
    · exact ⟨.inl ⟨rfl, by omega, Nat.le_trans q1.1 (by omega), Nat.le_trans q2.1 (by omega), Nat.le_trans q3.1 (by omega), by omega, by omega⟩, hb2⟩
    · exact ⟨.inr rfl, hb2⟩
  have fwb : Hid (∀ W : World, Below w.heap.size w W → Calls Try.prog 10 #[.agg #[.int .i64 y.kind, .int .u64 (y.hav : Int), .slice ba0 bn0 bc0, .slice ba1 bn1 bc1, .slice ba2 bn2 bc2, .slice ba3 bn3 bc3, .slice ba4 bn4 bc4, .slice ba5 bn5 bc5]] W fun e w' => (e = .returned (.bool true) ∧ PM.msSm y ∨ e = .returned (.bool false)) ∧ Below W.heap.size W w') := PM.hid fun W hb => by
    obtain ⟨_, _, _, _, _, _, hcs, h0, h1, h2, h3, h4, h5⟩ := hRy
    unfold PM.msC at hcs
    simp only [List.cons.injEq, and_true, true_and] at hcs
    obtain ⟨rfl, rfl, rfl, rfl, rfl, rfl⟩ := hcs
    have n0 : bn0 = y.votes.length := by obtain ⟨a, c, h⟩ := h0.len; injection h
    have n4 : bn4 = y.aborts.length := by obtain ⟨a, c, h⟩ := h4.len; injection h
    have n5 : bn5 = y.ends.length := by obtain ⟨a, c, h⟩ := h5.len; injection h
    refine (fewM_any y.kind y.hav ba0 bn0 bc0 ba1 bn1 bc1 ba2 bn2 bc2 ba3 bn3 bc3 ba4 bn4 bc4 ba5 bn5 bc5 y.asks y.entries y.prepares W (PM.EnL.keep h1 hb) (PM.EnL.keep h2 hb) (PM.EnL.keep h3 hb)).mono ?_
    rintro e w' ⟨⟨rfl, q1, q2, q3, q4, q5, q6⟩ | rfl, hb2⟩
    · exact ⟨.inl ⟨rfl, by omega, Nat.le_trans q1.1 (by omega), Nat.le_trans q2.1 (by omega), Nat.le_trans q3.1 (by omega), by omega, by omega⟩, hb2⟩
    · exact ⟨.inr rfl, hb2⟩
  have hinj : Hid (PM.msOkB x = true → PM.msOkB y = true → PM.msB x = PM.msB y → x = y) := PM.hid fun p q h => PM.msB_inj hx p hy q h
  replace hx := PM.hid hx
  replace hy := PM.hid hy
  replace hRx := PM.hid hRx
  replace hRy := PM.hid hRy
  obtain ⟨gx, hgx⟩ : ∃ g, g = w.heap.size := ⟨_, rfl⟩
  obtain ⟨w1, hw1⟩ : ∃ W, W = w.alloc (.cells #[.int .i64 x.kind, .int .u64 (x.hav : Int), .slice aa0 an0 ac0, .slice aa1 an1 ac1, .slice aa2 an2 ac2, .slice aa3 an3 ac3, .slice aa4 an4 ac4, .slice aa5 an5 ac5] 28) := ⟨_, rfl⟩
  obtain ⟨gy, hgy⟩ : ∃ g, g = w1.heap.size := ⟨_, rfl⟩
  obtain ⟨w2, hw2⟩ : ∃ W, W = w1.alloc (.cells #[.int .i64 y.kind, .int .u64 (y.hav : Int), .slice ba0 bn0 bc0, .slice ba1 bn1 bc1, .slice ba2 bn2 bc2, .slice ba3 bn3 bc3, .slice ba4 bn4 bc4, .slice ba5 bn5 bc5] 28) := ⟨_, rfl⟩
  have hs1 : w1.heap.size = w.heap.size + 1 := by rw [hw1]; simp
  have bb1 : Below w.heap.size w w1 := by rw [hw1]; exact (Below.refl _ _).alloc (Nat.le_refl _) _
  have bb2 : Below w1.heap.size w1 w2 := by rw [hw2]; exact (Below.refl _ _).alloc (Nat.le_refl _) _
  have kx : PM.BK w1 gx #[.int .i64 x.kind, .int .u64 (x.hav : Int), .slice aa0 an0 ac0, .slice aa1 an1 ac1, .slice aa2 an2 ac2, .slice aa3 an3 ac3, .slice aa4 an4 ac4, .slice aa5 an5 ac5] 28 := by rw [hw1, hgx]; exact PM.BK.new _ _ _
  replace kx := kx.keep bb2
  have ky : PM.BK w2 gy #[.int .i64 y.kind, .int .u64 (y.hav : Int), .slice ba0 bn0 bc0, .slice ba1 bn1 bc1, .slice ba2 bn2 bc2, .slice ba3 bn3 bc3, .slice ba4 bn4 bc4, .slice ba5 bn5 bc5] 28 := by rw [hw2, hgy]; exact PM.BK.new _ _ _
  have hBB := PM.hid (PM.chain bb1 bb2)
  clear bb1 bb2
  go_enter Try.func7, Try.ntmps7
  go_upto_region 1 with fail
  rw [← hs1, ← hgx, ← hw1, ← hw2, ← hgy]
  clear hs1 hgx hw1 hw2 hgy
  go_wp2_with fail
  refine (awake13_any w2).mono ?_
  rintro e w3 ⟨rfl, hBn⟩
  replace kx := kx.keep hBn
  replace ky := ky.keep hBn
  replace hBB := PM.hid (PM.chain hBB.out hBn)
  clear hBn
  have x0 : w3.cell? ⟨gx, 0, none⟩ = some (.int .i64 x.kind) := kx.cell 0
  have x1 : w3.cell? ⟨gx, 1, none⟩ = some (.int .u64 (x.hav : Int)) := kx.cell 1
  have x2 : w3.cell? ⟨gx, 2, none⟩ = some (.slice aa0 an0 ac0) := kx.cell 2
  have x3 : w3.cell? ⟨gx, 3, none⟩ = some (.slice aa1 an1 ac1) := kx.cell 3
  have x4 : w3.cell? ⟨gx, 4, none⟩ = some (.slice aa2 an2 ac2) := kx.cell 4
  have x5 : w3.cell? ⟨gx, 5, none⟩ = some (.slice aa3 an3 ac3) := kx.cell 5
  have x6 : w3.cell? ⟨gx, 6, none⟩ = some (.slice aa4 an4 ac4) := kx.cell 6
  have x7 : w3.cell? ⟨gx, 7, none⟩ = some (.slice aa5 an5 ac5) := kx.cell 7
  go_wp2_with fail
  refine (fwa.out w3 hBB.out).mono ?_
  rintro e w4 ⟨hF, hBn⟩
  clear x0 x1 x2 x3 x4 x5 x6 x7
  replace kx := kx.keep hBn
  replace ky := ky.keep hBn
  replace hBB := PM.hid (PM.chain hBB.out hBn)
  clear hBn
  rcases hF with ⟨rfl, hSx⟩ | rfl
  case inr =>
    go_wp2_with fail
    go_ret
    exact ⟨by first | rfl | simp, hBB.out⟩
  replace hSx := PM.hid hSx
  have y0 : w4.cell? ⟨gy, 0, none⟩ = some (.int .i64 y.kind) := ky.cell 0
  have y1 : w4.cell? ⟨gy, 1, none⟩ = some (.int .u64 (y.hav : Int)) := ky.cell 1
  have y2 : w4.cell? ⟨gy, 2, none⟩ = some (.slice ba0 bn0 bc0) := ky.cell 2
  have y3 : w4.cell? ⟨gy, 3, none⟩ = some (.slice ba1 bn1 bc1) := ky.cell 3
  have y4 : w4.cell? ⟨gy, 4, none⟩ = some (.slice ba2 bn2 bc2) := ky.cell 4
  have y5 : w4.cell? ⟨gy, 5, none⟩ = some (.slice ba3 bn3 bc3) := ky.cell 5
  have y6 : w4.cell? ⟨gy, 6, none⟩ = some (.slice ba4 bn4 bc4) := ky.cell 6
  have y7 : w4.cell? ⟨gy, 7, none⟩ = some (.slice ba5 bn5 bc5) := ky.cell 7
  go_wp2_with fail
  refine (fwb.out w4 hBB.out).mono ?_
  rintro e w5 ⟨hF, hBn⟩
  clear y0 y1 y2 y3 y4 y5 y6 y7
  replace kx := kx.keep hBn
  replace ky := ky.keep hBn
  replace hBB := PM.hid (PM.chain hBB.out hBn)
  clear hBn
  rcases hF with ⟨rfl, hSy⟩ | rfl
  case inr =>
    go_wp2_with fail
    go_ret
    exact ⟨by first | rfl | simp, hBB.out⟩
  replace hSy := PM.hid hSy
  clear fwa fwb
  cases hokx : PM.msOkB x
  case false =>
    replace hokx := PM.hid hokx
    have x0 : w5.cell? ⟨gx, 0, none⟩ = some (.int .i64 x.kind) := kx.cell 0
    have x1 : w5.cell? ⟨gx, 1, none⟩ = some (.int .u64 (x.hav : Int)) := kx.cell 1
    have x2 : w5.cell? ⟨gx, 2, none⟩ = some (.slice aa0 an0 ac0) := kx.cell 2
    have x3 : w5.cell? ⟨gx, 3, none⟩ = some (.slice aa1 an1 ac1) := kx.cell 3
    have x4 : w5.cell? ⟨gx, 4, none⟩ = some (.slice aa2 an2 ac2) := kx.cell 4
    have x5 : w5.cell? ⟨gx, 5, none⟩ = some (.slice aa3 an3 ac3) := kx.cell 5
    have x6 : w5.cell? ⟨gx, 6, none⟩ = some (.slice aa4 an4 ac4) := kx.cell 6
    have x7 : w5.cell? ⟨gx, 7, none⟩ = some (.slice aa5 an5 ac5) := kx.cell 7
    have hc := wencode_no x aa0 an0 ac0 aa1 an1 ac1 aa2 an2 ac2 aa3 an3 ac3 aa4 an4 ac4 aa5 an5 ac5 w5 hx.out hSx.out (PM.msR_lasts _ _ _ _ hBB.out hRx.out) hokx.out
    go_wp2_with fail
    refine hc.mono ?_
    clear hc
    rintro e w6 ⟨rfl, hBn⟩
    clear x0 x1 x2 x3 x4 x5 x6 x7
    replace kx := kx.keep hBn
    replace ky := ky.keep hBn
    replace hBB := PM.hid (PM.chain hBB.out hBn)
    clear hBn
    cases hoky : PM.msOkB y
    case false =>
      replace hoky := PM.hid hoky
      have y0 : w6.cell? ⟨gy, 0, none⟩ = some (.int .i64 y.kind) := ky.cell 0
      have y1 : w6.cell? ⟨gy, 1, none⟩ = some (.int .u64 (y.hav : Int)) := ky.cell 1
      have y2 : w6.cell? ⟨gy, 2, none⟩ = some (.slice ba0 bn0 bc0) := ky.cell 2
      have y3 : w6.cell? ⟨gy, 3, none⟩ = some (.slice ba1 bn1 bc1) := ky.cell 3
      have y4 : w6.cell? ⟨gy, 4, none⟩ = some (.slice ba2 bn2 bc2) := ky.cell 4
      have y5 : w6.cell? ⟨gy, 5, none⟩ = some (.slice ba3 bn3 bc3) := ky.cell 5
      have y6 : w6.cell? ⟨gy, 6, none⟩ = some (.slice ba4 bn4 bc4) := ky.cell 6
      have y7 : w6.cell? ⟨gy, 7, none⟩ = some (.slice ba5 bn5 bc5) := ky.cell 7
      have hc := wencode_no y ba0 bn0 bc0 ba1 bn1 bc1 ba2 bn2 bc2 ba3 bn3 bc3 ba4 bn4 bc4 ba5 bn5 bc5 w6 hy.out hSy.out (PM.msR_lasts _ _ _ _ hBB.out hRy.out) hoky.out
      go_wp2_with fail
      refine hc.mono ?_
      clear hc
      rintro e w7 ⟨rfl, hBn⟩
      clear y0 y1 y2 y3 y4 y5 y6 y7
      replace kx := kx.keep hBn
      replace ky := ky.keep hBn
      replace hBB := PM.hid (PM.chain hBB.out hBn)
      clear hBn
      go_wp2_with fail
      go_ret
      exact ⟨by first | rfl | simp, hBB.out⟩
    replace hoky := PM.hid hoky
    have y0 : w6.cell? ⟨gy, 0, none⟩ = some (.int .i64 y.kind) := ky.cell 0
    have y1 : w6.cell? ⟨gy, 1, none⟩ = some (.int .u64 (y.hav : Int)) := ky.cell 1
    have y2 : w6.cell? ⟨gy, 2, none⟩ = some (.slice ba0 bn0 bc0) := ky.cell 2
    have y3 : w6.cell? ⟨gy, 3, none⟩ = some (.slice ba1 bn1 bc1) := ky.cell 3
    have y4 : w6.cell? ⟨gy, 4, none⟩ = some (.slice ba2 bn2 bc2) := ky.cell 4
    have y5 : w6.cell? ⟨gy, 5, none⟩ = some (.slice ba3 bn3 bc3) := ky.cell 5
    have y6 : w6.cell? ⟨gy, 6, none⟩ = some (.slice ba4 bn4 bc4) := ky.cell 6
    have y7 : w6.cell? ⟨gy, 7, none⟩ = some (.slice ba5 bn5 bc5) := ky.cell 7
    have hc := wencode_yes y ba0 bn0 bc0 ba1 bn1 bc1 ba2 bn2 bc2 ba3 bn3 bc3 ba4 bn4 bc4 ba5 bn5 bc5 w6 hy.out hSy.out (PM.msR_lasts _ _ _ _ hBB.out hRy.out) hoky.out
    go_wp2_with fail
    refine hc.mono ?_
    clear hc
    rintro e w7 ⟨o2, rfl, ho2, hBn⟩
    replace ho2 := ho2.bs
    clear y0 y1 y2 y3 y4 y5 y6 y7
    replace kx := kx.keep hBn
    replace ky := ky.keep hBn
    replace hBB := PM.hid (PM.chain hBB.out hBn)
    clear hBn
    obtain ⟨o2a, o2c, hoe⟩ := ho2.len
    obtain ⟨o2n, ho2n⟩ : ∃ n, n = (PM.msB y).length := ⟨_, rfl⟩
    rw [← ho2n] at hoe
    subst hoe
    replace ho2n := PM.hid ho2n
    go_wp2_with fail
    go_ret
    exact ⟨by first | rfl | simp, hBB.out⟩
  replace hokx := PM.hid hokx
  have x0 : w5.cell? ⟨gx, 0, none⟩ = some (.int .i64 x.kind) := kx.cell 0
  have x1 : w5.cell? ⟨gx, 1, none⟩ = some (.int .u64 (x.hav : Int)) := kx.cell 1
  have x2 : w5.cell? ⟨gx, 2, none⟩ = some (.slice aa0 an0 ac0) := kx.cell 2
  have x3 : w5.cell? ⟨gx, 3, none⟩ = some (.slice aa1 an1 ac1) := kx.cell 3
  have x4 : w5.cell? ⟨gx, 4, none⟩ = some (.slice aa2 an2 ac2) := kx.cell 4
  have x5 : w5.cell? ⟨gx, 5, none⟩ = some (.slice aa3 an3 ac3) := kx.cell 5
  have x6 : w5.cell? ⟨gx, 6, none⟩ = some (.slice aa4 an4 ac4) := kx.cell 6
  have x7 : w5.cell? ⟨gx, 7, none⟩ = some (.slice aa5 an5 ac5) := kx.cell 7
  have hc := wencode_yes x aa0 an0 ac0 aa1 an1 ac1 aa2 an2 ac2 aa3 an3 ac3 aa4 an4 ac4 aa5 an5 ac5 w5 hx.out hSx.out (PM.msR_lasts _ _ _ _ hBB.out hRx.out) hokx.out
  go_wp2_with fail
  refine hc.mono ?_
  clear hc
  rintro e w6 ⟨o, rfl, ho, hBn⟩
  replace ho := ho.bs
  clear x0 x1 x2 x3 x4 x5 x6 x7
  replace kx := kx.keep hBn
  replace ky := ky.keep hBn
  replace hBB := PM.hid (PM.chain hBB.out hBn)
  clear hBn
  obtain ⟨oa, oc, hoe⟩ := ho.len
  obtain ⟨on, hon⟩ : ∃ n, n = (PM.msB x).length := ⟨_, rfl⟩
  rw [← hon] at hoe
  subst hoe
  replace hon := PM.hid hon
  cases hoky : PM.msOkB y
  case false =>
    replace hoky := PM.hid hoky
    have y0 : w6.cell? ⟨gy, 0, none⟩ = some (.int .i64 y.kind) := ky.cell 0
    have y1 : w6.cell? ⟨gy, 1, none⟩ = some (.int .u64 (y.hav : Int)) := ky.cell 1
    have y2 : w6.cell? ⟨gy, 2, none⟩ = some (.slice ba0 bn0 bc0) := ky.cell 2
    have y3 : w6.cell? ⟨gy, 3, none⟩ = some (.slice ba1 bn1 bc1) := ky.cell 3
    have y4 : w6.cell? ⟨gy, 4, none⟩ = some (.slice ba2 bn2 bc2) := ky.cell 4
    have y5 : w6.cell? ⟨gy, 5, none⟩ = some (.slice ba3 bn3 bc3) := ky.cell 5
    have y6 : w6.cell? ⟨gy, 6, none⟩ = some (.slice ba4 bn4 bc4) := ky.cell 6
    have y7 : w6.cell? ⟨gy, 7, none⟩ = some (.slice ba5 bn5 bc5) := ky.cell 7
    have hc := wencode_no y ba0 bn0 bc0 ba1 bn1 bc1 ba2 bn2 bc2 ba3 bn3 bc3 ba4 bn4 bc4 ba5 bn5 bc5 w6 hy.out hSy.out (PM.msR_lasts _ _ _ _ hBB.out hRy.out) hoky.out
    go_wp2_with fail
    refine hc.mono ?_
    clear hc
    rintro e w7 ⟨rfl, hBn⟩
    clear y0 y1 y2 y3 y4 y5 y6 y7
    replace kx := kx.keep hBn
    replace ky := ky.keep hBn
    replace ho := ho.keep hBn
    replace hBB := PM.hid (PM.chain hBB.out hBn)
    clear hBn
    go_wp2_with fail
    go_ret
    exact ⟨by first | rfl | simp, hBB.out⟩
  replace hoky := PM.hid hoky
  have y0 : w6.cell? ⟨gy, 0, none⟩ = some (.int .i64 y.kind) := ky.cell 0
  have y1 : w6.cell? ⟨gy, 1, none⟩ = some (.int .u64 (y.hav : Int)) := ky.cell 1
  have y2 : w6.cell? ⟨gy, 2, none⟩ = some (.slice ba0 bn0 bc0) := ky.cell 2
  have y3 : w6.cell? ⟨gy, 3, none⟩ = some (.slice ba1 bn1 bc1) := ky.cell 3
  have y4 : w6.cell? ⟨gy, 4, none⟩ = some (.slice ba2 bn2 bc2) := ky.cell 4
  have y5 : w6.cell? ⟨gy, 5, none⟩ = some (.slice ba3 bn3 bc3) := ky.cell 5
  have y6 : w6.cell? ⟨gy, 6, none⟩ = some (.slice ba4 bn4 bc4) := ky.cell 6
  have y7 : w6.cell? ⟨gy, 7, none⟩ = some (.slice ba5 bn5 bc5) := ky.cell 7
  have hc := wencode_yes y ba0 bn0 bc0 ba1 bn1 bc1 ba2 bn2 bc2 ba3 bn3 bc3 ba4 bn4 bc4 ba5 bn5 bc5 w6 hy.out hSy.out (PM.msR_lasts _ _ _ _ hBB.out hRy.out) hoky.out
  go_wp2_with fail
  refine hc.mono ?_
  clear hc
  rintro e w7 ⟨o2, rfl, ho2, hBn⟩
  replace ho2 := ho2.bs
  clear y0 y1 y2 y3 y4 y5 y6 y7
  replace kx := kx.keep hBn
  replace ky := ky.keep hBn
  replace ho := ho.keep hBn
  replace hBB := PM.hid (PM.chain hBB.out hBn)
  clear hBn
  obtain ⟨o2a, o2c, hoe⟩ := ho2.len
  obtain ⟨o2n, ho2n⟩ : ∃ n, n = (PM.msB y).length := ⟨_, rfl⟩
  rw [← ho2n] at hoe
  subst hoe
  replace ho2n := PM.hid ho2n
  have hd := wdec_yes _ x hx.out hokx.out w7 (by rw [hon.out] at ho; exact ho)
  rw [← hon.out] at hd
  go_wp2_with fail
  refine hd.mono ?_
  clear hd
  rintro e w8 ⟨xa0, xc0, xa1, xc1, xa2, xc2, xa3, xc3, xa4, xc4, xa5, xc5, rfl, hRz, hBn⟩
  replace kx := kx.keep hBn
  replace ky := ky.keep hBn
  replace ho := ho.keep hBn
  replace ho2 := ho2.keep hBn
  replace hBB := PM.hid (PM.chain hBB.out hBn)
  clear hBn
  go_upto_region 9 with fail
  obtain ⟨gz, hgz⟩ : ∃ g, g = w8.heap.size := ⟨_, rfl⟩
  obtain ⟨w9, hw9⟩ : ∃ W, W = w8.alloc (.cells #[.int .i64 x.kind, .int .u64 (x.hav : Int), .slice xa0 x.votes.length xc0, .slice xa1 x.asks.length xc1, .slice xa2 x.entries.length xc2, .slice xa3 x.prepares.length xc3, .slice xa4 x.aborts.length xc4, .slice xa5 x.ends.length xc5] 28) := ⟨_, rfl⟩
  have hBn : Below w8.heap.size w8 w9 := by rw [hw9]; exact (Below.refl _ _).alloc (Nat.le_refl _) _
  have kz : PM.BK w9 gz #[.int .i64 x.kind, .int .u64 (x.hav : Int), .slice xa0 x.votes.length xc0, .slice xa1 x.asks.length xc1, .slice xa2 x.entries.length xc2, .slice xa3 x.prepares.length xc3, .slice xa4 x.aborts.length xc4, .slice xa5 x.ends.length xc5] 28 := by rw [hw9, hgz]; exact PM.BK.new _ _ _
  rw [← hw9, ← hgz]
  clear hw9 hgz
  replace kx := kx.keep hBn
  replace ky := ky.keep hBn
  replace ho := ho.keep hBn
  replace ho2 := ho2.keep hBn
  replace hRz := PM.msR_lasts _ _ _ _ hBn hRz
  replace hBB := PM.hid (PM.chain hBB.out hBn)
  clear hBn
  have x0 : w9.cell? ⟨gx, 0, none⟩ = some (.int .i64 x.kind) := kx.cell 0
  have x1 : w9.cell? ⟨gx, 1, none⟩ = some (.int .u64 (x.hav : Int)) := kx.cell 1
  have x2 : w9.cell? ⟨gx, 2, none⟩ = some (.slice aa0 an0 ac0) := kx.cell 2
  have x3 : w9.cell? ⟨gx, 3, none⟩ = some (.slice aa1 an1 ac1) := kx.cell 3
  have x4 : w9.cell? ⟨gx, 4, none⟩ = some (.slice aa2 an2 ac2) := kx.cell 4
  have x5 : w9.cell? ⟨gx, 5, none⟩ = some (.slice aa3 an3 ac3) := kx.cell 5
  have x6 : w9.cell? ⟨gx, 6, none⟩ = some (.slice aa4 an4 ac4) := kx.cell 6
  have x7 : w9.cell? ⟨gx, 7, none⟩ = some (.slice aa5 an5 ac5) := kx.cell 7
  have y0 : w9.cell? ⟨gy, 0, none⟩ = some (.int .i64 y.kind) := ky.cell 0
  have y1 : w9.cell? ⟨gy, 1, none⟩ = some (.int .u64 (y.hav : Int)) := ky.cell 1
  have y2 : w9.cell? ⟨gy, 2, none⟩ = some (.slice ba0 bn0 bc0) := ky.cell 2
  have y3 : w9.cell? ⟨gy, 3, none⟩ = some (.slice ba1 bn1 bc1) := ky.cell 3
  have y4 : w9.cell? ⟨gy, 4, none⟩ = some (.slice ba2 bn2 bc2) := ky.cell 4
  have y5 : w9.cell? ⟨gy, 5, none⟩ = some (.slice ba3 bn3 bc3) := ky.cell 5
  have y6 : w9.cell? ⟨gy, 6, none⟩ = some (.slice ba4 bn4 bc4) := ky.cell 6
  have y7 : w9.cell? ⟨gy, 7, none⟩ = some (.slice ba5 bn5 bc5) := ky.cell 7
  have hsm := same13_any x y aa0 an0 ac0 aa1 an1 ac1 aa2 an2 ac2 aa3 an3 ac3 aa4 an4 ac4 aa5 an5 ac5 ba0 bn0 bc0 ba1 bn1 bc1 ba2 bn2 bc2 ba3 bn3 bc3 ba4 bn4 bc4 ba5 bn5 bc5 w9 hx.out hy.out (PM.msR_lasts _ _ _ _ hBB.out hRx.out) (PM.msR_lasts _ _ _ _ hBB.out hRy.out)
  go_wp2_with fail
  refine hsm.mono ?_
  clear hsm
  rintro e wA ⟨hsm, hBn⟩
  clear x0 x1 x2 x3 x4 x5 x6 x7 y0 y1 y2 y3 y4 y5 y6 y7
  replace kx := kx.keep hBn
  replace ho := ho.keep hBn
  replace ho2 := ho2.keep hBn
  replace kz := kz.keep hBn
  replace hBB := PM.hid (PM.chain hBB.out hBn)
  clear hBn
  clear ky hRz
  have kc1 := PM.run_str bty Try.underlying9 ho
  have kc2 := PM.run_str bty Try.underlying9 ho2
  have x0 : wA.cell? ⟨gx, 0, none⟩ = some (.int .i64 x.kind) := kx.cell 0
  have x1 : wA.cell? ⟨gx, 1, none⟩ = some (.int .u64 (x.hav : Int)) := kx.cell 1
  have x2 : wA.cell? ⟨gx, 2, none⟩ = some (.slice aa0 an0 ac0) := kx.cell 2
  have x3 : wA.cell? ⟨gx, 3, none⟩ = some (.slice aa1 an1 ac1) := kx.cell 3
  have x4 : wA.cell? ⟨gx, 4, none⟩ = some (.slice aa2 an2 ac2) := kx.cell 4
  have x5 : wA.cell? ⟨gx, 5, none⟩ = some (.slice aa3 an3 ac3) := kx.cell 5
  have x6 : wA.cell? ⟨gx, 6, none⟩ = some (.slice aa4 an4 ac4) := kx.cell 6
  have x7 : wA.cell? ⟨gx, 7, none⟩ = some (.slice aa5 an5 ac5) := kx.cell 7
  have z0 : wA.cell? ⟨gz, 0, none⟩ = some (.int .i64 x.kind) := kz.cell 0
  have z1 : wA.cell? ⟨gz, 1, none⟩ = some (.int .u64 (x.hav : Int)) := kz.cell 1
  have z2 : wA.cell? ⟨gz, 2, none⟩ = some (.slice xa0 x.votes.length xc0) := kz.cell 2
  have z3 : wA.cell? ⟨gz, 3, none⟩ = some (.slice xa1 x.asks.length xc1) := kz.cell 3
  have z4 : wA.cell? ⟨gz, 4, none⟩ = some (.slice xa2 x.entries.length xc2) := kz.cell 4
  have z5 : wA.cell? ⟨gz, 5, none⟩ = some (.slice xa3 x.prepares.length xc3) := kz.cell 5
  have z6 : wA.cell? ⟨gz, 6, none⟩ = some (.slice xa4 x.aborts.length xc4) := kz.cell 6
  have z7 : wA.cell? ⟨gz, 7, none⟩ = some (.slice xa5 x.ends.length xc5) := kz.cell 7
  clear kx kz
  rcases hsm with ⟨rfl, hxy⟩ | ⟨rfl, hxy⟩
  · have hbb : PM.msB x = PM.msB y := by rw [hxy]
    rw [← hbb] at kc2
    clear hbb hxy hinj
    go_wp2_with fail
    go_ret
    exact ⟨by first | rfl | simp, hBB.out⟩
  · have hne : (PM.msB x == PM.msB y) = false := by simpa using fun he => hxy (hinj.out hokx.out hoky.out he)
    clear hxy hinj
    go_wp2_with fail
    go_ret
    exact ⟨by first | rfl | simp, hBB.out⟩
theorem wireApart_walk (c0 : Array Value) (x : PM.Ms) (c1 : Array Value) (y : PM.Ms) (hx : x.wf) (hy : y.wf) (w : World) (hRx : PM.msR w c0.toList x) (hRy : PM.msR w c1.toList y) :
    Calls Try.prog 7 #[.agg c0, .agg c1] w fun e w' => e = .returned (.bool true) ∧ Below w.heap.size w w' := by
  have hRx' := hRx
  obtain ⟨aa0, ac0, aa1, ac1, aa2, ac2, aa3, ac3, aa4, ac4, aa5, ac5, hcs, -⟩ := PM.msR_open hRx
  rw [hcs] at hRx'
  have hca := congrArg List.toArray hcs
  rw [Array.toArray_toList] at hca
  subst hca
  have hRy' := hRy
  obtain ⟨ba0, bc0, ba1, bc1, ba2, bc2, ba3, bc3, ba4, bc4, ba5, bc5, hcs, -⟩ := PM.msR_open hRy
  rw [hcs] at hRy'
  have hca := congrArg List.toArray hcs
  rw [Array.toArray_toList] at hca
  subst hca
  exact wireApart_walkA x y aa0 _ ac0 aa1 _ ac1 aa2 _ ac2 aa3 _ ac3 aa4 _ ac4 aa5 _ ac5 ba0 _ bc0 ba1 _ bc1 ba2 _ bc2 ba3 _ bc3 ba4 _ bc4 ba5 _ bc5 hx hy w hRx' hRy'
end Go.Proofs.Ytokfookandfemaa
