/-
  THE WALK OF WireBack.
-/
import Derived.Test.YtokfookandfemaaUk
import Derived.Test.YtokfookandfemaaUi
namespace Go.Proofs.Ytokfookandfemaa
open Go.RowKit
set_option linter.unusedVariables false
set_option linter.unusedSimpArgs false
namespace PM
theorem BS.takeS {w : World} {a : Option Addr} {n c k : Nat} {l : List UInt8} (h : BS w (.slice a n c) l) (hk : k ≤ n) : BS w (.slice a k c) (l.take k) ∧ n ≤ c := by
  rcases h with ⟨h1, rfl⟩ | ⟨b, off, cap, h1, h2, h3, h4⟩ | ⟨x0, cap, h1, rfl, h2⟩
  · injection h1 with e1 e2 e3
    subst e1 e2 e3
    obtain rfl : k = 0 := by omega
    exact ⟨.inl ⟨rfl, by simp⟩, Nat.le_refl _⟩
  · injection h1 with e1 e2 e3
    subst e1 e2 e3
    exact ⟨BS.take h2 h3 h4 hk, h2⟩
  · injection h1 with e1 e2 e3
    subst e1 e2 e3
    obtain rfl : k = 0 := by omega
    exact ⟨.inr (.inr ⟨x0, _, rfl, by simp, h2⟩), Nat.zero_le _⟩
end PM
set_option maxRecDepth 100000 in
set_option maxHeartbeats 16000000 in
theorem wireBack_walkA (x : PM.Ms) (aa0 : Option Addr) (an0 ac0 : Nat) (aa1 : Option Addr) (an1 ac1 : Nat) (aa2 : Option Addr) (an2 ac2 : Nat) (aa3 : Option Addr) (an3 ac3 : Nat) (aa4 : Option Addr) (an4 ac4 : Nat) (aa5 : Option Addr) (an5 ac5 : Nat) (v : Value) (l : List UInt8) (yb : UInt8) (hx : x.wf) (w : World) (hRx : PM.msR w (PM.msC x (.slice aa0 an0 ac0) (.slice aa1 an1 ac1) (.slice aa2 an2 ac2) (.slice aa3 an3 ac3) (.slice aa4 an4 ac4) (.slice aa5 an5 ac5)) x) (hv : PM.BS w v l) :
    Calls Try.prog 6 #[.agg #[.int .i64 x.kind, .int .u64 (x.hav : Int), .slice aa0 an0 ac0, .slice aa1 an1 ac1, .slice aa2 an2 ac2, .slice aa3 an3 ac3, .slice aa4 an4 ac4, .slice aa5 an5 ac5], v, .int .u8 (yb.toNat : Int)] w fun e w' => e = .returned (.bool true) ∧ Below w.heap.size w w' := by
  have fwa : Hid (∀ W : World, Below w.heap.size w W → Calls Try.prog 10 #[.agg #[.int .i64 x.kind, .int .u64 (x.hav : Int), .slice aa0 an0 ac0, .slice aa1 an1 ac1, .slice aa2 an2 ac2, .slice aa3 an3 ac3, .slice aa4 an4 ac4, .slice aa5 an5 ac5]] W fun e w' => (e = .returned (.bool true) ∧ PM.msSm x ∨ e = .returned (.bool false)) ∧ Below W.heap.size W w') := PM.hid fun W hb => by
    obtain ⟨_, _, _, _, _, _, hcs, h0, h1, h2, h3, h4, h5⟩ := hRx
    unfold PM.msC at hcs
    simp only [List.cons.injEq, and_true, true_and] at hcs
    obtain ⟨rfl, rfl, rfl, rfl, rfl, rfl⟩ := hcs
    have n0 : an0 = x.votes.length := by obtain ⟨a, c, h⟩ := h0.len; injection h
    have n4 : an4 = x.aborts.length := by obtain ⟨a, c, h⟩ := h4.len; injection h
    have n5 : an5 = x.ends.length := by obtain ⟨a, c, h⟩ := h5.len; injection h
    refine (fewM_any x.kind x.hav aa0 an0 ac0 aa1 an1 ac1 aa2 an2 ac2 aa3 an3 ac3 aa4 an4 ac4 aa5 an5 ac5 x.asks x.entries x.prepares W (PM.EnL.keep h1 hb) (PM.EnL.keep h2 hb) (PM.EnL.keep h3 hb)).mono ?_
    rintro e w' ⟨⟨rfl, q1, q2, q3, q4, q5, q6⟩ | rfl, hb2⟩
    · exact ⟨.inl ⟨rfl, by omega, Nat.le_trans q1.1 (by omega), Nat.le_trans q2.1 (by omega), Nat.le_trans q3.1 (by omega), by omega, by omega⟩, hb2⟩
    · exact ⟨.inr rfl, hb2⟩
  have hvl := hv.len
  obtain ⟨va, vc, hve⟩ := hvl
  obtain ⟨L, hL⟩ : ∃ L, L = l.length := ⟨_, rfl⟩
  rw [← hL] at hve
  subst hve
  have hLh := PM.hid hL
  clear hL
  replace hx := PM.hid hx
  replace hRx := PM.hid hRx
  replace hv := PM.hid hv
  go_enter Try.func6, Try.ntmps6
  go_upto_region 1 with fail
  obtain ⟨gx, hgx⟩ : ∃ g, g = w.heap.size := ⟨_, rfl⟩
  obtain ⟨w2, hw2⟩ : ∃ W, W = w.alloc (.cells #[.int .i64 x.kind, .int .u64 (x.hav : Int), .slice aa0 an0 ac0, .slice aa1 an1 ac1, .slice aa2 an2 ac2, .slice aa3 an3 ac3, .slice aa4 an4 ac4, .slice aa5 an5 ac5] 28) := ⟨_, rfl⟩
  have hBn : Below w.heap.size w w2 := by rw [hw2]; exact (Below.refl _ _).alloc (Nat.le_refl _) _
  have kx : PM.BK w2 gx #[.int .i64 x.kind, .int .u64 (x.hav : Int), .slice aa0 an0 ac0, .slice aa1 an1 ac1, .slice aa2 an2 ac2, .slice aa3 an3 ac3, .slice aa4 an4 ac4, .slice aa5 an5 ac5] 28 := by rw [hw2, hgx]; exact PM.BK.new _ _ _
  rw [← hw2, ← hgx]
  clear hw2 hgx
  have hBB := PM.hid hBn
  clear hBn
  go_wp2_with fail
  refine (awake13_any w2).mono ?_
  rintro e w3 ⟨rfl, hBn⟩
  replace kx := kx.keep hBn
  replace hBB := PM.hid (PM.chain hBB.out hBn)
  clear hBn
  have x0 : w3.cell? ⟨gx, 0, none⟩ = some (.int .i64 x.kind) := kx.cell 0
  have x1 : w3.cell? ⟨gx, 1, none⟩ = some (.int .u64 (x.hav : Int)) := kx.cell 1
  have x2 : w3.cell? ⟨gx, 2, none⟩ = some (.slice aa0 an0 ac0) := kx.cell 2
  have x3 : w3.cell? ⟨gx, 3, none⟩ = some (.slice aa1 an1 ac1) := kx.cell 3
  have x4 : w3.cell? ⟨gx, 4, none⟩ = some (.slice aa2 an2 ac2) := kx.cell 4
  have x5 : w3.cell? ⟨gx, 5, none⟩ = some (.slice aa3 an3 ac3) := kx.cell 5
  have x6 : w3.cell? ⟨gx, 6, none⟩ = some (.slice aa4 an4 ac4) := kx.cell 6
  have x7 : w3.cell? ⟨gx, 7, none⟩ = some (.slice aa5 an5 ac5) := kx.cell 7
  go_wp2_with fail
  refine (fwa.out w3 hBB.out).mono ?_
  rintro e w4 ⟨hF, hBn⟩
  clear x0 x1 x2 x3 x4 x5 x6 x7
  replace kx := kx.keep hBn
  replace hBB := PM.hid (PM.chain hBB.out hBn)
  clear hBn
  rcases hF with ⟨rfl, hSx⟩ | rfl
  case inr =>
    go_wp2_with fail
    go_ret
    exact ⟨by first | rfl | simp, hBB.out⟩
  replace hSx := PM.hid hSx
  clear fwa
  by_cases hL3 : 3000 < L
  case pos =>
    have q : decide ((3000 : Int) < (L : Int)) = true := by simp; omega
    have q' : (3000 : Int) < (L : Int) := by omega
    go_wp2_with fail
    go_ret
    exact ⟨by first | rfl | simp, hBB.out⟩
  have q : decide ((3000 : Int) < (L : Int)) = false := by simp; omega
  have q' : ¬ (3000 : Int) < (L : Int) := by omega
  have x0 : w4.cell? ⟨gx, 0, none⟩ = some (.int .i64 x.kind) := kx.cell 0
  have x1 : w4.cell? ⟨gx, 1, none⟩ = some (.int .u64 (x.hav : Int)) := kx.cell 1
  have x2 : w4.cell? ⟨gx, 2, none⟩ = some (.slice aa0 an0 ac0) := kx.cell 2
  have x3 : w4.cell? ⟨gx, 3, none⟩ = some (.slice aa1 an1 ac1) := kx.cell 3
  have x4 : w4.cell? ⟨gx, 4, none⟩ = some (.slice aa2 an2 ac2) := kx.cell 4
  have x5 : w4.cell? ⟨gx, 5, none⟩ = some (.slice aa3 an3 ac3) := kx.cell 5
  have x6 : w4.cell? ⟨gx, 6, none⟩ = some (.slice aa4 an4 ac4) := kx.cell 6
  have x7 : w4.cell? ⟨gx, 7, none⟩ = some (.slice aa5 an5 ac5) := kx.cell 7
  cases hok : PM.msOkB x
  case false =>
    have hc := wencode_no x aa0 an0 ac0 aa1 an1 ac1 aa2 an2 ac2 aa3 an3 ac3 aa4 an4 ac4 aa5 an5 ac5 w4 hx.out hSx.out (PM.msR_lasts _ _ _ _ hBB.out hRx.out) hok
    clear hok
    go_wp2_with fail
    refine hc.mono ?_
    clear hc
    rintro e w5 ⟨rfl, hBn⟩
    clear x0 x1 x2 x3 x4 x5 x6 x7
    replace kx := kx.keep hBn
    replace hBB := PM.hid (PM.chain hBB.out hBn)
    clear hBn
    have hc := wdecode_any (.slice va L vc) l w5 (hv.out.keep hBB.out) (by rw [← hLh.out]; omega)
    clear kx
    go_wp2_with fail
    refine hc.mono ?_
    clear hc
    rintro e t01 ⟨y, xa0, xc0, xa1, xc1, xa2, xc2, xa3, xc3, xa4, xc4, xa5, xc5, k, rfl, hRy, hyw, hk, hBn⟩
    replace hBB := PM.hid (PM.chain hBB.out hBn)
    clear hBn
    replace hyw := PM.hid hyw
    go_upto_region 13 with fail
    obtain ⟨gy, hgy⟩ : ∃ g, g = t01.heap.size := ⟨_, rfl⟩
    obtain ⟨t02, ht02⟩ : ∃ W, W = t01.alloc (.cells #[.int .i64 y.kind, .int .u64 (y.hav : Int), .slice xa0 y.votes.length xc0, .slice xa1 y.asks.length xc1, .slice xa2 y.entries.length xc2, .slice xa3 y.prepares.length xc3, .slice xa4 y.aborts.length xc4, .slice xa5 y.ends.length xc5] 28) := ⟨_, rfl⟩
    have hBn : Below t01.heap.size t01 t02 := by rw [ht02]; exact (Below.refl _ _).alloc (Nat.le_refl _) _
    have ky : PM.BK t02 gy #[.int .i64 y.kind, .int .u64 (y.hav : Int), .slice xa0 y.votes.length xc0, .slice xa1 y.asks.length xc1, .slice xa2 y.entries.length xc2, .slice xa3 y.prepares.length xc3, .slice xa4 y.aborts.length xc4, .slice xa5 y.ends.length xc5] 28 := by rw [ht02, hgy]; exact PM.BK.new _ _ _
    rw [← ht02, ← hgy]
    clear ht02 hgy
    replace hRy := PM.msR_lasts _ _ _ _ hBn hRy
    replace hBB := PM.hid (PM.chain hBB.out hBn)
    clear hBn
    rcases hk with ⟨rfl, hd⟩ | ⟨rfl, hd, rfl⟩
    · have hb := PM.hid (PM.decM_back hd)
      clear hd
      have hsm : PM.msSm y := by
        have h := PM.msOk_iff.1 hb.out.2.1
        exact ⟨Nat.le_trans h.votes.1 (by omega), Nat.le_trans h.asks.1 (by omega), Nat.le_trans h.entries.1 (by omega), Nat.le_trans h.prepares.1 (by omega), Nat.le_trans h.aborts.1 (by omega), Nat.le_trans h.ends.1 (by omega)⟩
      have hc := wencode_yes y xa0 _ xc0 xa1 _ xc1 xa2 _ xc2 xa3 _ xc3 xa4 _ xc4 xa5 _ xc5 t02 hb.out.2.2 hsm hRy hb.out.2.1
      clear hsm
      have y0 : t02.cell? ⟨gy, 0, none⟩ = some (.int .i64 y.kind) := ky.cell 0
      have y1 : t02.cell? ⟨gy, 1, none⟩ = some (.int .u64 (y.hav : Int)) := ky.cell 1
      have y2 : t02.cell? ⟨gy, 2, none⟩ = some (.slice xa0 y.votes.length xc0) := ky.cell 2
      have y3 : t02.cell? ⟨gy, 3, none⟩ = some (.slice xa1 y.asks.length xc1) := ky.cell 3
      have y4 : t02.cell? ⟨gy, 4, none⟩ = some (.slice xa2 y.entries.length xc2) := ky.cell 4
      have y5 : t02.cell? ⟨gy, 5, none⟩ = some (.slice xa3 y.prepares.length xc3) := ky.cell 5
      have y6 : t02.cell? ⟨gy, 6, none⟩ = some (.slice xa4 y.aborts.length xc4) := ky.cell 6
      have y7 : t02.cell? ⟨gy, 7, none⟩ = some (.slice xa5 y.ends.length xc5) := ky.cell 7
      clear ky hRy
      go_wp2_with fail
      refine hc.mono ?_
      clear hc
      rintro e t03 ⟨p, rfl, hp, hBn⟩
      clear y0 y1 y2 y3 y4 y5 y6 y7
      have hp2 := hp.bs
      rw [hb.out.1] at hp2
      obtain ⟨pa, pc, hpe⟩ := hp2.len
      rw [← hLh.out] at hpe
      subst hpe
      have kc1 := PM.run_str bty Try.underlying9 hp2
      replace hBB := PM.hid (PM.chain hBB.out hBn)
      clear hBn
      have kc2 := PM.run_str bty Try.underlying9 (hv.out.keep hBB.out)
      clear hp hp2
      go_wp2_with fail
      go_ret
      exact ⟨by first | rfl | simp, hBB.out⟩
    · clear hd ky hRy
      go_wp2_with fail
      go_ret
      exact ⟨by first | rfl | simp, hBB.out⟩
  have hc := wencode_yes x aa0 an0 ac0 aa1 an1 ac1 aa2 an2 ac2 aa3 an3 ac3 aa4 an4 ac4 aa5 an5 ac5 w4 hx.out hSx.out (PM.msR_lasts _ _ _ _ hBB.out hRx.out) hok
  replace hok := PM.hid hok
  go_wp2_with fail
  refine hc.mono ?_
  clear hc
  rintro e w5 ⟨o, rfl, ho, hBn⟩
  replace ho := ho.bs
  have hpos := PM.msB_pos x
  have hle := PM.msB_le hx.out hok.out
  clear x0 x1 x2 x3 x4 x5 x6 x7
  replace kx := kx.keep hBn
  replace hBB := PM.hid (PM.chain hBB.out hBn)
  clear hBn
  obtain ⟨oa, oc, hoe⟩ := ho.len
  obtain ⟨N, hN⟩ : ∃ n, n = (PM.msB x).length := ⟨_, rfl⟩
  rw [← hN] at hoe hpos hle
  subst hoe
  replace hN := PM.hid hN
  have hd := wdec_yes _ x hx.out hok.out w5 ho
  go_wp2_with fail
  refine hd.mono ?_
  clear hd
  rintro e w6 ⟨xa0, xc0, xa1, xc1, xa2, xc2, xa3, xc3, xa4, xc4, xa5, xc5, rfl, hRz, hBn⟩
  replace kx := kx.keep hBn
  replace ho := ho.keep hBn
  replace hBB := PM.hid (PM.chain hBB.out hBn)
  clear hBn
  go_upto_region 7 with fail
  obtain ⟨gz, hgz⟩ : ∃ g, g = w6.heap.size := ⟨_, rfl⟩
  obtain ⟨w7, hw7⟩ : ∃ W, W = w6.alloc (.cells #[.int .i64 x.kind, .int .u64 (x.hav : Int), .slice xa0 x.votes.length xc0, .slice xa1 x.asks.length xc1, .slice xa2 x.entries.length xc2, .slice xa3 x.prepares.length xc3, .slice xa4 x.aborts.length xc4, .slice xa5 x.ends.length xc5] 28) := ⟨_, rfl⟩
  have hBn : Below w6.heap.size w6 w7 := by rw [hw7]; exact (Below.refl _ _).alloc (Nat.le_refl _) _
  have kz : PM.BK w7 gz #[.int .i64 x.kind, .int .u64 (x.hav : Int), .slice xa0 x.votes.length xc0, .slice xa1 x.asks.length xc1, .slice xa2 x.entries.length xc2, .slice xa3 x.prepares.length xc3, .slice xa4 x.aborts.length xc4, .slice xa5 x.ends.length xc5] 28 := by rw [hw7, hgz]; exact PM.BK.new _ _ _
  rw [← hw7, ← hgz]
  clear hw7 hgz
  replace kx := kx.keep hBn
  replace ho := ho.keep hBn
  replace hRz := PM.msR_lasts _ _ _ _ hBn hRz
  replace hBB := PM.hid (PM.chain hBB.out hBn)
  clear hBn
  have x0 : w7.cell? ⟨gx, 0, none⟩ = some (.int .i64 x.kind) := kx.cell 0
  have x1 : w7.cell? ⟨gx, 1, none⟩ = some (.int .u64 (x.hav : Int)) := kx.cell 1
  have x2 : w7.cell? ⟨gx, 2, none⟩ = some (.slice aa0 an0 ac0) := kx.cell 2
  have x3 : w7.cell? ⟨gx, 3, none⟩ = some (.slice aa1 an1 ac1) := kx.cell 3
  have x4 : w7.cell? ⟨gx, 4, none⟩ = some (.slice aa2 an2 ac2) := kx.cell 4
  have x5 : w7.cell? ⟨gx, 5, none⟩ = some (.slice aa3 an3 ac3) := kx.cell 5
  have x6 : w7.cell? ⟨gx, 6, none⟩ = some (.slice aa4 an4 ac4) := kx.cell 6
  have x7 : w7.cell? ⟨gx, 7, none⟩ = some (.slice aa5 an5 ac5) := kx.cell 7
  have z0 : w7.cell? ⟨gz, 0, none⟩ = some (.int .i64 x.kind) := kz.cell 0
  have z1 : w7.cell? ⟨gz, 1, none⟩ = some (.int .u64 (x.hav : Int)) := kz.cell 1
  have z2 : w7.cell? ⟨gz, 2, none⟩ = some (.slice xa0 x.votes.length xc0) := kz.cell 2
  have z3 : w7.cell? ⟨gz, 3, none⟩ = some (.slice xa1 x.asks.length xc1) := kz.cell 3
  have z4 : w7.cell? ⟨gz, 4, none⟩ = some (.slice xa2 x.entries.length xc2) := kz.cell 4
  have z5 : w7.cell? ⟨gz, 5, none⟩ = some (.slice xa3 x.prepares.length xc3) := kz.cell 5
  have z6 : w7.cell? ⟨gz, 6, none⟩ = some (.slice xa4 x.aborts.length xc4) := kz.cell 6
  have z7 : w7.cell? ⟨gz, 7, none⟩ = some (.slice xa5 x.ends.length xc5) := kz.cell 7
  have hsm := same13_any x x aa0 an0 ac0 aa1 an1 ac1 aa2 an2 ac2 aa3 an3 ac3 aa4 an4 ac4 aa5 an5 ac5 xa0 x.votes.length xc0 xa1 x.asks.length xc1 xa2 x.entries.length xc2 xa3 x.prepares.length xc3 xa4 x.aborts.length xc4 xa5 x.ends.length xc5 w7 hx.out hx.out (PM.msR_lasts _ _ _ _ hBB.out hRx.out) hRz
  go_wp2_with fail
  refine hsm.mono ?_
  clear hsm
  rintro e w8 ⟨hsm, hBn⟩
  clear x0 x1 x2 x3 x4 x5 x6 x7 z0 z1 z2 z3 z4 z5 z6 z7
  clear kz hRz
  replace kx := kx.keep hBn
  replace ho := ho.keep hBn
  replace hBB := PM.hid (PM.chain hBB.out hBn)
  clear hBn
  rcases hsm with ⟨rfl, -⟩ | ⟨-, h⟩
  case inr => first | exact absurd rfl h | exact absurd trivial h
  have hlong : Hid (PM.decM ([] ++ PM.msB x ++ [yb]) = none) := PM.hid (by
    have := PM.decM_long hx.out hok.out (t := [yb]) (by simp)
    simpa using this)
  have om := PM.OW.lit00 5 w8 w8.heap.size (Nat.le_refl _)
  have hal : Below w8.heap.size w8 (w8.alloc (.cells #[] 5)) := (Below.refl _ _).alloc (Nat.le_refl _) _
  have hs := ho.keep hal
  have hz := hal.size
  have hkeep := PM.hid (And.intro hBB.out (And.intro ho kx))
  clear hBB ho kx
  go_wp2_with (at_builtin; refine PM.wpList_app bty w8.heap.size rfl _ _ rfl _ _ [] (PM.msB x) rfl rfl om hs (by have := hN.out; simp; omega) hz ?_; intro v7 wa q1 q2 _; have hz7 : w8.heap.size ≤ wa.heap.size := (Nat.le_trans hz q2.size); have hq := PM.hid (hal.trans q2); have hlX : ([] ++ PM.msB x).length + 1 ≤ 140737488355328 := (by have := hN.out; simp; omega); clear om hs hz hal q2; go_wp2_with (at_builtin; refine PM.wpList_app1 bty w8.heap.size wa rfl _ _ rfl v7 ([] ++ PM.msB x) _ yb rfl rfl rfl rfl q1 hlX hz7 ?_; intro v8 wb q3 q4; have hq8 := PM.hid (hq.out.trans q4); have hs8 := q3.bs; clear q1 hz7 hlX hq q3 q4))
  refine (wdec_no _ _ (by have := hN.out; simp; omega) hlong.out wb hs8).mono ?_
  rintro e w9 ⟨xa0, xc0, xa1, xc1, xa2, xc2, xa3, xc3, xa4, xc4, xa5, xc5, rfl, hBn⟩
  have hq9 := PM.hid (PM.chain hq8.out hBn)
  obtain ⟨hBB, ho, kx⟩ := hkeep.out
  replace ho := ho.keep hq9.out
  replace kx := kx.keep hq9.out
  replace hBB := PM.hid (PM.chain hBB hq9.out)
  clear hBn hq9 hq8 hs8 hkeep hlong
  go_upto_region 9 with fail
  obtain ⟨gw, hgw⟩ : ∃ g, g = w9.heap.size := ⟨_, rfl⟩
  obtain ⟨wA, hwA⟩ : ∃ W, W = w9.alloc (.cells #[.int .i64 0, .int .u64 0, .slice xa0 0 xc0, .slice xa1 0 xc1, .slice xa2 0 xc2, .slice xa3 0 xc3, .slice xa4 0 xc4, .slice xa5 0 xc5] 28) := ⟨_, rfl⟩
  have hBn : Below w9.heap.size w9 wA := by rw [hwA]; exact (Below.refl _ _).alloc (Nat.le_refl _) _
  have kw : PM.BK wA gw #[.int .i64 0, .int .u64 0, .slice xa0 0 xc0, .slice xa1 0 xc1, .slice xa2 0 xc2, .slice xa3 0 xc3, .slice xa4 0 xc4, .slice xa5 0 xc5] 28 := by rw [hwA, hgw]; exact PM.BK.new _ _ _
  rw [← hwA, ← hgw]
  clear hwA hgw
  replace kx := kx.keep hBn
  replace ho := ho.keep hBn
  replace hBB := PM.hid (PM.chain hBB.out hBn)
  clear hBn
  clear kw
  obtain ⟨K, hK⟩ : ∃ K, N = K + 1 := ⟨N - 1, by omega⟩
  obtain ⟨hcut, hcap⟩ := ho.takeS (k := K) (by omega)
  have hsub : (N : Int) - 1 = (K : Int) := by omega
  have hmx : max (K : Int) 0 = (K : Int) := by omega
  have hKN : K ≤ oc := by omega
  have hdc : Hid (PM.decM ((PM.msB x).take K) = none) := PM.hid (PM.decM_cut hx.out hok.out (t := (PM.msB x).drop K) (List.take_append_drop _ _).symm (fun h => by
    have h1 := congrArg List.length h
    rw [List.length_drop, ← hN.out] at h1
    simp at h1
    omega))
  have hc := PM.hid (wdec_no _ _ (by rw [List.length_take]; omega) hdc.out wA hcut)
  replace hK := PM.hid hK
  clear hcut hdc ho
  go_wp2_with fail
  refine hc.out.mono ?_
  clear hc hsub hmx
  rintro e wB ⟨xa0, xc0, xa1, xc1, xa2, xc2, xa3, xc3, xa4, xc4, xa5, xc5, rfl, hBn⟩
  replace kx := kx.keep hBn
  replace hBB := PM.hid (PM.chain hBB.out hBn)
  clear hBn
  go_upto_region 10 with fail
  obtain ⟨gw, hgw⟩ : ∃ g, g = wB.heap.size := ⟨_, rfl⟩
  obtain ⟨wC, hwC⟩ : ∃ W, W = wB.alloc (.cells #[.int .i64 0, .int .u64 0, .slice xa0 0 xc0, .slice xa1 0 xc1, .slice xa2 0 xc2, .slice xa3 0 xc3, .slice xa4 0 xc4, .slice xa5 0 xc5] 28) := ⟨_, rfl⟩
  have hBn : Below wB.heap.size wB wC := by rw [hwC]; exact (Below.refl _ _).alloc (Nat.le_refl _) _
  have kw : PM.BK wC gw #[.int .i64 0, .int .u64 0, .slice xa0 0 xc0, .slice xa1 0 xc1, .slice xa2 0 xc2, .slice xa3 0 xc3, .slice xa4 0 xc4, .slice xa5 0 xc5] 28 := by rw [hwC, hgw]; exact PM.BK.new _ _ _
  rw [← hwC, ← hgw]
  clear hwC hgw
  replace kx := kx.keep hBn
  replace hBB := PM.hid (PM.chain hBB.out hBn)
  clear hBn
  clear kw
  have hc := wdecode_any (.slice va L vc) l wC (hv.out.keep hBB.out) (by rw [← hLh.out]; omega)
  clear kx
  go_wp2_with fail
  refine hc.mono ?_
  clear hc
  rintro e t11 ⟨y, xa0, xc0, xa1, xc1, xa2, xc2, xa3, xc3, xa4, xc4, xa5, xc5, k, rfl, hRy, hyw, hk, hBn⟩
  replace hBB := PM.hid (PM.chain hBB.out hBn)
  clear hBn
  replace hyw := PM.hid hyw
  go_upto_region 13 with fail
  obtain ⟨gy, hgy⟩ : ∃ g, g = t11.heap.size := ⟨_, rfl⟩
  obtain ⟨t12, ht12⟩ : ∃ W, W = t11.alloc (.cells #[.int .i64 y.kind, .int .u64 (y.hav : Int), .slice xa0 y.votes.length xc0, .slice xa1 y.asks.length xc1, .slice xa2 y.entries.length xc2, .slice xa3 y.prepares.length xc3, .slice xa4 y.aborts.length xc4, .slice xa5 y.ends.length xc5] 28) := ⟨_, rfl⟩
  have hBn : Below t11.heap.size t11 t12 := by rw [ht12]; exact (Below.refl _ _).alloc (Nat.le_refl _) _
  have ky : PM.BK t12 gy #[.int .i64 y.kind, .int .u64 (y.hav : Int), .slice xa0 y.votes.length xc0, .slice xa1 y.asks.length xc1, .slice xa2 y.entries.length xc2, .slice xa3 y.prepares.length xc3, .slice xa4 y.aborts.length xc4, .slice xa5 y.ends.length xc5] 28 := by rw [ht12, hgy]; exact PM.BK.new _ _ _
  rw [← ht12, ← hgy]
  clear ht12 hgy
  replace hRy := PM.msR_lasts _ _ _ _ hBn hRy
  replace hBB := PM.hid (PM.chain hBB.out hBn)
  clear hBn
  rcases hk with ⟨rfl, hd⟩ | ⟨rfl, hd, rfl⟩
  · have hb := PM.hid (PM.decM_back hd)
    clear hd
    have hsm : PM.msSm y := by
      have h := PM.msOk_iff.1 hb.out.2.1
      exact ⟨Nat.le_trans h.votes.1 (by omega), Nat.le_trans h.asks.1 (by omega), Nat.le_trans h.entries.1 (by omega), Nat.le_trans h.prepares.1 (by omega), Nat.le_trans h.aborts.1 (by omega), Nat.le_trans h.ends.1 (by omega)⟩
    have hc := wencode_yes y xa0 _ xc0 xa1 _ xc1 xa2 _ xc2 xa3 _ xc3 xa4 _ xc4 xa5 _ xc5 t12 hb.out.2.2 hsm hRy hb.out.2.1
    clear hsm
    have y0 : t12.cell? ⟨gy, 0, none⟩ = some (.int .i64 y.kind) := ky.cell 0
    have y1 : t12.cell? ⟨gy, 1, none⟩ = some (.int .u64 (y.hav : Int)) := ky.cell 1
    have y2 : t12.cell? ⟨gy, 2, none⟩ = some (.slice xa0 y.votes.length xc0) := ky.cell 2
    have y3 : t12.cell? ⟨gy, 3, none⟩ = some (.slice xa1 y.asks.length xc1) := ky.cell 3
    have y4 : t12.cell? ⟨gy, 4, none⟩ = some (.slice xa2 y.entries.length xc2) := ky.cell 4
    have y5 : t12.cell? ⟨gy, 5, none⟩ = some (.slice xa3 y.prepares.length xc3) := ky.cell 5
    have y6 : t12.cell? ⟨gy, 6, none⟩ = some (.slice xa4 y.aborts.length xc4) := ky.cell 6
    have y7 : t12.cell? ⟨gy, 7, none⟩ = some (.slice xa5 y.ends.length xc5) := ky.cell 7
    clear ky hRy
    go_wp2_with fail
    refine hc.mono ?_
    clear hc
    rintro e t13 ⟨p, rfl, hp, hBn⟩
    clear y0 y1 y2 y3 y4 y5 y6 y7
    have hp2 := hp.bs
    rw [hb.out.1] at hp2
    obtain ⟨pa, pc, hpe⟩ := hp2.len
    rw [← hLh.out] at hpe
    subst hpe
    have kc1 := PM.run_str bty Try.underlying9 hp2
    replace hBB := PM.hid (PM.chain hBB.out hBn)
    clear hBn
    have kc2 := PM.run_str bty Try.underlying9 (hv.out.keep hBB.out)
    clear hp hp2
    go_wp2_with fail
    go_ret
    exact ⟨by first | rfl | simp, hBB.out⟩
  · clear hd ky hRy
    go_wp2_with fail
    go_ret
    exact ⟨by first | rfl | simp, hBB.out⟩
theorem wireBack_walk (c0 : Array Value) (x : PM.Ms) (v : Value) (l : List UInt8) (by_ : Int) (hx : x.wf) (hby : (Lit.int .u8 by_).wf = true) (w : World) (hRx : PM.msR w c0.toList x) (hv : PM.BS w v l) :
    Calls Try.prog 6 #[.agg c0, v, .int .u8 by_] w fun e w' => e = .returned (.bool true) ∧ Below w.heap.size w w' := by
  obtain ⟨yb, hyb⟩ : ∃ y : UInt8, by_ = (y.toNat : Int) := by
    have hb := Go.bounds_u8 hby
    exact ⟨UInt8.ofNat by_.toNat, by simp; omega⟩
  subst hyb
  have hRx' := hRx
  obtain ⟨aa0, ac0, aa1, ac1, aa2, ac2, aa3, ac3, aa4, ac4, aa5, ac5, hcs, -⟩ := PM.msR_open hRx
  rw [hcs] at hRx'
  have hca := congrArg List.toArray hcs
  rw [Array.toArray_toList] at hca
  subst hca
  exact wireBack_walkA x aa0 _ ac0 aa1 _ ac1 aa2 _ ac2 aa3 _ ac3 aa4 _ ac4 aa5 _ ac5 v l yb hx w hRx' hv
end Go.Proofs.Ytokfookandfemaa
