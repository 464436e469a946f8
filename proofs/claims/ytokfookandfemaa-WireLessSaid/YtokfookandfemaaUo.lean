/-
  THE WALK OF WireLess.
-/
import Derived.Test.YtokfookandfemaaUk
import Derived.Test.YtokfookandfemaaUi
namespace Go.Proofs.Ytokfookandfemaa
open Go.RowKit
set_option linter.unusedVariables false
set_option linter.unusedSimpArgs false
namespace PM
theorem EM.takeN {α : Type} {e : α → List Value} {c : Nat} {w : World} {a : Option Addr} {n cap k : Nat} {l : List α} (h : EM e c w (.slice a n cap) l) (hk : k ≤ n) : EM e c w (.slice a k cap) (l.take k) ∧ n ≤ cap := by
  obtain ⟨ad, cap', he, h1, h2, h3⟩ := h
  injection he with he1 he2 he3
  subst he1 he2 he3
  have hl : (l.take k).length = k := List.length_take_of_le hk
  refine ⟨⟨a, cap, by rw [hl], by omega, h2, fun hp => ?_⟩, h1⟩
  obtain ⟨b, off, ha, h4⟩ := h3 (by omega)
  refine ⟨b, off, ha, fun i x hi => h4 i x ?_⟩
  rw [List.getElem?_take] at hi
  split at hi
  · exact hi
  · cases hi
theorem EnL.takeN {w : World} {a : Option Addr} {n cap k : Nat} {l : List En} (h : EnL w (.slice a n cap) l) (hk : k ≤ n) : EnL w (.slice a k cap) (l.take k) ∧ n ≤ cap := by
  obtain ⟨css, g1, g2, g3⟩ := h
  obtain ⟨q1, q2⟩ := g1.takeN hk
  refine ⟨⟨css.take k, q1, by simp [g2], fun i cs x ha hb => ?_⟩, q2⟩
  rw [List.getElem?_take] at ha hb
  split at ha
  · rename_i hlt
    rw [if_pos hlt] at hb
    exact g3 i cs x ha hb
  · cases ha
/-- fewer members -/
def lessM (m : Ms) (k : Nat) : Ms := ⟨m.kind, m.hav, m.votes.take k, m.asks.take k, m.entries.take k, m.prepares.take k, m.aborts.take k, m.ends.take k⟩
theorem lessM_ok {m : Ms} (h : msOkB m = true) (k : Nat) : msOkB (lessM m k) = true := by
  have h1 := msOk_iff.1 h
  have hl : ∀ {α : Type} (l : List α), (l.take k).length ≤ l.length := fun l => by rw [List.length_take]; omega
  refine msOk_iff.2 ⟨?_, ⟨Nat.le_trans (hl _) h1.votes.1, fun v hv => h1.votes.2 v (List.mem_of_mem_take hv)⟩, ⟨Nat.le_trans (hl _) h1.aborts.1, fun v hv => h1.aborts.2 v (List.mem_of_mem_take hv)⟩, ⟨Nat.le_trans (hl _) h1.ends.1, fun v hv => h1.ends.2 v (List.mem_of_mem_take hv)⟩, ⟨Nat.le_trans (hl _) h1.asks.1, fun v hv => h1.asks.2 v (List.mem_of_mem_take hv)⟩, ⟨Nat.le_trans (hl _) h1.entries.1, fun v hv => h1.entries.2 v (List.mem_of_mem_take hv)⟩, ⟨Nat.le_trans (hl _) h1.prepares.1, fun v hv => h1.prepares.2 v (List.mem_of_mem_take hv)⟩⟩
  rcases h1.kind with ⟨q, e1, e2, e3, e4⟩ | ⟨q, e1, e2⟩
  · exact .inl ⟨q, by simp [lessM, e1], by simp [lessM, e2], by simp [lessM, e3], by simp [lessM, e4]⟩
  · exact .inr ⟨q, by simp [lessM, e1], by simp [lessM, e2]⟩
theorem lessM_wf {m : Ms} (h : m.wf) (k : Nat) : (lessM m k).wf := ⟨h.kd, h.hv, fun v hv => h.vo v (List.mem_of_mem_take hv), fun v hv => h.ak v (List.mem_of_mem_take hv), fun v hv => h.en v (List.mem_of_mem_take hv), fun v hv => h.pr v (List.mem_of_mem_take hv), fun v hv => h.ab v (List.mem_of_mem_take hv), fun v hv => h.es v (List.mem_of_mem_take hv)⟩
theorem bare_ok {m : Ms} (h : msOkB m = true) : msOkB ⟨m.kind, 0, [], [], [], [], [], []⟩ = true := by
  refine msOk_iff.2 ⟨?_, ⟨by simp, by simp⟩, ⟨by simp, by simp⟩, ⟨by simp, by simp⟩, ⟨by simp, by simp⟩, ⟨by simp, by simp⟩, ⟨by simp, by simp⟩⟩
  rcases (msOk_iff.1 h).kind with ⟨q, _⟩ | ⟨q, _⟩
  · exact .inl ⟨q, rfl, rfl, rfl, rfl⟩
  · exact .inr ⟨q, rfl, rfl⟩
theorem take_min' {α : Type} (l : List α) (k n : Nat) (h : n = l.length) : l.take (min k n) = l.take k := by
  by_cases hk : k ≤ n
  · rw [Nat.min_eq_left hk]
  · rw [Nat.min_eq_right (by omega), List.take_of_length_le (by omega), List.take_of_length_le (by omega)]
end PM
set_option maxRecDepth 100000 in
set_option maxHeartbeats 16000000 in
theorem wireLess_walkA (x : PM.Ms) (aa0 : Option Addr) (an0 ac0 : Nat) (aa1 : Option Addr) (an1 ac1 : Nat) (aa2 : Option Addr) (an2 ac2 : Nat) (aa3 : Option Addr) (an3 ac3 : Nat) (aa4 : Option Addr) (an4 ac4 : Nat) (aa5 : Option Addr) (an5 ac5 : Nat) (K : Nat) (hK : K < 256) (hx : x.wf) (w : World) (hRx : PM.msR w (PM.msC x (.slice aa0 an0 ac0) (.slice aa1 an1 ac1) (.slice aa2 an2 ac2) (.slice aa3 an3 ac3) (.slice aa4 an4 ac4) (.slice aa5 an5 ac5)) x) :
    Calls Try.prog 8 #[.agg #[.int .i64 x.kind, .int .u64 (x.hav : Int), .slice aa0 an0 ac0, .slice aa1 an1 ac1, .slice aa2 an2 ac2, .slice aa3 an3 ac3, .slice aa4 an4 ac4, .slice aa5 an5 ac5], .int .u8 (K : Int)] w fun e w' => e = .returned (.bool true) ∧ Below w.heap.size w w' := by
  have fwa : Hid (∀ W : World, Below w.heap.size w W → Calls Try.prog 10 #[.agg #[.int .i64 x.kind, .int .u64 (x.hav : Int), .slice aa0 an0 ac0, .slice aa1 an1 ac1, .slice aa2 an2 ac2, .slice aa3 an3 ac3, .slice aa4 an4 ac4, .slice aa5 an5 ac5]] W fun e w' => (e = .returned (.bool true) ∧ PM.msSm x ∨ e = .returned (.bool false)) ∧ Below W.heap.size W w') := PM.hid fun W hb => by
    obtain ⟨_, _, _, _, _, _, hcs, h0, h1, h2, h3, h4, h5⟩ := hRx
    unfold PM.msC at hcs
    simp only [List.cons.injEq, and_true, true_and] at hcs
    obtain ⟨rfl, rfl, rfl, rfl, rfl, rfl⟩ := hcs
    have n0 : an0 = x.votes.length := by obtain ⟨a, c, h⟩ := h0.len; injection h
    have n4 : an4 = x.aborts.length := by obtain ⟨a, c, h⟩ := h4.len; injection h
    have n5 : an5 = x.ends.length := by obtain ⟨a, c, h⟩ := h5.len; injection h
    refine (fewM_any x.kind x.hav aa0 an0 ac0 aa1 an1 ac1 aa2 an2 ac2 aa3 an3 ac3 aa4 an4 ac4 aa5 an5 ac5 x.asks x.entries x.prepares W (PM.EnL.keep h1 hb) (PM.EnL.keep h2 hb) (PM.EnL.keep h3 hb)).mono ?_
    rintro e w' ⟨⟨rfl, q1, q2, q3, q4, q5, q6⟩ | rfl, hb2⟩
    · exact ⟨.inl ⟨rfl, by omega, Nat.le_trans q1.1 (by omega), Nat.le_trans q2.1 (by omega), Nat.le_trans q3.1 (by omega), by omega, by omega⟩, hb2⟩
    · exact ⟨.inr rfl, hb2⟩
  obtain ⟨_, _, _, _, _, _, hcs, h0, h1, h2, h3, h4, h5⟩ := hRx
  have hRx : PM.msR w (PM.msC x (.slice aa0 an0 ac0) (.slice aa1 an1 ac1) (.slice aa2 an2 ac2) (.slice aa3 an3 ac3) (.slice aa4 an4 ac4) (.slice aa5 an5 ac5)) x := ⟨_, _, _, _, _, _, hcs, h0, h1, h2, h3, h4, h5⟩
  unfold PM.msC at hcs
  simp only [List.cons.injEq, and_true, true_and] at hcs
  obtain ⟨rfl, rfl, rfl, rfl, rfl, rfl⟩ := hcs
  have n0 : an0 = x.votes.length := by obtain ⟨a, c, h⟩ := h0.len; injection h
  obtain ⟨M0, hM0⟩ : ∃ m, m = min K an0 := ⟨_, rfl⟩
  have q0 : M0 ≤ an0 ∧ M0 ≤ K := by rw [hM0]; omega
  obtain ⟨t0, cap0⟩ := PM.EM.takeN h0 (k := M0) q0.1
  rw [show x.votes.take M0 = x.votes.take K from by rw [hM0]; exact PM.take_min' _ _ _ n0] at t0
  have mm0 : min (K : Int) (an0 : Int) = (M0 : Int) := by omega
  have cc0 : M0 ≤ ac0 := by omega
  have cd0 := cap0
  replace mm0 := PM.hid mm0
  have n1 : an1 = x.asks.length := by obtain ⟨a, c, h⟩ := h1.len; injection h
  obtain ⟨M1, hM1⟩ : ∃ m, m = min K an1 := ⟨_, rfl⟩
  have q1 : M1 ≤ an1 ∧ M1 ≤ K := by rw [hM1]; omega
  obtain ⟨t1, cap1⟩ := PM.EnL.takeN h1 (k := M1) q1.1
  rw [show x.asks.take M1 = x.asks.take K from by rw [hM1]; exact PM.take_min' _ _ _ n1] at t1
  have mm1 : min (K : Int) (an1 : Int) = (M1 : Int) := by omega
  have cc1 : M1 ≤ ac1 := by omega
  have cd1 := cap1
  replace mm1 := PM.hid mm1
  have n2 : an2 = x.entries.length := by obtain ⟨a, c, h⟩ := h2.len; injection h
  obtain ⟨M2, hM2⟩ : ∃ m, m = min K an2 := ⟨_, rfl⟩
  have q2 : M2 ≤ an2 ∧ M2 ≤ K := by rw [hM2]; omega
  obtain ⟨t2, cap2⟩ := PM.EnL.takeN h2 (k := M2) q2.1
  rw [show x.entries.take M2 = x.entries.take K from by rw [hM2]; exact PM.take_min' _ _ _ n2] at t2
  have mm2 : min (K : Int) (an2 : Int) = (M2 : Int) := by omega
  have cc2 : M2 ≤ ac2 := by omega
  have cd2 := cap2
  replace mm2 := PM.hid mm2
  have n3 : an3 = x.prepares.length := by obtain ⟨a, c, h⟩ := h3.len; injection h
  obtain ⟨M3, hM3⟩ : ∃ m, m = min K an3 := ⟨_, rfl⟩
  have q3 : M3 ≤ an3 ∧ M3 ≤ K := by rw [hM3]; omega
  obtain ⟨t3, cap3⟩ := PM.EnL.takeN h3 (k := M3) q3.1
  rw [show x.prepares.take M3 = x.prepares.take K from by rw [hM3]; exact PM.take_min' _ _ _ n3] at t3
  have mm3 : min (K : Int) (an3 : Int) = (M3 : Int) := by omega
  have cc3 : M3 ≤ ac3 := by omega
  have cd3 := cap3
  replace mm3 := PM.hid mm3
  have n4 : an4 = x.aborts.length := by obtain ⟨a, c, h⟩ := h4.len; injection h
  obtain ⟨M4, hM4⟩ : ∃ m, m = min K an4 := ⟨_, rfl⟩
  have q4 : M4 ≤ an4 ∧ M4 ≤ K := by rw [hM4]; omega
  obtain ⟨t4, cap4⟩ := PM.EM.takeN h4 (k := M4) q4.1
  rw [show x.aborts.take M4 = x.aborts.take K from by rw [hM4]; exact PM.take_min' _ _ _ n4] at t4
  have mm4 : min (K : Int) (an4 : Int) = (M4 : Int) := by omega
  have cc4 : M4 ≤ ac4 := by omega
  have cd4 := cap4
  replace mm4 := PM.hid mm4
  have n5 : an5 = x.ends.length := by obtain ⟨a, c, h⟩ := h5.len; injection h
  obtain ⟨M5, hM5⟩ : ∃ m, m = min K an5 := ⟨_, rfl⟩
  have q5 : M5 ≤ an5 ∧ M5 ≤ K := by rw [hM5]; omega
  obtain ⟨t5, cap5⟩ := PM.EM.takeN h5 (k := M5) q5.1
  rw [show x.ends.take M5 = x.ends.take K from by rw [hM5]; exact PM.take_min' _ _ _ n5] at t5
  have mm5 : min (K : Int) (an5 : Int) = (M5 : Int) := by omega
  have cc5 : M5 ≤ ac5 := by omega
  have cd5 := cap5
  replace mm5 := PM.hid mm5
  have hRl : Hid (PM.msR w (PM.msC (PM.lessM x K) (.slice aa0 M0 ac0) (.slice aa1 M1 ac1) (.slice aa2 M2 ac2) (.slice aa3 M3 ac3) (.slice aa4 M4 ac4) (.slice aa5 M5 ac5)) (PM.lessM x K)) := PM.hid ⟨_, _, _, _, _, _, rfl, t0, t1, t2, t3, t4, t5⟩
  have hsz : Hid (PM.msSm x → PM.msSm (PM.lessM x K)) := PM.hid fun h => by
    have hl : ∀ {α : Type} (l : List α), (l.take K).length ≤ l.length := fun l => by rw [List.length_take]; omega
    exact ⟨Nat.le_trans (hl _) h.1, Nat.le_trans (hl _) h.2.1, Nat.le_trans (hl _) h.2.2.1, Nat.le_trans (hl _) h.2.2.2.1, Nat.le_trans (hl _) h.2.2.2.2.1, Nat.le_trans (hl _) h.2.2.2.2.2⟩
  clear h0 h1 h2 h3 h4 h5 n0 n1 n2 n3 n4 n5 t0 t1 t2 t3 t4 t5 q0 hM0 cap0 q1 hM1 cap1 q2 hM2 cap2 q3 hM3 cap3 q4 hM4 cap4 q5 hM5 cap5
  replace hx := PM.hid hx
  replace hRx := PM.hid hRx
  go_enter Try.func8, Try.ntmps8
  go_upto_region 1 with fail
  obtain ⟨gx, hgx⟩ : ∃ g, g = w.heap.size := ⟨_, rfl⟩
  obtain ⟨w2, hw2⟩ : ∃ W, W = w.alloc (.cells #[.int .i64 x.kind, .int .u64 (x.hav : Int), .slice aa0 an0 ac0, .slice aa1 an1 ac1, .slice aa2 an2 ac2, .slice aa3 an3 ac3, .slice aa4 an4 ac4, .slice aa5 an5 ac5] 28) := ⟨_, rfl⟩
  have hBn : Below w.heap.size w w2 := by rw [hw2]; exact (Below.refl _ _).alloc (Nat.le_refl _) _
  have kx : PM.BK w2 gx #[.int .i64 x.kind, .int .u64 (x.hav : Int), .slice aa0 an0 ac0, .slice aa1 an1 ac1, .slice aa2 an2 ac2, .slice aa3 an3 ac3, .slice aa4 an4 ac4, .slice aa5 an5 ac5] 28 := by rw [hw2, hgx]; exact PM.BK.new _ _ _
  rw [← hw2, ← hgx]
  clear hw2 hgx
  have hBB := PM.hid hBn
  clear hBn
  go_wp2_with fail
  refine (awake13_any w2).mono ?_
  rintro e w3 ⟨rfl, hBn⟩
  replace kx := kx.keep hBn
  replace hBB := PM.hid (PM.chain hBB.out hBn)
  clear hBn
  have x0 : w3.cell? ⟨gx, 0, none⟩ = some (.int .i64 x.kind) := kx.cell 0
  have x1 : w3.cell? ⟨gx, 1, none⟩ = some (.int .u64 (x.hav : Int)) := kx.cell 1
  have x2 : w3.cell? ⟨gx, 2, none⟩ = some (.slice aa0 an0 ac0) := kx.cell 2
  have x3 : w3.cell? ⟨gx, 3, none⟩ = some (.slice aa1 an1 ac1) := kx.cell 3
  have x4 : w3.cell? ⟨gx, 4, none⟩ = some (.slice aa2 an2 ac2) := kx.cell 4
  have x5 : w3.cell? ⟨gx, 5, none⟩ = some (.slice aa3 an3 ac3) := kx.cell 5
  have x6 : w3.cell? ⟨gx, 6, none⟩ = some (.slice aa4 an4 ac4) := kx.cell 6
  have x7 : w3.cell? ⟨gx, 7, none⟩ = some (.slice aa5 an5 ac5) := kx.cell 7
  go_wp2_with fail
  refine (fwa.out w3 hBB.out).mono ?_
  rintro e w4 ⟨hF, hBn⟩
  clear x0 x1 x2 x3 x4 x5 x6 x7
  replace kx := kx.keep hBn
  replace hBB := PM.hid (PM.chain hBB.out hBn)
  clear hBn
  rcases hF with ⟨rfl, hSx⟩ | rfl
  case inr =>
    go_wp2_with fail
    go_ret
    exact ⟨by first | rfl | simp, hBB.out⟩
  replace hSx := PM.hid hSx
  clear fwa
  have x0 : w4.cell? ⟨gx, 0, none⟩ = some (.int .i64 x.kind) := kx.cell 0
  have x1 : w4.cell? ⟨gx, 1, none⟩ = some (.int .u64 (x.hav : Int)) := kx.cell 1
  have x2 : w4.cell? ⟨gx, 2, none⟩ = some (.slice aa0 an0 ac0) := kx.cell 2
  have x3 : w4.cell? ⟨gx, 3, none⟩ = some (.slice aa1 an1 ac1) := kx.cell 3
  have x4 : w4.cell? ⟨gx, 4, none⟩ = some (.slice aa2 an2 ac2) := kx.cell 4
  have x5 : w4.cell? ⟨gx, 5, none⟩ = some (.slice aa3 an3 ac3) := kx.cell 5
  have x6 : w4.cell? ⟨gx, 6, none⟩ = some (.slice aa4 an4 ac4) := kx.cell 6
  have x7 : w4.cell? ⟨gx, 7, none⟩ = some (.slice aa5 an5 ac5) := kx.cell 7
  have hck := wcheck_any x aa0 an0 ac0 aa1 an1 ac1 aa2 an2 ac2 aa3 an3 ac3 aa4 an4 ac4 aa5 an5 ac5 w4 hx.out hSx.out (PM.msR_lasts _ _ _ _ hBB.out hRx.out)
  cases hok : PM.msOkB x
  case false =>
    rw [PM.msE_no hok] at hck
    clear hok
    go_wp2_with fail
    refine hck.mono ?_
    clear hck
    rintro e w5 ⟨rfl, hBn⟩
    clear x0 x1 x2 x3 x4 x5 x6 x7
    clear kx
    replace hBB := PM.hid (PM.chain hBB.out hBn)
    clear hBn
    go_wp2_with fail
    go_ret
    exact ⟨by first | rfl | simp, hBB.out⟩
  rw [PM.msE_yes hok] at hck
  replace hok := PM.hid hok
  go_wp2_with fail
  refine hck.mono ?_
  clear hck
  rintro e w5 ⟨rfl, hBn⟩
  clear x0 x1 x2 x3 x4 x5 x6 x7
  replace kx := kx.keep hBn
  replace hBB := PM.hid (PM.chain hBB.out hBn)
  clear hBn
  have x0 : w5.cell? ⟨gx, 0, none⟩ = some (.int .i64 x.kind) := kx.cell 0
  have x1 : w5.cell? ⟨gx, 1, none⟩ = some (.int .u64 (x.hav : Int)) := kx.cell 1
  have x2 : w5.cell? ⟨gx, 2, none⟩ = some (.slice aa0 an0 ac0) := kx.cell 2
  have x3 : w5.cell? ⟨gx, 3, none⟩ = some (.slice aa1 an1 ac1) := kx.cell 3
  have x4 : w5.cell? ⟨gx, 4, none⟩ = some (.slice aa2 an2 ac2) := kx.cell 4
  have x5 : w5.cell? ⟨gx, 5, none⟩ = some (.slice aa3 an3 ac3) := kx.cell 5
  have x6 : w5.cell? ⟨gx, 6, none⟩ = some (.slice aa4 an4 ac4) := kx.cell 6
  have x7 : w5.cell? ⟨gx, 7, none⟩ = some (.slice aa5 an5 ac5) := kx.cell 7
  go_upto_region 6 with fail
  obtain ⟨gl, hgl⟩ : ∃ g, g = w5.heap.size := ⟨_, rfl⟩
  obtain ⟨w6, hw6⟩ : ∃ W, W = w5.alloc (.cells #[.int .i64 x.kind, .int .u64 (x.hav : Int), .slice aa0 an0 ac0, .slice aa1 an1 ac1, .slice aa2 an2 ac2, .slice aa3 an3 ac3, .slice aa4 an4 ac4, .slice aa5 an5 ac5] 28) := ⟨_, rfl⟩
  have hBn : Below w5.heap.size w5 w6 := by rw [hw6]; exact (Below.refl _ _).alloc (Nat.le_refl _) _
  have kl : PM.BK w6 gl #[.int .i64 x.kind, .int .u64 (x.hav : Int), .slice aa0 an0 ac0, .slice aa1 an1 ac1, .slice aa2 an2 ac2, .slice aa3 an3 ac3, .slice aa4 an4 ac4, .slice aa5 an5 ac5] 28 := by rw [hw6, hgl]; exact PM.BK.new _ _ _
  have hgl5 : w5.heap.size ≤ gl := by omega
  have hne : gx ≠ gl := by have := kx.lt; omega
  rw [← hw6, ← hgl]
  clear hw6 hgl
  have hgw : w.heap.size ≤ gl := Nat.le_trans hBB.out.size hgl5
  clear x0 x1 x2 x3 x4 x5 x6 x7
  replace kx := kx.keep hBn
  replace hBB := PM.hid (PM.chain hBB.out hBn)
  clear hBn
  go_cut [28] from 21 to 29 (fun s wx => PM.BK wx gl #[.int .i64 x.kind, .int .u64 (x.hav : Int), .slice aa0 M0 ac0, .slice aa1 an1 ac1, .slice aa2 an2 ac2, .slice aa3 an3 ac3, .slice aa4 an4 ac4, .slice aa5 an5 ac5] 28 ∧ PM.Bx gl w6 wx)
  case first =>
    have mm_ := mm0.out
    by_cases hKn : K ≤ an0
    · have e1 : M0 = K := by omega
      have e2 : min (K : Int) (an0 : Int) = (K : Int) := by omega
      have e1h := PM.hid e1
      clear e1
      have x0 : w6.cell? ⟨gx, 2, none⟩ = some (.slice aa0 an0 ac0) := kx.cell 2
      have l0 : w6.cell? ⟨gl, 2, none⟩ = some (.slice aa0 an0 ac0) := kl.cell 2
      have lf : w6.frozen? ⟨gl, 2, none⟩ = false := kl.free 2
      have kn := PM.hid (show PM.BK (w6.setCell ⟨gl, 2, none⟩ (.slice aa0 K ac0)) gl #[.int .i64 x.kind, .int .u64 (x.hav : Int), .slice aa0 K ac0, .slice aa1 an1 ac1, .slice aa2 an2 ac2, .slice aa3 an3 ac3, .slice aa4 an4 ac4, .slice aa5 an5 ac5] 28 by have := kl.set 2 (.slice aa0 K ac0); simpa using this)
      have hxs := PM.hid (PM.Bx.set gl 2 w6 (.slice aa0 K ac0))
      clear mm_ kl
      go_wp2_with fail
      all_goals
        go_meet
        exact ⟨by rw [e1h.out]; exact kn.out, hxs.out⟩
    · have e1 : M0 = an0 := by omega
      have e2 : min (K : Int) (an0 : Int) = (an0 : Int) := by omega
      have e1h := PM.hid e1
      clear e1
      have x0 : w6.cell? ⟨gx, 2, none⟩ = some (.slice aa0 an0 ac0) := kx.cell 2
      have l0 : w6.cell? ⟨gl, 2, none⟩ = some (.slice aa0 an0 ac0) := kl.cell 2
      have lf : w6.frozen? ⟨gl, 2, none⟩ = false := kl.free 2
      have kn := PM.hid (show PM.BK (w6.setCell ⟨gl, 2, none⟩ (.slice aa0 an0 ac0)) gl #[.int .i64 x.kind, .int .u64 (x.hav : Int), .slice aa0 an0 ac0, .slice aa1 an1 ac1, .slice aa2 an2 ac2, .slice aa3 an3 ac3, .slice aa4 an4 ac4, .slice aa5 an5 ac5] 28 by have := kl.set 2 (.slice aa0 an0 ac0); simpa using this)
      have hxs := PM.hid (PM.Bx.set gl 2 w6 (.slice aa0 an0 ac0))
      clear mm_ kl
      go_wp2_with fail
      all_goals
        go_meet
        exact ⟨by rw [e1h.out]; exact kn.out, hxs.out⟩
  case rest =>
  obtain ⟨kn, hxs⟩ := hcut
  obtain ⟨v0, hv0⟩ : ∃ W, W = wc := ⟨_, rfl⟩
  rw [← hv0] at kn hxs ⊢
  clear hv0
  replace kx := kx.keepx hxs hne
  replace hBB := PM.hid (hxs.below hBB.out hgw hBB.out.size)
  clear kl
  have kl := kn
  clear hxs kn
  go_upto_region 7 with fail
  go_cut [37] from 30 to 38 (fun s wx => PM.BK wx gl #[.int .i64 x.kind, .int .u64 (x.hav : Int), .slice aa0 M0 ac0, .slice aa1 M1 ac1, .slice aa2 an2 ac2, .slice aa3 an3 ac3, .slice aa4 an4 ac4, .slice aa5 an5 ac5] 28 ∧ PM.Bx gl v0 wx)
  case first =>
    have mm_ := mm1.out
    by_cases hKn : K ≤ an1
    · have e1 : M1 = K := by omega
      have e2 : min (K : Int) (an1 : Int) = (K : Int) := by omega
      have e1h := PM.hid e1
      clear e1
      have x0 : v0.cell? ⟨gx, 3, none⟩ = some (.slice aa1 an1 ac1) := kx.cell 3
      have l0 : v0.cell? ⟨gl, 3, none⟩ = some (.slice aa1 an1 ac1) := kl.cell 3
      have lf : v0.frozen? ⟨gl, 3, none⟩ = false := kl.free 3
      have kn := PM.hid (show PM.BK (v0.setCell ⟨gl, 3, none⟩ (.slice aa1 K ac1)) gl #[.int .i64 x.kind, .int .u64 (x.hav : Int), .slice aa0 M0 ac0, .slice aa1 K ac1, .slice aa2 an2 ac2, .slice aa3 an3 ac3, .slice aa4 an4 ac4, .slice aa5 an5 ac5] 28 by have := kl.set 3 (.slice aa1 K ac1); simpa using this)
      have hxs := PM.hid (PM.Bx.set gl 3 v0 (.slice aa1 K ac1))
      clear mm_ kl
      go_wp2_with fail
      all_goals
        go_meet
        exact ⟨by rw [e1h.out]; exact kn.out, hxs.out⟩
    · have e1 : M1 = an1 := by omega
      have e2 : min (K : Int) (an1 : Int) = (an1 : Int) := by omega
      have e1h := PM.hid e1
      clear e1
      have x0 : v0.cell? ⟨gx, 3, none⟩ = some (.slice aa1 an1 ac1) := kx.cell 3
      have l0 : v0.cell? ⟨gl, 3, none⟩ = some (.slice aa1 an1 ac1) := kl.cell 3
      have lf : v0.frozen? ⟨gl, 3, none⟩ = false := kl.free 3
      have kn := PM.hid (show PM.BK (v0.setCell ⟨gl, 3, none⟩ (.slice aa1 an1 ac1)) gl #[.int .i64 x.kind, .int .u64 (x.hav : Int), .slice aa0 M0 ac0, .slice aa1 an1 ac1, .slice aa2 an2 ac2, .slice aa3 an3 ac3, .slice aa4 an4 ac4, .slice aa5 an5 ac5] 28 by have := kl.set 3 (.slice aa1 an1 ac1); simpa using this)
      have hxs := PM.hid (PM.Bx.set gl 3 v0 (.slice aa1 an1 ac1))
      clear mm_ kl
      go_wp2_with fail
      all_goals
        go_meet
        exact ⟨by rw [e1h.out]; exact kn.out, hxs.out⟩
  case rest =>
  obtain ⟨kn, hxs⟩ := hcut
  obtain ⟨v1, hv1⟩ : ∃ W, W = wc := ⟨_, rfl⟩
  rw [← hv1] at kn hxs ⊢
  clear hv1
  replace kx := kx.keepx hxs hne
  replace hBB := PM.hid (hxs.below hBB.out hgw hBB.out.size)
  clear kl
  have kl := kn
  clear hxs kn
  go_upto_region 8 with fail
  go_cut [46] from 39 to 47 (fun s wx => PM.BK wx gl #[.int .i64 x.kind, .int .u64 (x.hav : Int), .slice aa0 M0 ac0, .slice aa1 M1 ac1, .slice aa2 M2 ac2, .slice aa3 an3 ac3, .slice aa4 an4 ac4, .slice aa5 an5 ac5] 28 ∧ PM.Bx gl v1 wx)
  case first =>
    have mm_ := mm2.out
    by_cases hKn : K ≤ an2
    · have e1 : M2 = K := by omega
      have e2 : min (K : Int) (an2 : Int) = (K : Int) := by omega
      have e1h := PM.hid e1
      clear e1
      have x0 : v1.cell? ⟨gx, 4, none⟩ = some (.slice aa2 an2 ac2) := kx.cell 4
      have l0 : v1.cell? ⟨gl, 4, none⟩ = some (.slice aa2 an2 ac2) := kl.cell 4
      have lf : v1.frozen? ⟨gl, 4, none⟩ = false := kl.free 4
      have kn := PM.hid (show PM.BK (v1.setCell ⟨gl, 4, none⟩ (.slice aa2 K ac2)) gl #[.int .i64 x.kind, .int .u64 (x.hav : Int), .slice aa0 M0 ac0, .slice aa1 M1 ac1, .slice aa2 K ac2, .slice aa3 an3 ac3, .slice aa4 an4 ac4, .slice aa5 an5 ac5] 28 by have := kl.set 4 (.slice aa2 K ac2); simpa using this)
      have hxs := PM.hid (PM.Bx.set gl 4 v1 (.slice aa2 K ac2))
      clear mm_ kl
      go_wp2_with fail
      all_goals
        go_meet
        exact ⟨by rw [e1h.out]; exact kn.out, hxs.out⟩
    · have e1 : M2 = an2 := by omega
      have e2 : min (K : Int) (an2 : Int) = (an2 : Int) := by omega
      have e1h := PM.hid e1
      clear e1
      have x0 : v1.cell? ⟨gx, 4, none⟩ = some (.slice aa2 an2 ac2) := kx.cell 4
      have l0 : v1.cell? ⟨gl, 4, none⟩ = some (.slice aa2 an2 ac2) := kl.cell 4
      have lf : v1.frozen? ⟨gl, 4, none⟩ = false := kl.free 4
      have kn := PM.hid (show PM.BK (v1.setCell ⟨gl, 4, none⟩ (.slice aa2 an2 ac2)) gl #[.int .i64 x.kind, .int .u64 (x.hav : Int), .slice aa0 M0 ac0, .slice aa1 M1 ac1, .slice aa2 an2 ac2, .slice aa3 an3 ac3, .slice aa4 an4 ac4, .slice aa5 an5 ac5] 28 by have := kl.set 4 (.slice aa2 an2 ac2); simpa using this)
      have hxs := PM.hid (PM.Bx.set gl 4 v1 (.slice aa2 an2 ac2))
      clear mm_ kl
      go_wp2_with fail
      all_goals
        go_meet
        exact ⟨by rw [e1h.out]; exact kn.out, hxs.out⟩
  case rest =>
  obtain ⟨kn, hxs⟩ := hcut
  obtain ⟨v2, hv2⟩ : ∃ W, W = wc := ⟨_, rfl⟩
  rw [← hv2] at kn hxs ⊢
  clear hv2
  replace kx := kx.keepx hxs hne
  replace hBB := PM.hid (hxs.below hBB.out hgw hBB.out.size)
  clear kl
  have kl := kn
  clear hxs kn
  go_upto_region 9 with fail
  go_cut [55] from 48 to 56 (fun s wx => PM.BK wx gl #[.int .i64 x.kind, .int .u64 (x.hav : Int), .slice aa0 M0 ac0, .slice aa1 M1 ac1, .slice aa2 M2 ac2, .slice aa3 M3 ac3, .slice aa4 an4 ac4, .slice aa5 an5 ac5] 28 ∧ PM.Bx gl v2 wx)
  case first =>
    have mm_ := mm3.out
    by_cases hKn : K ≤ an3
    · have e1 : M3 = K := by omega
      have e2 : min (K : Int) (an3 : Int) = (K : Int) := by omega
      have e1h := PM.hid e1
      clear e1
      have x0 : v2.cell? ⟨gx, 5, none⟩ = some (.slice aa3 an3 ac3) := kx.cell 5
      have l0 : v2.cell? ⟨gl, 5, none⟩ = some (.slice aa3 an3 ac3) := kl.cell 5
      have lf : v2.frozen? ⟨gl, 5, none⟩ = false := kl.free 5
      have kn := PM.hid (show PM.BK (v2.setCell ⟨gl, 5, none⟩ (.slice aa3 K ac3)) gl #[.int .i64 x.kind, .int .u64 (x.hav : Int), .slice aa0 M0 ac0, .slice aa1 M1 ac1, .slice aa2 M2 ac2, .slice aa3 K ac3, .slice aa4 an4 ac4, .slice aa5 an5 ac5] 28 by have := kl.set 5 (.slice aa3 K ac3); simpa using this)
      have hxs := PM.hid (PM.Bx.set gl 5 v2 (.slice aa3 K ac3))
      clear mm_ kl
      go_wp2_with fail
      all_goals
        go_meet
        exact ⟨by rw [e1h.out]; exact kn.out, hxs.out⟩
    · have e1 : M3 = an3 := by omega
      have e2 : min (K : Int) (an3 : Int) = (an3 : Int) := by omega
      have e1h := PM.hid e1
      clear e1
      have x0 : v2.cell? ⟨gx, 5, none⟩ = some (.slice aa3 an3 ac3) := kx.cell 5
      have l0 : v2.cell? ⟨gl, 5, none⟩ = some (.slice aa3 an3 ac3) := kl.cell 5
      have lf : v2.frozen? ⟨gl, 5, none⟩ = false := kl.free 5
      have kn := PM.hid (show PM.BK (v2.setCell ⟨gl, 5, none⟩ (.slice aa3 an3 ac3)) gl #[.int .i64 x.kind, .int .u64 (x.hav : Int), .slice aa0 M0 ac0, .slice aa1 M1 ac1, .slice aa2 M2 ac2, .slice aa3 an3 ac3, .slice aa4 an4 ac4, .slice aa5 an5 ac5] 28 by have := kl.set 5 (.slice aa3 an3 ac3); simpa using this)
      have hxs := PM.hid (PM.Bx.set gl 5 v2 (.slice aa3 an3 ac3))
      clear mm_ kl
      go_wp2_with fail
      all_goals
        go_meet
        exact ⟨by rw [e1h.out]; exact kn.out, hxs.out⟩
  case rest =>
  obtain ⟨kn, hxs⟩ := hcut
  obtain ⟨v3, hv3⟩ : ∃ W, W = wc := ⟨_, rfl⟩
  rw [← hv3] at kn hxs ⊢
  clear hv3
  replace kx := kx.keepx hxs hne
  replace hBB := PM.hid (hxs.below hBB.out hgw hBB.out.size)
  clear kl
  have kl := kn
  clear hxs kn
  go_upto_region 10 with fail
  go_cut [64] from 57 to 65 (fun s wx => PM.BK wx gl #[.int .i64 x.kind, .int .u64 (x.hav : Int), .slice aa0 M0 ac0, .slice aa1 M1 ac1, .slice aa2 M2 ac2, .slice aa3 M3 ac3, .slice aa4 M4 ac4, .slice aa5 an5 ac5] 28 ∧ PM.Bx gl v3 wx)
  case first =>
    have mm_ := mm4.out
    by_cases hKn : K ≤ an4
    · have e1 : M4 = K := by omega
      have e2 : min (K : Int) (an4 : Int) = (K : Int) := by omega
      have e1h := PM.hid e1
      clear e1
      have x0 : v3.cell? ⟨gx, 6, none⟩ = some (.slice aa4 an4 ac4) := kx.cell 6
      have l0 : v3.cell? ⟨gl, 6, none⟩ = some (.slice aa4 an4 ac4) := kl.cell 6
      have lf : v3.frozen? ⟨gl, 6, none⟩ = false := kl.free 6
      have kn := PM.hid (show PM.BK (v3.setCell ⟨gl, 6, none⟩ (.slice aa4 K ac4)) gl #[.int .i64 x.kind, .int .u64 (x.hav : Int), .slice aa0 M0 ac0, .slice aa1 M1 ac1, .slice aa2 M2 ac2, .slice aa3 M3 ac3, .slice aa4 K ac4, .slice aa5 an5 ac5] 28 by have := kl.set 6 (.slice aa4 K ac4); simpa using this)
      have hxs := PM.hid (PM.Bx.set gl 6 v3 (.slice aa4 K ac4))
      clear mm_ kl
      go_wp2_with fail
      all_goals
        go_meet
        exact ⟨by rw [e1h.out]; exact kn.out, hxs.out⟩
    · have e1 : M4 = an4 := by omega
      have e2 : min (K : Int) (an4 : Int) = (an4 : Int) := by omega
      have e1h := PM.hid e1
      clear e1
      have x0 : v3.cell? ⟨gx, 6, none⟩ = some (.slice aa4 an4 ac4) := kx.cell 6
      have l0 : v3.cell? ⟨gl, 6, none⟩ = some (.slice aa4 an4 ac4) := kl.cell 6
      have lf : v3.frozen? ⟨gl, 6, none⟩ = false := kl.free 6
      have kn := PM.hid (show PM.BK (v3.setCell ⟨gl, 6, none⟩ (.slice aa4 an4 ac4)) gl #[.int .i64 x.kind, .int .u64 (x.hav : Int), .slice aa0 M0 ac0, .slice aa1 M1 ac1, .slice aa2 M2 ac2, .slice aa3 M3 ac3, .slice aa4 an4 ac4, .slice aa5 an5 ac5] 28 by have := kl.set 6 (.slice aa4 an4 ac4); simpa using this)
      have hxs := PM.hid (PM.Bx.set gl 6 v3 (.slice aa4 an4 ac4))
      clear mm_ kl
      go_wp2_with fail
      all_goals
        go_meet
        exact ⟨by rw [e1h.out]; exact kn.out, hxs.out⟩
  case rest =>
  obtain ⟨kn, hxs⟩ := hcut
  obtain ⟨v4, hv4⟩ : ∃ W, W = wc := ⟨_, rfl⟩
  rw [← hv4] at kn hxs ⊢
  clear hv4
  replace kx := kx.keepx hxs hne
  replace hBB := PM.hid (hxs.below hBB.out hgw hBB.out.size)
  clear kl
  have kl := kn
  clear hxs kn
  go_upto_region 11 with fail
  go_cut [73] from 66 to 74 (fun s wx => PM.BK wx gl #[.int .i64 x.kind, .int .u64 (x.hav : Int), .slice aa0 M0 ac0, .slice aa1 M1 ac1, .slice aa2 M2 ac2, .slice aa3 M3 ac3, .slice aa4 M4 ac4, .slice aa5 M5 ac5] 28 ∧ PM.Bx gl v4 wx)
  case first =>
    have mm_ := mm5.out
    by_cases hKn : K ≤ an5
    · have e1 : M5 = K := by omega
      have e2 : min (K : Int) (an5 : Int) = (K : Int) := by omega
      have e1h := PM.hid e1
      clear e1
      have x0 : v4.cell? ⟨gx, 7, none⟩ = some (.slice aa5 an5 ac5) := kx.cell 7
      have l0 : v4.cell? ⟨gl, 7, none⟩ = some (.slice aa5 an5 ac5) := kl.cell 7
      have lf : v4.frozen? ⟨gl, 7, none⟩ = false := kl.free 7
      have kn := PM.hid (show PM.BK (v4.setCell ⟨gl, 7, none⟩ (.slice aa5 K ac5)) gl #[.int .i64 x.kind, .int .u64 (x.hav : Int), .slice aa0 M0 ac0, .slice aa1 M1 ac1, .slice aa2 M2 ac2, .slice aa3 M3 ac3, .slice aa4 M4 ac4, .slice aa5 K ac5] 28 by have := kl.set 7 (.slice aa5 K ac5); simpa using this)
      have hxs := PM.hid (PM.Bx.set gl 7 v4 (.slice aa5 K ac5))
      clear mm_ kl
      go_wp2_with fail
      all_goals
        go_meet
        exact ⟨by rw [e1h.out]; exact kn.out, hxs.out⟩
    · have e1 : M5 = an5 := by omega
      have e2 : min (K : Int) (an5 : Int) = (an5 : Int) := by omega
      have e1h := PM.hid e1
      clear e1
      have x0 : v4.cell? ⟨gx, 7, none⟩ = some (.slice aa5 an5 ac5) := kx.cell 7
      have l0 : v4.cell? ⟨gl, 7, none⟩ = some (.slice aa5 an5 ac5) := kl.cell 7
      have lf : v4.frozen? ⟨gl, 7, none⟩ = false := kl.free 7
      have kn := PM.hid (show PM.BK (v4.setCell ⟨gl, 7, none⟩ (.slice aa5 an5 ac5)) gl #[.int .i64 x.kind, .int .u64 (x.hav : Int), .slice aa0 M0 ac0, .slice aa1 M1 ac1, .slice aa2 M2 ac2, .slice aa3 M3 ac3, .slice aa4 M4 ac4, .slice aa5 an5 ac5] 28 by have := kl.set 7 (.slice aa5 an5 ac5); simpa using this)
      have hxs := PM.hid (PM.Bx.set gl 7 v4 (.slice aa5 an5 ac5))
      clear mm_ kl
      go_wp2_with fail
      all_goals
        go_meet
        exact ⟨by rw [e1h.out]; exact kn.out, hxs.out⟩
  case rest =>
  obtain ⟨kn, hxs⟩ := hcut
  obtain ⟨v5, hv5⟩ : ∃ W, W = wc := ⟨_, rfl⟩
  rw [← hv5] at kn hxs ⊢
  clear hv5
  replace kx := kx.keepx hxs hne
  replace hBB := PM.hid (hxs.below hBB.out hgw hBB.out.size)
  clear kl
  have kl := kn
  clear hxs kn
  have l0 : v5.cell? ⟨gl, 0, none⟩ = some (.int .i64 x.kind) := kl.cell 0
  have l1 : v5.cell? ⟨gl, 1, none⟩ = some (.int .u64 (x.hav : Int)) := kl.cell 1
  have l2 : v5.cell? ⟨gl, 2, none⟩ = some (.slice aa0 M0 ac0) := kl.cell 2
  have l3 : v5.cell? ⟨gl, 3, none⟩ = some (.slice aa1 M1 ac1) := kl.cell 3
  have l4 : v5.cell? ⟨gl, 4, none⟩ = some (.slice aa2 M2 ac2) := kl.cell 4
  have l5 : v5.cell? ⟨gl, 5, none⟩ = some (.slice aa3 M3 ac3) := kl.cell 5
  have l6 : v5.cell? ⟨gl, 6, none⟩ = some (.slice aa4 M4 ac4) := kl.cell 6
  have l7 : v5.cell? ⟨gl, 7, none⟩ = some (.slice aa5 M5 ac5) := kl.cell 7
  have hck := wcheck_any (PM.lessM x K) aa0 M0 ac0 aa1 M1 ac1 aa2 M2 ac2 aa3 M3 ac3 aa4 M4 ac4 aa5 M5 ac5 v5 (PM.lessM_wf hx.out K) (hsz.out hSx.out) (PM.msR_lasts _ _ _ _ hBB.out hRl.out)
  rw [PM.msE_yes (PM.lessM_ok hok.out K)] at hck
  go_wp2_with fail
  refine hck.mono ?_
  clear hck
  rintro e z1 ⟨rfl, hBn⟩
  clear l0 l1 l2 l3 l4 l5 l6 l7
  clear kl
  replace kx := kx.keep hBn
  replace hBB := PM.hid (PM.chain hBB.out hBn)
  clear hBn
  have x0 : z1.cell? ⟨gx, 0, none⟩ = some (.int .i64 x.kind) := kx.cell 0
  have x1 : z1.cell? ⟨gx, 1, none⟩ = some (.int .u64 (x.hav : Int)) := kx.cell 1
  have x2 : z1.cell? ⟨gx, 2, none⟩ = some (.slice aa0 an0 ac0) := kx.cell 2
  have x3 : z1.cell? ⟨gx, 3, none⟩ = some (.slice aa1 an1 ac1) := kx.cell 3
  have x4 : z1.cell? ⟨gx, 4, none⟩ = some (.slice aa2 an2 ac2) := kx.cell 4
  have x5 : z1.cell? ⟨gx, 5, none⟩ = some (.slice aa3 an3 ac3) := kx.cell 5
  have x6 : z1.cell? ⟨gx, 6, none⟩ = some (.slice aa4 an4 ac4) := kx.cell 6
  have x7 : z1.cell? ⟨gx, 7, none⟩ = some (.slice aa5 an5 ac5) := kx.cell 7
  clear kx
  have hck := wcheck_any ⟨x.kind, 0, [], [], [], [], [], []⟩ none 0 0 none 0 0 none 0 0 none 0 0 none 0 0 none 0 0 z1 ⟨hx.out.kd, by simp, by simp, by simp, by simp, by simp, by simp, by simp⟩ ⟨by simp, by simp, by simp, by simp, by simp, by simp⟩ ⟨_, _, _, _, _, _, rfl, PM.EM.nil _, PM.RR.nil _, PM.RR.nil _, PM.RR.nil _, PM.EM.nil _, PM.EM.nil _⟩
  rw [PM.msE_yes (PM.bare_ok hok.out)] at hck
  go_wp2_with fail
  refine hck.mono ?_
  clear hck
  rintro e z2 ⟨rfl, hBn⟩
  clear x0 x1 x2 x3 x4 x5 x6 x7
  replace hBB := PM.hid (PM.chain hBB.out hBn)
  clear hBn
  go_wp2_with fail
  go_ret
  exact ⟨by first | rfl | simp, hBB.out⟩
theorem wireLess_walk (c0 : Array Value) (x : PM.Ms) (n : Int) (hx : x.wf) (hn : (Lit.int .u8 n).wf = true) (w : World) (hRx : PM.msR w c0.toList x) :
    Calls Try.prog 8 #[.agg c0, .int .u8 n] w fun e w' => e = .returned (.bool true) ∧ Below w.heap.size w w' := by
  obtain ⟨K, hK, hK2⟩ : ∃ K : Nat, n = (K : Int) ∧ K < 256 := by
    have hb := Go.bounds_u8 hn
    exact ⟨n.toNat, by omega, by omega⟩
  subst hK
  have hRx' := hRx
  obtain ⟨aa0, ac0, aa1, ac1, aa2, ac2, aa3, ac3, aa4, ac4, aa5, ac5, hcs, -⟩ := PM.msR_open hRx
  rw [hcs] at hRx'
  have hca := congrArg List.toArray hcs
  rw [Array.toArray_toList] at hca
  subst hca
  exact wireLess_walkA x aa0 _ ac0 aa1 _ ac1 aa2 _ ac2 aa3 _ ac3 aa4 _ ac4 aa5 _ ac5 K hK2 hx w hRx'
end Go.Proofs.Ytokfookandfemaa
