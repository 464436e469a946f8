/-
  CONTRACTS of layer 13: wire.broker, fits, Check's closure, all, Check.
-/
import Derived.Test.YtokfookandfemaaWd
import Derived.Test.YtokfookandfemaaWt
import Derived.Test.YtokfookandfemaaVt
namespace Go.Proofs.Ytokfookandfemaa
open Go.RowKit
set_option linter.unusedVariables false
set_option linter.unusedSimpArgs false
namespace PM
def Vo.wf (v : Vo) : Prop := v.id.wf
/-- a message's numbers are numbers of their types -/
structure Ms.wf (m : Ms) : Prop where
  kd : (Lit.int .i64 m.kind).wf = true
  hv : m.hav < 2 ^ 64
  vo : ∀ v ∈ m.votes, v.id.wf
  ak : ∀ x ∈ m.asks, x.wf
  en : ∀ x ∈ m.entries, x.wf
  pr : ∀ x ∈ m.prepares, x.wf
  ab : ∀ i ∈ m.aborts, i.wf
  es : ∀ i ∈ m.ends, i.wf
def idOkB (i : Id) : Bool := decide (0 ≤ i.br) && decide (i.br < 16)
def voOkB (v : Vo) : Bool := idOkB v.id
open Classical in
noncomputable def enOkB (x : En) : Bool := if enOk x then true else false
def allB {α : Type} (p : α → Bool) (l : List α) : Bool := decide (l.length ≤ 16) && l.all p
def kindB (m : Ms) : Bool := (decide (m.kind = 1) && decide (m.entries.length + m.prepares.length + m.aborts.length + m.ends.length = 0)) || (decide (m.kind = 2) && decide (m.votes.length + m.asks.length = 0))
/-- may a message be? -/
noncomputable def msOkB (m : Ms) : Bool := kindB m && (allB voOkB m.votes && (allB idOkB m.aborts && (allB idOkB m.ends && (allB enOkB m.asks && (allB enOkB m.entries && allB enOkB m.prepares)))))
noncomputable def msE (m : Ms) : Int := if msOkB m then 0 else 130
/-- lists of little length -/
def msSm (m : Ms) : Prop := m.votes.length ≤ 1000 ∧ m.asks.length ≤ 1000 ∧ m.entries.length ≤ 1000 ∧ m.prepares.length ≤ 1000 ∧ m.aborts.length ≤ 1000 ∧ m.ends.length ≤ 1000
theorem idOkB_iff {i : Id} : idOkB i = true ↔ 0 ≤ i.br ∧ i.br < 16 := by unfold idOkB; simp
theorem enE_cases (x : En) : enE x = 0 ∧ enOkB x = true ∨ enE x = 110 ∧ enOkB x = false := by
  by_cases h : enOk x
  · exact .inl ⟨enE_yes h, by unfold enOkB; first | rw [if_pos h] | rw [if_neg h]⟩
  · exact .inr ⟨enE_no h, by unfold enOkB; first | rw [if_pos h] | rw [if_neg h]⟩
end PM
set_option maxHeartbeats 1000000 in
theorem broker13_any (z : PM.Id) (w : World) : Calls Try.prog 32 #[.agg #[.int .i64 z.br, .int .u64 (z.life : Int), .int .u64 (z.ser : Int)]] w fun e w' => e = .returned (.bool (PM.idOkB z)) ∧ Below w.heap.size w w' := by
  have hq : Hid (PM.idOkB z = (decide (0 ≤ z.br) && decide (z.br < 16))) := PM.hid rfl
  obtain ⟨Q, hQ⟩ : ∃ Q, Q = PM.idOkB z := ⟨_, rfl⟩
  rw [← hQ] at hq ⊢
  clear hQ
  obtain ⟨ib, il, is⟩ := z
  simp only at hq ⊢
  by_cases h0 : 0 ≤ ib
  · by_cases h1 : ib < 16
    · go_enter Try.func32, Try.ntmps32
      go_wp2_with fail
      go_ret
      exact ⟨by rw [hq.out]; simp [h0, h1], (Below.refl _ _).alloc (Nat.le_refl _) _⟩
    · go_enter Try.func32, Try.ntmps32
      go_wp2_with fail
      go_ret
      exact ⟨by rw [hq.out]; simp [h0, h1], (Below.refl _ _).alloc (Nat.le_refl _) _⟩
  · have h2 : ib < 0 := by omega
    go_enter Try.func32, Try.ntmps32
    go_wp2_with fail
    go_ret
    exact ⟨by rw [hq.out, decide_eq_false (by omega : ¬ (0 ≤ ib))]; try rfl, (Below.refl _ _).alloc (Nat.le_refl _) _⟩
set_option maxHeartbeats 1000000 in
theorem check1_any (z : PM.Vo) (w : World) : Calls Try.prog 31 #[.agg #[.int .i64 z.id.br, .int .u64 (z.id.life : Int), .int .u64 (z.id.ser : Int), .bool z.yes]] w fun e w' => e = .returned (.bool (PM.voOkB z)) ∧ Below w.heap.size w w' := by
  have hb := fun W : World => broker13_any z.id W
  have hv : PM.voOkB z = PM.idOkB z.id := rfl
  rw [hv]
  clear hv
  go_enter Try.func31, Try.ntmps31
  go_upto_region 1 with fail
  obtain ⟨gx, hgx⟩ : ∃ g, g = w.heap.size := ⟨_, rfl⟩
  obtain ⟨w1, hw1⟩ : ∃ W, W = w.alloc (.cells #[.int .i64 z.id.br, .int .u64 (z.id.life : Int), .int .u64 (z.id.ser : Int), .bool z.yes] 53) := ⟨_, rfl⟩
  have hBn : Below w.heap.size w w1 := by rw [hw1]; exact (Below.refl _ _).alloc (Nat.le_refl _) _
  have kx : PM.BK w1 gx #[.int .i64 z.id.br, .int .u64 (z.id.life : Int), .int .u64 (z.id.ser : Int), .bool z.yes] 53 := by rw [hw1, hgx]; exact PM.BK.new _ _ _
  rw [← hw1, ← hgx]
  clear hw1 hgx
  have x0 : w1.cell? ⟨gx, 0, none⟩ = some (.int .i64 z.id.br) := kx.cell 0
  have x1 : w1.cell? ⟨gx, 1, none⟩ = some (.int .u64 (z.id.life : Int)) := kx.cell 1
  have x2 : w1.cell? ⟨gx, 2, none⟩ = some (.int .u64 (z.id.ser : Int)) := kx.cell 2
  have x3 : w1.cell? ⟨gx, 3, none⟩ = some (.bool z.yes) := kx.cell 3
  go_wp2_with fail
  refine (hb w1).mono ?_
  rintro e w2 ⟨rfl, hB2⟩
  have hh := PM.hid (PM.chain hBn hB2)
  clear hb hBn hB2
  go_wp2_with fail
  go_ret
  exact ⟨rfl, hh.out⟩
set_option maxHeartbeats 2000000 in
theorem fits13_any (z : PM.En) (fa : Option Addr) (zF fc : Nat) (ea : Option Addr) (zE ec : Nat) (w : World) (hz : z.wf) (hF : zF = z.fil.length) (hE : zE = z.evs.length) (hf : PM.TV w (.slice fa zF fc) z.fil) (he : PM.EVL w (.slice ea zE ec) z.evs) :
    Calls Try.prog 35 #[.agg #[.int .i64 z.kind, .int .i64 z.id.br, .int .u64 (z.id.life : Int), .int .u64 (z.id.ser : Int), .int .i64 z.client, .int .u64 (z.sub : Int), .slice fa zF fc, .slice ea zE ec]] w fun e w' => e = .returned (.bool (PM.enOkB z)) ∧ Below w.heap.size w w' := by
  have hck : Hid (∀ W : World, Below w.heap.size w W → Calls Try.prog 64 #[.agg #[.int .i64 z.kind, .int .i64 z.id.br, .int .u64 (z.id.life : Int), .int .u64 (z.id.ser : Int), .int .i64 z.client, .int .u64 (z.sub : Int), .slice fa zF fc, .slice ea zE ec]] W fun e w' => e = .returned (.int .i64 (PM.enE z)) ∧ Below W.heap.size W w') := PM.hid fun W hb => encheck_any z _ _ W hz (hf.keep hb) (he.keep hb)
  clear hf he hF hE
  have hcs := PM.enE_cases z
  obtain ⟨E, hEe⟩ : ∃ E, E = PM.enE z := ⟨_, rfl⟩
  obtain ⟨B, hBe⟩ : ∃ B, B = PM.enOkB z := ⟨_, rfl⟩
  rw [← hEe] at hck hcs
  rw [← hBe] at hcs ⊢
  clear hEe hBe
  rcases hcs with ⟨rfl, rfl⟩ | ⟨rfl, rfl⟩
  all_goals
    go_enter Try.func35, Try.ntmps35
    go_upto_region 1 with fail
    obtain ⟨gx, hgx⟩ : ∃ g, g = w.heap.size := ⟨_, rfl⟩
    obtain ⟨w1, hw1⟩ : ∃ W, W = w.alloc (.cells #[.int .i64 z.kind, .int .i64 z.id.br, .int .u64 (z.id.life : Int), .int .u64 (z.id.ser : Int), .int .i64 z.client, .int .u64 (z.sub : Int), .slice fa zF fc, .slice ea zE ec] 50) := ⟨_, rfl⟩
    have hBn : Below w.heap.size w w1 := by rw [hw1]; exact (Below.refl _ _).alloc (Nat.le_refl _) _
    have kx : PM.BK w1 gx #[.int .i64 z.kind, .int .i64 z.id.br, .int .u64 (z.id.life : Int), .int .u64 (z.id.ser : Int), .int .i64 z.client, .int .u64 (z.sub : Int), .slice fa zF fc, .slice ea zE ec] 50 := by rw [hw1, hgx]; exact PM.BK.new _ _ _
    rw [← hw1, ← hgx]
    clear hw1 hgx
    have x0 : w1.cell? ⟨gx, 0, none⟩ = some (.int .i64 z.kind) := kx.cell 0
    have x1 : w1.cell? ⟨gx, 1, none⟩ = some (.int .i64 z.id.br) := kx.cell 1
    have x2 : w1.cell? ⟨gx, 2, none⟩ = some (.int .u64 (z.id.life : Int)) := kx.cell 2
    have x3 : w1.cell? ⟨gx, 3, none⟩ = some (.int .u64 (z.id.ser : Int)) := kx.cell 3
    have x4 : w1.cell? ⟨gx, 4, none⟩ = some (.int .i64 z.client) := kx.cell 4
    have x5 : w1.cell? ⟨gx, 5, none⟩ = some (.int .u64 (z.sub : Int)) := kx.cell 5
    have x6 : w1.cell? ⟨gx, 6, none⟩ = some (.slice fa zF fc) := kx.cell 6
    have x7 : w1.cell? ⟨gx, 7, none⟩ = some (.slice ea zE ec) := kx.cell 7
    clear kx
    go_wp2_with fail
    refine (hck.out w1 hBn).mono ?_
    rintro e w2 ⟨rfl, hB2⟩
    have hh := PM.hid (PM.chain hBn hB2)
    clear hBn hB2
    go_wp2_with fail
    go_ret
    exact ⟨by first | rfl | simp, hh.out⟩
set_option maxHeartbeats 2000000 in
theorem allVo_any (v : Value) (l : List PM.Vo) (w : World) (hv : PM.EM PM.voL 4 w v l) :
    Calls Try.prog 30 #[v, .func (.func 31) #[] #[]] w fun e w' => e = .returned (.bool (PM.allB PM.voOkB l)) ∧ Below w.heap.size w w' := by
  have hmax := hv.bound
  unfold maxLen at hmax
  obtain ⟨va, vc, rfl⟩ := hv.len
  obtain ⟨L, hL⟩ : ∃ L, L = l.length := ⟨_, rfl⟩
  have hLh := PM.hid hL
  rw [← hL] at hv hmax ⊢
  have hvh := PM.hid hv

  clear hL hv
  have hall : Hid (PM.allB PM.voOkB l = (decide (L ≤ 16) && l.all PM.voOkB)) := PM.hid (by rw [hLh.out]; rfl)
  obtain ⟨Q, hQ⟩ : ∃ Q, Q = PM.allB PM.voOkB l := ⟨_, rfl⟩
  rw [← hQ] at hall ⊢
  clear hQ
  by_cases hbig : 16 < L
  · have hb : (16 : Int) < (L : Int) := by omega
    go_enter Try.func30, Try.ntmps30
    go_wp2_with fail
    go_ret
    exact ⟨by rw [hall.out, decide_eq_false (by omega)]; rfl, Below.refl _ _⟩
  have hb : ¬ (16 : Int) < (L : Int) := by omega
  go_enter Try.func30, Try.ntmps30
  go_wp2_with fail
  go_loopw [12] (fun i wr => ∃ k : Nat, i = .int .i64 k ∧ k ≤ L ∧ Hid ((l.take k).all PM.voOkB = true ∧ Below w.heap.size w wr)) (fun i _ => L - (intOf i).toNat)
  case atStart => exact ⟨0, rfl, by omega, PM.hid ⟨rfl, Below.refl _ _⟩⟩
  case round =>
    obtain ⟨k, rfl, hk, hin⟩ := hrel
    by_cases hlt : k < L
    · obtain ⟨z, hz⟩ : ∃ z, l[k]? = some z := ⟨l[k]'(by rw [← hLh.out]; exact hlt), List.getElem?_eq_getElem _⟩
      obtain ⟨b, off, cap', he, -, -, hce⟩ := PM.EM.open1 hvh.out (by rw [← hLh.out]; omega)
      injection he with he1 he2 he3
      subst he1
      have hl0 := (hce k z hz).keep hin.out.2
      have d0 : wr.cell? ⟨b, off + k * 4, none⟩ = some (.int .i64 z.id.br) := hl0 0 _ rfl
      have d1 : wr.cell? ⟨b, off + k * 4 + 1, none⟩ = some (.int .u64 (z.id.life : Int)) := hl0 1 _ rfl
      have d2 : wr.cell? ⟨b, off + k * 4 + 2, none⟩ = some (.int .u64 (z.id.ser : Int)) := hl0 2 _ rfl
      have d3 : wr.cell? ⟨b, off + k * 4 + 3, none⟩ = some (.bool z.yes) := hl0 3 _ rfl
      have hcl := fun (W : World) (hb : Below w.heap.size w W) => check1_any z W
      replace hcl := PM.hid hcl
      have hzh := PM.hid hz
      clear hz hce hl0 he2 he3
      go_upto_region 6 with fail
      obtain ⟨gx, hgx⟩ : ∃ g, g = wr.heap.size := ⟨_, rfl⟩
      obtain ⟨w3, hw3⟩ : ∃ W, W = wr.alloc (.cells #[.int .i64 z.id.br, .int .u64 (z.id.life : Int), .int .u64 (z.id.ser : Int), .bool z.yes] 53) := ⟨_, rfl⟩
      have hBn : Below wr.heap.size wr w3 := by rw [hw3]; exact (Below.refl _ _).alloc (Nat.le_refl _) _
      have kx : PM.BK w3 gx #[.int .i64 z.id.br, .int .u64 (z.id.life : Int), .int .u64 (z.id.ser : Int), .bool z.yes] 53 := by rw [hw3, hgx]; exact PM.BK.new _ _ _
      rw [← hw3, ← hgx]
      clear hw3 hgx
      have hB3 := PM.hid (PM.chain hin.out.2 hBn)
      clear hBn d0 d1 d2 d3
      have x0 : w3.cell? ⟨gx, 0, none⟩ = some (.int .i64 z.id.br) := kx.cell 0
      have x1 : w3.cell? ⟨gx, 1, none⟩ = some (.int .u64 (z.id.life : Int)) := kx.cell 1
      have x2 : w3.cell? ⟨gx, 2, none⟩ = some (.int .u64 (z.id.ser : Int)) := kx.cell 2
      have x3 : w3.cell? ⟨gx, 3, none⟩ = some (.bool z.yes) := kx.cell 3
      clear kx
      cases hq : PM.voOkB z
      · have hqh := PM.hid hq
        have hcc := hcl.out w3 hB3.out
        rw [hq] at hcc
        clear hq
        go_wp2_with fail
        refine hcc.mono ?_
        clear hcc
        rintro e w4 ⟨rfl, hB4⟩
        have hB5 := PM.hid (PM.chain hB3.out hB4)
        clear hB4 x0 x1 x2 x3
        go_wp2_with fail
        go_ret
        refine ⟨?_, hB5.out⟩
        have hno : l.all PM.voOkB = false := by
          rw [List.all_eq_false]
          exact ⟨z, List.mem_of_getElem? hzh.out, by simp [hqh.out]⟩
        rw [hall.out, hno, Bool.and_false]
        try rfl
      · have hqh := PM.hid hq
        have hcc := hcl.out w3 hB3.out
        rw [hq] at hcc
        clear hq
        go_wp2_with fail
        refine hcc.mono ?_
        clear hcc
        rintro e w4 ⟨rfl, hB4⟩
        have hB5 := PM.hid (PM.chain hB3.out hB4)
        clear hB4 x0 x1 x2 x3
        go_wp2_with fail
        exact ⟨⟨k + 1, by go_num, by omega, PM.hid ⟨by rw [PM.take_at hzh.out, List.all_append, hin.out.1]; simp [hqh.out], hB5.out⟩⟩, by simp only [intOf]; omega⟩
    · obtain rfl : k = L := by omega
      go_wp2_with fail
      go_ret
      refine ⟨?_, hin.out.2⟩
      have h9 : l.take k = l := (by rw [hLh.out]; exact List.take_length)
      have h1 := hin.out.1
      rw [h9] at h1
      rw [hall.out, h1, decide_eq_true (by omega)]
      rfl
set_option maxHeartbeats 2000000 in
theorem allId_any (v : Value) (l : List PM.Id) (w : World) (hv : PM.EM PM.idL 3 w v l) :
    Calls Try.prog 33 #[v, .func (.func 32) #[] #[]] w fun e w' => e = .returned (.bool (PM.allB PM.idOkB l)) ∧ Below w.heap.size w w' := by
  have hmax := hv.bound
  unfold maxLen at hmax
  obtain ⟨va, vc, rfl⟩ := hv.len
  obtain ⟨L, hL⟩ : ∃ L, L = l.length := ⟨_, rfl⟩
  have hLh := PM.hid hL
  rw [← hL] at hv hmax ⊢
  have hvh := PM.hid hv

  clear hL hv
  have hall : Hid (PM.allB PM.idOkB l = (decide (L ≤ 16) && l.all PM.idOkB)) := PM.hid (by rw [hLh.out]; rfl)
  obtain ⟨Q, hQ⟩ : ∃ Q, Q = PM.allB PM.idOkB l := ⟨_, rfl⟩
  rw [← hQ] at hall ⊢
  clear hQ
  by_cases hbig : 16 < L
  · have hb : (16 : Int) < (L : Int) := by omega
    go_enter Try.func33, Try.ntmps33
    go_wp2_with fail
    go_ret
    exact ⟨by rw [hall.out, decide_eq_false (by omega)]; rfl, Below.refl _ _⟩
  have hb : ¬ (16 : Int) < (L : Int) := by omega
  go_enter Try.func33, Try.ntmps33
  go_wp2_with fail
  go_loopw [12] (fun i wr => ∃ k : Nat, i = .int .i64 k ∧ k ≤ L ∧ Hid ((l.take k).all PM.idOkB = true ∧ Below w.heap.size w wr)) (fun i _ => L - (intOf i).toNat)
  case atStart => exact ⟨0, rfl, by omega, PM.hid ⟨rfl, Below.refl _ _⟩⟩
  case round =>
    obtain ⟨k, rfl, hk, hin⟩ := hrel
    by_cases hlt : k < L
    · obtain ⟨z, hz⟩ : ∃ z, l[k]? = some z := ⟨l[k]'(by rw [← hLh.out]; exact hlt), List.getElem?_eq_getElem _⟩
      obtain ⟨b, off, cap', he, -, -, hce⟩ := PM.EM.open1 hvh.out (by rw [← hLh.out]; omega)
      injection he with he1 he2 he3
      subst he1
      have hl0 := (hce k z hz).keep hin.out.2
      have d0 : wr.cell? ⟨b, off + k * 3, none⟩ = some (.int .i64 z.br) := hl0 0 _ rfl
      have d1 : wr.cell? ⟨b, off + k * 3 + 1, none⟩ = some (.int .u64 (z.life : Int)) := hl0 1 _ rfl
      have d2 : wr.cell? ⟨b, off + k * 3 + 2, none⟩ = some (.int .u64 (z.ser : Int)) := hl0 2 _ rfl
      have hcl := fun (W : World) (hb : Below w.heap.size w W) => broker13_any z W
      replace hcl := PM.hid hcl
      have hzh := PM.hid hz
      clear hz hce hl0 he2 he3
      go_upto_region 6 with fail
      obtain ⟨gx, hgx⟩ : ∃ g, g = wr.heap.size := ⟨_, rfl⟩
      obtain ⟨w3, hw3⟩ : ∃ W, W = wr.alloc (.cells #[.int .i64 z.br, .int .u64 (z.life : Int), .int .u64 (z.ser : Int)] 45) := ⟨_, rfl⟩
      have hBn : Below wr.heap.size wr w3 := by rw [hw3]; exact (Below.refl _ _).alloc (Nat.le_refl _) _
      have kx : PM.BK w3 gx #[.int .i64 z.br, .int .u64 (z.life : Int), .int .u64 (z.ser : Int)] 45 := by rw [hw3, hgx]; exact PM.BK.new _ _ _
      rw [← hw3, ← hgx]
      clear hw3 hgx
      have hB3 := PM.hid (PM.chain hin.out.2 hBn)
      clear hBn d0 d1 d2
      have x0 : w3.cell? ⟨gx, 0, none⟩ = some (.int .i64 z.br) := kx.cell 0
      have x1 : w3.cell? ⟨gx, 1, none⟩ = some (.int .u64 (z.life : Int)) := kx.cell 1
      have x2 : w3.cell? ⟨gx, 2, none⟩ = some (.int .u64 (z.ser : Int)) := kx.cell 2
      clear kx
      cases hq : PM.idOkB z
      · have hqh := PM.hid hq
        have hcc := hcl.out w3 hB3.out
        rw [hq] at hcc
        clear hq
        go_wp2_with fail
        refine hcc.mono ?_
        clear hcc
        rintro e w4 ⟨rfl, hB4⟩
        have hB5 := PM.hid (PM.chain hB3.out hB4)
        clear hB4 x0 x1 x2
        go_wp2_with fail
        go_ret
        refine ⟨?_, hB5.out⟩
        have hno : l.all PM.idOkB = false := by
          rw [List.all_eq_false]
          exact ⟨z, List.mem_of_getElem? hzh.out, by simp [hqh.out]⟩
        rw [hall.out, hno, Bool.and_false]
        try rfl
      · have hqh := PM.hid hq
        have hcc := hcl.out w3 hB3.out
        rw [hq] at hcc
        clear hq
        go_wp2_with fail
        refine hcc.mono ?_
        clear hcc
        rintro e w4 ⟨rfl, hB4⟩
        have hB5 := PM.hid (PM.chain hB3.out hB4)
        clear hB4 x0 x1 x2
        go_wp2_with fail
        exact ⟨⟨k + 1, by go_num, by omega, PM.hid ⟨by rw [PM.take_at hzh.out, List.all_append, hin.out.1]; simp [hqh.out], hB5.out⟩⟩, by simp only [intOf]; omega⟩
    · obtain rfl : k = L := by omega
      go_wp2_with fail
      go_ret
      refine ⟨?_, hin.out.2⟩
      have h9 : l.take k = l := (by rw [hLh.out]; exact List.take_length)
      have h1 := hin.out.1
      rw [h9] at h1
      rw [hall.out, h1, decide_eq_true (by omega)]
      rfl
set_option maxHeartbeats 2000000 in
theorem allEn_any (v : Value) (l : List PM.En) (w : World) (hv : PM.EnL w v l) (hwf0 : ∀ x ∈ l, x.wf) :
    Calls Try.prog 34 #[v, .func (.func 35) #[] #[]] w fun e w' => e = .returned (.bool (PM.allB PM.enOkB l)) ∧ Below w.heap.size w w' := by
  have hmax := hv.bound
  unfold maxLen at hmax
  obtain ⟨va, vc, rfl⟩ := hv.len
  obtain ⟨L, hL⟩ : ∃ L, L = l.length := ⟨_, rfl⟩
  have hLh := PM.hid hL
  rw [← hL] at hv hmax ⊢
  have hvh := PM.hid hv
  have hwf := PM.hid hwf0
  clear hL hv hwf0
  have hall : Hid (PM.allB PM.enOkB l = (decide (L ≤ 16) && l.all PM.enOkB)) := PM.hid (by rw [hLh.out]; rfl)
  obtain ⟨Q, hQ⟩ : ∃ Q, Q = PM.allB PM.enOkB l := ⟨_, rfl⟩
  rw [← hQ] at hall ⊢
  clear hQ
  by_cases hbig : 16 < L
  · have hb : (16 : Int) < (L : Int) := by omega
    go_enter Try.func34, Try.ntmps34
    go_wp2_with fail
    go_ret
    exact ⟨by rw [hall.out, decide_eq_false (by omega)]; rfl, Below.refl _ _⟩
  have hb : ¬ (16 : Int) < (L : Int) := by omega
  go_enter Try.func34, Try.ntmps34
  go_wp2_with fail
  go_loopw [12] (fun i wr => ∃ k : Nat, i = .int .i64 k ∧ k ≤ L ∧ Hid ((l.take k).all PM.enOkB = true ∧ Below w.heap.size w wr)) (fun i _ => L - (intOf i).toNat)
  case atStart => exact ⟨0, rfl, by omega, PM.hid ⟨rfl, Below.refl _ _⟩⟩
  case round =>
    obtain ⟨k, rfl, hk, hin⟩ := hrel
    by_cases hlt : k < L
    · obtain ⟨z, hz⟩ : ∃ z, l[k]? = some z := ⟨l[k]'(by rw [← hLh.out]; exact hlt), List.getElem?_eq_getElem _⟩
      obtain ⟨b, off, rfl, hce⟩ := PM.RR.opn hvh.out (by rw [← hLh.out]; omega)
      obtain ⟨cs, hl0, hR⟩ := hce k z hz
      obtain ⟨fa, fc, ea, ec, hcs, hzf, hze⟩ := PM.enR_open hR
      replace hl0 := hl0.keep hin.out.2
      rw [hcs] at hl0
      have d0 : wr.cell? ⟨b, off + k * 8, none⟩ = some (.int .i64 z.kind) := hl0 0 _ rfl
      have d1 : wr.cell? ⟨b, off + k * 8 + 1, none⟩ = some (.int .i64 z.id.br) := hl0 1 _ rfl
      have d2 : wr.cell? ⟨b, off + k * 8 + 2, none⟩ = some (.int .u64 (z.id.life : Int)) := hl0 2 _ rfl
      have d3 : wr.cell? ⟨b, off + k * 8 + 3, none⟩ = some (.int .u64 (z.id.ser : Int)) := hl0 3 _ rfl
      have d4 : wr.cell? ⟨b, off + k * 8 + 4, none⟩ = some (.int .i64 z.client) := hl0 4 _ rfl
      have d5 : wr.cell? ⟨b, off + k * 8 + 5, none⟩ = some (.int .u64 (z.sub : Int)) := hl0 5 _ rfl
      have d6 : wr.cell? ⟨b, off + k * 8 + 6, none⟩ = some (.slice fa z.fil.length fc) := hl0 6 _ rfl
      have d7 : wr.cell? ⟨b, off + k * 8 + 7, none⟩ = some (.slice ea z.evs.length ec) := hl0 7 _ rfl
      have hcl := fun (W : World) (hb : Below w.heap.size w W) => fits13_any z fa _ fc ea _ ec W (hwf.out z (List.mem_of_getElem? hz)) rfl rfl (hzf.keep hb) (PM.RR.keep PM.evR_lasts hb hze)
      replace hcl := PM.hid hcl
      have hzh := PM.hid hz
      clear hz hce hl0 hR hcs cs hzf hze
      generalize z.fil.length = zF at *
      generalize z.evs.length = zE at *
      go_upto_region 6 with fail
      obtain ⟨gx, hgx⟩ : ∃ g, g = wr.heap.size := ⟨_, rfl⟩
      obtain ⟨w3, hw3⟩ : ∃ W, W = wr.alloc (.cells #[.int .i64 z.kind, .int .i64 z.id.br, .int .u64 (z.id.life : Int), .int .u64 (z.id.ser : Int), .int .i64 z.client, .int .u64 (z.sub : Int), .slice fa zF fc, .slice ea zE ec] 50) := ⟨_, rfl⟩
      have hBn : Below wr.heap.size wr w3 := by rw [hw3]; exact (Below.refl _ _).alloc (Nat.le_refl _) _
      have kx : PM.BK w3 gx #[.int .i64 z.kind, .int .i64 z.id.br, .int .u64 (z.id.life : Int), .int .u64 (z.id.ser : Int), .int .i64 z.client, .int .u64 (z.sub : Int), .slice fa zF fc, .slice ea zE ec] 50 := by rw [hw3, hgx]; exact PM.BK.new _ _ _
      rw [← hw3, ← hgx]
      clear hw3 hgx
      have hB3 := PM.hid (PM.chain hin.out.2 hBn)
      clear hBn d0 d1 d2 d3 d4 d5 d6 d7
      have x0 : w3.cell? ⟨gx, 0, none⟩ = some (.int .i64 z.kind) := kx.cell 0
      have x1 : w3.cell? ⟨gx, 1, none⟩ = some (.int .i64 z.id.br) := kx.cell 1
      have x2 : w3.cell? ⟨gx, 2, none⟩ = some (.int .u64 (z.id.life : Int)) := kx.cell 2
      have x3 : w3.cell? ⟨gx, 3, none⟩ = some (.int .u64 (z.id.ser : Int)) := kx.cell 3
      have x4 : w3.cell? ⟨gx, 4, none⟩ = some (.int .i64 z.client) := kx.cell 4
      have x5 : w3.cell? ⟨gx, 5, none⟩ = some (.int .u64 (z.sub : Int)) := kx.cell 5
      have x6 : w3.cell? ⟨gx, 6, none⟩ = some (.slice fa zF fc) := kx.cell 6
      have x7 : w3.cell? ⟨gx, 7, none⟩ = some (.slice ea zE ec) := kx.cell 7
      clear kx
      cases hq : PM.enOkB z
      · have hqh := PM.hid hq
        have hcc := hcl.out w3 hB3.out
        rw [hq] at hcc
        clear hq
        go_wp2_with fail
        refine hcc.mono ?_
        clear hcc
        rintro e w4 ⟨rfl, hB4⟩
        have hB5 := PM.hid (PM.chain hB3.out hB4)
        clear hB4 x0 x1 x2 x3 x4 x5 x6 x7
        go_wp2_with fail
        go_ret
        refine ⟨?_, hB5.out⟩
        have hno : l.all PM.enOkB = false := by
          rw [List.all_eq_false]
          exact ⟨z, List.mem_of_getElem? hzh.out, by simp [hqh.out]⟩
        rw [hall.out, hno, Bool.and_false]
        try rfl
      · have hqh := PM.hid hq
        have hcc := hcl.out w3 hB3.out
        rw [hq] at hcc
        clear hq
        go_wp2_with fail
        refine hcc.mono ?_
        clear hcc
        rintro e w4 ⟨rfl, hB4⟩
        have hB5 := PM.hid (PM.chain hB3.out hB4)
        clear hB4 x0 x1 x2 x3 x4 x5 x6 x7
        go_wp2_with fail
        exact ⟨⟨k + 1, by go_num, by omega, PM.hid ⟨by rw [PM.take_at hzh.out, List.all_append, hin.out.1]; simp [hqh.out], hB5.out⟩⟩, by simp only [intOf]; omega⟩
    · obtain rfl : k = L := by omega
      go_wp2_with fail
      go_ret
      refine ⟨?_, hin.out.2⟩
      have h9 : l.take k = l := (by rw [hLh.out]; exact List.take_length)
      have h1 := hin.out.1
      rw [h9] at h1
      rw [hall.out, h1, decide_eq_true (by omega)]
      rfl
set_option maxRecDepth 100000 in
set_option maxHeartbeats 16000000 in
theorem wcheck_any (m : PM.Ms) (ma0 : Option Addr) (mn0 mc0 : Nat) (ma1 : Option Addr) (mn1 mc1 : Nat) (ma2 : Option Addr) (mn2 mc2 : Nat) (ma3 : Option Addr) (mn3 mc3 : Nat) (ma4 : Option Addr) (mn4 mc4 : Nat) (ma5 : Option Addr) (mn5 mc5 : Nat) (w : World) (hm : m.wf) (hsm : PM.msSm m) (hR : PM.msR w (PM.msC m (.slice ma0 mn0 mc0) (.slice ma1 mn1 mc1) (.slice ma2 mn2 mc2) (.slice ma3 mn3 mc3) (.slice ma4 mn4 mc4) (.slice ma5 mn5 mc5)) m) :
    Calls Try.prog 13 #[.agg #[.int .i64 m.kind, .int .u64 (m.hav : Int), .slice ma0 mn0 mc0, .slice ma1 mn1 mc1, .slice ma2 mn2 mc2, .slice ma3 mn3 mc3, .slice ma4 mn4 mc4, .slice ma5 mn5 mc5]] w fun e w' => e = .returned (.int .i64 (PM.msE m)) ∧ Below w.heap.size w w' := by
  obtain ⟨v0, v1, v2, v3, v4, v5, hcs, h0, h1, h2, h3, h4, h5⟩ := hR
  unfold PM.msC at hcs
  simp only [List.cons.injEq, and_true, true_and] at hcs
  obtain ⟨rfl, rfl, rfl, rfl, rfl, rfl⟩ := hcs
  obtain ⟨s0, s1, s2, s3, s4, s5⟩ := hsm
  have n0 : mn0 = m.votes.length := by obtain ⟨a, c, h⟩ := h0.len; injection h
  have q0 : mn0 ≤ 1000 := by rw [n0]; exact s0
  have n1 : mn1 = m.asks.length := by obtain ⟨a, c, h⟩ := h1.len; injection h
  have q1 : mn1 ≤ 1000 := by rw [n1]; exact s1
  have n2 : mn2 = m.entries.length := by obtain ⟨a, c, h⟩ := h2.len; injection h
  have q2 : mn2 ≤ 1000 := by rw [n2]; exact s2
  have n3 : mn3 = m.prepares.length := by obtain ⟨a, c, h⟩ := h3.len; injection h
  have q3 : mn3 ≤ 1000 := by rw [n3]; exact s3
  have n4 : mn4 = m.aborts.length := by obtain ⟨a, c, h⟩ := h4.len; injection h
  have q4 : mn4 ≤ 1000 := by rw [n4]; exact s4
  have n5 : mn5 = m.ends.length := by obtain ⟨a, c, h⟩ := h5.len; injection h
  have q5 : mn5 ≤ 1000 := by rw [n5]; exact s5
  clear s0 s1 s2 s3 s4 s5
  have f0 := PM.hid fun (W : World) (hb : Below w.heap.size w W) => allVo_any _ m.votes W (h0.keep hb)
  have f1 := PM.hid fun (W : World) (hb : Below w.heap.size w W) => allId_any _ m.aborts W (h4.keep hb)
  have f2 := PM.hid fun (W : World) (hb : Below w.heap.size w W) => allId_any _ m.ends W (h5.keep hb)
  have f3 := PM.hid fun (W : World) (hb : Below w.heap.size w W) => allEn_any _ m.asks W (PM.EnL.keep h1 hb) hm.ak
  have f4 := PM.hid fun (W : World) (hb : Below w.heap.size w W) => allEn_any _ m.entries W (PM.EnL.keep h2 hb) hm.en
  have f5 := PM.hid fun (W : World) (hb : Below w.heap.size w W) => allEn_any _ m.prepares W (PM.EnL.keep h3 hb) hm.pr
  have hres : Hid (PM.msE m = if PM.kindB m && (PM.allB PM.voOkB m.votes && (PM.allB PM.idOkB m.aborts && (PM.allB PM.idOkB m.ends && (PM.allB PM.enOkB m.asks && (PM.allB PM.enOkB m.entries && (PM.allB PM.enOkB m.prepares)))))) then 0 else 130) := PM.hid rfl
  have hkb : Hid (PM.kindB m = ((decide (m.kind = 1) && decide (mn2 + mn3 + mn4 + mn5 = 0)) || (decide (m.kind = 2) && decide (mn0 + mn1 = 0)))) := PM.hid (by unfold PM.kindB; rw [n0, n1, n2, n3, n4, n5])
  clear h0 h1 h2 h3 h4 h5 n0 n1 n2 n3 n4 n5 hm
  obtain ⟨b0, hb0⟩ : ∃ b, b = PM.allB PM.voOkB m.votes := ⟨_, rfl⟩
  rw [← hb0] at f0 hres
  clear hb0
  obtain ⟨b1, hb1⟩ : ∃ b, b = PM.allB PM.idOkB m.aborts := ⟨_, rfl⟩
  rw [← hb1] at f1 hres
  clear hb1
  obtain ⟨b2, hb2⟩ : ∃ b, b = PM.allB PM.idOkB m.ends := ⟨_, rfl⟩
  rw [← hb2] at f2 hres
  clear hb2
  obtain ⟨b3, hb3⟩ : ∃ b, b = PM.allB PM.enOkB m.asks := ⟨_, rfl⟩
  rw [← hb3] at f3 hres
  clear hb3
  obtain ⟨b4, hb4⟩ : ∃ b, b = PM.allB PM.enOkB m.entries := ⟨_, rfl⟩
  rw [← hb4] at f4 hres
  clear hb4
  obtain ⟨b5, hb5⟩ : ∃ b, b = PM.allB PM.enOkB m.prepares := ⟨_, rfl⟩
  rw [← hb5] at f5 hres
  clear hb5
  obtain ⟨kb, hk⟩ : ∃ b, b = PM.kindB m := ⟨_, rfl⟩
  rw [← hk] at hkb hres
  clear hk
  obtain ⟨E, hE⟩ : ∃ E, E = PM.msE m := ⟨_, rfl⟩
  rw [← hE] at hres ⊢
  clear hE
  obtain ⟨KD, hKD⟩ : ∃ E, E = m.kind := ⟨_, rfl⟩
  obtain ⟨HV, hHV⟩ : ∃ E, E = m.hav := ⟨_, rfl⟩
  rw [← hKD] at hkb ⊢
  rw [← hHV]
  clear hKD hHV
  have hbad : Hid (kb = false → E = 130) := PM.hid (fun h => by rw [hres.out, h]; rfl)
  have hgood : Hid (kb = true → (KD = 1 ∧ mn2 + mn3 + mn4 + mn5 = 0) ∨ (KD = 2 ∧ mn0 + mn1 = 0)) := PM.hid (fun h => by
    have h9 := hkb.out
    rw [h] at h9
    simpa using h9.symm)
  have hnone : Hid (kb = false → ¬ (KD = 1 ∧ mn2 + mn3 + mn4 + mn5 = 0) ∧ ¬ (KD = 2 ∧ mn0 + mn1 = 0)) := PM.hid (fun h => by
    have h9 := hkb.out
    rw [h] at h9
    constructor
    · rintro ⟨e1, e2⟩; rw [decide_eq_true e1, decide_eq_true e2] at h9; cases h9
    · rintro ⟨e1, e2⟩; rw [decide_eq_true e1, decide_eq_true e2] at h9; simp at h9)
  clear hkb
  cases kb
  case false =>
    have hE' : E = 130 := hbad.out rfl
    obtain ⟨g1, g2⟩ := hnone.out rfl
    replace hE' := PM.hid hE'
    clear hgood hnone hbad hres
    by_cases k1 : KD = 1
    · subst k1
      have hs : ¬ (mn2 + mn3 + mn4 + mn5 = 0) := fun h => g1 ⟨rfl, h⟩
      have e1 : ((mn2 : Int) + (mn3 : Int) + (mn4 : Int) + (mn5 : Int) == 0) = false := by simp; omega
      clear g1 g2
      go_enter Try.func13, Try.ntmps13
      go_upto_region 1 with fail
      obtain ⟨gx, hgx⟩ : ∃ g, g = w.heap.size := ⟨_, rfl⟩
      obtain ⟨w1, hw1⟩ : ∃ W, W = w.alloc (.cells #[.int .i64 1, .int .u64 (HV : Int), .slice ma0 mn0 mc0, .slice ma1 mn1 mc1, .slice ma2 mn2 mc2, .slice ma3 mn3 mc3, .slice ma4 mn4 mc4, .slice ma5 mn5 mc5] 28) := ⟨_, rfl⟩
      have hBn : Below w.heap.size w w1 := by rw [hw1]; exact (Below.refl _ _).alloc (Nat.le_refl _) _
      have kx : PM.BK w1 gx #[.int .i64 1, .int .u64 (HV : Int), .slice ma0 mn0 mc0, .slice ma1 mn1 mc1, .slice ma2 mn2 mc2, .slice ma3 mn3 mc3, .slice ma4 mn4 mc4, .slice ma5 mn5 mc5] 28 := by rw [hw1, hgx]; exact PM.BK.new _ _ _
      rw [← hw1, ← hgx]
      clear hw1 hgx
      have hBB := PM.hid hBn
      clear hBn
      have x0 : w1.cell? ⟨gx, 0, none⟩ = some (.int .i64 1) := kx.cell 0
      have x1 : w1.cell? ⟨gx, 1, none⟩ = some (.int .u64 (HV : Int)) := kx.cell 1
      have x2 : w1.cell? ⟨gx, 2, none⟩ = some (.slice ma0 mn0 mc0) := kx.cell 2
      have x3 : w1.cell? ⟨gx, 3, none⟩ = some (.slice ma1 mn1 mc1) := kx.cell 3
      have x4 : w1.cell? ⟨gx, 4, none⟩ = some (.slice ma2 mn2 mc2) := kx.cell 4
      have x5 : w1.cell? ⟨gx, 5, none⟩ = some (.slice ma3 mn3 mc3) := kx.cell 5
      have x6 : w1.cell? ⟨gx, 6, none⟩ = some (.slice ma4 mn4 mc4) := kx.cell 6
      have x7 : w1.cell? ⟨gx, 7, none⟩ = some (.slice ma5 mn5 mc5) := kx.cell 7
      go_wp2_with fail
      go_ret
      exact ⟨by rw [hE'.out]; try rfl, hBB.out⟩
    · by_cases k2 : KD = 2
      · subst k2
        have hs : ¬ (mn0 + mn1 = 0) := fun h => g2 ⟨rfl, h⟩
        have e1 : ((mn0 : Int) + (mn1 : Int) == 0) = false := by simp; omega
        clear g1 g2
        go_enter Try.func13, Try.ntmps13
        go_upto_region 1 with fail
        obtain ⟨gx, hgx⟩ : ∃ g, g = w.heap.size := ⟨_, rfl⟩
        obtain ⟨w1, hw1⟩ : ∃ W, W = w.alloc (.cells #[.int .i64 2, .int .u64 (HV : Int), .slice ma0 mn0 mc0, .slice ma1 mn1 mc1, .slice ma2 mn2 mc2, .slice ma3 mn3 mc3, .slice ma4 mn4 mc4, .slice ma5 mn5 mc5] 28) := ⟨_, rfl⟩
        have hBn : Below w.heap.size w w1 := by rw [hw1]; exact (Below.refl _ _).alloc (Nat.le_refl _) _
        have kx : PM.BK w1 gx #[.int .i64 2, .int .u64 (HV : Int), .slice ma0 mn0 mc0, .slice ma1 mn1 mc1, .slice ma2 mn2 mc2, .slice ma3 mn3 mc3, .slice ma4 mn4 mc4, .slice ma5 mn5 mc5] 28 := by rw [hw1, hgx]; exact PM.BK.new _ _ _
        rw [← hw1, ← hgx]
        clear hw1 hgx
        have hBB := PM.hid hBn
        clear hBn
        have x0 : w1.cell? ⟨gx, 0, none⟩ = some (.int .i64 2) := kx.cell 0
        have x1 : w1.cell? ⟨gx, 1, none⟩ = some (.int .u64 (HV : Int)) := kx.cell 1
        have x2 : w1.cell? ⟨gx, 2, none⟩ = some (.slice ma0 mn0 mc0) := kx.cell 2
        have x3 : w1.cell? ⟨gx, 3, none⟩ = some (.slice ma1 mn1 mc1) := kx.cell 3
        have x4 : w1.cell? ⟨gx, 4, none⟩ = some (.slice ma2 mn2 mc2) := kx.cell 4
        have x5 : w1.cell? ⟨gx, 5, none⟩ = some (.slice ma3 mn3 mc3) := kx.cell 5
        have x6 : w1.cell? ⟨gx, 6, none⟩ = some (.slice ma4 mn4 mc4) := kx.cell 6
        have x7 : w1.cell? ⟨gx, 7, none⟩ = some (.slice ma5 mn5 mc5) := kx.cell 7
        go_wp2_with fail
        go_ret
        exact ⟨by rw [hE'.out]; try rfl, hBB.out⟩
      · have e1 : (KD == 1) = false := by simp [k1]
        have e2 : (KD == 2) = false := by simp [k2]
        clear g1 g2
        go_enter Try.func13, Try.ntmps13
        go_upto_region 1 with fail
        obtain ⟨gx, hgx⟩ : ∃ g, g = w.heap.size := ⟨_, rfl⟩
        obtain ⟨w1, hw1⟩ : ∃ W, W = w.alloc (.cells #[.int .i64 KD, .int .u64 (HV : Int), .slice ma0 mn0 mc0, .slice ma1 mn1 mc1, .slice ma2 mn2 mc2, .slice ma3 mn3 mc3, .slice ma4 mn4 mc4, .slice ma5 mn5 mc5] 28) := ⟨_, rfl⟩
        have hBn : Below w.heap.size w w1 := by rw [hw1]; exact (Below.refl _ _).alloc (Nat.le_refl _) _
        have kx : PM.BK w1 gx #[.int .i64 KD, .int .u64 (HV : Int), .slice ma0 mn0 mc0, .slice ma1 mn1 mc1, .slice ma2 mn2 mc2, .slice ma3 mn3 mc3, .slice ma4 mn4 mc4, .slice ma5 mn5 mc5] 28 := by rw [hw1, hgx]; exact PM.BK.new _ _ _
        rw [← hw1, ← hgx]
        clear hw1 hgx
        have hBB := PM.hid hBn
        clear hBn
        have x0 : w1.cell? ⟨gx, 0, none⟩ = some (.int .i64 KD) := kx.cell 0
        have x1 : w1.cell? ⟨gx, 1, none⟩ = some (.int .u64 (HV : Int)) := kx.cell 1
        have x2 : w1.cell? ⟨gx, 2, none⟩ = some (.slice ma0 mn0 mc0) := kx.cell 2
        have x3 : w1.cell? ⟨gx, 3, none⟩ = some (.slice ma1 mn1 mc1) := kx.cell 3
        have x4 : w1.cell? ⟨gx, 4, none⟩ = some (.slice ma2 mn2 mc2) := kx.cell 4
        have x5 : w1.cell? ⟨gx, 5, none⟩ = some (.slice ma3 mn3 mc3) := kx.cell 5
        have x6 : w1.cell? ⟨gx, 6, none⟩ = some (.slice ma4 mn4 mc4) := kx.cell 6
        have x7 : w1.cell? ⟨gx, 7, none⟩ = some (.slice ma5 mn5 mc5) := kx.cell 7
        go_wp2_with fail
        go_ret
        exact ⟨by rw [hE'.out]; try rfl, hBB.out⟩
  rcases hgood.out rfl with ⟨rfl, hs⟩ | ⟨rfl, hs⟩
  · have e1 : ((mn2 : Int) + (mn3 : Int) + (mn4 : Int) + (mn5 : Int) == 0) = true := by simp; omega
    clear hgood hnone hbad hs
    go_enter Try.func13, Try.ntmps13
    go_upto_region 1 with fail
    obtain ⟨gx, hgx⟩ : ∃ g, g = w.heap.size := ⟨_, rfl⟩
    obtain ⟨w1, hw1⟩ : ∃ W, W = w.alloc (.cells #[.int .i64 1, .int .u64 (HV : Int), .slice ma0 mn0 mc0, .slice ma1 mn1 mc1, .slice ma2 mn2 mc2, .slice ma3 mn3 mc3, .slice ma4 mn4 mc4, .slice ma5 mn5 mc5] 28) := ⟨_, rfl⟩
    have hBn : Below w.heap.size w w1 := by rw [hw1]; exact (Below.refl _ _).alloc (Nat.le_refl _) _
    have kx : PM.BK w1 gx #[.int .i64 1, .int .u64 (HV : Int), .slice ma0 mn0 mc0, .slice ma1 mn1 mc1, .slice ma2 mn2 mc2, .slice ma3 mn3 mc3, .slice ma4 mn4 mc4, .slice ma5 mn5 mc5] 28 := by rw [hw1, hgx]; exact PM.BK.new _ _ _
    rw [← hw1, ← hgx]
    clear hw1 hgx
    have hBB := PM.hid hBn
    clear hBn
    have x0 : w1.cell? ⟨gx, 0, none⟩ = some (.int .i64 1) := kx.cell 0
    have x1 : w1.cell? ⟨gx, 1, none⟩ = some (.int .u64 (HV : Int)) := kx.cell 1
    have x2 : w1.cell? ⟨gx, 2, none⟩ = some (.slice ma0 mn0 mc0) := kx.cell 2
    have x3 : w1.cell? ⟨gx, 3, none⟩ = some (.slice ma1 mn1 mc1) := kx.cell 3
    have x4 : w1.cell? ⟨gx, 4, none⟩ = some (.slice ma2 mn2 mc2) := kx.cell 4
    have x5 : w1.cell? ⟨gx, 5, none⟩ = some (.slice ma3 mn3 mc3) := kx.cell 5
    have x6 : w1.cell? ⟨gx, 6, none⟩ = some (.slice ma4 mn4 mc4) := kx.cell 6
    have x7 : w1.cell? ⟨gx, 7, none⟩ = some (.slice ma5 mn5 mc5) := kx.cell 7
    cases b0
    case false =>
      go_wp2_with fail
      refine (f0.out w1 hBB.out).mono ?_
      rintro e w2 ⟨rfl, hBn⟩
      replace hBB := PM.hid (PM.chain hBB.out hBn)
      clear hBn kx x0 x1 x2 x3 x4 x5 x6 x7
      go_wp2_with fail
      go_ret
      exact ⟨by rw [hres.out]; rfl, hBB.out⟩
    go_wp2_with fail
    refine (f0.out w1 hBB.out).mono ?_
    rintro e w2 ⟨rfl, hBn⟩
    replace hBB := PM.hid (PM.chain hBB.out hBn)
    replace kx := kx.keep hBn
    clear hBn x0 x1 x2 x3 x4 x5 x6 x7
    have x0 : w2.cell? ⟨gx, 0, none⟩ = some (.int .i64 1) := kx.cell 0
    have x1 : w2.cell? ⟨gx, 1, none⟩ = some (.int .u64 (HV : Int)) := kx.cell 1
    have x2 : w2.cell? ⟨gx, 2, none⟩ = some (.slice ma0 mn0 mc0) := kx.cell 2
    have x3 : w2.cell? ⟨gx, 3, none⟩ = some (.slice ma1 mn1 mc1) := kx.cell 3
    have x4 : w2.cell? ⟨gx, 4, none⟩ = some (.slice ma2 mn2 mc2) := kx.cell 4
    have x5 : w2.cell? ⟨gx, 5, none⟩ = some (.slice ma3 mn3 mc3) := kx.cell 5
    have x6 : w2.cell? ⟨gx, 6, none⟩ = some (.slice ma4 mn4 mc4) := kx.cell 6
    have x7 : w2.cell? ⟨gx, 7, none⟩ = some (.slice ma5 mn5 mc5) := kx.cell 7
    cases b1
    case false =>
      go_wp2_with fail
      refine (f1.out w2 hBB.out).mono ?_
      rintro e w3 ⟨rfl, hBn⟩
      replace hBB := PM.hid (PM.chain hBB.out hBn)
      clear hBn kx x0 x1 x2 x3 x4 x5 x6 x7
      go_wp2_with fail
      go_ret
      exact ⟨by rw [hres.out]; rfl, hBB.out⟩
    go_wp2_with fail
    refine (f1.out w2 hBB.out).mono ?_
    rintro e w3 ⟨rfl, hBn⟩
    replace hBB := PM.hid (PM.chain hBB.out hBn)
    replace kx := kx.keep hBn
    clear hBn x0 x1 x2 x3 x4 x5 x6 x7
    have x0 : w3.cell? ⟨gx, 0, none⟩ = some (.int .i64 1) := kx.cell 0
    have x1 : w3.cell? ⟨gx, 1, none⟩ = some (.int .u64 (HV : Int)) := kx.cell 1
    have x2 : w3.cell? ⟨gx, 2, none⟩ = some (.slice ma0 mn0 mc0) := kx.cell 2
    have x3 : w3.cell? ⟨gx, 3, none⟩ = some (.slice ma1 mn1 mc1) := kx.cell 3
    have x4 : w3.cell? ⟨gx, 4, none⟩ = some (.slice ma2 mn2 mc2) := kx.cell 4
    have x5 : w3.cell? ⟨gx, 5, none⟩ = some (.slice ma3 mn3 mc3) := kx.cell 5
    have x6 : w3.cell? ⟨gx, 6, none⟩ = some (.slice ma4 mn4 mc4) := kx.cell 6
    have x7 : w3.cell? ⟨gx, 7, none⟩ = some (.slice ma5 mn5 mc5) := kx.cell 7
    cases b2
    case false =>
      go_wp2_with fail
      refine (f2.out w3 hBB.out).mono ?_
      rintro e w4 ⟨rfl, hBn⟩
      replace hBB := PM.hid (PM.chain hBB.out hBn)
      clear hBn kx x0 x1 x2 x3 x4 x5 x6 x7
      go_wp2_with fail
      go_ret
      exact ⟨by rw [hres.out]; rfl, hBB.out⟩
    go_wp2_with fail
    refine (f2.out w3 hBB.out).mono ?_
    rintro e w4 ⟨rfl, hBn⟩
    replace hBB := PM.hid (PM.chain hBB.out hBn)
    replace kx := kx.keep hBn
    clear hBn x0 x1 x2 x3 x4 x5 x6 x7
    have x0 : w4.cell? ⟨gx, 0, none⟩ = some (.int .i64 1) := kx.cell 0
    have x1 : w4.cell? ⟨gx, 1, none⟩ = some (.int .u64 (HV : Int)) := kx.cell 1
    have x2 : w4.cell? ⟨gx, 2, none⟩ = some (.slice ma0 mn0 mc0) := kx.cell 2
    have x3 : w4.cell? ⟨gx, 3, none⟩ = some (.slice ma1 mn1 mc1) := kx.cell 3
    have x4 : w4.cell? ⟨gx, 4, none⟩ = some (.slice ma2 mn2 mc2) := kx.cell 4
    have x5 : w4.cell? ⟨gx, 5, none⟩ = some (.slice ma3 mn3 mc3) := kx.cell 5
    have x6 : w4.cell? ⟨gx, 6, none⟩ = some (.slice ma4 mn4 mc4) := kx.cell 6
    have x7 : w4.cell? ⟨gx, 7, none⟩ = some (.slice ma5 mn5 mc5) := kx.cell 7
    cases b3
    case false =>
      go_wp2_with fail
      refine (f3.out w4 hBB.out).mono ?_
      rintro e w5 ⟨rfl, hBn⟩
      replace hBB := PM.hid (PM.chain hBB.out hBn)
      clear hBn kx x0 x1 x2 x3 x4 x5 x6 x7
      go_wp2_with fail
      go_ret
      exact ⟨by rw [hres.out]; rfl, hBB.out⟩
    go_wp2_with fail
    refine (f3.out w4 hBB.out).mono ?_
    rintro e w5 ⟨rfl, hBn⟩
    replace hBB := PM.hid (PM.chain hBB.out hBn)
    replace kx := kx.keep hBn
    clear hBn x0 x1 x2 x3 x4 x5 x6 x7
    have x0 : w5.cell? ⟨gx, 0, none⟩ = some (.int .i64 1) := kx.cell 0
    have x1 : w5.cell? ⟨gx, 1, none⟩ = some (.int .u64 (HV : Int)) := kx.cell 1
    have x2 : w5.cell? ⟨gx, 2, none⟩ = some (.slice ma0 mn0 mc0) := kx.cell 2
    have x3 : w5.cell? ⟨gx, 3, none⟩ = some (.slice ma1 mn1 mc1) := kx.cell 3
    have x4 : w5.cell? ⟨gx, 4, none⟩ = some (.slice ma2 mn2 mc2) := kx.cell 4
    have x5 : w5.cell? ⟨gx, 5, none⟩ = some (.slice ma3 mn3 mc3) := kx.cell 5
    have x6 : w5.cell? ⟨gx, 6, none⟩ = some (.slice ma4 mn4 mc4) := kx.cell 6
    have x7 : w5.cell? ⟨gx, 7, none⟩ = some (.slice ma5 mn5 mc5) := kx.cell 7
    cases b4
    case false =>
      go_wp2_with fail
      refine (f4.out w5 hBB.out).mono ?_
      rintro e w6 ⟨rfl, hBn⟩
      replace hBB := PM.hid (PM.chain hBB.out hBn)
      clear hBn kx x0 x1 x2 x3 x4 x5 x6 x7
      go_wp2_with fail
      go_ret
      exact ⟨by rw [hres.out]; rfl, hBB.out⟩
    go_wp2_with fail
    refine (f4.out w5 hBB.out).mono ?_
    rintro e w6 ⟨rfl, hBn⟩
    replace hBB := PM.hid (PM.chain hBB.out hBn)
    replace kx := kx.keep hBn
    clear hBn x0 x1 x2 x3 x4 x5 x6 x7
    have x0 : w6.cell? ⟨gx, 0, none⟩ = some (.int .i64 1) := kx.cell 0
    have x1 : w6.cell? ⟨gx, 1, none⟩ = some (.int .u64 (HV : Int)) := kx.cell 1
    have x2 : w6.cell? ⟨gx, 2, none⟩ = some (.slice ma0 mn0 mc0) := kx.cell 2
    have x3 : w6.cell? ⟨gx, 3, none⟩ = some (.slice ma1 mn1 mc1) := kx.cell 3
    have x4 : w6.cell? ⟨gx, 4, none⟩ = some (.slice ma2 mn2 mc2) := kx.cell 4
    have x5 : w6.cell? ⟨gx, 5, none⟩ = some (.slice ma3 mn3 mc3) := kx.cell 5
    have x6 : w6.cell? ⟨gx, 6, none⟩ = some (.slice ma4 mn4 mc4) := kx.cell 6
    have x7 : w6.cell? ⟨gx, 7, none⟩ = some (.slice ma5 mn5 mc5) := kx.cell 7
    cases b5
    case false =>
      go_wp2_with fail
      refine (f5.out w6 hBB.out).mono ?_
      rintro e w7 ⟨rfl, hBn⟩
      replace hBB := PM.hid (PM.chain hBB.out hBn)
      clear hBn kx x0 x1 x2 x3 x4 x5 x6 x7
      go_wp2_with fail
      go_ret
      exact ⟨by rw [hres.out]; rfl, hBB.out⟩
    go_wp2_with fail
    refine (f5.out w6 hBB.out).mono ?_
    rintro e w7 ⟨rfl, hBn⟩
    replace hBB := PM.hid (PM.chain hBB.out hBn)
    replace kx := kx.keep hBn
    clear hBn x0 x1 x2 x3 x4 x5 x6 x7
    clear kx
    go_wp2_with fail
    go_ret
    exact ⟨by rw [hres.out]; rfl, hBB.out⟩
  · have e1 : ((mn0 : Int) + (mn1 : Int) == 0) = true := by simp; omega
    clear hgood hnone hbad hs
    go_enter Try.func13, Try.ntmps13
    go_upto_region 1 with fail
    obtain ⟨gx, hgx⟩ : ∃ g, g = w.heap.size := ⟨_, rfl⟩
    obtain ⟨w1, hw1⟩ : ∃ W, W = w.alloc (.cells #[.int .i64 2, .int .u64 (HV : Int), .slice ma0 mn0 mc0, .slice ma1 mn1 mc1, .slice ma2 mn2 mc2, .slice ma3 mn3 mc3, .slice ma4 mn4 mc4, .slice ma5 mn5 mc5] 28) := ⟨_, rfl⟩
    have hBn : Below w.heap.size w w1 := by rw [hw1]; exact (Below.refl _ _).alloc (Nat.le_refl _) _
    have kx : PM.BK w1 gx #[.int .i64 2, .int .u64 (HV : Int), .slice ma0 mn0 mc0, .slice ma1 mn1 mc1, .slice ma2 mn2 mc2, .slice ma3 mn3 mc3, .slice ma4 mn4 mc4, .slice ma5 mn5 mc5] 28 := by rw [hw1, hgx]; exact PM.BK.new _ _ _
    rw [← hw1, ← hgx]
    clear hw1 hgx
    have hBB := PM.hid hBn
    clear hBn
    have x0 : w1.cell? ⟨gx, 0, none⟩ = some (.int .i64 2) := kx.cell 0
    have x1 : w1.cell? ⟨gx, 1, none⟩ = some (.int .u64 (HV : Int)) := kx.cell 1
    have x2 : w1.cell? ⟨gx, 2, none⟩ = some (.slice ma0 mn0 mc0) := kx.cell 2
    have x3 : w1.cell? ⟨gx, 3, none⟩ = some (.slice ma1 mn1 mc1) := kx.cell 3
    have x4 : w1.cell? ⟨gx, 4, none⟩ = some (.slice ma2 mn2 mc2) := kx.cell 4
    have x5 : w1.cell? ⟨gx, 5, none⟩ = some (.slice ma3 mn3 mc3) := kx.cell 5
    have x6 : w1.cell? ⟨gx, 6, none⟩ = some (.slice ma4 mn4 mc4) := kx.cell 6
    have x7 : w1.cell? ⟨gx, 7, none⟩ = some (.slice ma5 mn5 mc5) := kx.cell 7
    cases b0
    case false =>
      go_wp2_with fail
      refine (f0.out w1 hBB.out).mono ?_
      rintro e w2 ⟨rfl, hBn⟩
      replace hBB := PM.hid (PM.chain hBB.out hBn)
      clear hBn kx x0 x1 x2 x3 x4 x5 x6 x7
      go_wp2_with fail
      go_ret
      exact ⟨by rw [hres.out]; rfl, hBB.out⟩
    go_wp2_with fail
    refine (f0.out w1 hBB.out).mono ?_
    rintro e w2 ⟨rfl, hBn⟩
    replace hBB := PM.hid (PM.chain hBB.out hBn)
    replace kx := kx.keep hBn
    clear hBn x0 x1 x2 x3 x4 x5 x6 x7
    have x0 : w2.cell? ⟨gx, 0, none⟩ = some (.int .i64 2) := kx.cell 0
    have x1 : w2.cell? ⟨gx, 1, none⟩ = some (.int .u64 (HV : Int)) := kx.cell 1
    have x2 : w2.cell? ⟨gx, 2, none⟩ = some (.slice ma0 mn0 mc0) := kx.cell 2
    have x3 : w2.cell? ⟨gx, 3, none⟩ = some (.slice ma1 mn1 mc1) := kx.cell 3
    have x4 : w2.cell? ⟨gx, 4, none⟩ = some (.slice ma2 mn2 mc2) := kx.cell 4
    have x5 : w2.cell? ⟨gx, 5, none⟩ = some (.slice ma3 mn3 mc3) := kx.cell 5
    have x6 : w2.cell? ⟨gx, 6, none⟩ = some (.slice ma4 mn4 mc4) := kx.cell 6
    have x7 : w2.cell? ⟨gx, 7, none⟩ = some (.slice ma5 mn5 mc5) := kx.cell 7
    cases b1
    case false =>
      go_wp2_with fail
      refine (f1.out w2 hBB.out).mono ?_
      rintro e w3 ⟨rfl, hBn⟩
      replace hBB := PM.hid (PM.chain hBB.out hBn)
      clear hBn kx x0 x1 x2 x3 x4 x5 x6 x7
      go_wp2_with fail
      go_ret
      exact ⟨by rw [hres.out]; rfl, hBB.out⟩
    go_wp2_with fail
    refine (f1.out w2 hBB.out).mono ?_
    rintro e w3 ⟨rfl, hBn⟩
    replace hBB := PM.hid (PM.chain hBB.out hBn)
    replace kx := kx.keep hBn
    clear hBn x0 x1 x2 x3 x4 x5 x6 x7
    have x0 : w3.cell? ⟨gx, 0, none⟩ = some (.int .i64 2) := kx.cell 0
    have x1 : w3.cell? ⟨gx, 1, none⟩ = some (.int .u64 (HV : Int)) := kx.cell 1
    have x2 : w3.cell? ⟨gx, 2, none⟩ = some (.slice ma0 mn0 mc0) := kx.cell 2
    have x3 : w3.cell? ⟨gx, 3, none⟩ = some (.slice ma1 mn1 mc1) := kx.cell 3
    have x4 : w3.cell? ⟨gx, 4, none⟩ = some (.slice ma2 mn2 mc2) := kx.cell 4
    have x5 : w3.cell? ⟨gx, 5, none⟩ = some (.slice ma3 mn3 mc3) := kx.cell 5
    have x6 : w3.cell? ⟨gx, 6, none⟩ = some (.slice ma4 mn4 mc4) := kx.cell 6
    have x7 : w3.cell? ⟨gx, 7, none⟩ = some (.slice ma5 mn5 mc5) := kx.cell 7
    cases b2
    case false =>
      go_wp2_with fail
      refine (f2.out w3 hBB.out).mono ?_
      rintro e w4 ⟨rfl, hBn⟩
      replace hBB := PM.hid (PM.chain hBB.out hBn)
      clear hBn kx x0 x1 x2 x3 x4 x5 x6 x7
      go_wp2_with fail
      go_ret
      exact ⟨by rw [hres.out]; rfl, hBB.out⟩
    go_wp2_with fail
    refine (f2.out w3 hBB.out).mono ?_
    rintro e w4 ⟨rfl, hBn⟩
    replace hBB := PM.hid (PM.chain hBB.out hBn)
    replace kx := kx.keep hBn
    clear hBn x0 x1 x2 x3 x4 x5 x6 x7
    have x0 : w4.cell? ⟨gx, 0, none⟩ = some (.int .i64 2) := kx.cell 0
    have x1 : w4.cell? ⟨gx, 1, none⟩ = some (.int .u64 (HV : Int)) := kx.cell 1
    have x2 : w4.cell? ⟨gx, 2, none⟩ = some (.slice ma0 mn0 mc0) := kx.cell 2
    have x3 : w4.cell? ⟨gx, 3, none⟩ = some (.slice ma1 mn1 mc1) := kx.cell 3
    have x4 : w4.cell? ⟨gx, 4, none⟩ = some (.slice ma2 mn2 mc2) := kx.cell 4
    have x5 : w4.cell? ⟨gx, 5, none⟩ = some (.slice ma3 mn3 mc3) := kx.cell 5
    have x6 : w4.cell? ⟨gx, 6, none⟩ = some (.slice ma4 mn4 mc4) := kx.cell 6
    have x7 : w4.cell? ⟨gx, 7, none⟩ = some (.slice ma5 mn5 mc5) := kx.cell 7
    cases b3
    case false =>
      go_wp2_with fail
      refine (f3.out w4 hBB.out).mono ?_
      rintro e w5 ⟨rfl, hBn⟩
      replace hBB := PM.hid (PM.chain hBB.out hBn)
      clear hBn kx x0 x1 x2 x3 x4 x5 x6 x7
      go_wp2_with fail
      go_ret
      exact ⟨by rw [hres.out]; rfl, hBB.out⟩
    go_wp2_with fail
    refine (f3.out w4 hBB.out).mono ?_
    rintro e w5 ⟨rfl, hBn⟩
    replace hBB := PM.hid (PM.chain hBB.out hBn)
    replace kx := kx.keep hBn
    clear hBn x0 x1 x2 x3 x4 x5 x6 x7
    have x0 : w5.cell? ⟨gx, 0, none⟩ = some (.int .i64 2) := kx.cell 0
    have x1 : w5.cell? ⟨gx, 1, none⟩ = some (.int .u64 (HV : Int)) := kx.cell 1
    have x2 : w5.cell? ⟨gx, 2, none⟩ = some (.slice ma0 mn0 mc0) := kx.cell 2
    have x3 : w5.cell? ⟨gx, 3, none⟩ = some (.slice ma1 mn1 mc1) := kx.cell 3
    have x4 : w5.cell? ⟨gx, 4, none⟩ = some (.slice ma2 mn2 mc2) := kx.cell 4
    have x5 : w5.cell? ⟨gx, 5, none⟩ = some (.slice ma3 mn3 mc3) := kx.cell 5
    have x6 : w5.cell? ⟨gx, 6, none⟩ = some (.slice ma4 mn4 mc4) := kx.cell 6
    have x7 : w5.cell? ⟨gx, 7, none⟩ = some (.slice ma5 mn5 mc5) := kx.cell 7
    cases b4
    case false =>
      go_wp2_with fail
      refine (f4.out w5 hBB.out).mono ?_
      rintro e w6 ⟨rfl, hBn⟩
      replace hBB := PM.hid (PM.chain hBB.out hBn)
      clear hBn kx x0 x1 x2 x3 x4 x5 x6 x7
      go_wp2_with fail
      go_ret
      exact ⟨by rw [hres.out]; rfl, hBB.out⟩
    go_wp2_with fail
    refine (f4.out w5 hBB.out).mono ?_
    rintro e w6 ⟨rfl, hBn⟩
    replace hBB := PM.hid (PM.chain hBB.out hBn)
    replace kx := kx.keep hBn
    clear hBn x0 x1 x2 x3 x4 x5 x6 x7
    have x0 : w6.cell? ⟨gx, 0, none⟩ = some (.int .i64 2) := kx.cell 0
    have x1 : w6.cell? ⟨gx, 1, none⟩ = some (.int .u64 (HV : Int)) := kx.cell 1
    have x2 : w6.cell? ⟨gx, 2, none⟩ = some (.slice ma0 mn0 mc0) := kx.cell 2
    have x3 : w6.cell? ⟨gx, 3, none⟩ = some (.slice ma1 mn1 mc1) := kx.cell 3
    have x4 : w6.cell? ⟨gx, 4, none⟩ = some (.slice ma2 mn2 mc2) := kx.cell 4
    have x5 : w6.cell? ⟨gx, 5, none⟩ = some (.slice ma3 mn3 mc3) := kx.cell 5
    have x6 : w6.cell? ⟨gx, 6, none⟩ = some (.slice ma4 mn4 mc4) := kx.cell 6
    have x7 : w6.cell? ⟨gx, 7, none⟩ = some (.slice ma5 mn5 mc5) := kx.cell 7
    cases b5
    case false =>
      go_wp2_with fail
      refine (f5.out w6 hBB.out).mono ?_
      rintro e w7 ⟨rfl, hBn⟩
      replace hBB := PM.hid (PM.chain hBB.out hBn)
      clear hBn kx x0 x1 x2 x3 x4 x5 x6 x7
      go_wp2_with fail
      go_ret
      exact ⟨by rw [hres.out]; rfl, hBB.out⟩
    go_wp2_with fail
    refine (f5.out w6 hBB.out).mono ?_
    rintro e w7 ⟨rfl, hBn⟩
    replace hBB := PM.hid (PM.chain hBB.out hBn)
    replace kx := kx.keep hBn
    clear hBn x0 x1 x2 x3 x4 x5 x6 x7
    clear kx
    go_wp2_with fail
    go_ret
    exact ⟨by rw [hres.out]; rfl, hBB.out⟩
end Go.Proofs.Ytokfookandfemaa
