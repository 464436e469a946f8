/-
  CONTRACTS of layer 13: wire.layVote, layEntry, lay, Encode.
-/
import Derived.Test.YtokfookandfemaaUa
import Derived.Test.YtokfookandfemaaJB
import Derived.Test.YtokfookandfemaaJC
import Derived.Test.YtokfookandfemaaR0
namespace Go.Proofs.Ytokfookandfemaa
open Go.RowKit
set_option linter.unusedVariables false
set_option linter.unusedSimpArgs false
namespace PM
def voB (v : Vo) : List UInt8 := idB v.id ++ numB (if v.yes then 1 else 0)
def enBB (x : En) : List UInt8 := bytesB (enB x)
/-- a list's bytes -/
def lstB {α : Type} (f : α → List UInt8) (l : List α) : List UInt8 := numB l.length ++ (l.map f).flatten
/-- a message's bytes -/
def msB (m : Ms) : List UInt8 := numB (u64 m.kind) ++ (numB m.hav ++ (if m.kind = 1 then lstB voB m.votes ++ lstB enBB m.asks else lstB enBB m.entries ++ (lstB enBB m.prepares ++ (lstB idB m.aborts ++ lstB idB m.ends))))
theorem numB_le {n : Nat} (h : n < 2 ^ 64) : (numB n).length ≤ 9 := by
  have := wid_le n h
  rw [numB_length]
  omega
theorem voB_le {v : Vo} (h : v.id.wf) : (voB v).length ≤ 36 := by
  have h1 := idB_le h
  have h2 : (numB (if v.yes then 1 else 0)).length ≤ 9 := numB_le (by split <;> omega)
  unfold voB
  rw [List.length_append]
  omega
theorem enBB_le {x : En} (hok : enOk x) (hx : x.wf) : (enBB x).length ≤ 40009 := by
  have h1 := enB_le hok hx
  have h2 : (numB (enB x).length).length ≤ 9 := numB_le (by omega)
  unfold enBB bytesB
  rw [List.length_append]
  omega
theorem flat_le {α : Type} {f : α → List UInt8} {M : Nat} : ∀ (l : List α), (∀ x ∈ l, (f x).length ≤ M) → (l.map f).flatten.length ≤ l.length * M
  | [], _ => by simp
  | x :: l, h => by
    have h1 := flat_le l fun y hy => h y (by simp [hy])
    have h2 := h x (by simp)
    simp only [List.map_cons, List.flatten_cons, List.length_append, List.length_cons, Nat.succ_mul]
    omega
theorem flat_take_le {α : Type} {f : α → List UInt8} {M : Nat} {l : List α} (h : ∀ x ∈ l, (f x).length ≤ M) (k : Nat) : ((l.take k).map f).flatten.length ≤ k * M := by
  have h1 := flat_le (f := f) (M := M) (l.take k) fun x hx => h x (List.mem_of_mem_take hx)
  have h2 : (l.take k).length * M ≤ k * M := Nat.mul_le_mul_right _ (List.length_take_le _ _)
  omega
theorem flat_snoc {α : Type} {f : α → List UInt8} {l : List α} {k : Nat} {x : α} (h : l[k]? = some x) : ((l.take (k + 1)).map f).flatten = ((l.take k).map f).flatten ++ f x := by
  rw [take_at h]
  simp
theorem lstB_le {α : Type} {f : α → List UInt8} {l : List α} (h : ∀ x ∈ l, (f x).length ≤ 40009) (hl : l.length ≤ 16) : (lstB f l).length ≤ 640200 := by
  have h1 := flat_le l h
  have h2 : (numB l.length).length ≤ 9 := numB_le (by omega)
  have h3 : l.length * 40009 ≤ 16 * 40009 := Nat.mul_le_mul_right _ hl
  unfold lstB
  rw [List.length_append]
  omega
theorem allB_iff {α : Type} {p : α → Bool} {l : List α} : allB p l = true ↔ l.length ≤ 16 ∧ ∀ x ∈ l, p x = true := by
  unfold allB
  rw [Bool.and_eq_true, decide_eq_true_eq, List.all_eq_true]
theorem enOkB_iff {x : En} : enOkB x = true ↔ enOk x := by
  unfold enOkB
  split <;> simp_all
structure MsOk (m : Ms) : Prop where
  kind : (m.kind = 1 ∧ m.entries = [] ∧ m.prepares = [] ∧ m.aborts = [] ∧ m.ends = []) ∨ (m.kind = 2 ∧ m.votes = [] ∧ m.asks = [])
  votes : m.votes.length ≤ 16 ∧ ∀ v ∈ m.votes, 0 ≤ v.id.br ∧ v.id.br < 16
  aborts : m.aborts.length ≤ 16 ∧ ∀ i ∈ m.aborts, 0 ≤ i.br ∧ i.br < 16
  ends : m.ends.length ≤ 16 ∧ ∀ i ∈ m.ends, 0 ≤ i.br ∧ i.br < 16
  asks : m.asks.length ≤ 16 ∧ ∀ x ∈ m.asks, enOk x
  entries : m.entries.length ≤ 16 ∧ ∀ x ∈ m.entries, enOk x
  prepares : m.prepares.length ≤ 16 ∧ ∀ x ∈ m.prepares, enOk x
theorem msOk_iff {m : Ms} : msOkB m = true ↔ MsOk m := by
  unfold msOkB kindB
  simp only [Bool.and_eq_true, Bool.or_eq_true, decide_eq_true_eq, allB_iff]
  constructor
  · rintro ⟨hk, h1, h2, h3, h4, h5, h6⟩
    refine ⟨?_, ⟨h1.1, fun v hv => idOkB_iff.1 (h1.2 v hv)⟩, ⟨h2.1, fun v hv => idOkB_iff.1 (h2.2 v hv)⟩, ⟨h3.1, fun v hv => idOkB_iff.1 (h3.2 v hv)⟩, ⟨h4.1, fun v hv => enOkB_iff.1 (h4.2 v hv)⟩, ⟨h5.1, fun v hv => enOkB_iff.1 (h5.2 v hv)⟩, ⟨h6.1, fun v hv => enOkB_iff.1 (h6.2 v hv)⟩⟩
    rcases hk with ⟨k, h⟩ | ⟨k, h⟩
    · exact .inl ⟨k, List.length_eq_zero_iff.1 (by omega), List.length_eq_zero_iff.1 (by omega), List.length_eq_zero_iff.1 (by omega), List.length_eq_zero_iff.1 (by omega)⟩
    · exact .inr ⟨k, List.length_eq_zero_iff.1 (by omega), List.length_eq_zero_iff.1 (by omega)⟩
  · intro h
    refine ⟨?_, ⟨h.votes.1, fun v hv => idOkB_iff.2 (h.votes.2 v hv)⟩, ⟨h.aborts.1, fun v hv => idOkB_iff.2 (h.aborts.2 v hv)⟩, ⟨h.ends.1, fun v hv => idOkB_iff.2 (h.ends.2 v hv)⟩, ⟨h.asks.1, fun v hv => enOkB_iff.2 (h.asks.2 v hv)⟩, ⟨h.entries.1, fun v hv => enOkB_iff.2 (h.entries.2 v hv)⟩, ⟨h.prepares.1, fun v hv => enOkB_iff.2 (h.prepares.2 v hv)⟩⟩
    rcases h.kind with ⟨k, h1, h2, h3, h4⟩ | ⟨k, h1, h2⟩
    · exact .inl ⟨k, by rw [h1, h2, h3, h4]; rfl⟩
    · exact .inr ⟨k, by rw [h1, h2]; rfl⟩
theorem msE_yes {m : Ms} (h : msOkB m = true) : msE m = 0 := by unfold msE; rw [if_pos h]
theorem msE_no {m : Ms} (h : msOkB m = false) : msE m = 130 := by unfold msE; rw [if_neg (by rw [h]; simp)]
end PM
set_option maxHeartbeats 2000000 in
theorem layVote_any (v : Value) (l : List UInt8) (z : PM.Vo) (hz : z.id.wf) (w : World) (hv : PM.BS w v l) (hl : l.length ≤ 10000000) :
    Calls Try.prog 22 #[v, .agg #[.int .i64 z.id.br, .int .u64 (z.id.life : Int), .int .u64 (z.id.ser : Int), .bool z.yes]] w (PM.RetB 5 w.heap.size w (l ++ PM.voB z)) := by
  obtain ⟨va, vc, rfl⟩ := hv.len
  have hla := PM.hid fun (v : Value) (W : World) (h : PM.BS W v l) => lay_any v l z.id hz W h (by omega)
  have hid := PM.idB_le hz
  have hvh := PM.hid hv
  have hvo : Hid (PM.voB z = PM.idB z.id ++ PM.numB (if z.yes then 1 else 0)) := PM.hid rfl
  obtain ⟨VB, hVB⟩ : ∃ VB, VB = PM.voB z := ⟨_, rfl⟩
  obtain ⟨IB, hIB⟩ : ∃ VB, VB = PM.idB z.id := ⟨_, rfl⟩
  rw [← hVB] at hvo ⊢
  rw [← hIB] at hvo hla hid
  obtain ⟨y, hy⟩ : ∃ y, y = z.yes := ⟨_, rfl⟩
  rw [← hy] at hvo ⊢
  clear hv hz hVB hIB hy
  obtain ⟨⟨ib, il, is⟩, yy⟩ := z
  unfold PM.idL at hla
  simp only at hla ⊢
  clear yy
  cases y
  · go_enter Try.func22, Try.ntmps22
    go_upto_region 1 with fail
    obtain ⟨gx, hgx⟩ : ∃ g, g = w.heap.size := ⟨_, rfl⟩
    obtain ⟨w1, hw1⟩ : ∃ W, W = w.alloc (.cells #[.int .i64 ib, .int .u64 (il : Int), .int .u64 (is : Int), .bool false] 53) := ⟨_, rfl⟩
    have hBn : Below w.heap.size w w1 := by rw [hw1]; exact (Below.refl _ _).alloc (Nat.le_refl _) _
    have kx : PM.BK w1 gx #[.int .i64 ib, .int .u64 (il : Int), .int .u64 (is : Int), .bool false] 53 := by rw [hw1, hgx]; exact PM.BK.new _ _ _
    rw [← hw1, ← hgx]
    clear hw1 hgx
    have x0 : w1.cell? ⟨gx, 0, none⟩ = some (.int .i64 ib) := kx.cell 0
    have x1 : w1.cell? ⟨gx, 1, none⟩ = some (.int .u64 (il : Int)) := kx.cell 1
    have x2 : w1.cell? ⟨gx, 2, none⟩ = some (.int .u64 (is : Int)) := kx.cell 2
    have x3 : w1.cell? ⟨gx, 3, none⟩ = some (.bool false) := kx.cell 3
    clear kx
    have hBB := PM.hid hBn
    clear hBn
    go_wp2_with fail
    refine (hla.out _ w1 (hvh.out.keep hBB.out)).mono ?_
    rintro e w2 ⟨v2, rfl, ho2, hB2⟩
    replace hBB := PM.hid (PM.chain hBB.out hB2)
    have hs2 := ho2.bs
    clear ho2 hB2 x0 x1 x2 x3
    go_wp2_with fail
    refine (number_c _ _ _ 0 rfl (by omega) w2 hs2 (by rw [List.length_append]; omega)).mono ?_
    rintro e w3 ⟨v3, rfl, ho3, hB3⟩
    have hE := PM.hid (And.intro (ho3.mono hBB.out.size) (PM.chain hBB.out hB3))
    clear ho3 hB3 hs2
    go_wp2_with fail
    go_ret
    refine ⟨_, rfl, ?_, hE.out.2⟩
    rw [hvo.out, ← List.append_assoc]
    exact hE.out.1
  · go_enter Try.func22, Try.ntmps22
    go_upto_region 1 with fail
    obtain ⟨gx, hgx⟩ : ∃ g, g = w.heap.size := ⟨_, rfl⟩
    obtain ⟨w1, hw1⟩ : ∃ W, W = w.alloc (.cells #[.int .i64 ib, .int .u64 (il : Int), .int .u64 (is : Int), .bool true] 53) := ⟨_, rfl⟩
    have hBn : Below w.heap.size w w1 := by rw [hw1]; exact (Below.refl _ _).alloc (Nat.le_refl _) _
    have kx : PM.BK w1 gx #[.int .i64 ib, .int .u64 (il : Int), .int .u64 (is : Int), .bool true] 53 := by rw [hw1, hgx]; exact PM.BK.new _ _ _
    rw [← hw1, ← hgx]
    clear hw1 hgx
    have x0 : w1.cell? ⟨gx, 0, none⟩ = some (.int .i64 ib) := kx.cell 0
    have x1 : w1.cell? ⟨gx, 1, none⟩ = some (.int .u64 (il : Int)) := kx.cell 1
    have x2 : w1.cell? ⟨gx, 2, none⟩ = some (.int .u64 (is : Int)) := kx.cell 2
    have x3 : w1.cell? ⟨gx, 3, none⟩ = some (.bool true) := kx.cell 3
    clear kx
    have hBB := PM.hid hBn
    clear hBn
    go_wp2_with fail
    refine (hla.out _ w1 (hvh.out.keep hBB.out)).mono ?_
    rintro e w2 ⟨v2, rfl, ho2, hB2⟩
    replace hBB := PM.hid (PM.chain hBB.out hB2)
    have hs2 := ho2.bs
    clear ho2 hB2 x0 x1 x2 x3
    go_wp2_with fail
    refine (number_c _ _ _ 1 rfl (by omega) w2 hs2 (by rw [List.length_append]; omega)).mono ?_
    rintro e w3 ⟨v3, rfl, ho3, hB3⟩
    have hE := PM.hid (And.intro (ho3.mono hBB.out.size) (PM.chain hBB.out hB3))
    clear ho3 hB3 hs2
    go_wp2_with fail
    go_ret
    refine ⟨_, rfl, ?_, hE.out.2⟩
    rw [hvo.out, ← List.append_assoc]
    exact hE.out.1
set_option maxHeartbeats 2000000 in
theorem layEntry_any (v : Value) (l : List UInt8) (z : PM.En) (fa : Option Addr) (zF fc : Nat) (ea : Option Addr) (zE ec : Nat) (w : World) (hz : z.wf) (hok : PM.enOk z) (hF : zF = z.fil.length) (hE : zE = z.evs.length) (hf : PM.TV w (.slice fa zF fc) z.fil) (he : PM.EVL w (.slice ea zE ec) z.evs) (hv : PM.BS w v l) (hl : l.length ≤ 10000000) :
    Calls Try.prog 23 #[v, .agg #[.int .i64 z.kind, .int .i64 z.id.br, .int .u64 (z.id.life : Int), .int .u64 (z.id.ser : Int), .int .i64 z.client, .int .u64 (z.sub : Int), .slice fa zF fc, .slice ea zE ec]] w (PM.RetB 5 w.heap.size w (l ++ PM.enBB z)) := by
  obtain ⟨va, vc, rfl⟩ := hv.len
  have hck : Hid (∀ W : World, Below w.heap.size w W → Calls Try.prog 59 #[.agg #[.int .i64 z.kind, .int .i64 z.id.br, .int .u64 (z.id.life : Int), .int .u64 (z.id.ser : Int), .int .i64 z.client, .int .u64 (z.sub : Int), .slice fa zF fc, .slice ea zE ec]] W fun e w' => ∃ o, e = .returned (.tuple #[o, .int .i64 0]) ∧ PM.OW 5 W.heap.size w' o (PM.enB z) ∧ Below W.heap.size W w') := PM.hid fun W hb => (enencode_any z _ _ W hz (hf.keep hb) (he.keep hb)).mono fun e w' ⟨o, h1, h2, _, h3⟩ => ⟨o, by rw [h1, PM.enE_yes hok], h2 hok, h3⟩
  have hle := PM.enB_le hok hz
  have hbb : Hid (PM.enBB z = PM.bytesB (PM.enB z)) := PM.hid rfl
  obtain ⟨EB, hEB⟩ : ∃ EB, EB = PM.enB z := ⟨_, rfl⟩
  obtain ⟨BB, hBB0⟩ : ∃ EB, EB = PM.enBB z := ⟨_, rfl⟩
  rw [← hEB] at hle hbb hck
  rw [← hBB0] at hbb ⊢
  have hvh := PM.hid hv
  clear hf he hF hE hEB hBB0 hz hok hv
  go_enter Try.func23, Try.ntmps23
  go_upto_region 1 with fail
  obtain ⟨gx, hgx⟩ : ∃ g, g = w.heap.size := ⟨_, rfl⟩
  obtain ⟨w1, hw1⟩ : ∃ W, W = w.alloc (.cells #[.int .i64 z.kind, .int .i64 z.id.br, .int .u64 (z.id.life : Int), .int .u64 (z.id.ser : Int), .int .i64 z.client, .int .u64 (z.sub : Int), .slice fa zF fc, .slice ea zE ec] 50) := ⟨_, rfl⟩
  have hBn : Below w.heap.size w w1 := by rw [hw1]; exact (Below.refl _ _).alloc (Nat.le_refl _) _
  have kx : PM.BK w1 gx #[.int .i64 z.kind, .int .i64 z.id.br, .int .u64 (z.id.life : Int), .int .u64 (z.id.ser : Int), .int .i64 z.client, .int .u64 (z.sub : Int), .slice fa zF fc, .slice ea zE ec] 50 := by rw [hw1, hgx]; exact PM.BK.new _ _ _
  rw [← hw1, ← hgx]
  clear hw1 hgx
  have x0 : w1.cell? ⟨gx, 0, none⟩ = some (.int .i64 z.kind) := kx.cell 0
  have x1 : w1.cell? ⟨gx, 1, none⟩ = some (.int .i64 z.id.br) := kx.cell 1
  have x2 : w1.cell? ⟨gx, 2, none⟩ = some (.int .u64 (z.id.life : Int)) := kx.cell 2
  have x3 : w1.cell? ⟨gx, 3, none⟩ = some (.int .u64 (z.id.ser : Int)) := kx.cell 3
  have x4 : w1.cell? ⟨gx, 4, none⟩ = some (.int .i64 z.client) := kx.cell 4
  have x5 : w1.cell? ⟨gx, 5, none⟩ = some (.int .u64 (z.sub : Int)) := kx.cell 5
  have x6 : w1.cell? ⟨gx, 6, none⟩ = some (.slice fa zF fc) := kx.cell 6
  have x7 : w1.cell? ⟨gx, 7, none⟩ = some (.slice ea zE ec) := kx.cell 7
  clear kx
  have hBB := PM.hid hBn
  clear hBn
  go_wp2_with fail
  refine (hck.out w1 hBB.out).mono ?_
  rintro e w2 ⟨o, rfl, ho, hB2⟩
  replace hBB := PM.hid (PM.chain hBB.out hB2)
  obtain ⟨oa, oc, hoe⟩ := ho.bs.len
  have hs := ho.bs
  obtain ⟨on, hon⟩ : ∃ n, n = EB.length := ⟨_, rfl⟩
  rw [← hon] at hoe
  subst hoe
  clear ho hB2 x0 x1 x2 x3 x4 x5 x6 x7 hon
  go_wp2_with fail
  refine (bytes_any _ _ l EB w2 (hvh.out.keep hBB.out) hs (by omega) (by omega)).mono ?_
  rintro e w3 ⟨v3, rfl, ho3, hB3⟩
  have hE := PM.hid (And.intro (ho3.mono hBB.out.size) (PM.chain hBB.out hB3))
  clear ho3 hB3 hs
  go_wp2_with fail
  go_ret
  refine ⟨_, rfl, ?_, hE.out.2⟩
  rw [hbb.out]
  exact hE.out.1
set_option maxHeartbeats 4000000 in
theorem layVo_any (v lv : Value) (l0 : List UInt8) (l : List PM.Vo) (w : World) (hv : PM.BS w v l0) (hr : PM.EM PM.voL 4 w lv l) (hl0 : l0.length ≤ 4000000) (hn : l.length ≤ 16) (hw0 : ∀ x ∈ l, x.id.wf) :
    Calls Try.prog 21 #[v, lv, .func (.func 22) #[] #[]] w (PM.RetB 5 w.heap.size w (l0 ++ PM.lstB PM.voB l)) := by
  obtain ⟨va, vc, rfl⟩ := hv.len
  obtain ⟨la, lc, rfl⟩ := hr.len
  obtain ⟨L, hL⟩ : ∃ L, L = l.length := ⟨_, rfl⟩
  have hle := PM.hid (PM.flat_take_le (f := PM.voB) (M := 36) (l := l) fun x hx => PM.voB_le (hw0 x hx))
  have hLh := PM.hid hL
  rw [← hL] at hr hn ⊢
  have hvh := PM.hid hv
  have hlv := PM.hid hr
  have hwf := PM.hid hw0
  have hlb : Hid (PM.lstB PM.voB l = PM.numB L ++ (l.map PM.voB).flatten) := PM.hid (by rw [hLh.out]; rfl)
  obtain ⟨N0, hN0⟩ : ∃ N, N = l0.length := ⟨_, rfl⟩
  have hN0h := PM.hid hN0
  rw [← hN0] at hl0 ⊢
  clear hL hv hr hw0  hN0
  go_enter Try.func21, Try.ntmps21
  go_wp2_with fail
  refine (number_c _ l0 _ L rfl (by omega) w (by rw [hN0h.out]; exact hvh.out) (by rw [← hN0h.out]; omega)).mono ?_
  rintro e w1 ⟨v1, rfl, ho1, hB1⟩
  have hS1 := PM.hid (And.intro ho1 hB1)
  clear ho1 hB1
  go_wp2_with fail
  go_loopw [0, 16] (fun s i wr => ∃ k : Nat, i = .int .i64 k ∧ k ≤ L ∧ Hid (PM.OW 5 w.heap.size wr s (l0 ++ PM.numB L ++ ((l.take k).map PM.voB).flatten) ∧ Below w.heap.size w wr)) (fun _ i _ => L - (intOf i).toNat)
  case atStart => exact ⟨0, rfl, by omega, PM.hid ⟨by simpa using hS1.out.1, hS1.out.2⟩⟩
  case round =>
    obtain ⟨k, rfl, hk, hin⟩ := hrel
    by_cases hlt : k < L
    · obtain ⟨z, hz⟩ : ∃ z, l[k]? = some z := ⟨l[k]'(by rw [← hLh.out]; exact hlt), List.getElem?_eq_getElem _⟩
      obtain ⟨b, off, cap', he, -, -, hce⟩ := PM.EM.open1 hlv.out (by rw [← hLh.out]; omega)
      injection he with he1 he2 he3
      subst he1
      have hl0' := (hce k z hz).keep hin.out.2
      have d0 : wr.cell? ⟨b, off + k * 4, none⟩ = some (.int .i64 z.id.br) := hl0' 0 _ rfl
      have d1 : wr.cell? ⟨b, off + k * 4 + 1, none⟩ = some (.int .u64 (z.id.life : Int)) := hl0' 1 _ rfl
      have d2 : wr.cell? ⟨b, off + k * 4 + 2, none⟩ = some (.int .u64 (z.id.ser : Int)) := hl0' 2 _ rfl
      have d3 : wr.cell? ⟨b, off + k * 4 + 3, none⟩ = some (.bool z.yes) := hl0' 3 _ rfl
      have hcl := PM.hid fun (v : Value) (l1 : List UInt8) (W : World) (hb : Below w.heap.size w W) (h : PM.BS W v l1) (h2 : l1.length ≤ 10000000) => layVote_any v l1 z (hwf.out z (List.mem_of_getElem? hz)) W h h2

      have hzh := PM.hid hz
      clear hz hce hl0' he2 he3
      go_upto_region 5 with fail
      obtain ⟨gx, hgx⟩ : ∃ g, g = wr.heap.size := ⟨_, rfl⟩
      obtain ⟨w3, hw3⟩ : ∃ W, W = wr.alloc (.cells #[.int .i64 z.id.br, .int .u64 (z.id.life : Int), .int .u64 (z.id.ser : Int), .bool z.yes] 53) := ⟨_, rfl⟩
      have hBn : Below wr.heap.size wr w3 := by rw [hw3]; exact (Below.refl _ _).alloc (Nat.le_refl _) _
      have kx : PM.BK w3 gx #[.int .i64 z.id.br, .int .u64 (z.id.life : Int), .int .u64 (z.id.ser : Int), .bool z.yes] 53 := by rw [hw3, hgx]; exact PM.BK.new _ _ _
      rw [← hw3, ← hgx]
      clear hw3 hgx
      have hB3 := PM.hid (PM.chain hin.out.2 hBn)
      have hs3 := PM.hid (hin.out.1.bs.keep hBn)
      clear hBn d0 d1 d2 d3
      have x0 : w3.cell? ⟨gx, 0, none⟩ = some (.int .i64 z.id.br) := kx.cell 0
      have x1 : w3.cell? ⟨gx, 1, none⟩ = some (.int .u64 (z.id.life : Int)) := kx.cell 1
      have x2 : w3.cell? ⟨gx, 2, none⟩ = some (.int .u64 (z.id.ser : Int)) := kx.cell 2
      have x3 : w3.cell? ⟨gx, 3, none⟩ = some (.bool z.yes) := kx.cell 3
      clear kx
      have hlen : (l0 ++ PM.numB L ++ ((l.take k).map PM.voB).flatten).length ≤ 10000000 := by
        have h1 := hle.out k
        have h2 := PM.numB_le (n := L) (by omega)
        have h3 : k * 36 ≤ 16 * 36 := Nat.mul_le_mul_right _ (by omega)
        simp only [List.length_append]
        rw [← hN0h.out]
        omega
      have hcc := hcl.out _ _ w3 hB3.out hs3.out hlen
      clear hlen
      go_wp2_with fail
      refine hcc.mono ?_
      clear hcc
      rintro e w4 ⟨v4, rfl, ho4, hB4⟩
      have hE := PM.hid (And.intro (ho4.mono hB3.out.size) (PM.chain hB3.out hB4))
      clear ho4 hB4 x0 x1 x2 x3
      go_wp2_with fail
      exact ⟨⟨k + 1, by go_num, by omega, PM.hid ⟨by rw [PM.flat_snoc hzh.out, ← List.append_assoc]; exact hE.out.1, hE.out.2⟩⟩, by simp only [intOf]; omega⟩
    · obtain rfl : k = L := by omega
      go_wp2_with fail
      go_ret
      refine ⟨_, rfl, ?_, hin.out.2⟩
      have h9 : l.take k = l := (by rw [hLh.out]; exact List.take_length)
      have h1 := hin.out.1
      rw [h9] at h1
      rw [hlb.out, ← List.append_assoc]
      exact h1
set_option maxHeartbeats 4000000 in
theorem layId_any (v lv : Value) (l0 : List UInt8) (l : List PM.Id) (w : World) (hv : PM.BS w v l0) (hr : PM.EM PM.idL 3 w lv l) (hl0 : l0.length ≤ 4000000) (hn : l.length ≤ 16) (hw0 : ∀ x ∈ l, x.wf) :
    Calls Try.prog 24 #[v, lv, .func (.func 25) #[] #[]] w (PM.RetB 5 w.heap.size w (l0 ++ PM.lstB PM.idB l)) := by
  obtain ⟨va, vc, rfl⟩ := hv.len
  obtain ⟨la, lc, rfl⟩ := hr.len
  obtain ⟨L, hL⟩ : ∃ L, L = l.length := ⟨_, rfl⟩
  have hle := PM.hid (PM.flat_take_le (f := PM.idB) (M := 27) (l := l) fun x hx => PM.idB_le (hw0 x hx))
  have hLh := PM.hid hL
  rw [← hL] at hr hn ⊢
  have hvh := PM.hid hv
  have hlv := PM.hid hr
  have hwf := PM.hid hw0
  have hlb : Hid (PM.lstB PM.idB l = PM.numB L ++ (l.map PM.idB).flatten) := PM.hid (by rw [hLh.out]; rfl)
  obtain ⟨N0, hN0⟩ : ∃ N, N = l0.length := ⟨_, rfl⟩
  have hN0h := PM.hid hN0
  rw [← hN0] at hl0 ⊢
  clear hL hv hr hw0  hN0
  go_enter Try.func24, Try.ntmps24
  go_wp2_with fail
  refine (number_c _ l0 _ L rfl (by omega) w (by rw [hN0h.out]; exact hvh.out) (by rw [← hN0h.out]; omega)).mono ?_
  rintro e w1 ⟨v1, rfl, ho1, hB1⟩
  have hS1 := PM.hid (And.intro ho1 hB1)
  clear ho1 hB1
  go_wp2_with fail
  go_loopw [0, 16] (fun s i wr => ∃ k : Nat, i = .int .i64 k ∧ k ≤ L ∧ Hid (PM.OW 5 w.heap.size wr s (l0 ++ PM.numB L ++ ((l.take k).map PM.idB).flatten) ∧ Below w.heap.size w wr)) (fun _ i _ => L - (intOf i).toNat)
  case atStart => exact ⟨0, rfl, by omega, PM.hid ⟨by simpa using hS1.out.1, hS1.out.2⟩⟩
  case round =>
    obtain ⟨k, rfl, hk, hin⟩ := hrel
    by_cases hlt : k < L
    · obtain ⟨z, hz⟩ : ∃ z, l[k]? = some z := ⟨l[k]'(by rw [← hLh.out]; exact hlt), List.getElem?_eq_getElem _⟩
      obtain ⟨b, off, cap', he, -, -, hce⟩ := PM.EM.open1 hlv.out (by rw [← hLh.out]; omega)
      injection he with he1 he2 he3
      subst he1
      have hl0' := (hce k z hz).keep hin.out.2
      have d0 : wr.cell? ⟨b, off + k * 3, none⟩ = some (.int .i64 z.br) := hl0' 0 _ rfl
      have d1 : wr.cell? ⟨b, off + k * 3 + 1, none⟩ = some (.int .u64 (z.life : Int)) := hl0' 1 _ rfl
      have d2 : wr.cell? ⟨b, off + k * 3 + 2, none⟩ = some (.int .u64 (z.ser : Int)) := hl0' 2 _ rfl
      have hcl := PM.hid fun (v : Value) (l1 : List UInt8) (W : World) (hb : Below w.heap.size w W) (h : PM.BS W v l1) (h2 : l1.length ≤ 10000000) => lay_any v l1 z (hwf.out z (List.mem_of_getElem? hz)) W h (by omega)
      unfold PM.idL at hcl
      have hzh := PM.hid hz
      clear hz hce hl0' he2 he3
      go_upto_region 5 with fail
      obtain ⟨gx, hgx⟩ : ∃ g, g = wr.heap.size := ⟨_, rfl⟩
      obtain ⟨w3, hw3⟩ : ∃ W, W = wr.alloc (.cells #[.int .i64 z.br, .int .u64 (z.life : Int), .int .u64 (z.ser : Int)] 45) := ⟨_, rfl⟩
      have hBn : Below wr.heap.size wr w3 := by rw [hw3]; exact (Below.refl _ _).alloc (Nat.le_refl _) _
      have kx : PM.BK w3 gx #[.int .i64 z.br, .int .u64 (z.life : Int), .int .u64 (z.ser : Int)] 45 := by rw [hw3, hgx]; exact PM.BK.new _ _ _
      rw [← hw3, ← hgx]
      clear hw3 hgx
      have hB3 := PM.hid (PM.chain hin.out.2 hBn)
      have hs3 := PM.hid (hin.out.1.bs.keep hBn)
      clear hBn d0 d1 d2
      have x0 : w3.cell? ⟨gx, 0, none⟩ = some (.int .i64 z.br) := kx.cell 0
      have x1 : w3.cell? ⟨gx, 1, none⟩ = some (.int .u64 (z.life : Int)) := kx.cell 1
      have x2 : w3.cell? ⟨gx, 2, none⟩ = some (.int .u64 (z.ser : Int)) := kx.cell 2
      clear kx
      have hlen : (l0 ++ PM.numB L ++ ((l.take k).map PM.idB).flatten).length ≤ 10000000 := by
        have h1 := hle.out k
        have h2 := PM.numB_le (n := L) (by omega)
        have h3 : k * 27 ≤ 16 * 27 := Nat.mul_le_mul_right _ (by omega)
        simp only [List.length_append]
        rw [← hN0h.out]
        omega
      have hcc := hcl.out _ _ w3 hB3.out hs3.out hlen
      clear hlen
      go_wp2_with fail
      refine hcc.mono ?_
      clear hcc
      rintro e w4 ⟨v4, rfl, ho4, hB4⟩
      have hE := PM.hid (And.intro (ho4.mono hB3.out.size) (PM.chain hB3.out hB4))
      clear ho4 hB4 x0 x1 x2
      go_wp2_with fail
      exact ⟨⟨k + 1, by go_num, by omega, PM.hid ⟨by rw [PM.flat_snoc hzh.out, ← List.append_assoc]; exact hE.out.1, hE.out.2⟩⟩, by simp only [intOf]; omega⟩
    · obtain rfl : k = L := by omega
      go_wp2_with fail
      go_ret
      refine ⟨_, rfl, ?_, hin.out.2⟩
      have h9 : l.take k = l := (by rw [hLh.out]; exact List.take_length)
      have h1 := hin.out.1
      rw [h9] at h1
      rw [hlb.out, ← List.append_assoc]
      exact h1
set_option maxHeartbeats 4000000 in
theorem layEn_any (v lv : Value) (l0 : List UInt8) (l : List PM.En) (w : World) (hv : PM.BS w v l0) (hr : PM.EnL w lv l) (hl0 : l0.length ≤ 4000000) (hn : l.length ≤ 16) (hok0 : ∀ x ∈ l, PM.enOk x) (hw0 : ∀ x ∈ l, x.wf) :
    Calls Try.prog 20 #[v, lv, .func (.func 23) #[] #[]] w (PM.RetB 5 w.heap.size w (l0 ++ PM.lstB PM.enBB l)) := by
  obtain ⟨va, vc, rfl⟩ := hv.len
  obtain ⟨la, lc, rfl⟩ := hr.len
  obtain ⟨L, hL⟩ : ∃ L, L = l.length := ⟨_, rfl⟩
  have hle := PM.hid (PM.flat_take_le (f := PM.enBB) (M := 40009) (l := l) fun x hx => PM.enBB_le (hok0 x hx) (hw0 x hx))
  have hLh := PM.hid hL
  rw [← hL] at hr hn ⊢
  have hvh := PM.hid hv
  have hlv := PM.hid hr
  have hwf := PM.hid (And.intro hok0 hw0)
  have hlb : Hid (PM.lstB PM.enBB l = PM.numB L ++ (l.map PM.enBB).flatten) := PM.hid (by rw [hLh.out]; rfl)
  obtain ⟨N0, hN0⟩ : ∃ N, N = l0.length := ⟨_, rfl⟩
  have hN0h := PM.hid hN0
  rw [← hN0] at hl0 ⊢
  clear hL hv hr hw0 hok0 hN0
  go_enter Try.func20, Try.ntmps20
  go_wp2_with fail
  refine (number_c _ l0 _ L rfl (by omega) w (by rw [hN0h.out]; exact hvh.out) (by rw [← hN0h.out]; omega)).mono ?_
  rintro e w1 ⟨v1, rfl, ho1, hB1⟩
  have hS1 := PM.hid (And.intro ho1 hB1)
  clear ho1 hB1
  go_wp2_with fail
  go_loopw [0, 16] (fun s i wr => ∃ k : Nat, i = .int .i64 k ∧ k ≤ L ∧ Hid (PM.OW 5 w.heap.size wr s (l0 ++ PM.numB L ++ ((l.take k).map PM.enBB).flatten) ∧ Below w.heap.size w wr)) (fun _ i _ => L - (intOf i).toNat)
  case atStart => exact ⟨0, rfl, by omega, PM.hid ⟨by simpa using hS1.out.1, hS1.out.2⟩⟩
  case round =>
    obtain ⟨k, rfl, hk, hin⟩ := hrel
    by_cases hlt : k < L
    · obtain ⟨z, hz⟩ : ∃ z, l[k]? = some z := ⟨l[k]'(by rw [← hLh.out]; exact hlt), List.getElem?_eq_getElem _⟩
      obtain ⟨b, off, rfl, hce⟩ := PM.RR.opn hlv.out (by rw [← hLh.out]; omega)
      obtain ⟨cs, hl0', hR⟩ := hce k z hz
      obtain ⟨fa, fc, ea, ec, hcs, hzf, hze⟩ := PM.enR_open hR
      replace hl0' := hl0'.keep hin.out.2
      rw [hcs] at hl0'
      have d0 : wr.cell? ⟨b, off + k * 8, none⟩ = some (.int .i64 z.kind) := hl0' 0 _ rfl
      have d1 : wr.cell? ⟨b, off + k * 8 + 1, none⟩ = some (.int .i64 z.id.br) := hl0' 1 _ rfl
      have d2 : wr.cell? ⟨b, off + k * 8 + 2, none⟩ = some (.int .u64 (z.id.life : Int)) := hl0' 2 _ rfl
      have d3 : wr.cell? ⟨b, off + k * 8 + 3, none⟩ = some (.int .u64 (z.id.ser : Int)) := hl0' 3 _ rfl
      have d4 : wr.cell? ⟨b, off + k * 8 + 4, none⟩ = some (.int .i64 z.client) := hl0' 4 _ rfl
      have d5 : wr.cell? ⟨b, off + k * 8 + 5, none⟩ = some (.int .u64 (z.sub : Int)) := hl0' 5 _ rfl
      have d6 : wr.cell? ⟨b, off + k * 8 + 6, none⟩ = some (.slice fa z.fil.length fc) := hl0' 6 _ rfl
      have d7 : wr.cell? ⟨b, off + k * 8 + 7, none⟩ = some (.slice ea z.evs.length ec) := hl0' 7 _ rfl
      have hcl := PM.hid fun (v : Value) (l1 : List UInt8) (W : World) (hb : Below w.heap.size w W) (h : PM.BS W v l1) (h2 : l1.length ≤ 10000000) => layEntry_any v l1 z fa _ fc ea _ ec W (hwf.out.2 z (List.mem_of_getElem? hz)) (hwf.out.1 z (List.mem_of_getElem? hz)) rfl rfl (hzf.keep hb) (PM.RR.keep PM.evR_lasts hb hze) h h2
      have hzh := PM.hid hz
      clear hz hce hl0' hR hcs cs hzf hze
      generalize z.fil.length = zF at *
      generalize z.evs.length = zE at *
      go_upto_region 5 with fail
      obtain ⟨gx, hgx⟩ : ∃ g, g = wr.heap.size := ⟨_, rfl⟩
      obtain ⟨w3, hw3⟩ : ∃ W, W = wr.alloc (.cells #[.int .i64 z.kind, .int .i64 z.id.br, .int .u64 (z.id.life : Int), .int .u64 (z.id.ser : Int), .int .i64 z.client, .int .u64 (z.sub : Int), .slice fa zF fc, .slice ea zE ec] 50) := ⟨_, rfl⟩
      have hBn : Below wr.heap.size wr w3 := by rw [hw3]; exact (Below.refl _ _).alloc (Nat.le_refl _) _
      have kx : PM.BK w3 gx #[.int .i64 z.kind, .int .i64 z.id.br, .int .u64 (z.id.life : Int), .int .u64 (z.id.ser : Int), .int .i64 z.client, .int .u64 (z.sub : Int), .slice fa zF fc, .slice ea zE ec] 50 := by rw [hw3, hgx]; exact PM.BK.new _ _ _
      rw [← hw3, ← hgx]
      clear hw3 hgx
      have hB3 := PM.hid (PM.chain hin.out.2 hBn)
      have hs3 := PM.hid (hin.out.1.bs.keep hBn)
      clear hBn d0 d1 d2 d3 d4 d5 d6 d7
      have x0 : w3.cell? ⟨gx, 0, none⟩ = some (.int .i64 z.kind) := kx.cell 0
      have x1 : w3.cell? ⟨gx, 1, none⟩ = some (.int .i64 z.id.br) := kx.cell 1
      have x2 : w3.cell? ⟨gx, 2, none⟩ = some (.int .u64 (z.id.life : Int)) := kx.cell 2
      have x3 : w3.cell? ⟨gx, 3, none⟩ = some (.int .u64 (z.id.ser : Int)) := kx.cell 3
      have x4 : w3.cell? ⟨gx, 4, none⟩ = some (.int .i64 z.client) := kx.cell 4
      have x5 : w3.cell? ⟨gx, 5, none⟩ = some (.int .u64 (z.sub : Int)) := kx.cell 5
      have x6 : w3.cell? ⟨gx, 6, none⟩ = some (.slice fa zF fc) := kx.cell 6
      have x7 : w3.cell? ⟨gx, 7, none⟩ = some (.slice ea zE ec) := kx.cell 7
      clear kx
      have hlen : (l0 ++ PM.numB L ++ ((l.take k).map PM.enBB).flatten).length ≤ 10000000 := by
        have h1 := hle.out k
        have h2 := PM.numB_le (n := L) (by omega)
        have h3 : k * 40009 ≤ 16 * 40009 := Nat.mul_le_mul_right _ (by omega)
        simp only [List.length_append]
        rw [← hN0h.out]
        omega
      have hcc := hcl.out _ _ w3 hB3.out hs3.out hlen
      clear hlen
      go_wp2_with fail
      refine hcc.mono ?_
      clear hcc
      rintro e w4 ⟨v4, rfl, ho4, hB4⟩
      have hE := PM.hid (And.intro (ho4.mono hB3.out.size) (PM.chain hB3.out hB4))
      clear ho4 hB4 x0 x1 x2 x3 x4 x5 x6 x7
      go_wp2_with fail
      exact ⟨⟨k + 1, by go_num, by omega, PM.hid ⟨by rw [PM.flat_snoc hzh.out, ← List.append_assoc]; exact hE.out.1, hE.out.2⟩⟩, by simp only [intOf]; omega⟩
    · obtain rfl : k = L := by omega
      go_wp2_with fail
      go_ret
      refine ⟨_, rfl, ?_, hin.out.2⟩
      have h9 : l.take k = l := (by rw [hLh.out]; exact List.take_length)
      have h1 := hin.out.1
      rw [h9] at h1
      rw [hlb.out, ← List.append_assoc]
      exact h1
/-- what Encode answers -/
def RetEM (W : World) (m : PM.Ms) (e : Ending) (w' : World) : Prop :=
  ∃ o, e = .returned (.tuple #[o, .int .i64 (PM.msE m)]) ∧ (PM.msOkB m = true → PM.OW 5 W.heap.size w' o (PM.msB m)) ∧ (PM.msOkB m = false → o = .slice none 0 0) ∧ Below W.heap.size W w'
set_option maxRecDepth 100000 in
set_option maxHeartbeats 16000000 in
theorem wencode_no (m : PM.Ms) (ma0 : Option Addr) (mn0 mc0 : Nat) (ma1 : Option Addr) (mn1 mc1 : Nat) (ma2 : Option Addr) (mn2 mc2 : Nat) (ma3 : Option Addr) (mn3 mc3 : Nat) (ma4 : Option Addr) (mn4 mc4 : Nat) (ma5 : Option Addr) (mn5 mc5 : Nat) (w : World) (hm : m.wf) (hsm : PM.msSm m) (hR : PM.msR w (PM.msC m (.slice ma0 mn0 mc0) (.slice ma1 mn1 mc1) (.slice ma2 mn2 mc2) (.slice ma3 mn3 mc3) (.slice ma4 mn4 mc4) (.slice ma5 mn5 mc5)) m) (hno : PM.msOkB m = false) :
    Calls Try.prog 11 #[.agg #[.int .i64 m.kind, .int .u64 (m.hav : Int), .slice ma0 mn0 mc0, .slice ma1 mn1 mc1, .slice ma2 mn2 mc2, .slice ma3 mn3 mc3, .slice ma4 mn4 mc4, .slice ma5 mn5 mc5]] w fun e w' => e = .returned (.tuple #[.slice none 0 0, .int .i64 130]) ∧ Below w.heap.size w w' := by
  have hck := PM.hid fun (W : World) (hb : Below w.heap.size w W) => wcheck_any m ma0 mn0 mc0 ma1 mn1 mc1 ma2 mn2 mc2 ma3 mn3 mc3 ma4 mn4 mc4 ma5 mn5 mc5 W hm hsm (PM.msR_lasts _ _ _ _ hb hR)
  rw [PM.msE_no hno] at hck
  clear hm hsm hR hno
  go_enter Try.func11, Try.ntmps11
  go_upto_region 1 with fail
  obtain ⟨gx, hgx⟩ : ∃ g, g = w.heap.size := ⟨_, rfl⟩
  obtain ⟨w1, hw1⟩ : ∃ W, W = w.alloc (.cells #[.int .i64 m.kind, .int .u64 (m.hav : Int), .slice ma0 mn0 mc0, .slice ma1 mn1 mc1, .slice ma2 mn2 mc2, .slice ma3 mn3 mc3, .slice ma4 mn4 mc4, .slice ma5 mn5 mc5] 28) := ⟨_, rfl⟩
  have hBn : Below w.heap.size w w1 := by rw [hw1]; exact (Below.refl _ _).alloc (Nat.le_refl _) _
  have kx : PM.BK w1 gx #[.int .i64 m.kind, .int .u64 (m.hav : Int), .slice ma0 mn0 mc0, .slice ma1 mn1 mc1, .slice ma2 mn2 mc2, .slice ma3 mn3 mc3, .slice ma4 mn4 mc4, .slice ma5 mn5 mc5] 28 := by rw [hw1, hgx]; exact PM.BK.new _ _ _
  rw [← hw1, ← hgx]
  clear hw1 hgx
  have x0 : w1.cell? ⟨gx, 0, none⟩ = some (.int .i64 m.kind) := kx.cell 0
  have x1 : w1.cell? ⟨gx, 1, none⟩ = some (.int .u64 (m.hav : Int)) := kx.cell 1
  have x2 : w1.cell? ⟨gx, 2, none⟩ = some (.slice ma0 mn0 mc0) := kx.cell 2
  have x3 : w1.cell? ⟨gx, 3, none⟩ = some (.slice ma1 mn1 mc1) := kx.cell 3
  have x4 : w1.cell? ⟨gx, 4, none⟩ = some (.slice ma2 mn2 mc2) := kx.cell 4
  have x5 : w1.cell? ⟨gx, 5, none⟩ = some (.slice ma3 mn3 mc3) := kx.cell 5
  have x6 : w1.cell? ⟨gx, 6, none⟩ = some (.slice ma4 mn4 mc4) := kx.cell 6
  have x7 : w1.cell? ⟨gx, 7, none⟩ = some (.slice ma5 mn5 mc5) := kx.cell 7
  clear kx
  go_wp2_with fail
  refine (hck.out w1 hBn).mono ?_
  rintro e w2 ⟨rfl, hB2⟩
  have hBB := PM.hid (PM.chain hBn hB2)
  clear hBn hB2
  go_wp2_with fail
  go_ret2
  exact ⟨rfl, hBB.out⟩
set_option maxRecDepth 100000 in
set_option maxHeartbeats 16000000 in
theorem wencode_yes (m : PM.Ms) (ma0 : Option Addr) (mn0 mc0 : Nat) (ma1 : Option Addr) (mn1 mc1 : Nat) (ma2 : Option Addr) (mn2 mc2 : Nat) (ma3 : Option Addr) (mn3 mc3 : Nat) (ma4 : Option Addr) (mn4 mc4 : Nat) (ma5 : Option Addr) (mn5 mc5 : Nat) (w : World) (hm : m.wf) (hsm : PM.msSm m) (hR : PM.msR w (PM.msC m (.slice ma0 mn0 mc0) (.slice ma1 mn1 mc1) (.slice ma2 mn2 mc2) (.slice ma3 mn3 mc3) (.slice ma4 mn4 mc4) (.slice ma5 mn5 mc5)) m) (hok : PM.msOkB m = true) :
    Calls Try.prog 11 #[.agg #[.int .i64 m.kind, .int .u64 (m.hav : Int), .slice ma0 mn0 mc0, .slice ma1 mn1 mc1, .slice ma2 mn2 mc2, .slice ma3 mn3 mc3, .slice ma4 mn4 mc4, .slice ma5 mn5 mc5]] w fun e w' => ∃ o, e = .returned (.tuple #[o, .int .i64 0]) ∧ PM.OW 5 w.heap.size w' o (PM.msB m) ∧ Below w.heap.size w w' := by
  have hck := PM.hid fun (W : World) (hb : Below w.heap.size w W) => wcheck_any m ma0 mn0 mc0 ma1 mn1 mc1 ma2 mn2 mc2 ma3 mn3 mc3 ma4 mn4 mc4 ma5 mn5 mc5 W hm hsm (PM.msR_lasts _ _ _ _ hb hR)
  rw [PM.msE_yes hok] at hck
  obtain ⟨v0, v1, v2, v3, v4, v5, hcs, h0, h1, h2, h3, h4, h5⟩ := hR
  unfold PM.msC at hcs
  simp only [List.cons.injEq, and_true, true_and] at hcs
  obtain ⟨rfl, rfl, rfl, rfl, rfl, rfl⟩ := hcs
  replace hok := PM.hid (PM.msOk_iff.1 hok)
  have hHV := hm.hv
  have hkd := hok.out.kind
  have hmb : Hid (PM.msB m = PM.numB (PM.u64 m.kind) ++ (PM.numB m.hav ++ (if m.kind = 1 then PM.lstB PM.voB m.votes ++ PM.lstB PM.enBB m.asks else PM.lstB PM.enBB m.entries ++ (PM.lstB PM.enBB m.prepares ++ (PM.lstB PM.idB m.aborts ++ PM.lstB PM.idB m.ends))))) := PM.hid rfl
  have hlens : Hid ((PM.lstB PM.voB m.votes).length ≤ 640200 ∧ ((PM.lstB PM.enBB m.entries).length ≤ 640200 ∧ (PM.lstB PM.enBB m.prepares).length ≤ 640200) ∧ (PM.lstB PM.idB m.aborts).length ≤ 640200) := PM.hid
    ⟨PM.lstB_le (fun x hx => Nat.le_trans (PM.voB_le (hm.vo x hx)) (by omega)) hok.out.votes.1, ⟨PM.lstB_le (fun x hx => PM.enBB_le (hok.out.entries.2 x hx) (hm.en x hx)) hok.out.entries.1, PM.lstB_le (fun x hx => PM.enBB_le (hok.out.prepares.2 x hx) (hm.pr x hx)) hok.out.prepares.1⟩, PM.lstB_le (fun x hx => Nat.le_trans (PM.idB_le (hm.ab x hx)) (by omega)) hok.out.aborts.1⟩
  obtain ⟨KD, hKD⟩ : ∃ E, E = m.kind := ⟨_, rfl⟩
  obtain ⟨HV, hHVe⟩ : ∃ E, E = m.hav := ⟨_, rfl⟩
  obtain ⟨MB, hMB⟩ : ∃ E, E = PM.msB m := ⟨_, rfl⟩
  rw [← hKD] at hkd hmb hck ⊢
  rw [← hHVe] at hHV hmb hck ⊢
  rw [← hMB] at hmb ⊢
  replace hm := PM.hid hm
  replace h0 := PM.hid h0
  replace h1 := PM.hid h1
  replace h2 := PM.hid h2
  replace h3 := PM.hid h3
  replace h4 := PM.hid h4
  replace h5 := PM.hid h5
  have hkd2 : KD = 1 ∨ KD = 2 := hkd.elim (fun h => .inl h.1) fun h => .inr h.1
  clear hkd hKD hHVe hMB hsm
  rcases hkd2 with rfl | rfl
  · go_enter Try.func11, Try.ntmps11
    go_upto_region 1 with fail
    obtain ⟨gx, hgx⟩ : ∃ g, g = w.heap.size := ⟨_, rfl⟩
    obtain ⟨w1, hw1⟩ : ∃ W, W = w.alloc (.cells #[.int .i64 1, .int .u64 (HV : Int), .slice ma0 mn0 mc0, .slice ma1 mn1 mc1, .slice ma2 mn2 mc2, .slice ma3 mn3 mc3, .slice ma4 mn4 mc4, .slice ma5 mn5 mc5] 28) := ⟨_, rfl⟩
    have hBn : Below w.heap.size w w1 := by rw [hw1]; exact (Below.refl _ _).alloc (Nat.le_refl _) _
    have kx : PM.BK w1 gx #[.int .i64 1, .int .u64 (HV : Int), .slice ma0 mn0 mc0, .slice ma1 mn1 mc1, .slice ma2 mn2 mc2, .slice ma3 mn3 mc3, .slice ma4 mn4 mc4, .slice ma5 mn5 mc5] 28 := by rw [hw1, hgx]; exact PM.BK.new _ _ _
    rw [← hw1, ← hgx]
    clear hw1 hgx
    have x0 : w1.cell? ⟨gx, 0, none⟩ = some (.int .i64 1) := kx.cell 0
    have x1 : w1.cell? ⟨gx, 1, none⟩ = some (.int .u64 (HV : Int)) := kx.cell 1
    have x2 : w1.cell? ⟨gx, 2, none⟩ = some (.slice ma0 mn0 mc0) := kx.cell 2
    have x3 : w1.cell? ⟨gx, 3, none⟩ = some (.slice ma1 mn1 mc1) := kx.cell 3
    have x4 : w1.cell? ⟨gx, 4, none⟩ = some (.slice ma2 mn2 mc2) := kx.cell 4
    have x5 : w1.cell? ⟨gx, 5, none⟩ = some (.slice ma3 mn3 mc3) := kx.cell 5
    have x6 : w1.cell? ⟨gx, 6, none⟩ = some (.slice ma4 mn4 mc4) := kx.cell 6
    have x7 : w1.cell? ⟨gx, 7, none⟩ = some (.slice ma5 mn5 mc5) := kx.cell 7
    go_wp2_with fail
    refine (hck.out w1 hBn).mono ?_
    rintro e w2 ⟨rfl, hB2⟩
    have hBB := PM.hid (PM.chain hBn hB2)
    replace kx := PM.hid (kx.keep hB2)
    clear hBn hB2 x0 x1 x2 x3 x4 x5 x6 x7
    go_upto_region 4 with fail
    refine PM.wp_region_st [some 11, some 12, some 13, some 14, some 15, some 16, some 17, some 5] [fun x _ => x = .pointer (some ⟨gx, 0, none⟩), fun x _ => x = .int .i64 1, fun x _ => x = .int .u64 ((PM.u64 1 : Nat) : Int), fun x w' => PM.BS w' x (PM.numB (PM.u64 1)), fun x _ => x = .pointer (some ⟨gx, 1, none⟩), fun x _ => x = .int .u64 (HV : Int), fun x w' => PM.BS w' x (PM.numB (PM.u64 1) ++ PM.numB HV), fun x w' => PM.BS w' x (PM.numB (PM.u64 1) ++ PM.numB HV)] (by kernel_rfl) (by kernel_rfl) (by kernel_rfl) ?_ ?_ ?_
    · simp only [List.forall_mem_cons]
      refine ⟨?_, ?_, ?_, ?_, ?_, ?_, ?_, ?_, by simp⟩
      all_goals (intro x W W' h hb; first | exact h | exact PM.BS.keep hb h | exact PM.OW.keep hb h)
    · refine ⟨?_, ?_, ?_, ?_, ?_, ?_, ?_, ?_, trivial⟩
      all_goals
        intro a W hB hF hd
        have k1 := hF 1 rfl
        have kgW := kx.out.keep hB
        have hBW := PM.chain hBB.out hB
        have c0 : W.cell? ⟨gx, 0, none⟩ = some (.int .i64 1) := kgW.cell 0
        have c1 : W.cell? ⟨gx, 1, none⟩ = some (.int .u64 (HV : Int)) := kgW.cell 1
        have c2 : W.cell? ⟨gx, 2, none⟩ = some (.slice ma0 mn0 mc0) := kgW.cell 2
        have c3 : W.cell? ⟨gx, 3, none⟩ = some (.slice ma1 mn1 mc1) := kgW.cell 3
        have c4 : W.cell? ⟨gx, 4, none⟩ = some (.slice ma2 mn2 mc2) := kgW.cell 4
        have c5 : W.cell? ⟨gx, 5, none⟩ = some (.slice ma3 mn3 mc3) := kgW.cell 5
        have c6 : W.cell? ⟨gx, 6, none⟩ = some (.slice ma4 mn4 mc4) := kgW.cell 6
        have c7 : W.cell? ⟨gx, 7, none⟩ = some (.slice ma5 mn5 mc5) := kgW.cell 7
        clear hF
        simp [PM.depsL, PM.spec, PM.sl, Region.binds] at hd k1
        simp only [PM.wantL, PM.spec]
        try simp only [PM.sl]
        go_simp
      all_goals try exact Below.refl _ _
      · exact ⟨Below.refl _ _, by rw [wrap_u64_eq]⟩
      · refine (number_c _ [] _ (PM.u64 1) rfl (PM.u64_lt _) W (PM.BS.nil _) (by simp)).mono ?_
        rintro e w' ⟨v', rfl, ho, hb⟩
        exact ⟨hb, v', rfl, by have := ho.bs; simpa using this⟩
      · refine (number_c _ _ _ HV rfl hHV W hd.1 (by have := PM.numB_le (PM.u64_lt 1); omega)).mono ?_
        rintro e w' ⟨v', rfl, ho, hb⟩
        exact ⟨hb, v', rfl, by have := ho.bs; simpa using this⟩
      · exact ⟨Below.refl _ _, _, rfl, hd.1⟩
    · intro G W hB hF hS
      simp [PM.allSp, PM.spec] at hS
      obtain ⟨_, _, _, _, _, _, _, ho⟩ := hS
      rw [show ((List.range (Array.size _)).map G).toArray = #[G 0, G 1, G 2, G 3, G 4, G 5, G 6, G 7, G 8, G 9, G 10, G 11, G 12, G 13, G 14, G 15, G 16, G 17, G 18, G 19, G 20, G 21, G 22, G 23, G 24, G 25, G 26, G 27, G 28, G 29, G 30, G 31, G 32, G 33, G 34, G 35, G 36, G 37, G 38, G 39, G 40, G 41] from rfl]
      have q1 := hF 1 rfl
      simp [PM.sl] at q1
      clear hF
      rw [q1]
      clear q1
      generalize G 5 = o5 at *
      replace kx := PM.hid (kx.out.keep hB)
      replace hBB := PM.hid (PM.chain hBB.out hB)
      have ho5 := PM.hid ho
      clear hB ho
      have y0 : W.cell? ⟨gx, 0, none⟩ = some (.int .i64 1) := kx.out.cell 0
      have y1 : W.cell? ⟨gx, 1, none⟩ = some (.int .u64 (HV : Int)) := kx.out.cell 1
      have y2 : W.cell? ⟨gx, 2, none⟩ = some (.slice ma0 mn0 mc0) := kx.out.cell 2
      have y3 : W.cell? ⟨gx, 3, none⟩ = some (.slice ma1 mn1 mc1) := kx.out.cell 3
      have y4 : W.cell? ⟨gx, 4, none⟩ = some (.slice ma2 mn2 mc2) := kx.out.cell 4
      have y5 : W.cell? ⟨gx, 5, none⟩ = some (.slice ma3 mn3 mc3) := kx.out.cell 5
      have y6 : W.cell? ⟨gx, 6, none⟩ = some (.slice ma4 mn4 mc4) := kx.out.cell 6
      have y7 : W.cell? ⟨gx, 7, none⟩ = some (.slice ma5 mn5 mc5) := kx.out.cell 7
      go_upto_region 6 with fail
      clear y0 y1 y2 y3 y4 y5 y6 y7
      refine PM.wp_region_st [some 21, some 22, some 23, some 24, some 25, some 26, some 27, some 2, some 3] [fun x w' => PM.BS w' x (PM.numB (PM.u64 1) ++ PM.numB HV), fun x _ => x = .pointer (some ⟨gx, 2, none⟩), fun x _ => x = .slice ma0 mn0 mc0, fun x w' => PM.BS w' x (PM.numB (PM.u64 1) ++ PM.numB HV ++ PM.lstB PM.voB m.votes), fun x _ => x = .pointer (some ⟨gx, 3, none⟩), fun x _ => x = .slice ma1 mn1 mc1, fun x w' => PM.OW 5 w.heap.size w' x (PM.numB (PM.u64 1) ++ PM.numB HV ++ PM.lstB PM.voB m.votes ++ PM.lstB PM.enBB m.asks), fun x w' => PM.OW 5 w.heap.size w' x (PM.numB (PM.u64 1) ++ PM.numB HV ++ PM.lstB PM.voB m.votes ++ PM.lstB PM.enBB m.asks), fun x _ => x = .int .i64 0] (by kernel_rfl) (by kernel_rfl) (by kernel_rfl) ?_ ?_ ?_
      · simp only [List.forall_mem_cons]
        refine ⟨?_, ?_, ?_, ?_, ?_, ?_, ?_, ?_, ?_, by simp⟩
        all_goals (intro x W W' h hb; first | exact h | exact PM.BS.keep hb h | exact PM.OW.keep hb h)
      · refine ⟨?_, ?_, ?_, ?_, ?_, ?_, ?_, ?_, ?_, trivial⟩
        all_goals
          intro a W hB hF hd
          have k1 := hF 1 rfl
          have k5 := hF 5 rfl
          have kgW := kx.out.keep hB
          have hBW := PM.chain hBB.out hB
          have c0 : W.cell? ⟨gx, 0, none⟩ = some (.int .i64 1) := kgW.cell 0
          have c1 : W.cell? ⟨gx, 1, none⟩ = some (.int .u64 (HV : Int)) := kgW.cell 1
          have c2 : W.cell? ⟨gx, 2, none⟩ = some (.slice ma0 mn0 mc0) := kgW.cell 2
          have c3 : W.cell? ⟨gx, 3, none⟩ = some (.slice ma1 mn1 mc1) := kgW.cell 3
          have c4 : W.cell? ⟨gx, 4, none⟩ = some (.slice ma2 mn2 mc2) := kgW.cell 4
          have c5 : W.cell? ⟨gx, 5, none⟩ = some (.slice ma3 mn3 mc3) := kgW.cell 5
          have c6 : W.cell? ⟨gx, 6, none⟩ = some (.slice ma4 mn4 mc4) := kgW.cell 6
          have c7 : W.cell? ⟨gx, 7, none⟩ = some (.slice ma5 mn5 mc5) := kgW.cell 7
          clear hF
          simp [PM.depsL, PM.spec, PM.sl, Region.binds] at hd k1 k5
          simp only [PM.wantL, PM.spec]
          try simp only [PM.sl]
          go_simp
        all_goals try exact Below.refl _ _
        · exact ⟨Below.refl _ _, _, rfl, ho5.out.keep hB⟩
        · refine (layVo_any _ _ _ m.votes W hd.1 (h0.out.keep hBW) (by simp only [List.length_append]; have e1 := PM.numB_le (PM.u64_lt 1); have e2 := PM.numB_le hHV; have f1 := hlens.out.1; have f2 := hlens.out.2.1; have f3 := hlens.out.2.2; omega) hok.out.votes.1 hm.out.vo).mono ?_
          rintro e w' ⟨v', rfl, ho, hb⟩
          exact ⟨hb, v', rfl, by have := ho.bs; simpa using this⟩
        · refine (layEn_any _ _ _ m.asks W hd.1 (PM.EnL.keep h1.out hBW) (by simp only [List.length_append]; have e1 := PM.numB_le (PM.u64_lt 1); have e2 := PM.numB_le hHV; have f1 := hlens.out.1; have f2 := hlens.out.2.1; have f3 := hlens.out.2.2; omega) hok.out.asks.1 hok.out.asks.2 hm.out.ak).mono ?_
          rintro e w' ⟨v', rfl, ho, hb⟩
          exact ⟨hb, v', rfl, by have := ho.mono hBW.size; simpa using this⟩
        · exact ⟨Below.refl _ _, _, rfl, hd.1⟩
      · intro G W hB hF hS
        simp [PM.allSp, PM.spec] at hS
        obtain ⟨_, _, _, _, _, _, _, ho, h3⟩ := hS
        rw [show ((List.range (Array.size _)).map G).toArray = #[G 0, G 1, G 2, G 3, G 4, G 5, G 6, G 7, G 8, G 9, G 10, G 11, G 12, G 13, G 14, G 15, G 16, G 17, G 18, G 19, G 20, G 21, G 22, G 23, G 24, G 25, G 26, G 27, G 28, G 29, G 30, G 31, G 32, G 33, G 34, G 35, G 36, G 37, G 38, G 39, G 40, G 41] from rfl]
        clear hF
        rw [h3]
        generalize G 2 = o2 at *
        have hE := PM.hid (And.intro ho (PM.chain hBB.out hB))
        clear hB ho h3
        go_wp2_with fail
        go_ret2
        refine ⟨_, rfl, ?_, hE.out.2⟩
        rw [hmb.out]
        have := hE.out.1
        simpa [List.append_assoc] using this
  · go_enter Try.func11, Try.ntmps11
    go_upto_region 1 with fail
    obtain ⟨gx, hgx⟩ : ∃ g, g = w.heap.size := ⟨_, rfl⟩
    obtain ⟨w1, hw1⟩ : ∃ W, W = w.alloc (.cells #[.int .i64 2, .int .u64 (HV : Int), .slice ma0 mn0 mc0, .slice ma1 mn1 mc1, .slice ma2 mn2 mc2, .slice ma3 mn3 mc3, .slice ma4 mn4 mc4, .slice ma5 mn5 mc5] 28) := ⟨_, rfl⟩
    have hBn : Below w.heap.size w w1 := by rw [hw1]; exact (Below.refl _ _).alloc (Nat.le_refl _) _
    have kx : PM.BK w1 gx #[.int .i64 2, .int .u64 (HV : Int), .slice ma0 mn0 mc0, .slice ma1 mn1 mc1, .slice ma2 mn2 mc2, .slice ma3 mn3 mc3, .slice ma4 mn4 mc4, .slice ma5 mn5 mc5] 28 := by rw [hw1, hgx]; exact PM.BK.new _ _ _
    rw [← hw1, ← hgx]
    clear hw1 hgx
    have x0 : w1.cell? ⟨gx, 0, none⟩ = some (.int .i64 2) := kx.cell 0
    have x1 : w1.cell? ⟨gx, 1, none⟩ = some (.int .u64 (HV : Int)) := kx.cell 1
    have x2 : w1.cell? ⟨gx, 2, none⟩ = some (.slice ma0 mn0 mc0) := kx.cell 2
    have x3 : w1.cell? ⟨gx, 3, none⟩ = some (.slice ma1 mn1 mc1) := kx.cell 3
    have x4 : w1.cell? ⟨gx, 4, none⟩ = some (.slice ma2 mn2 mc2) := kx.cell 4
    have x5 : w1.cell? ⟨gx, 5, none⟩ = some (.slice ma3 mn3 mc3) := kx.cell 5
    have x6 : w1.cell? ⟨gx, 6, none⟩ = some (.slice ma4 mn4 mc4) := kx.cell 6
    have x7 : w1.cell? ⟨gx, 7, none⟩ = some (.slice ma5 mn5 mc5) := kx.cell 7
    go_wp2_with fail
    refine (hck.out w1 hBn).mono ?_
    rintro e w2 ⟨rfl, hB2⟩
    have hBB := PM.hid (PM.chain hBn hB2)
    replace kx := PM.hid (kx.keep hB2)
    clear hBn hB2 x0 x1 x2 x3 x4 x5 x6 x7
    go_upto_region 4 with fail
    refine PM.wp_region_st [some 11, some 12, some 13, some 14, some 15, some 16, some 17, some 5] [fun x _ => x = .pointer (some ⟨gx, 0, none⟩), fun x _ => x = .int .i64 2, fun x _ => x = .int .u64 ((PM.u64 2 : Nat) : Int), fun x w' => PM.BS w' x (PM.numB (PM.u64 2)), fun x _ => x = .pointer (some ⟨gx, 1, none⟩), fun x _ => x = .int .u64 (HV : Int), fun x w' => PM.BS w' x (PM.numB (PM.u64 2) ++ PM.numB HV), fun x w' => PM.BS w' x (PM.numB (PM.u64 2) ++ PM.numB HV)] (by kernel_rfl) (by kernel_rfl) (by kernel_rfl) ?_ ?_ ?_
    · simp only [List.forall_mem_cons]
      refine ⟨?_, ?_, ?_, ?_, ?_, ?_, ?_, ?_, by simp⟩
      all_goals (intro x W W' h hb; first | exact h | exact PM.BS.keep hb h | exact PM.OW.keep hb h)
    · refine ⟨?_, ?_, ?_, ?_, ?_, ?_, ?_, ?_, trivial⟩
      all_goals
        intro a W hB hF hd
        have k1 := hF 1 rfl
        have kgW := kx.out.keep hB
        have hBW := PM.chain hBB.out hB
        have c0 : W.cell? ⟨gx, 0, none⟩ = some (.int .i64 2) := kgW.cell 0
        have c1 : W.cell? ⟨gx, 1, none⟩ = some (.int .u64 (HV : Int)) := kgW.cell 1
        have c2 : W.cell? ⟨gx, 2, none⟩ = some (.slice ma0 mn0 mc0) := kgW.cell 2
        have c3 : W.cell? ⟨gx, 3, none⟩ = some (.slice ma1 mn1 mc1) := kgW.cell 3
        have c4 : W.cell? ⟨gx, 4, none⟩ = some (.slice ma2 mn2 mc2) := kgW.cell 4
        have c5 : W.cell? ⟨gx, 5, none⟩ = some (.slice ma3 mn3 mc3) := kgW.cell 5
        have c6 : W.cell? ⟨gx, 6, none⟩ = some (.slice ma4 mn4 mc4) := kgW.cell 6
        have c7 : W.cell? ⟨gx, 7, none⟩ = some (.slice ma5 mn5 mc5) := kgW.cell 7
        clear hF
        simp [PM.depsL, PM.spec, PM.sl, Region.binds] at hd k1
        simp only [PM.wantL, PM.spec]
        try simp only [PM.sl]
        go_simp
      all_goals try exact Below.refl _ _
      · exact ⟨Below.refl _ _, by rw [wrap_u64_eq]⟩
      · refine (number_c _ [] _ (PM.u64 2) rfl (PM.u64_lt _) W (PM.BS.nil _) (by simp)).mono ?_
        rintro e w' ⟨v', rfl, ho, hb⟩
        exact ⟨hb, v', rfl, by have := ho.bs; simpa using this⟩
      · refine (number_c _ _ _ HV rfl hHV W hd.1 (by have := PM.numB_le (PM.u64_lt 2); omega)).mono ?_
        rintro e w' ⟨v', rfl, ho, hb⟩
        exact ⟨hb, v', rfl, by have := ho.bs; simpa using this⟩
      · exact ⟨Below.refl _ _, _, rfl, hd.1⟩
    · intro G W hB hF hS
      simp [PM.allSp, PM.spec] at hS
      obtain ⟨_, _, _, _, _, _, _, ho⟩ := hS
      rw [show ((List.range (Array.size _)).map G).toArray = #[G 0, G 1, G 2, G 3, G 4, G 5, G 6, G 7, G 8, G 9, G 10, G 11, G 12, G 13, G 14, G 15, G 16, G 17, G 18, G 19, G 20, G 21, G 22, G 23, G 24, G 25, G 26, G 27, G 28, G 29, G 30, G 31, G 32, G 33, G 34, G 35, G 36, G 37, G 38, G 39, G 40, G 41] from rfl]
      have q1 := hF 1 rfl
      simp [PM.sl] at q1
      clear hF
      rw [q1]
      clear q1
      generalize G 5 = o5 at *
      replace kx := PM.hid (kx.out.keep hB)
      replace hBB := PM.hid (PM.chain hBB.out hB)
      have ho5 := PM.hid ho
      clear hB ho
      have y0 : W.cell? ⟨gx, 0, none⟩ = some (.int .i64 2) := kx.out.cell 0
      have y1 : W.cell? ⟨gx, 1, none⟩ = some (.int .u64 (HV : Int)) := kx.out.cell 1
      have y2 : W.cell? ⟨gx, 2, none⟩ = some (.slice ma0 mn0 mc0) := kx.out.cell 2
      have y3 : W.cell? ⟨gx, 3, none⟩ = some (.slice ma1 mn1 mc1) := kx.out.cell 3
      have y4 : W.cell? ⟨gx, 4, none⟩ = some (.slice ma2 mn2 mc2) := kx.out.cell 4
      have y5 : W.cell? ⟨gx, 5, none⟩ = some (.slice ma3 mn3 mc3) := kx.out.cell 5
      have y6 : W.cell? ⟨gx, 6, none⟩ = some (.slice ma4 mn4 mc4) := kx.out.cell 6
      have y7 : W.cell? ⟨gx, 7, none⟩ = some (.slice ma5 mn5 mc5) := kx.out.cell 7
      go_upto_region 7 with fail
      clear y0 y1 y2 y3 y4 y5 y6 y7
      refine PM.wp_region_stL 7 [some 28, some 29, some 30, some 31, some 32, some 33, some 34, some 5] [fun x w' => PM.BS w' x (PM.numB (PM.u64 2) ++ PM.numB HV), fun x _ => x = .pointer (some ⟨gx, 4, none⟩), fun x _ => x = .slice ma2 mn2 mc2, fun x w' => PM.BS w' x (PM.numB (PM.u64 2) ++ PM.numB HV ++ PM.lstB PM.enBB m.entries), fun x _ => x = .pointer (some ⟨gx, 5, none⟩), fun x _ => x = .slice ma3 mn3 mc3, fun x w' => PM.BS w' x (PM.numB (PM.u64 2) ++ PM.numB HV ++ PM.lstB PM.enBB m.entries ++ PM.lstB PM.enBB m.prepares)] (by kernel_rfl) (by kernel_rfl) (by kernel_rfl) (by kernel_rfl) (by kernel_rfl) (of_decide_eq_true (by kernel_rfl)) (by kernel_rfl) ?_ ?_ ?_
      · simp only [List.forall_mem_cons]
        refine ⟨?_, ?_, ?_, ?_, ?_, ?_, ?_, by simp⟩
        all_goals (intro x W W' h hb; first | exact h | exact PM.BS.keep hb h | exact PM.OW.keep hb h)
      · refine ⟨?_, ?_, ?_, ?_, ?_, ?_, ?_, trivial⟩
        all_goals
          intro a W hB hF hd
          have k1 := hF 1 rfl
          have k5 := hF 5 rfl
          have kgW := kx.out.keep hB
          have hBW := PM.chain hBB.out hB
          have c0 : W.cell? ⟨gx, 0, none⟩ = some (.int .i64 2) := kgW.cell 0
          have c1 : W.cell? ⟨gx, 1, none⟩ = some (.int .u64 (HV : Int)) := kgW.cell 1
          have c2 : W.cell? ⟨gx, 2, none⟩ = some (.slice ma0 mn0 mc0) := kgW.cell 2
          have c3 : W.cell? ⟨gx, 3, none⟩ = some (.slice ma1 mn1 mc1) := kgW.cell 3
          have c4 : W.cell? ⟨gx, 4, none⟩ = some (.slice ma2 mn2 mc2) := kgW.cell 4
          have c5 : W.cell? ⟨gx, 5, none⟩ = some (.slice ma3 mn3 mc3) := kgW.cell 5
          have c6 : W.cell? ⟨gx, 6, none⟩ = some (.slice ma4 mn4 mc4) := kgW.cell 6
          have c7 : W.cell? ⟨gx, 7, none⟩ = some (.slice ma5 mn5 mc5) := kgW.cell 7
          clear hF
          simp [PM.depsL, PM.spec, PM.sl, Region.binds] at hd k1 k5
          simp only [PM.wantL, PM.spec]
          try simp only [PM.sl]
          go_simp
        all_goals try exact Below.refl _ _
        · exact ⟨Below.refl _ _, _, rfl, ho5.out.keep hB⟩
        · refine (layEn_any _ _ _ m.entries W hd.1 (PM.EnL.keep h2.out hBW) (by simp only [List.length_append]; have e1 := PM.numB_le (PM.u64_lt 2); have e2 := PM.numB_le hHV; have f1 := hlens.out.1; have f2 := hlens.out.2.1; have f3 := hlens.out.2.2; omega) hok.out.entries.1 hok.out.entries.2 hm.out.en).mono ?_
          rintro e w' ⟨v', rfl, ho, hb⟩
          exact ⟨hb, v', rfl, by have := ho.bs; simpa using this⟩
        · refine (layEn_any _ _ _ m.prepares W hd.1 (PM.EnL.keep h3.out hBW) (by simp only [List.length_append]; have e1 := PM.numB_le (PM.u64_lt 2); have e2 := PM.numB_le hHV; have f1 := hlens.out.1; have f2 := hlens.out.2.1; have f3 := hlens.out.2.2; omega) hok.out.prepares.1 hok.out.prepares.2 hm.out.pr).mono ?_
          rintro e w' ⟨v', rfl, ho, hb⟩
          exact ⟨hb, v', rfl, by have := ho.bs; simpa using this⟩
      · intro G W hB hF hS
        simp [PM.allSp, PM.spec] at hS
        obtain ⟨_, _, _, _, _, _, ho⟩ := hS
        rw [show ((List.range (Array.size _)).map G).toArray = #[G 0, G 1, G 2, G 3, G 4, G 5, G 6, G 7, G 8, G 9, G 10, G 11, G 12, G 13, G 14, G 15, G 16, G 17, G 18, G 19, G 20, G 21, G 22, G 23, G 24, G 25, G 26, G 27, G 28, G 29, G 30, G 31, G 32, G 33, G 34, G 35, G 36, G 37, G 38, G 39, G 40, G 41] from rfl]
        have q1 := hF 1 rfl
        simp [PM.sl] at q1
        clear hF
        rw [q1]
        clear q1
        generalize G 34 = o5 at *
        replace kx := PM.hid (kx.out.keep hB)
        replace hBB := PM.hid (PM.chain hBB.out hB)
        have ho5 := PM.hid ho
        clear hB ho
        go_upto_region 8 with fail
        refine PM.wp_region_st [some 35, some 36, some 37, some 38, some 39, some 40, some 41, some 2, some 3] [fun x w' => PM.BS w' x (PM.numB (PM.u64 2) ++ PM.numB HV ++ PM.lstB PM.enBB m.entries ++ PM.lstB PM.enBB m.prepares), fun x _ => x = .pointer (some ⟨gx, 6, none⟩), fun x _ => x = .slice ma4 mn4 mc4, fun x w' => PM.BS w' x (PM.numB (PM.u64 2) ++ PM.numB HV ++ PM.lstB PM.enBB m.entries ++ PM.lstB PM.enBB m.prepares ++ PM.lstB PM.idB m.aborts), fun x _ => x = .pointer (some ⟨gx, 7, none⟩), fun x _ => x = .slice ma5 mn5 mc5, fun x w' => PM.OW 5 w.heap.size w' x (PM.numB (PM.u64 2) ++ PM.numB HV ++ PM.lstB PM.enBB m.entries ++ PM.lstB PM.enBB m.prepares ++ PM.lstB PM.idB m.aborts ++ PM.lstB PM.idB m.ends), fun x w' => PM.OW 5 w.heap.size w' x (PM.numB (PM.u64 2) ++ PM.numB HV ++ PM.lstB PM.enBB m.entries ++ PM.lstB PM.enBB m.prepares ++ PM.lstB PM.idB m.aborts ++ PM.lstB PM.idB m.ends), fun x _ => x = .int .i64 0] (by kernel_rfl) (by kernel_rfl) (by kernel_rfl) ?_ ?_ ?_
        · simp only [List.forall_mem_cons]
          refine ⟨?_, ?_, ?_, ?_, ?_, ?_, ?_, ?_, ?_, by simp⟩
          all_goals (intro x W W' h hb; first | exact h | exact PM.BS.keep hb h | exact PM.OW.keep hb h)
        · refine ⟨?_, ?_, ?_, ?_, ?_, ?_, ?_, ?_, ?_, trivial⟩
          all_goals
            intro a W hB hF hd
            have k1 := hF 1 rfl
            have k5 := hF 5 rfl
            have kgW := kx.out.keep hB
            have hBW := PM.chain hBB.out hB
            have c0 : W.cell? ⟨gx, 0, none⟩ = some (.int .i64 2) := kgW.cell 0
            have c1 : W.cell? ⟨gx, 1, none⟩ = some (.int .u64 (HV : Int)) := kgW.cell 1
            have c2 : W.cell? ⟨gx, 2, none⟩ = some (.slice ma0 mn0 mc0) := kgW.cell 2
            have c3 : W.cell? ⟨gx, 3, none⟩ = some (.slice ma1 mn1 mc1) := kgW.cell 3
            have c4 : W.cell? ⟨gx, 4, none⟩ = some (.slice ma2 mn2 mc2) := kgW.cell 4
            have c5 : W.cell? ⟨gx, 5, none⟩ = some (.slice ma3 mn3 mc3) := kgW.cell 5
            have c6 : W.cell? ⟨gx, 6, none⟩ = some (.slice ma4 mn4 mc4) := kgW.cell 6
            have c7 : W.cell? ⟨gx, 7, none⟩ = some (.slice ma5 mn5 mc5) := kgW.cell 7
            clear hF
            simp [PM.depsL, PM.spec, PM.sl, Region.binds] at hd k1 k5
            simp only [PM.wantL, PM.spec]
            try simp only [PM.sl]
            go_simp
          all_goals try exact Below.refl _ _
          · exact ⟨Below.refl _ _, _, rfl, ho5.out.keep hB⟩
          · refine (layId_any _ _ _ m.aborts W hd.1 (h4.out.keep hBW) (by simp only [List.length_append]; have e1 := PM.numB_le (PM.u64_lt 2); have e2 := PM.numB_le hHV; have f1 := hlens.out.1; have f2 := hlens.out.2.1; have f3 := hlens.out.2.2; omega) hok.out.aborts.1 hm.out.ab).mono ?_
            rintro e w' ⟨v', rfl, ho, hb⟩
            exact ⟨hb, v', rfl, by have := ho.bs; simpa using this⟩
          · refine (layId_any _ _ _ m.ends W hd.1 (h5.out.keep hBW) (by simp only [List.length_append]; have e1 := PM.numB_le (PM.u64_lt 2); have e2 := PM.numB_le hHV; have f1 := hlens.out.1; have f2 := hlens.out.2.1; have f3 := hlens.out.2.2; omega) hok.out.ends.1 hm.out.es).mono ?_
            rintro e w' ⟨v', rfl, ho, hb⟩
            exact ⟨hb, v', rfl, by have := ho.mono hBW.size; simpa using this⟩
          · exact ⟨Below.refl _ _, _, rfl, hd.1⟩
        · intro G W hB hF hS
          simp [PM.allSp, PM.spec] at hS
          obtain ⟨_, _, _, _, _, _, _, ho, h3⟩ := hS
          rw [show ((List.range (Array.size _)).map G).toArray = #[G 0, G 1, G 2, G 3, G 4, G 5, G 6, G 7, G 8, G 9, G 10, G 11, G 12, G 13, G 14, G 15, G 16, G 17, G 18, G 19, G 20, G 21, G 22, G 23, G 24, G 25, G 26, G 27, G 28, G 29, G 30, G 31, G 32, G 33, G 34, G 35, G 36, G 37, G 38, G 39, G 40, G 41] from rfl]
          clear hF
          rw [h3]
          generalize G 2 = o2 at *
          have hE := PM.hid (And.intro ho (PM.chain hBB.out hB))
          clear hB ho h3
          go_wp2_with fail
          go_ret2
          refine ⟨_, rfl, ?_, hE.out.2⟩
          rw [hmb.out]
          have := hE.out.1
          simpa [List.append_assoc] using this
end Go.Proofs.Ytokfookandfemaa
