/-
  TRANSACTIONS IN MEMORY; CONTRACTS of own.Txn, own.Each[Txn], stage.at. (Written by tools/mk_xa.py.)
-/
import Derived.Test.YtnjcociidipogaaOa
import Derived.Test.YtnjcociidipogaaGk
import Derived.Test.YtnjcociidipogaaVa
namespace Go.Proofs.Ytnjcociidipogaa
open Go.RowKit
set_option linter.unusedVariables false
set_option linter.unusedSimpArgs false
namespace PM
/-- a transaction -/
structure Tx where
  en : En
  ask : Bool
def txC (x : Tx) (fv ev : Value) : List Value := enC x.en fv ev ++ [.bool x.ask]
/-- what the cells of a transaction read as -/
def txR (w : World) (cs : List Value) (x : Tx) : Prop := ∃ fv ev, cs = txC x fv ev ∧ TV w fv x.en.fil ∧ EVL w ev x.en.evs
theorem txR_lasts : Lasts txR := fun W w cs x hb ⟨fv, ev, h1, h2, h3⟩ => ⟨fv, ev, h1, h2.keep hb, h3.keep hb⟩
/-- a transaction of the call's own -/
def txO (B : Nat) (w : World) (cs : List Value) (x : Tx) : Prop := ∃ fv ev, cs = txC x fv ev ∧ OM teL 5 93 B w fv x.en.fil ∧ OR (evO 64 B) 1 29 B w ev x.en.evs
theorem txO_lasts {B : Nat} : Lasts (txO B) := fun W w cs x hb ⟨fv, ev, h1, h2, h3⟩ => ⟨fv, ev, h1, h2.keep hb, OR.keep evO_lasts hb h3⟩
theorem txO_stays {K : TypeId} {B : Nat} (h1 : 93 ≠ K) (h2 : 64 ≠ K) (h3 : 29 ≠ K) : Stays (txO B) K := fun w w' cs x row hg ht ⟨fv, ev, g1, g2, g3⟩ => ⟨fv, ev, g1, OM.stays h1 g2 hg ht, evOr_stays h2 h3 g3 hg ht⟩
theorem txO_mono {B B' : Nat} {w : World} {cs : List Value} {x : Tx} (hb : B' ≤ B) (h : txO B w cs x) : txO B' w cs x := by
  obtain ⟨fv, ev, h1, h2, h3⟩ := h
  exact ⟨fv, ev, h1, h2.mono hb, evOr_mono hb h3⟩
theorem txO_kt {B : Nat} {w w' : World} (k1 : KT w w' 93) (k2 : KT w w' 64) (k3 : KT w w' 29) (cs : List Value) (x : Tx) (h : txO B w cs x) : txO B w' cs x := by
  obtain ⟨fv, ev, h1, h2, h3⟩ := h
  exact ⟨fv, ev, h1, h2.kt k1, OR.kt (evO_kt k2) h3 k3⟩
theorem txO_txR {B : Nat} {w : World} {cs : List Value} {x : Tx} (h : txO B w cs x) : txR w cs x := by
  obtain ⟨fv, ev, h1, h2, h3⟩ := h
  exact ⟨fv, ev, h1, h2.em teL_len, evOr_evl h3⟩
theorem enO_txO {B : Nat} {w : World} {fv ev : Value} {x : En} (q : Bool) (h : enO 93 64 29 B w (enC x fv ev) x) : txO B w (txC ⟨x, q⟩ fv ev) ⟨x, q⟩ := by
  obtain ⟨fv', ev', h1, h2, h3⟩ := h
  unfold enC at h1
  simp only [List.cons.injEq, and_true, true_and] at h1
  obtain ⟨rfl, rfl⟩ := h1
  exact ⟨fv, ev, rfl, h2, h3⟩
abbrev TxL (w : World) (v : Value) (l : List Tx) : Prop := RR txR 9 w v l
abbrev TxW (B : Nat) (w : World) (v : Value) (l : List Tx) : Prop := OR (txO B) 9 39 B w v l
theorem TxW.txl {B : Nat} {w : World} {v : Value} {l : List Tx} (h : TxW B w v l) : TxL w v l := RR.imp h.rr fun cs x h => txO_txR h
theorem TxL.keep {W w : World} {v : Value} {l : List Tx} (hb : Below W.heap.size W w) (h : TxL W v l) : TxL w v l := RR.keep txR_lasts hb h
theorem TxW.keep {B : Nat} {W w : World} {v : Value} {l : List Tx} (hb : Below W.heap.size W w) (h : TxW B W v l) : TxW B w v l := OR.keep txO_lasts hb h
theorem TxW.mono {B B' : Nat} {w : World} {v : Value} {l : List Tx} (hb : B' ≤ B) (h : TxW B w v l) : TxW B' w v l := by
  obtain ⟨css, h1, h2, h3⟩ := h
  exact ⟨css, h1.mono hb, h2, fun i cs x a b => txO_mono hb (h3 i cs x a b)⟩
def TxsS (l : List Tx) : Prop := l.length ≤ 1000 ∧ ∀ x ∈ l, EnS x.en ∧ x.en.wf
def txCe (x : Tx) (a : Option Addr) (n c : Nat) (b : Option Addr) (m d : Nat) : Ce 9 := ⟨txC x (.slice a n c) (.slice b m d), rfl, by
  intro u hu
  simp only [txC, enC, List.cons_append, List.nil_append, List.mem_cons, List.not_mem_nil, or_false] at hu
  rcases hu with rfl | rfl | rfl | rfl | rfl | rfl | rfl | rfl | rfl <;> rfl⟩
theorem txR_open {w : World} {cs : List Value} {x : Tx} (h : txR w cs x) : ∃ fa fc ea ec, cs = txC x (.slice fa x.en.fil.length fc) (.slice ea x.en.evs.length ec) ∧ TV w (.slice fa x.en.fil.length fc) x.en.fil ∧ EVL w (.slice ea x.en.evs.length ec) x.en.evs := by
  obtain ⟨fv, ev, h1, h2, h3⟩ := h
  obtain ⟨fa, fc, rfl⟩ := h2.len
  obtain ⟨ea, ec, rfl⟩ := h3.len
  exact ⟨fa, fc, ea, ec, h1, h2, h3⟩
/-- where a transaction of an ID stands -/
def isT (i : Id) (x : Tx) : Bool := decide (x.en.id = i)
def posT (i : Id) : List Tx → Int
  | [] => -1
  | x :: l => if isT i x then 0 else if posT i l < 0 then -1 else posT i l + 1
theorem posT_at (i : Id) : ∀ l, At1 (isT i) l (posT i l)
  | [] => .inl ⟨rfl, fun j x h => by simp at h⟩
  | y :: l => by
    have ih := posT_at i l
    unfold posT
    by_cases hy : isT i y = true
    · rw [if_pos hy]
      exact .inr ⟨0, y, rfl, rfl, hy, fun j z hj => absurd hj (by omega)⟩
    · rw [if_neg hy]
      have hy' : isT i y = false := by simpa using hy
      rcases ih with ⟨h1, h2⟩ | ⟨k, x, h1, h2, h3, h4⟩
      · rw [h1, if_pos (by decide)]
        refine .inl ⟨rfl, fun j x hj => ?_⟩
        cases j with
        | zero => simp at hj; subst hj; exact hy'
        | succ j => exact h2 j x (by simpa using hj)
      · rw [h1, if_neg (by omega)]
        refine .inr ⟨k + 1, x, by omega, by simpa using h2, h3, fun j z hj hz => ?_⟩
        cases j with
        | zero => simp at hz; subst hz; exact hy'
        | succ j => exact h4 j z (by omega) (by simpa using hz)
theorem At1.uniq {α : Type} {p : α → Bool} {l : List α} {a b : Int} (h : At1 p l a) (k : At1 p l b) : a = b := by
  rcases h with ⟨rfl, h⟩ | ⟨x, y, rfl, h1, h2, h3⟩ <;> rcases k with ⟨rfl, k⟩ | ⟨u, z, rfl, k1, k2, k3⟩
  · rfl
  · rw [h u z k1] at k2; cases k2
  · rw [k x y h1] at h2; cases h2
  · have : x = u := by
      rcases Nat.lt_trichotomy x u with h | h | h
      · rw [k3 x y h h1] at h2; cases h2
      · exact h
      · rw [h3 u z h k1] at k2; cases k2
    rw [this]
/-- what a function that tells of a transaction by a captured block answers -/
def TellsT (P : Program) (K : Nat) (bf : Nat) (p : Tx → Bool) (W0 : World) : Prop := ∀ (z : En) (q : Bool) (fa : Option Addr) (zF fc : Nat) (ea : Option Addr) (zE ec : Nat) (W : World), Below W0.heap.size W0 W →
  Calls P K #[.agg #[.int .i64 z.kind, .int .i64 z.id.br, .int .u64 (z.id.life : Int), .int .u64 (z.id.ser : Int), .int .i64 z.client, .int .u64 (z.sub : Int), .slice fa zF fc, .slice ea zE ec, .bool q], .pointer (some ⟨bf, 0, none⟩)] W fun e w' => e = .returned (.bool (p ⟨z, q⟩)) ∧ Below W.heap.size W w'
end PM
theorem tyTxO : PM.MTy Try.prog 27 39 9 104 := by
  refine ⟨Try.underlying27, by decide, ?_⟩
  obtain ⟨i, h1, h2, h3, h4⟩ := info_parts (P := Try.prog) (e := 39) (z := .agg #[.int .i64 0, .int .i64 0, .int .u64 0, .int .u64 0, .int .i64 0, .int .u64 0, .slice none 0 0, .slice none 0 0, .bool false]) (size := 9) (bytes := 104) (by kernel_rfl)
  exact ⟨i, _, h1, h2, h3, h4, by kernel_rfl⟩
set_option maxRecDepth 100000 in
set_option maxHeartbeats 8000000 in
theorem ownTx_any (z : PM.En) (q : Bool) (fa : Option Addr) (zF fc : Nat) (ea : Option Addr) (zE ec : Nat) (w : World) (hzF : zF = z.fil.length) (hzE : zE = z.evs.length) (hf : PM.TV w (.slice fa zF fc) z.fil) (he : PM.EVL w (.slice ea zE ec) z.evs) (hs : PM.EnS z) :
    Calls Try.prog 27 #[.agg #[.int .i64 z.kind, .int .i64 z.id.br, .int .u64 (z.id.life : Int), .int .u64 (z.id.ser : Int), .int .i64 z.client, .int .u64 (z.sub : Int), .slice fa zF fc, .slice ea zE ec, .bool q]] w fun e w' => ∃ ua uc ta tc, e = .returned (.agg #[.int .i64 z.kind, .int .i64 z.id.br, .int .u64 (z.id.life : Int), .int .u64 (z.id.ser : Int), .int .i64 z.client, .int .u64 (z.sub : Int), .slice ua zF uc, .slice ta zE tc, .bool q]) ∧ PM.txO w.heap.size w' [.int .i64 z.kind, .int .i64 z.id.br, .int .u64 (z.id.life : Int), .int .u64 (z.id.ser : Int), .int .i64 z.client, .int .u64 (z.sub : Int), .slice ua zF uc, .slice ta zE tc, .bool q] ⟨z, q⟩ ∧ Below w.heap.size w w' := by
  have hen := fun (W : World) (hb : Below w.heap.size w W) => ownEn_any z (.slice fa zF fc) (.slice ea zE ec) W (hf.keep hb) (PM.EVL.keepO hb he) hs
  rw [← hzF, ← hzE] at hen
  unfold PM.enC at hen
  obtain ⟨gx, hgx⟩ : ∃ g, g = w.heap.size := ⟨_, rfl⟩
  obtain ⟨gz, hgz⟩ : ∃ g, g = w.heap.size + 1 := ⟨_, rfl⟩
  obtain ⟨w1, hw1⟩ : ∃ W, W = w.alloc (.cells #[.int .i64 z.kind, .int .i64 z.id.br, .int .u64 (z.id.life : Int), .int .u64 (z.id.ser : Int), .int .i64 z.client, .int .u64 (z.sub : Int), .slice fa zF fc, .slice ea zE ec, .bool q] 39) := ⟨_, rfl⟩
  obtain ⟨w2, hw2⟩ : ∃ W, W = w1.alloc (.cells #[.int .i64 0, .int .i64 0, .int .u64 0, .int .u64 0, .int .i64 0, .int .u64 0, .slice none 0 0, .slice none 0 0, .bool false] 39) := ⟨_, rfl⟩
  have hs1 : w1.heap.size = w.heap.size + 1 := by rw [hw1]; simp
  have hal : Below w.heap.size w w1 := by rw [hw1]; exact (Below.refl _ _).alloc (Nat.le_refl _) _
  have hal2 : Below w1.heap.size w1 w2 := by rw [hw2]; exact (Below.refl _ _).alloc (Nat.le_refl _) _
  have kx : PM.BK w1 gx #[.int .i64 z.kind, .int .i64 z.id.br, .int .u64 (z.id.life : Int), .int .u64 (z.id.ser : Int), .int .i64 z.client, .int .u64 (z.sub : Int), .slice fa zF fc, .slice ea zE ec, .bool q] 39 := by rw [hw1, hgx]; exact PM.BK.new _ _ _
  replace kx := kx.keep hal2
  have kz : PM.BK w2 gz #[.int .i64 0, .int .i64 0, .int .u64 0, .int .u64 0, .int .i64 0, .int .u64 0, .slice none 0 0, .slice none 0 0, .bool false] 39 := by rw [hw2, hgz, ← hs1]; exact PM.BK.new _ _ _
  have hgg : Hid (gz ≠ gx ∧ w.heap.size ≤ gx ∧ w.heap.size ≤ gz) := PM.hid (by omega)
  have hBB := PM.hid (PM.chain hal hal2)
  have ht := hen w2 hBB.out
  clear hal hal2 hs1 hf he hzF hzE hs hen
  go_enter Try.func27, Try.ntmps27
  go_upto_region 1 with fail
  rw [← hw1, ← hw2, ← hgz, ← hgx]
  clear hw1 hw2 hgx hgz
  have x0 : w2.cell? ⟨gx, 0, none⟩ = some (.int .i64 z.kind) := kx.cell 0
  have x1 : w2.cell? ⟨gx, 1, none⟩ = some (.int .i64 z.id.br) := kx.cell 1
  have x2 : w2.cell? ⟨gx, 2, none⟩ = some (.int .u64 (z.id.life : Int)) := kx.cell 2
  have x3 : w2.cell? ⟨gx, 3, none⟩ = some (.int .u64 (z.id.ser : Int)) := kx.cell 3
  have x4 : w2.cell? ⟨gx, 4, none⟩ = some (.int .i64 z.client) := kx.cell 4
  have x5 : w2.cell? ⟨gx, 5, none⟩ = some (.int .u64 (z.sub : Int)) := kx.cell 5
  have x6 : w2.cell? ⟨gx, 6, none⟩ = some (.slice fa zF fc) := kx.cell 6
  have x7 : w2.cell? ⟨gx, 7, none⟩ = some (.slice ea zE ec) := kx.cell 7
  have x8 : w2.cell? ⟨gx, 8, none⟩ = some (.bool q) := kx.cell 8
  go_wp2_with fail
  refine ht.mono ?_
  clear ht x0 x1 x2 x3 x4 x5 x6 x7 x8
  rintro e w3 ⟨ua, uc, ta, tc, rfl, ho, hb⟩
  replace kx := kx.keep hb
  replace kz := kz.keep hb
  have hB3 := PM.chain hBB.out hb
  have hsz := hBB.out.size
  replace ho := PM.enO_mono hsz ho
  have x0 : w3.cell? ⟨gx, 0, none⟩ = some (.int .i64 z.kind) := kx.cell 0
  have f0 : w3.frozen? ⟨gx, 0, none⟩ = false := kx.free 0
  have x1 : w3.cell? ⟨gx, 1, none⟩ = some (.int .i64 z.id.br) := kx.cell 1
  have f1 : w3.frozen? ⟨gx, 1, none⟩ = false := kx.free 1
  have x2 : w3.cell? ⟨gx, 2, none⟩ = some (.int .u64 (z.id.life : Int)) := kx.cell 2
  have f2 : w3.frozen? ⟨gx, 2, none⟩ = false := kx.free 2
  have x3 : w3.cell? ⟨gx, 3, none⟩ = some (.int .u64 (z.id.ser : Int)) := kx.cell 3
  have f3 : w3.frozen? ⟨gx, 3, none⟩ = false := kx.free 3
  have x4 : w3.cell? ⟨gx, 4, none⟩ = some (.int .i64 z.client) := kx.cell 4
  have f4 : w3.frozen? ⟨gx, 4, none⟩ = false := kx.free 4
  have x5 : w3.cell? ⟨gx, 5, none⟩ = some (.int .u64 (z.sub : Int)) := kx.cell 5
  have f5 : w3.frozen? ⟨gx, 5, none⟩ = false := kx.free 5
  have x6 : w3.cell? ⟨gx, 6, none⟩ = some (.slice fa zF fc) := kx.cell 6
  have f6 : w3.frozen? ⟨gx, 6, none⟩ = false := kx.free 6
  have x7 : w3.cell? ⟨gx, 7, none⟩ = some (.slice ea zE ec) := kx.cell 7
  have f7 : w3.frozen? ⟨gx, 7, none⟩ = false := kx.free 7
  go_upto_region 2 with fail
  obtain ⟨w4, hw4⟩ : ∃ W, W = ((((((((w3.setCell ⟨gx, 0, none⟩ (.int .i64 z.kind)).setCell ⟨gx, 1, none⟩ (.int .i64 z.id.br)).setCell ⟨gx, 2, none⟩ (.int .u64 (z.id.life : Int))).setCell ⟨gx, 3, none⟩ (.int .u64 (z.id.ser : Int))).setCell ⟨gx, 4, none⟩ (.int .i64 z.client)).setCell ⟨gx, 5, none⟩ (.int .u64 (z.sub : Int))).setCell ⟨gx, 6, none⟩ (.slice ua zF uc)).setCell ⟨gx, 7, none⟩ (.slice ta zE tc)) := ⟨_, rfl⟩
  have hx4 : PM.Bx gx w3 w4 := by rw [hw4]; exact (((((((PM.Bx.set gx 0 _ _).trans (PM.Bx.set gx 1 _ _)).trans (PM.Bx.set gx 2 _ _)).trans (PM.Bx.set gx 3 _ _)).trans (PM.Bx.set gx 4 _ _)).trans (PM.Bx.set gx 5 _ _)).trans (PM.Bx.set gx 6 _ _)).trans (PM.Bx.set gx 7 _ _)
  have kx4 : PM.BK w4 gx #[.int .i64 z.kind, .int .i64 z.id.br, .int .u64 (z.id.life : Int), .int .u64 (z.id.ser : Int), .int .i64 z.client, .int .u64 (z.sub : Int), .slice ua zF uc, .slice ta zE tc, .bool q] 39 := by rw [hw4]; exact (((((((((kx.set 0 (.int .i64 z.kind)).set 1 (.int .i64 z.id.br)).set 2 (.int .u64 (z.id.life : Int))).set 3 (.int .u64 (z.id.ser : Int))).set 4 (.int .i64 z.client)).set 5 (.int .u64 (z.sub : Int))).set 6 (.slice ua zF uc)).set 7 (.slice ta zE tc))).seeO (by simp)
  rw [← hw4]
  clear hw4 x0 f0 x1 f1 x2 f2 x3 f3 x4 f4 x5 f5 x6 f6 x7 f7
  have kt4 := fun (T : TypeId) (hT : 39 ≠ T) => PM.KT.ofx hx4 kx hT
  replace ho := PM.enO_kt (kt4 _ (by decide)) (kt4 _ (by decide)) (kt4 _ (by decide)) _ _ ho
  have kz4 := kz.keepx hx4 hgg.out.1
  have hb4 := hx4.below hB3 hgg.out.2.1 hB3.size
  clear kx kz kt4 hx4 hB3 hsz hb
  have x0 : w4.cell? ⟨gx, 0, none⟩ = some (.int .i64 z.kind) := kx4.cell 0
  have x1 : w4.cell? ⟨gx, 1, none⟩ = some (.int .i64 z.id.br) := kx4.cell 1
  have x2 : w4.cell? ⟨gx, 2, none⟩ = some (.int .u64 (z.id.life : Int)) := kx4.cell 2
  have x3 : w4.cell? ⟨gx, 3, none⟩ = some (.int .u64 (z.id.ser : Int)) := kx4.cell 3
  have x4 : w4.cell? ⟨gx, 4, none⟩ = some (.int .i64 z.client) := kx4.cell 4
  have x5 : w4.cell? ⟨gx, 5, none⟩ = some (.int .u64 (z.sub : Int)) := kx4.cell 5
  have x6 : w4.cell? ⟨gx, 6, none⟩ = some (.slice ua zF uc) := kx4.cell 6
  have x7 : w4.cell? ⟨gx, 7, none⟩ = some (.slice ta zE tc) := kx4.cell 7
  have x8 : w4.cell? ⟨gx, 8, none⟩ = some (.bool q) := kx4.cell 8
  have z0 : w4.cell? ⟨gz, 0, none⟩ = some (.int .i64 0) := kz4.cell 0
  have f0 : w4.frozen? ⟨gz, 0, none⟩ = false := kz4.free 0
  have z1 : w4.cell? ⟨gz, 1, none⟩ = some (.int .i64 0) := kz4.cell 1
  have f1 : w4.frozen? ⟨gz, 1, none⟩ = false := kz4.free 1
  have z2 : w4.cell? ⟨gz, 2, none⟩ = some (.int .u64 0) := kz4.cell 2
  have f2 : w4.frozen? ⟨gz, 2, none⟩ = false := kz4.free 2
  have z3 : w4.cell? ⟨gz, 3, none⟩ = some (.int .u64 0) := kz4.cell 3
  have f3 : w4.frozen? ⟨gz, 3, none⟩ = false := kz4.free 3
  have z4 : w4.cell? ⟨gz, 4, none⟩ = some (.int .i64 0) := kz4.cell 4
  have f4 : w4.frozen? ⟨gz, 4, none⟩ = false := kz4.free 4
  have z5 : w4.cell? ⟨gz, 5, none⟩ = some (.int .u64 0) := kz4.cell 5
  have f5 : w4.frozen? ⟨gz, 5, none⟩ = false := kz4.free 5
  have z6 : w4.cell? ⟨gz, 6, none⟩ = some (.slice none 0 0) := kz4.cell 6
  have f6 : w4.frozen? ⟨gz, 6, none⟩ = false := kz4.free 6
  have z7 : w4.cell? ⟨gz, 7, none⟩ = some (.slice none 0 0) := kz4.cell 7
  have f7 : w4.frozen? ⟨gz, 7, none⟩ = false := kz4.free 7
  have z8 : w4.cell? ⟨gz, 8, none⟩ = some (.bool false) := kz4.cell 8
  have f8 : w4.frozen? ⟨gz, 8, none⟩ = false := kz4.free 8
  have hx5 : PM.Bx gz w4 (((((((((w4.setCell ⟨gz, 0, none⟩ (.int .i64 z.kind)).setCell ⟨gz, 1, none⟩ (.int .i64 z.id.br)).setCell ⟨gz, 2, none⟩ (.int .u64 (z.id.life : Int))).setCell ⟨gz, 3, none⟩ (.int .u64 (z.id.ser : Int))).setCell ⟨gz, 4, none⟩ (.int .i64 z.client)).setCell ⟨gz, 5, none⟩ (.int .u64 (z.sub : Int))).setCell ⟨gz, 6, none⟩ (.slice ua zF uc)).setCell ⟨gz, 7, none⟩ (.slice ta zE tc)).setCell ⟨gz, 8, none⟩ (.bool q)) := ((((((((PM.Bx.set gz 0 _ _).trans (PM.Bx.set gz 1 _ _)).trans (PM.Bx.set gz 2 _ _)).trans (PM.Bx.set gz 3 _ _)).trans (PM.Bx.set gz 4 _ _)).trans (PM.Bx.set gz 5 _ _)).trans (PM.Bx.set gz 6 _ _)).trans (PM.Bx.set gz 7 _ _)).trans (PM.Bx.set gz 8 _ _)
  have k5 := ((((((((((kz4.set 0 (.int .i64 z.kind)).set 1 (.int .i64 z.id.br)).set 2 (.int .u64 (z.id.life : Int))).set 3 (.int .u64 (z.id.ser : Int))).set 4 (.int .i64 z.client)).set 5 (.int .u64 (z.sub : Int))).set 6 (.slice ua zF uc)).set 7 (.slice ta zE tc)).set 8 (.bool q))).seeO (cs' := #[.int .i64 z.kind, .int .i64 z.id.br, .int .u64 (z.id.life : Int), .int .u64 (z.id.ser : Int), .int .i64 z.client, .int .u64 (z.sub : Int), .slice ua zF uc, .slice ta zE tc, .bool q]) (by simp)
  have kt5 := fun (T : TypeId) (hT : 39 ≠ T) => PM.KT.ofx hx5 kz4 hT
  have hend := PM.hid (And.intro (PM.enO_txO q (PM.enO_kt (kt5 _ (by decide)) (kt5 _ (by decide)) (kt5 _ (by decide)) _ _ ho)) (hx5.below hb4 hgg.out.2.2 hb4.size))
  replace k5 := PM.hid k5
  clear hx5 kt5 ho hb4 kx4 kz4
  go_wp2_with fail
  generalize (((((((((w4.setCell ⟨gz, 0, none⟩ (.int .i64 z.kind)).setCell ⟨gz, 1, none⟩ (.int .i64 z.id.br)).setCell ⟨gz, 2, none⟩ (.int .u64 (z.id.life : Int))).setCell ⟨gz, 3, none⟩ (.int .u64 (z.id.ser : Int))).setCell ⟨gz, 4, none⟩ (.int .i64 z.client)).setCell ⟨gz, 5, none⟩ (.int .u64 (z.sub : Int))).setCell ⟨gz, 6, none⟩ (.slice ua zF uc)).setCell ⟨gz, 7, none⟩ (.slice ta zE tc)).setCell ⟨gz, 8, none⟩ (.bool q)) = wf at *
  have q0 : wf.cell? ⟨gz, 0, none⟩ = some (.int .i64 z.kind) := k5.out.cell 0
  have q1 : wf.cell? ⟨gz, 1, none⟩ = some (.int .i64 z.id.br) := k5.out.cell 1
  have q2 : wf.cell? ⟨gz, 2, none⟩ = some (.int .u64 (z.id.life : Int)) := k5.out.cell 2
  have q3 : wf.cell? ⟨gz, 3, none⟩ = some (.int .u64 (z.id.ser : Int)) := k5.out.cell 3
  have q4 : wf.cell? ⟨gz, 4, none⟩ = some (.int .i64 z.client) := k5.out.cell 4
  have q5 : wf.cell? ⟨gz, 5, none⟩ = some (.int .u64 (z.sub : Int)) := k5.out.cell 5
  have q6 : wf.cell? ⟨gz, 6, none⟩ = some (.slice ua zF uc) := k5.out.cell 6
  have q7 : wf.cell? ⟨gz, 7, none⟩ = some (.slice ta zE tc) := k5.out.cell 7
  have q8 : wf.cell? ⟨gz, 8, none⟩ = some (.bool q) := k5.out.cell 8
  refine bodyPost_ret (v := .agg #[.int .i64 z.kind, .int .i64 z.id.br, .int .u64 (z.id.life : Int), .int .u64 (z.id.ser : Int), .int .i64 z.client, .int .u64 (z.sub : Int), .slice ua zF uc, .slice ta zE tc, .bool q]) (by simp [results, Try.results27, go_sem, q0, q1, q2, q3, q4, q5, q6, q7, q8]) rfl ?_
  exact ⟨_, _, _, _, rfl, hend.out.1, hend.out.2⟩
set_option maxRecDepth 100000 in
set_option maxHeartbeats 4000000 in
theorem eachTx_any (v : Value) (l : List PM.Tx) (w : World) (hv : PM.TxL w v l) (hl : PM.TxsS l) :
    Calls Try.prog 37 #[v, .func (.func 27) #[] #[]] w fun e w' => ∃ u, e = .returned u ∧ PM.TxW w.heap.size w' u l ∧ Below w.heap.size w w' := by
  obtain ⟨va, vc, hve⟩ := hv.len
  subst hve
  obtain ⟨N, hN⟩ : ∃ N, N = l.length := ⟨_, rfl⟩
  have hNh := PM.hid hN
  have hl1 := hl.1
  rw [← hN] at hv hl1 ⊢
  have hvh := PM.hid hv
  have hsh := PM.hid hl.2
  clear hN hv hl
  go_enter Try.func37, Try.ntmps37
  by_cases h0 : N = 0
  · subst h0
    have e0 : Hid (l = []) := PM.hid (List.length_eq_zero_iff.1 hNh.out.symm)
    clear hl1
    go_wp2_with fail
    go_ret
    exact ⟨_, rfl, by rw [e0.out]; exact PM.OR.nilrow _, Below.refl _ _⟩
  have g0 : ((N : Int) == 0) = false := by simp; omega
  go_wp2_with (at_make; refine PM.wpList_mkm (e := PM.ceL (c := 9)) tyTxO w.heap.size rfl _ _ rfl .i64 .i64 _ N rfl rfl rfl (by omega) (by unfold maxLen; omega) (Nat.le_refl _) ?_; intro w1 hO hB1 _; have hOh := PM.hid (And.intro hO hB1); clear hO hB1)
  go_loopw [5, 16] (fun s i wr => ∃ k : Nat, i = .int .i64 k ∧ k ≤ N ∧ PM.TxW w.heap.size wr s (l.take k) ∧ Below w.heap.size w wr) (fun _ i _ => N - (intOf i).toNat)
  case atStart => exact ⟨0, rfl, by omega, ⟨[], hOh.out.1, rfl, fun i cs x a _ => by simp at a⟩, hOh.out.2⟩
  case round =>
    obtain ⟨k, rfl, hk, hrow, hB⟩ := hrel
    have hS := PM.hid (And.intro hrow hB)
    obtain ⟨ra, rc, hre⟩ := hrow.rr.len
    have hkl : (l.take k).length = k := by rw [List.length_take]; rw [← hNh.out]; omega
    rw [hkl] at hre
    subst hre
    by_cases hlt : k < N
    · obtain ⟨y, hz⟩ : ∃ z, l[k]? = some z := ⟨l[k]'(by rw [← hNh.out]; exact hlt), List.getElem?_eq_getElem _⟩
      obtain ⟨b, off, rfl, hce⟩ := PM.RR.opn hvh.out (by rw [← hNh.out]; omega)
      obtain ⟨cs, hl0, hR⟩ := hce k y hz
      obtain ⟨fa, fc, ea, ec, hcs, hzf, hze⟩ := PM.txR_open hR
      replace hl0 := hl0.keep hB
      rw [hcs] at hl0
      obtain ⟨z, q⟩ := y
      simp only at hzf hze
      obtain ⟨zF, hzF⟩ : ∃ P, P = z.fil.length := ⟨_, rfl⟩
      obtain ⟨zE, hzE⟩ : ∃ P, P = z.evs.length := ⟨_, rfl⟩
      rw [← hzF] at hzf
      rw [← hzE] at hze
      have d0 : wr.cell? ⟨b, off + k * 9, none⟩ = some (.int .i64 z.kind) := hl0 0 _ rfl
      have d1 : wr.cell? ⟨b, off + k * 9 + 1, none⟩ = some (.int .i64 z.id.br) := hl0 1 _ rfl
      have d2 : wr.cell? ⟨b, off + k * 9 + 2, none⟩ = some (.int .u64 (z.id.life : Int)) := hl0 2 _ rfl
      have d3 : wr.cell? ⟨b, off + k * 9 + 3, none⟩ = some (.int .u64 (z.id.ser : Int)) := hl0 3 _ rfl
      have d4 : wr.cell? ⟨b, off + k * 9 + 4, none⟩ = some (.int .i64 z.client) := hl0 4 _ rfl
      have d5 : wr.cell? ⟨b, off + k * 9 + 5, none⟩ = some (.int .u64 (z.sub : Int)) := hl0 5 _ rfl
      have d6 : wr.cell? ⟨b, off + k * 9 + 6, none⟩ = some (.slice fa zF fc) := by have := hl0 6 _ rfl; simpa [← hzF, ← hzE] using this
      have d7 : wr.cell? ⟨b, off + k * 9 + 7, none⟩ = some (.slice ea zE ec) := by have := hl0 7 _ rfl; simpa [← hzF, ← hzE] using this
      have d8 : wr.cell? ⟨b, off + k * 9 + 8, none⟩ = some (.bool q) := hl0 8 _ rfl
      have hzh := PM.hid hz
      clear hz hce hl0 hR hcs cs
      have hzs := hsh.out _ (List.mem_of_getElem? hzh.out)
      have hen : Hid (∀ W : World, Below w.heap.size w W → Calls Try.prog 27 #[.agg #[.int .i64 z.kind, .int .i64 z.id.br, .int .u64 (z.id.life : Int), .int .u64 (z.id.ser : Int), .int .i64 z.client, .int .u64 (z.sub : Int), .slice fa zF fc, .slice ea zE ec, .bool q]] W fun e w' => ∃ ua uc ta tc, e = .returned (.agg #[.int .i64 z.kind, .int .i64 z.id.br, .int .u64 (z.id.life : Int), .int .u64 (z.id.ser : Int), .int .i64 z.client, .int .u64 (z.sub : Int), .slice ua zF uc, .slice ta zE tc, .bool q]) ∧ PM.txO W.heap.size w' [.int .i64 z.kind, .int .i64 z.id.br, .int .u64 (z.id.life : Int), .int .u64 (z.id.ser : Int), .int .i64 z.client, .int .u64 (z.sub : Int), .slice ua zF uc, .slice ta zE tc, .bool q] ⟨z, q⟩ ∧ Below W.heap.size W w') := PM.hid fun W hb => ownTx_any z q fa zF fc ea zE ec W hzF hzE (hzf.keep hb) (PM.EVL.keepO hb hze) hzs.1
      clear hzf hze hzF hzE hzs hrow hkl hB
      go_upto_region 7 with fail
      obtain ⟨gx, hgx⟩ : ∃ g, g = wr.heap.size := ⟨_, rfl⟩
      obtain ⟨w3, hw3⟩ : ∃ W, W = wr.alloc (.cells #[.int .i64 z.kind, .int .i64 z.id.br, .int .u64 (z.id.life : Int), .int .u64 (z.id.ser : Int), .int .i64 z.client, .int .u64 (z.sub : Int), .slice fa zF fc, .slice ea zE ec, .bool q] 39) := ⟨_, rfl⟩
      have hBn : Below wr.heap.size wr w3 := by rw [hw3]; exact (Below.refl _ _).alloc (Nat.le_refl _) _
      have kx : PM.BK w3 gx #[.int .i64 z.kind, .int .i64 z.id.br, .int .u64 (z.id.life : Int), .int .u64 (z.id.ser : Int), .int .i64 z.client, .int .u64 (z.sub : Int), .slice fa zF fc, .slice ea zE ec, .bool q] 39 := by rw [hw3, hgx]; exact PM.BK.new _ _ _
      rw [← hw3, ← hgx]
      clear hw3 hgx
      clear d0 d1 d2 d3 d4 d5 d6 d7 d8
      have hBw := PM.hid (PM.chain hS.out.2 hBn)
      have hr3 := PM.OR.keep PM.txO_lasts hBn hS.out.1
      clear hBn
      have x0 : w3.cell? ⟨gx, 0, none⟩ = some (.int .i64 z.kind) := kx.cell 0
      have x1 : w3.cell? ⟨gx, 1, none⟩ = some (.int .i64 z.id.br) := kx.cell 1
      have x2 : w3.cell? ⟨gx, 2, none⟩ = some (.int .u64 (z.id.life : Int)) := kx.cell 2
      have x3 : w3.cell? ⟨gx, 3, none⟩ = some (.int .u64 (z.id.ser : Int)) := kx.cell 3
      have x4 : w3.cell? ⟨gx, 4, none⟩ = some (.int .i64 z.client) := kx.cell 4
      have x5 : w3.cell? ⟨gx, 5, none⟩ = some (.int .u64 (z.sub : Int)) := kx.cell 5
      have x6 : w3.cell? ⟨gx, 6, none⟩ = some (.slice fa zF fc) := kx.cell 6
      have x7 : w3.cell? ⟨gx, 7, none⟩ = some (.slice ea zE ec) := kx.cell 7
      have x8 : w3.cell? ⟨gx, 8, none⟩ = some (.bool q) := kx.cell 8
      clear kx
      go_wp2_with fail
      refine (hen.out w3 hBw.out).mono ?_
      rintro e w5 ⟨ua, uc, ta, tc, rfl, hRy, hBn⟩
      clear x0 x1 x2 x3 x4 x5 x6 x7 x8
      replace hRy := PM.txO_mono hBw.out.size hRy
      have hr5 := PM.OR.keep PM.txO_lasts hBn hr3
      have hB5h := PM.hid (PM.chain hBw.out hBn)
      have hl16 : ((l.take k).length + 1) * 104 ≤ 140737488355328 := by rw [List.length_take]; omega
      have hl17 : (l.take k).length + 1 ≤ maxLen := by rw [List.length_take]; unfold maxLen; omega
      have hsz := hB5h.out.size
      clear hBn hr3
      go_wp2_with (at_builtin; go_loud (refine PM.wpList_or1 tyTxO (PM.txO_stays (by decide) (by decide) (by decide)) PM.txO_lasts w.heap.size w5 rfl _ _ rfl _ (l.take k) ⟨z, q⟩ (PM.txCe ⟨z, q⟩ ua zF uc ta zE tc) _ rfl rfl rfl rfl hRy hr5 hl16 hl17 hsz ?_); intro v' w' t1 t2 t3; have hE := PM.hid (And.intro t1 (hB5h.out.trans t2)); clear t1 t2 t3 hr5 hRy hsz)
      refine ⟨⟨k + 1, by go_num, by omega, by rw [PM.take_at hzh.out]; exact hE.out.1, hE.out.2⟩, by simp only [intOf]; omega⟩
    · obtain rfl : k = N := by omega
      clear hB hrow hkl
      go_wp2_with fail
      go_ret
      exact ⟨_, rfl, by have := hS.out.1; have h9 : l.take k = l := (by rw [hNh.out]; exact List.take_length); rwa [h9] at this, hS.out.2⟩
set_option maxRecDepth 100000 in
theorem at1_any (z : PM.En) (q : Bool) (fa : Option Addr) (zF fc : Nat) (ea : Option Addr) (zE ec : Nat) (i : PM.Id) (b : Nat) (w : World)
    (h0 : w.cell? ⟨b, 0, none⟩ = some (.int .i64 i.br)) (h1 : w.cell? ⟨b, 1, none⟩ = some (.int .u64 (i.life : Int))) (h2 : w.cell? ⟨b, 2, none⟩ = some (.int .u64 (i.ser : Int))) :
    Calls Try.prog 53 #[.agg #[.int .i64 z.kind, .int .i64 z.id.br, .int .u64 (z.id.life : Int), .int .u64 (z.id.ser : Int), .int .i64 z.client, .int .u64 (z.sub : Int), .slice fa zF fc, .slice ea zE ec, .bool q], .pointer (some ⟨b, 0, none⟩)] w fun e w' => e = .returned (.bool (PM.isT i ⟨z, q⟩)) ∧ Below w.heap.size w w' := by
  have a0 : ∀ o, (w.alloc o).cell? ⟨b, 0, none⟩ = some (.int .i64 i.br) := fun o => PM.cellA ((Below.refl _ _).alloc (Nat.le_refl _) o) h0
  have a1 : ∀ o, (w.alloc o).cell? ⟨b, 1, none⟩ = some (.int .u64 (i.life : Int)) := fun o => PM.cellA ((Below.refl _ _).alloc (Nat.le_refl _) o) h1
  have a2 : ∀ o, (w.alloc o).cell? ⟨b, 2, none⟩ = some (.int .u64 (i.ser : Int)) := fun o => PM.cellA ((Below.refl _ _).alloc (Nat.le_refl _) o) h2
  have hq := ideq_run z.id i
  obtain ⟨ib, il, ir⟩ := i
  obtain ⟨zk, ⟨jb, jl, jr⟩, zc, zs, zf, ze⟩ := z
  simp only at hq a0 a1 a2 ⊢
  clear h0 h1 h2
  go_enter Try.func53, Try.ntmps53
  go_wp2
  go_ret
  exact ⟨by unfold PM.isT; rw [PM.id_eq]; rfl, by go_grown⟩
theorem at1_tells (i : PM.Id) (b : Nat) (w : World)
    (h0 : w.cell? ⟨b, 0, none⟩ = some (.int .i64 i.br)) (h1 : w.cell? ⟨b, 1, none⟩ = some (.int .u64 (i.life : Int))) (h2 : w.cell? ⟨b, 2, none⟩ = some (.int .u64 (i.ser : Int))) :
    PM.TellsT Try.prog 53 b (PM.isT i) w := fun z q fa zF fc ea zE ec W hb =>
  at1_any z q fa zF fc ea zE ec i b W (PM.cellA hb h0) (PM.cellA hb h1) (PM.cellA hb h2)
set_option maxHeartbeats 1000000 in
theorem idxT_any (p : PM.Tx → Bool) (v : Value) (bf : Nat) (l : List PM.Tx) (w : World) (hv : PM.TxL w v l) (hc : PM.TellsT Try.prog 53 bf p w) :
    Calls Try.prog 52 #[v, .func (.func 53) #[] #[.pointer (some ⟨bf, 0, none⟩)]] w fun e w' => ∃ i, e = .returned (.int .i64 i) ∧ PM.At1 p l i ∧ Below w.heap.size w w' := by
  have hmax := hv.bound
  obtain ⟨ad, cap, rfl⟩ := hv.len
  unfold maxLen at hmax
  obtain ⟨L, hL⟩ : ∃ L, L = l.length := ⟨_, rfl⟩
  have hLh := PM.hid hL
  rw [← hL] at hv hmax ⊢
  have hvh := PM.hid hv
  have hch := PM.hid hc
  clear hL hv hc
  go_enter Try.func52, Try.ntmps52
  go_wp2
  go_loopw [8] (fun i wr => ∃ k : Nat, i = .int .i64 k ∧ k ≤ L ∧ (∀ j y, j < k → l[j]? = some y → p y = false) ∧ Below w.heap.size w wr) (fun i _ => L - (intOf i).toNat)
  case atStart => exact ⟨0, rfl, by omega, fun j y hj => absurd hj (by omega), Below.refl _ _⟩
  case round =>
    obtain ⟨k, rfl, hk, hall, hB⟩ := hrel
    have hS := PM.hid (And.intro hall hB)
    clear hall
    by_cases hlt : k < L
    · obtain ⟨y, hz⟩ : ∃ z, l[k]? = some z := ⟨l[k]'(by rw [← hLh.out]; exact hlt), List.getElem?_eq_getElem _⟩
      obtain ⟨b, off, rfl, hce⟩ := PM.RR.opn hvh.out (by rw [← hLh.out]; omega)
      obtain ⟨cs, hl0, hR⟩ := hce k y hz
      obtain ⟨fa, fc, ea, ec, hcs, hzf, hze⟩ := PM.txR_open hR
      replace hl0 := hl0.keep hB
      rw [hcs] at hl0
      obtain ⟨z, q⟩ := y
      simp only at hzf hze
      obtain ⟨zF, hzF⟩ : ∃ P, P = z.fil.length := ⟨_, rfl⟩
      obtain ⟨zE, hzE⟩ : ∃ P, P = z.evs.length := ⟨_, rfl⟩
      rw [← hzF] at hzf
      rw [← hzE] at hze
      have d0 : wr.cell? ⟨b, off + k * 9, none⟩ = some (.int .i64 z.kind) := hl0 0 _ rfl
      have d1 : wr.cell? ⟨b, off + k * 9 + 1, none⟩ = some (.int .i64 z.id.br) := hl0 1 _ rfl
      have d2 : wr.cell? ⟨b, off + k * 9 + 2, none⟩ = some (.int .u64 (z.id.life : Int)) := hl0 2 _ rfl
      have d3 : wr.cell? ⟨b, off + k * 9 + 3, none⟩ = some (.int .u64 (z.id.ser : Int)) := hl0 3 _ rfl
      have d4 : wr.cell? ⟨b, off + k * 9 + 4, none⟩ = some (.int .i64 z.client) := hl0 4 _ rfl
      have d5 : wr.cell? ⟨b, off + k * 9 + 5, none⟩ = some (.int .u64 (z.sub : Int)) := hl0 5 _ rfl
      have d6 : wr.cell? ⟨b, off + k * 9 + 6, none⟩ = some (.slice fa zF fc) := by have := hl0 6 _ rfl; simpa [← hzF, ← hzE] using this
      have d7 : wr.cell? ⟨b, off + k * 9 + 7, none⟩ = some (.slice ea zE ec) := by have := hl0 7 _ rfl; simpa [← hzF, ← hzE] using this
      have d8 : wr.cell? ⟨b, off + k * 9 + 8, none⟩ = some (.bool q) := hl0 8 _ rfl
      have hzh := PM.hid hz
      clear hz hce hl0 hR hcs cs
      have hc := hch.out z q fa zF fc ea zE ec wr hB
      clear hB hzf hze hzF hzE
      cases heq : p ⟨z, q⟩
      · rw [heq] at hc
        have heqh := PM.hid heq
        clear heq
        go_wp2_with fail
        refine hc.mono ?_
        rintro e w2 ⟨rfl, hB2⟩
        go_wp2_with fail
        refine ⟨⟨k + 1, by go_num, by omega, fun j y hj hy => ?_, PM.chain hS.out.2 hB2⟩, by simp only [intOf]; omega⟩
        by_cases hjk : j < k
        · exact hS.out.1 j y hjk hy
        · obtain rfl : j = k := by omega
          rw [hzh.out] at hy
          cases hy
          exact heqh.out
      · rw [heq] at hc
        have heqh := PM.hid heq
        clear heq
        go_wp2_with fail
        refine hc.mono ?_
        rintro e w2 ⟨rfl, hB2⟩
        go_wp2_with fail
        go_ret
        exact ⟨_, rfl, .inr ⟨k, _, rfl, hzh.out, heqh.out, hS.out.1⟩, PM.chain hS.out.2 hB2⟩
    · obtain rfl : k = L := by omega
      clear hB
      go_wp2_with fail
      go_ret
      refine ⟨_, rfl, .inl ⟨rfl, fun j z hj => ?_⟩, hS.out.2⟩
      exact hS.out.1 j z (by rw [hLh.out]; exact (List.getElem?_eq_some_iff.1 hj).1) hj
set_option maxHeartbeats 1000000 in
theorem at_any (v : Value) (i : PM.Id) (l : List PM.Tx) (w : World) (hv : PM.TxL w v l) :
    Calls Try.prog 26 #[v, .agg #[.int .i64 i.br, .int .u64 (i.life : Int), .int .u64 (i.ser : Int)]] w fun e w' => e = .returned (.int .i64 (PM.posT i l)) ∧ Below w.heap.size w w' := by
  obtain ⟨g, hg⟩ : ∃ g, g = w.heap.size := ⟨_, rfl⟩
  obtain ⟨w1, hw1⟩ : ∃ W, W = w.alloc (.cells #[.int .i64 i.br, .int .u64 (i.life : Int), .int .u64 (i.ser : Int)] 26) := ⟨_, rfl⟩
  have hal : Below w.heap.size w w1 := by rw [hw1]; exact (Below.refl _ _).alloc (Nat.le_refl _) _
  have kg : PM.BK w1 g #[.int .i64 i.br, .int .u64 (i.life : Int), .int .u64 (i.ser : Int)] 26 := by rw [hw1, hg]; exact PM.BK.new _ _ _
  have hc := at1_tells i g w1 (kg.cell 0) (kg.cell 1) (kg.cell 2)
  have hcf := idxT_any _ v g l w1 (PM.TxL.keep hal hv) hc
  have hh := PM.hid hal
  have hu : Hid (∀ j, PM.At1 (PM.isT i) l j → j = PM.posT i l) := PM.hid fun j hj => hj.uniq (PM.posT_at i l)
  clear hal kg hc hv
  obtain ⟨P, hP⟩ : ∃ P, P = PM.posT i l := ⟨_, rfl⟩
  rw [← hP] at hu ⊢
  clear hP
  obtain ⟨ib, il, ir⟩ := i
  simp only at hw1
  go_enter Try.func26, Try.ntmps26
  go_upto_region 1 with fail
  rw [← hw1, ← hg]
  clear hw1 hg
  go_wp2_with fail
  refine hcf.mono ?_
  rintro e w2 ⟨j, rfl, hj, hB⟩
  obtain rfl := hu.out j hj
  have hB2 := PM.hid (PM.chain hh.out hB)
  clear hB hcf hj
  go_wp2_with fail
  go_ret
  exact ⟨rfl, hB2.out⟩
end Go.Proofs.Ytnjcociidipogaa
