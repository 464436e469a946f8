/-
  A ROW OF TRANSACTIONS, A CELL SET; CONTRACTS of stage.Commit, Find, Asks. (Written by tools/mk_xc.py.)
-/
import Derived.Test.YtnjcociidipogaaYb
namespace Go.Proofs.Ytnjcociidipogaa
open Go.RowKit
set_option linter.unusedVariables false
set_option linter.unusedSimpArgs false
namespace PM
def Ce.put {c : Nat} (y : Ce c) (j : Nat) (u : Value) (hu : u.oneCell' = true) : Ce c := ⟨y.1.set j u, by rw [List.length_set]; exact y.2.1, fun v hv => by
  rcases List.mem_or_eq_of_mem_set hv with h | h
  · exact y.2.2 v h
  · rw [h]; exact hu⟩
theorem flat_set {c : Nat} (u : Value) (hu : u.oneCell' = true) (j : Nat) (hj : j < c) : ∀ (l : List (Ce c)) (i : Nat) (y : Ce c), l[i]? = some y → (l.flatMap ceL).set (i * c + j) u = (l.set i (y.put j u hu)).flatMap ceL
  | [], i, y, h => by simp at h
  | x :: l, 0, y, h => by
    simp at h
    subst h
    simp only [List.flatMap_cons, List.set_cons_zero, Nat.zero_mul, Nat.zero_add]
    rw [List.set_append_left _ _ (by rw [ceL_len]; exact hj)]
    rfl
  | x :: l, i + 1, y, h => by
    have ih := flat_set u hu j hj l i y (by simpa using h)
    simp only [List.flatMap_cons, List.set_cons_succ]
    rw [List.set_append_right _ _ (by rw [ceL_len, Nat.add_mul]; omega), ceL_len, show (i + 1) * c + j - c = i * c + j by rw [Nat.add_mul]; omega, ih]
/-- a cell of a row of one's own turns -/
theorem OM.putc {c : Nat} {E : TypeId} {B : Nat} {w : World} {g n cap i j : Nat} {l : List (Ce c)} (h : OM ceL c E B w (.slice (some ⟨g, 0, none⟩) n cap) l) (u : Value) (hu : u.oneCell' = true) (hj : j < c) (y : Ce c) (hy : l[i]? = some y) :
    OM ceL c E B (w.setCell ⟨g, i * c + j, none⟩ u) (.slice (some ⟨g, 0, none⟩) n cap) (l.set i (y.put j u hu)) := by
  unfold OM at h ⊢
  rw [List.length_set]
  rcases h.2 with ⟨hc, _⟩ | ⟨g', cap', cur, hv, hB, hg, hcap, hm, hs, ht⟩
  · cases hc
  · simp at hv
    obtain ⟨rfl, rfl, rfl⟩ := hv
    refine ⟨by rw [flat_len ceL_len, List.length_set], .inr ⟨g, cap, cur.setIfInBounds (i * c + j) u, by simp, hB, ?_, hcap, hm, by simpa using hs, ?_⟩⟩
    · show (w.heap.modify g _)[g]? = _
      rw [Array.getElem?_modify, if_pos rfl, hg]
      rfl
    · rw [Array.toList_setIfInBounds, List.take_set, ht]
      exact flat_set u hu j hj l i y hy
/-- a row of transactions, opened at one -/
theorem TxW.opn {B : Nat} {w : World} {v : Value} {l : List Tx} {k : Nat} {x : Tx} (h : TxW B w v l) (hx : l[k]? = some x) :
    ∃ g cap css y cur, v = .slice (some ⟨g, 0, none⟩) l.length cap ∧ B ≤ g ∧ l.length ≤ cap ∧ BK w g cur 39 ∧ OM ceL 9 39 B w v css ∧ css.length = l.length ∧ css[k]? = some y ∧ txO B w y.1 x ∧ (∀ j u, y.1[j]? = some u → w.cell? ⟨g, k * 9 + j, none⟩ = some u) ∧
      (∀ (i : Nat) (cs : Ce 9) (x : Tx), css[i]? = some cs → l[i]? = some x → txO B w cs.1 x) := by
  obtain ⟨css, h1, h2, h3⟩ := h
  have hkl : k < css.length := by rw [h2]; exact (List.getElem?_eq_some_iff.1 hx).1
  have hy : css[k]? = some (css[k]'hkl) := List.getElem?_eq_getElem _
  have h1' := h1
  unfold OM at h1'
  rcases h1'.2 with ⟨hc, h0⟩ | ⟨g, cap, cur, hv, hB, hg, hcap, hm, hs, ht⟩
  · exact absurd h0 (by omega)
  · refine ⟨g, cap, css, _, cur, by rw [← h2]; exact hv, hB, by omega, hg, h1, h2, hy, h3 k _ x hy hx, fun j u hu => ?_, h3⟩
    have e := flat_get ceL_len css k _ hy j u hu
    have hlt := (List.getElem?_eq_some_iff.1 e).1
    rw [flat_len ceL_len] at hlt
    have e2 : cur.toList[k * 9 + j]? = some u := by
      rw [← ht, List.getElem?_take_of_lt hlt] at e
      exact e
    have e3 : cur[k * 9 + j]? = some u := by simpa using e2
    rw [BK.cell (T := 39) hg]
    exact e3
theorem TxW.shut {B : Nat} {w w' : World} {v : Value} {l : List Tx} {css : List (Ce 9)} {k : Nat} {x : Tx} {z : Ce 9} (h1 : OM ceL 9 39 B w' v (css.set k z)) (h2 : css.length = l.length) (h3 : ∀ (i : Nat) (cs : Ce 9) (x : Tx), css[i]? = some cs → l[i]? = some x → txO B w cs.1 x)
    (kt : ∀ cs y, txO B w cs y → txO B w' cs y) (hz : txO B w' z.1 x) : TxW B w' v (l.set k x) := by
  refine ⟨css.set k z, h1, by simp [h2], fun i cs y a b => ?_⟩
  rw [List.getElem?_set] at a b
  by_cases hik : k = i
  · subst hik
    rw [if_pos rfl] at a b
    split at a
    · rename_i hlt
      rw [if_pos (by omega)] at b
      cases a; cases b
      exact hz
    · cases a
  · rw [if_neg hik] at a b
    exact kt _ _ (h3 i cs y a b)
theorem txO_ktE {B : Nat} {w w' : World} (k1 : KT w w' 93) (k2 : KT w w' 64) (k3 : KT w w' 29) : ∀ cs y, txO B w cs y → txO B w' cs y := fun cs y h => txO_kt k1 k2 k3 cs y h
/-- the list with one asked for -/
noncomputable def cmtT (i : Id) (l : List Tx) : List Tx × Int := if openT i l < 0 then (l, 170) else ((match l[(openT i l).toNat]? with | some x => l.set (openT i l).toNat ⟨x.en, true⟩ | none => l), 0)
theorem openT_cases (i : Id) (l : List Tx) : openT i l = -1 ∨ ∃ (k : Nat) (x : Tx), openT i l = (k : Int) ∧ l[k]? = some x ∧ x.ask = false ∧ posT i l = (k : Int) := by
  rcases posT_cases i l with ⟨h, _⟩ | ⟨k, x, h1, h2, h3, _⟩
  · left; unfold openT; rw [h]; simp
  · unfold openT
    rw [h1]
    cases hq : x.ask
    · right
      refine ⟨k, x, ?_, h2, hq, rfl⟩
      simp [askAt, h2, hq]
    · left
      simp [askAt, h2, hq]
def Tx0 : Tx := ⟨⟨0, ⟨0, 0, 0⟩, 0, 0, [], []⟩, false⟩
def findT (i : Id) (l : List Tx) : Option Tx := if posT i l < 0 then none else l[(posT i l).toNat]?
/-- the entries that are asked for, the first four -/
def askS (out : List En) (x : Tx) : List En := if (x.ask && decide (out.length < 4)) = true then out ++ [x.en] else out
def asksT (l : List Tx) : List En := l.foldl askS []
theorem asksT_at {l : List Tx} {k : Nat} {x : Tx} (h : l[k]? = some x) : asksT (l.take (k + 1)) = askS (asksT (l.take k)) x := by
  unfold asksT
  rw [take_at h, List.foldl_append]
  rfl
theorem asksT_len (l : List Tx) : (asksT l).length ≤ 4 := by
  unfold asksT
  have key : ∀ (l : List Tx) (o : List En), o.length ≤ 4 → (l.foldl askS o).length ≤ 4 := by
    intro l
    induction l with
    | nil => exact fun o h => h
    | cons x l ih =>
      intro o h
      refine ih _ ?_
      unfold askS
      split
      · rename_i hc
        simp only [Bool.and_eq_true, decide_eq_true_eq] at hc
        simp only [List.length_append, List.length_singleton]
        omega
      · exact h
  exact key l [] (by simp)
end PM
set_option maxHeartbeats 4000000 in
theorem commit_any (la : Option Addr) (ln lc : Nat) (i : PM.Id) (l : List PM.Tx) (w : World) (hv : PM.TxL w (.slice la ln lc) l) (hl : PM.TxsS l) :
    Calls Try.prog 21 #[.slice la ln lc, .agg #[.int .i64 i.br, .int .u64 (i.life : Int), .int .u64 (i.ser : Int)]] w fun e w' => ∃ u, e = .returned (.tuple #[u, .int .i64 (PM.cmtT i l).2]) ∧ PM.TxW w.heap.size w' u (PM.cmtT i l).1 ∧ Below w.heap.size w w' := by
  obtain ⟨g, hg⟩ : ∃ g, g = w.heap.size := ⟨_, rfl⟩
  obtain ⟨w1, hw1⟩ : ∃ W, W = w.alloc (.cells #[.int .i64 i.br, .int .u64 (i.life : Int), .int .u64 (i.ser : Int)] 26) := ⟨_, rfl⟩
  have hbw1 : Below w.heap.size w w1 := by rw [hw1]; exact (Below.refl _ _).alloc (Nat.le_refl _) _
  have k1 : PM.BK w1 g #[.int .i64 i.br, .int .u64 (i.life : Int), .int .u64 (i.ser : Int)] 26 := by rw [hw1, hg]; exact PM.BK.new _ _ _
  have hv1 := PM.TxL.keep hbw1 hv
  have ht := eachTx_any (.slice la ln lc) l w1 hv1 hl
  have hop := fun (W : World) (hb : Below w1.heap.size w1 W) => open_any (.slice la ln lc) i l W (PM.TxL.keep hb hv1)
  have hcs := PM.openT_cases i l
  obtain ⟨R, hR⟩ : ∃ R, R = PM.cmtT i l := ⟨_, rfl⟩
  have hRR : Hid (R = if PM.openT i l < 0 then (l, (170 : Int)) else ((match l[(PM.openT i l).toNat]? with | some x => l.set (PM.openT i l).toNat ⟨x.en, true⟩ | none => l), 0)) := PM.hid (by rw [hR]; rfl)
  rw [← hR]
  obtain ⟨O, hO⟩ : ∃ O, O = PM.openT i l := ⟨_, rfl⟩
  rw [← hO] at hop hcs hRR
  have hBB := PM.hid hbw1
  replace hop := PM.hid hop
  have hsz1 := hbw1.size
  have hl1 := hl.1
  clear hv hv1 hl hR hO hbw1
  obtain ⟨ib, il, ir⟩ := i
  simp only at k1 hw1 hop
  go_enter Try.func21, Try.ntmps21
  go_upto_region 1 with fail
  rw [← hw1, ← hg]
  clear hw1 hg
  go_wp2_with fail
  refine ht.mono ?_
  clear ht
  rintro e w2 ⟨u, rfl, hu, hb2⟩
  replace hu := PM.TxW.mono hsz1 hu
  have k2 := k1.keep hb2
  have ho := hop.out w2 hb2
  replace hBB := PM.hid (PM.chain hBB.out hb2)
  have x0 : w2.cell? ⟨g, 0, none⟩ = some (.int .i64 ib) := k2.cell 0
  have x1 : w2.cell? ⟨g, 1, none⟩ = some (.int .u64 (il : Int)) := k2.cell 1
  have x2 : w2.cell? ⟨g, 2, none⟩ = some (.int .u64 (ir : Int)) := k2.cell 2
  clear hop hb2 k1 k2
  go_wp2_with fail
  refine ho.mono ?_
  clear ho x0 x1 x2
  rintro e w3 ⟨rfl, hb3⟩
  replace hu := PM.TxW.keep hb3 hu
  replace hBB := PM.hid (PM.chain hBB.out hb3)
  clear hb3
  rcases hcs with rfl | ⟨k, x, rfl, hx, -, -⟩
  · have hR2 : Hid (R = (l, 170)) := PM.hid (by rw [hRR.out]; rfl)
    have hend := PM.hid (And.intro hu hBB.out)
    clear hRR hu
    go_wp2_with fail
    go_ret2
    exact ⟨_, by rw [hR2.out]; rfl, by rw [hR2.out]; exact hend.out.1, hend.out.2⟩
  · have hR2 : Hid (R = (l.set k ⟨x.en, true⟩, 0)) := PM.hid (by rw [hRR.out, if_neg (by omega)]; simp only [Int.toNat_natCast, hx])
    obtain ⟨g2, cap, css, y, cur, hue, hBg, hnc, hbk, hom, hcl, hy, hty, hcy, hall⟩ := PM.TxW.opn hu hx
    have hkl : k < l.length := (List.getElem?_eq_some_iff.1 hx).1
    obtain ⟨N, hN⟩ : ∃ n, n = l.length := ⟨_, rfl⟩
    rw [← hN] at hkl hue hnc hl1
    subst hue
    have h9 := y.2.1
    have c8 : ∃ v8, w3.cell? ⟨g2, k * 9 + 8, none⟩ = some v8 := ⟨_, hcy 8 _ (List.getElem?_eq_getElem (by omega))⟩
    obtain ⟨v8, c8⟩ := c8
    have f8 : w3.frozen? ⟨g2, k * 9 + 8, none⟩ = false := hbk.free _
    have c8' : w3.cell? ⟨g2, 0 + k * 9 + 8, none⟩ = some v8 := by rw [Nat.zero_add]; exact c8
    have f8' : w3.frozen? ⟨g2, 0 + k * 9 + 8, none⟩ = false := hbk.free _
    have hput := hom.putc (.bool true) rfl (show 8 < 9 by decide) y hy
    have hxb := PM.Bx.set g2 (k * 9 + 8) w3 (.bool true)
    have kt := fun (T : TypeId) (hT : 39 ≠ T) => PM.KT.ofx hxb hbk hT
    have hz : PM.txO w.heap.size (w3.setCell ⟨g2, k * 9 + 8, none⟩ (.bool true)) (y.put 8 (.bool true) rfl).1 ⟨x.en, true⟩ := by
      obtain ⟨fv, ev, e1, e2, e3⟩ := PM.txO_kt (kt _ (by decide)) (kt _ (by decide)) (kt _ (by decide)) _ _ hty
      refine ⟨fv, ev, ?_, e2, e3⟩
      show y.1.set 8 (.bool true) = _
      rw [e1]
      rfl
    have hend := PM.hid (And.intro (PM.TxW.shut hput hcl hall (PM.txO_ktE (kt _ (by decide)) (kt _ (by decide)) (kt _ (by decide))) hz) (hxb.below hBB.out hBg hBB.out.size))
    have hk1 : (k : Int) < (N : Int) := by omega
    have hk0 : ¬ (k : Int) < 0 := by omega
    clear hRR hu hx hom hcl hy hty hcy hall hput hxb kt hz hbk h9 hBg hN
    go_wp2_with fail
    go_ret2
    exact ⟨_, by rw [hR2.out]; rfl, by rw [hR2.out]; exact hend.out.1, hend.out.2⟩
set_option maxRecDepth 100000 in
set_option maxHeartbeats 8000000 in
theorem find_any (la : Option Addr) (ln lc : Nat) (i : PM.Id) (l : List PM.Tx) (w : World) (hv : PM.TxL w (.slice la ln lc) l) (hl : PM.TxsS l) :
    Calls Try.prog 10 #[.slice la ln lc, .agg #[.int .i64 i.br, .int .u64 (i.life : Int), .int .u64 (i.ser : Int)]] w fun e w' => ∃ cs : List Value, e = .returned (.tuple #[.agg cs.toArray, .bool (PM.findT i l).isSome]) ∧ PM.txO w.heap.size w' cs ((PM.findT i l).getD PM.Tx0) ∧ Below w.heap.size w w' := by
  obtain ⟨g1, hg1⟩ : ∃ g, g = w.heap.size := ⟨_, rfl⟩
  obtain ⟨g2, hg2⟩ : ∃ g, g = w.heap.size + 1 := ⟨_, rfl⟩
  obtain ⟨w1, hw1⟩ : ∃ W, W = w.alloc (.cells #[.int .i64 i.br, .int .u64 (i.life : Int), .int .u64 (i.ser : Int)] 26) := ⟨_, rfl⟩
  obtain ⟨w2, hw2⟩ : ∃ W, W = w1.alloc (.cells #[.int .i64 0, .int .i64 0, .int .u64 0, .int .u64 0, .int .i64 0, .int .u64 0, .slice none 0 0, .slice none 0 0, .bool false] 39) := ⟨_, rfl⟩
  have hs1 : w1.heap.size = w.heap.size + 1 := by rw [hw1]; simp
  have hal : Below w.heap.size w w1 := by rw [hw1]; exact (Below.refl _ _).alloc (Nat.le_refl _) _
  have hal2 : Below w1.heap.size w1 w2 := by rw [hw2]; exact (Below.refl _ _).alloc (Nat.le_refl _) _
  have k1 : PM.BK w1 g1 #[.int .i64 i.br, .int .u64 (i.life : Int), .int .u64 (i.ser : Int)] 26 := by rw [hw1, hg1]; exact PM.BK.new _ _ _
  replace k1 := k1.keep hal2
  have k2 : PM.BK w2 g2 #[.int .i64 0, .int .i64 0, .int .u64 0, .int .u64 0, .int .i64 0, .int .u64 0, .slice none 0 0, .slice none 0 0, .bool false] 39 := by rw [hw2, hg2, ← hs1]; exact PM.BK.new _ _ _
  have hgg : Hid (w.heap.size ≤ g2) := PM.hid (by omega)
  have hBB := PM.hid (PM.chain hal hal2)
  have hln : ln = l.length := by obtain ⟨_, _, h⟩ := hv.len; injection h
  have ht := at_any (.slice la ln lc) i l w2 (PM.TxL.keep hBB.out hv)
  have hcs := PM.posT_cases i l
  obtain ⟨R, hR⟩ : ∃ R, R = PM.findT i l := ⟨_, rfl⟩
  have hRR : Hid (R = if PM.posT i l < 0 then none else l[(PM.posT i l).toNat]?) := PM.hid (by rw [hR]; rfl)
  rw [← hR]
  obtain ⟨O, hO⟩ : ∃ O, O = PM.posT i l := ⟨_, rfl⟩
  rw [← hO] at ht hcs hRR
  have hlh := PM.hid (And.intro hl.2 (And.intro hln hv))
  have hl1 := hl.1
  rw [← hln] at hl1
  clear hv hl hR hO hal hal2 hs1 hln
  obtain ⟨ib, il, ir⟩ := i
  simp only at k1 hw1 ht
  have x0 : w2.cell? ⟨g1, 0, none⟩ = some (.int .i64 ib) := k1.cell 0
  have x1 : w2.cell? ⟨g1, 1, none⟩ = some (.int .u64 (il : Int)) := k1.cell 1
  have x2 : w2.cell? ⟨g1, 2, none⟩ = some (.int .u64 (ir : Int)) := k1.cell 2
  clear k1
  go_enter Try.func10, Try.ntmps10
  go_upto_region 1 with fail
  rw [← hw1, ← hw2, ← hg2, ← hg1]
  clear hw1 hw2 hg1 hg2
  go_wp2_with fail
  refine ht.mono ?_
  clear ht x0 x1 x2
  rintro e w3 ⟨rfl, hb3⟩
  replace k2 := k2.keep hb3
  replace hBB := PM.hid (PM.chain hBB.out hb3)
  clear hb3
  rcases hcs with ⟨rfl, -⟩ | ⟨k, y, rfl, hz, -, -⟩
  · have hR2 : Hid (R = none) := PM.hid (by rw [hRR.out]; rfl)
    clear hRR
    have z0 : w3.cell? ⟨g2, 0, none⟩ = some (.int .i64 0) := k2.cell 0
    have y0 : w3.frozen? ⟨g2, 0, none⟩ = false := k2.free 0
    have z1 : w3.cell? ⟨g2, 1, none⟩ = some (.int .i64 0) := k2.cell 1
    have y1 : w3.frozen? ⟨g2, 1, none⟩ = false := k2.free 1
    have z2 : w3.cell? ⟨g2, 2, none⟩ = some (.int .u64 0) := k2.cell 2
    have y2 : w3.frozen? ⟨g2, 2, none⟩ = false := k2.free 2
    have z3 : w3.cell? ⟨g2, 3, none⟩ = some (.int .u64 0) := k2.cell 3
    have y3 : w3.frozen? ⟨g2, 3, none⟩ = false := k2.free 3
    have z4 : w3.cell? ⟨g2, 4, none⟩ = some (.int .i64 0) := k2.cell 4
    have y4 : w3.frozen? ⟨g2, 4, none⟩ = false := k2.free 4
    have z5 : w3.cell? ⟨g2, 5, none⟩ = some (.int .u64 0) := k2.cell 5
    have y5 : w3.frozen? ⟨g2, 5, none⟩ = false := k2.free 5
    have z6 : w3.cell? ⟨g2, 6, none⟩ = some (.slice none 0 0) := k2.cell 6
    have y6 : w3.frozen? ⟨g2, 6, none⟩ = false := k2.free 6
    have z7 : w3.cell? ⟨g2, 7, none⟩ = some (.slice none 0 0) := k2.cell 7
    have y7 : w3.frozen? ⟨g2, 7, none⟩ = false := k2.free 7
    have z8 : w3.cell? ⟨g2, 8, none⟩ = some (.bool false) := k2.cell 8
    have y8 : w3.frozen? ⟨g2, 8, none⟩ = false := k2.free 8
    have hx : PM.Bx g2 w3 (((((((((w3.setCell ⟨g2, 0, none⟩ (.int .i64 0)).setCell ⟨g2, 1, none⟩ (.int .i64 0)).setCell ⟨g2, 2, none⟩ (.int .u64 0)).setCell ⟨g2, 3, none⟩ (.int .u64 0)).setCell ⟨g2, 4, none⟩ (.int .i64 0)).setCell ⟨g2, 5, none⟩ (.int .u64 0)).setCell ⟨g2, 6, none⟩ (.slice none 0 0)).setCell ⟨g2, 7, none⟩ (.slice none 0 0)).setCell ⟨g2, 8, none⟩ (.bool false)) := ((((((((PM.Bx.set g2 0 _ _).trans (PM.Bx.set g2 1 _ _)).trans (PM.Bx.set g2 2 _ _)).trans (PM.Bx.set g2 3 _ _)).trans (PM.Bx.set g2 4 _ _)).trans (PM.Bx.set g2 5 _ _)).trans (PM.Bx.set g2 6 _ _)).trans (PM.Bx.set g2 7 _ _)).trans (PM.Bx.set g2 8 _ _)
    have kt := fun (T : TypeId) (hT : 39 ≠ T) => PM.KT.ofx hx k2 hT
    have ZF := PM.hid (((((((((((k2.set 0 (.int .i64 0)).set 1 (.int .i64 0)).set 2 (.int .u64 0)).set 3 (.int .u64 0)).set 4 (.int .i64 0)).set 5 (.int .u64 0)).set 6 (.slice none 0 0)).set 7 (.slice none 0 0)).set 8 (.bool false))).seeO (cs' := #[.int .i64 0, .int .i64 0, .int .u64 0, .int .u64 0, .int .i64 0, .int .u64 0, .slice none 0 0, .slice none 0 0, .bool false]) (by simp))
    have hend := PM.hid (hx.below hBB.out hgg.out hBB.out.size)
    clear hx k2 kt
    go_wp2_with fail
    generalize (((((((((w3.setCell ⟨g2, 0, none⟩ (.int .i64 0)).setCell ⟨g2, 1, none⟩ (.int .i64 0)).setCell ⟨g2, 2, none⟩ (.int .u64 0)).setCell ⟨g2, 3, none⟩ (.int .u64 0)).setCell ⟨g2, 4, none⟩ (.int .i64 0)).setCell ⟨g2, 5, none⟩ (.int .u64 0)).setCell ⟨g2, 6, none⟩ (.slice none 0 0)).setCell ⟨g2, 7, none⟩ (.slice none 0 0)).setCell ⟨g2, 8, none⟩ (.bool false)) = wf at *
    have q0 : wf.cell? ⟨g2, 0, none⟩ = some (.int .i64 0) := ZF.out.cell 0
    have q1 : wf.cell? ⟨g2, 1, none⟩ = some (.int .i64 0) := ZF.out.cell 1
    have q2 : wf.cell? ⟨g2, 2, none⟩ = some (.int .u64 0) := ZF.out.cell 2
    have q3 : wf.cell? ⟨g2, 3, none⟩ = some (.int .u64 0) := ZF.out.cell 3
    have q4 : wf.cell? ⟨g2, 4, none⟩ = some (.int .i64 0) := ZF.out.cell 4
    have q5 : wf.cell? ⟨g2, 5, none⟩ = some (.int .u64 0) := ZF.out.cell 5
    have q6 : wf.cell? ⟨g2, 6, none⟩ = some (.slice none 0 0) := ZF.out.cell 6
    have q7 : wf.cell? ⟨g2, 7, none⟩ = some (.slice none 0 0) := ZF.out.cell 7
    have q8 : wf.cell? ⟨g2, 8, none⟩ = some (.bool false) := ZF.out.cell 8
    refine bodyPost_ret (v := .tuple #[.agg #[.int .i64 0, .int .i64 0, .int .u64 0, .int .u64 0, .int .i64 0, .int .u64 0, .slice none 0 0, .slice none 0 0, .bool false], .bool false]) (by simp [results, Try.results10, go_sem, q0, q1, q2, q3, q4, q5, q6, q7, q8]) rfl ?_
    rw [hR2.out]
    exact ⟨[.int .i64 0, .int .i64 0, .int .u64 0, .int .u64 0, .int .i64 0, .int .u64 0, .slice none 0 0, .slice none 0 0, .bool false], rfl, ⟨_, _, rfl, PM.OM.nilrow _, PM.OR.nilrow _⟩, hend.out⟩
  · have hR2 : Hid (R = some y) := PM.hid (by rw [hRR.out, if_neg (by omega)]; simpa using hz)
    have hlt : k < ln := by rw [hlh.out.2.1]; exact (List.getElem?_eq_some_iff.1 hz).1
    have hzs := hlh.out.1 y (List.mem_of_getElem? hz)
    obtain ⟨b, off, rfl, hce⟩ := PM.RR.opn hlh.out.2.2 (by rw [← hlh.out.2.1]; omega)
    obtain ⟨cs, hl0, hR0⟩ := hce k y hz
    obtain ⟨fa, fc, ea, ec, hcs, hzf, hze⟩ := PM.txR_open hR0
    replace hl0 := hl0.keep hBB.out
    rw [hcs] at hl0
    obtain ⟨z, q⟩ := y
    simp only at hzf hze hzs
    obtain ⟨zF, hzF⟩ : ∃ P, P = z.fil.length := ⟨_, rfl⟩
    obtain ⟨zE, hzE⟩ : ∃ P, P = z.evs.length := ⟨_, rfl⟩
    rw [← hzF] at hzf
    rw [← hzE] at hze
    have d0 : w3.cell? ⟨b, off + k * 9, none⟩ = some (.int .i64 z.kind) := hl0 0 _ rfl
    have d1 : w3.cell? ⟨b, off + k * 9 + 1, none⟩ = some (.int .i64 z.id.br) := hl0 1 _ rfl
    have d2 : w3.cell? ⟨b, off + k * 9 + 2, none⟩ = some (.int .u64 (z.id.life : Int)) := hl0 2 _ rfl
    have d3 : w3.cell? ⟨b, off + k * 9 + 3, none⟩ = some (.int .u64 (z.id.ser : Int)) := hl0 3 _ rfl
    have d4 : w3.cell? ⟨b, off + k * 9 + 4, none⟩ = some (.int .i64 z.client) := hl0 4 _ rfl
    have d5 : w3.cell? ⟨b, off + k * 9 + 5, none⟩ = some (.int .u64 (z.sub : Int)) := hl0 5 _ rfl
    have d6 : w3.cell? ⟨b, off + k * 9 + 6, none⟩ = some (.slice fa zF fc) := by have := hl0 6 _ rfl; simpa [← hzF, ← hzE] using this
    have d7 : w3.cell? ⟨b, off + k * 9 + 7, none⟩ = some (.slice ea zE ec) := by have := hl0 7 _ rfl; simpa [← hzF, ← hzE] using this
    have d8 : w3.cell? ⟨b, off + k * 9 + 8, none⟩ = some (.bool q) := hl0 8 _ rfl
    have ht := ownTx_any z q fa zF fc ea zE ec w3 hzF hzE (hzf.keep hBB.out) (PM.EVL.keepO hBB.out hze) hzs.1
    have hk0 : ¬ (k : Int) < 0 := by omega
    clear hz hce hl0 hR0 hcs cs hzf hze hzF hzE hzs hRR hlh
    go_wp2_with fail
    refine ht.mono ?_
    clear ht d0 d1 d2 d3 d4 d5 d6 d7 d8
    rintro e w4 ⟨ua, uc, ta, tc, rfl, ho, hb4⟩
    have ho4 := PM.txO_mono hBB.out.size ho
    replace k2 := k2.keep hb4
    replace hBB := PM.hid (PM.chain hBB.out hb4)
    clear hb4 ho
    have z0 : w4.cell? ⟨g2, 0, none⟩ = some (.int .i64 0) := k2.cell 0
    have y0 : w4.frozen? ⟨g2, 0, none⟩ = false := k2.free 0
    have z1 : w4.cell? ⟨g2, 1, none⟩ = some (.int .i64 0) := k2.cell 1
    have y1 : w4.frozen? ⟨g2, 1, none⟩ = false := k2.free 1
    have z2 : w4.cell? ⟨g2, 2, none⟩ = some (.int .u64 0) := k2.cell 2
    have y2 : w4.frozen? ⟨g2, 2, none⟩ = false := k2.free 2
    have z3 : w4.cell? ⟨g2, 3, none⟩ = some (.int .u64 0) := k2.cell 3
    have y3 : w4.frozen? ⟨g2, 3, none⟩ = false := k2.free 3
    have z4 : w4.cell? ⟨g2, 4, none⟩ = some (.int .i64 0) := k2.cell 4
    have y4 : w4.frozen? ⟨g2, 4, none⟩ = false := k2.free 4
    have z5 : w4.cell? ⟨g2, 5, none⟩ = some (.int .u64 0) := k2.cell 5
    have y5 : w4.frozen? ⟨g2, 5, none⟩ = false := k2.free 5
    have z6 : w4.cell? ⟨g2, 6, none⟩ = some (.slice none 0 0) := k2.cell 6
    have y6 : w4.frozen? ⟨g2, 6, none⟩ = false := k2.free 6
    have z7 : w4.cell? ⟨g2, 7, none⟩ = some (.slice none 0 0) := k2.cell 7
    have y7 : w4.frozen? ⟨g2, 7, none⟩ = false := k2.free 7
    have z8 : w4.cell? ⟨g2, 8, none⟩ = some (.bool false) := k2.cell 8
    have y8 : w4.frozen? ⟨g2, 8, none⟩ = false := k2.free 8
    have hx : PM.Bx g2 w4 (((((((((w4.setCell ⟨g2, 0, none⟩ (.int .i64 z.kind)).setCell ⟨g2, 1, none⟩ (.int .i64 z.id.br)).setCell ⟨g2, 2, none⟩ (.int .u64 (z.id.life : Int))).setCell ⟨g2, 3, none⟩ (.int .u64 (z.id.ser : Int))).setCell ⟨g2, 4, none⟩ (.int .i64 z.client)).setCell ⟨g2, 5, none⟩ (.int .u64 (z.sub : Int))).setCell ⟨g2, 6, none⟩ (.slice ua zF uc)).setCell ⟨g2, 7, none⟩ (.slice ta zE tc)).setCell ⟨g2, 8, none⟩ (.bool q)) := ((((((((PM.Bx.set g2 0 _ _).trans (PM.Bx.set g2 1 _ _)).trans (PM.Bx.set g2 2 _ _)).trans (PM.Bx.set g2 3 _ _)).trans (PM.Bx.set g2 4 _ _)).trans (PM.Bx.set g2 5 _ _)).trans (PM.Bx.set g2 6 _ _)).trans (PM.Bx.set g2 7 _ _)).trans (PM.Bx.set g2 8 _ _)
    have kt := fun (T : TypeId) (hT : 39 ≠ T) => PM.KT.ofx hx k2 hT
    have ZF := PM.hid (((((((((((k2.set 0 (.int .i64 z.kind)).set 1 (.int .i64 z.id.br)).set 2 (.int .u64 (z.id.life : Int))).set 3 (.int .u64 (z.id.ser : Int))).set 4 (.int .i64 z.client)).set 5 (.int .u64 (z.sub : Int))).set 6 (.slice ua zF uc)).set 7 (.slice ta zE tc)).set 8 (.bool q))).seeO (cs' := #[.int .i64 z.kind, .int .i64 z.id.br, .int .u64 (z.id.life : Int), .int .u64 (z.id.ser : Int), .int .i64 z.client, .int .u64 (z.sub : Int), .slice ua zF uc, .slice ta zE tc, .bool q]) (by simp))
    have hend := PM.hid (And.intro (PM.txO_kt (kt _ (by decide)) (kt _ (by decide)) (kt _ (by decide)) _ _ ho4) (hx.below hBB.out hgg.out hBB.out.size))
    clear ho4
    clear hx k2 kt
    go_wp2_with fail
    generalize (((((((((w4.setCell ⟨g2, 0, none⟩ (.int .i64 z.kind)).setCell ⟨g2, 1, none⟩ (.int .i64 z.id.br)).setCell ⟨g2, 2, none⟩ (.int .u64 (z.id.life : Int))).setCell ⟨g2, 3, none⟩ (.int .u64 (z.id.ser : Int))).setCell ⟨g2, 4, none⟩ (.int .i64 z.client)).setCell ⟨g2, 5, none⟩ (.int .u64 (z.sub : Int))).setCell ⟨g2, 6, none⟩ (.slice ua zF uc)).setCell ⟨g2, 7, none⟩ (.slice ta zE tc)).setCell ⟨g2, 8, none⟩ (.bool q)) = wf at *
    have q0 : wf.cell? ⟨g2, 0, none⟩ = some (.int .i64 z.kind) := ZF.out.cell 0
    have q1 : wf.cell? ⟨g2, 1, none⟩ = some (.int .i64 z.id.br) := ZF.out.cell 1
    have q2 : wf.cell? ⟨g2, 2, none⟩ = some (.int .u64 (z.id.life : Int)) := ZF.out.cell 2
    have q3 : wf.cell? ⟨g2, 3, none⟩ = some (.int .u64 (z.id.ser : Int)) := ZF.out.cell 3
    have q4 : wf.cell? ⟨g2, 4, none⟩ = some (.int .i64 z.client) := ZF.out.cell 4
    have q5 : wf.cell? ⟨g2, 5, none⟩ = some (.int .u64 (z.sub : Int)) := ZF.out.cell 5
    have q6 : wf.cell? ⟨g2, 6, none⟩ = some (.slice ua zF uc) := ZF.out.cell 6
    have q7 : wf.cell? ⟨g2, 7, none⟩ = some (.slice ta zE tc) := ZF.out.cell 7
    have q8 : wf.cell? ⟨g2, 8, none⟩ = some (.bool q) := ZF.out.cell 8
    refine bodyPost_ret (v := .tuple #[.agg #[.int .i64 z.kind, .int .i64 z.id.br, .int .u64 (z.id.life : Int), .int .u64 (z.id.ser : Int), .int .i64 z.client, .int .u64 (z.sub : Int), .slice ua zF uc, .slice ta zE tc, .bool q], .bool true]) (by simp [results, Try.results10, go_sem, q0, q1, q2, q3, q4, q5, q6, q7, q8]) rfl ?_
    rw [hR2.out]
    exact ⟨[.int .i64 z.kind, .int .i64 z.id.br, .int .u64 (z.id.life : Int), .int .u64 (z.id.ser : Int), .int .i64 z.client, .int .u64 (z.sub : Int), .slice ua zF uc, .slice ta zE tc, .bool q], rfl, hend.out.1, hend.out.2⟩
set_option maxRecDepth 100000 in
set_option maxHeartbeats 8000000 in
theorem asks17_any (va : Option Addr) (N vc : Nat) (l : List PM.Tx) (w : World) (hv : PM.TxL w (.slice va N vc) l) (hl : PM.TxsS l) :
    Calls Try.prog 19 #[.slice va N vc] w fun e w' => ∃ u, e = .returned u ∧ PM.OR (PM.enO 93 64 29 w.heap.size) 8 34 w.heap.size w' u (PM.asksT l) ∧ Below w.heap.size w w' := by
  have hN : N = l.length := by obtain ⟨_, _, h⟩ := hv.len; injection h
  have hNh := PM.hid hN
  have hl1 := hl.1
  rw [← hN] at hl1
  have hvh := PM.hid hv
  have hsh := PM.hid hl.2
  clear hN hv hl
  go_enter Try.func19, Try.ntmps19
  go_wp2_with fail
  go_loopw [3, 8] (fun s i wr => ∃ k : Nat, i = .int .i64 k ∧ k ≤ N ∧ (∃ sa sn sc, s = .slice sa sn sc) ∧ Hid (PM.OR (PM.enO 93 64 29 w.heap.size) 8 34 w.heap.size wr s (PM.asksT (l.take k)) ∧ Below w.heap.size w wr)) (fun _ i _ => N - (intOf i).toNat)
  case atStart => exact ⟨0, rfl, by omega, ⟨_, _, _, rfl⟩, PM.hid ⟨PM.OR.nilrow _, Below.refl _ _⟩⟩
  case round =>
    obtain ⟨k, rfl, hk, ⟨sa, sn, sc, rfl⟩, hS⟩ := hrel
    have hB := hS.out.2
    have hsn : sn = (PM.asksT (l.take k)).length := by obtain ⟨_, _, h⟩ := hS.out.1.rr.len; injection h
    have hs4 := PM.asksT_len (l.take k)
    by_cases hlt : k < N
    · obtain ⟨y, hz⟩ : ∃ z, l[k]? = some z := ⟨l[k]'(by rw [← hNh.out]; exact hlt), List.getElem?_eq_getElem _⟩
      obtain ⟨b, off, rfl, hce⟩ := PM.RR.opn hvh.out (by rw [← hNh.out]; omega)
      obtain ⟨cs, hl0, hR⟩ := hce k y hz
      obtain ⟨fa, fc, ea, ec, hcs, hzf, hze⟩ := PM.txR_open hR
      replace hl0 := hl0.keep hB
      rw [hcs] at hl0
      obtain ⟨z, q⟩ := y
      simp only at hzf hze
      obtain ⟨zF, hzF⟩ : ∃ P, P = z.fil.length := ⟨_, rfl⟩
      obtain ⟨zE, hzE⟩ : ∃ P, P = z.evs.length := ⟨_, rfl⟩
      rw [← hzF] at hzf
      rw [← hzE] at hze
      have d0 : wr.cell? ⟨b, off + k * 9, none⟩ = some (.int .i64 z.kind) := hl0 0 _ rfl
      have d1 : wr.cell? ⟨b, off + k * 9 + 1, none⟩ = some (.int .i64 z.id.br) := hl0 1 _ rfl
      have d2 : wr.cell? ⟨b, off + k * 9 + 2, none⟩ = some (.int .u64 (z.id.life : Int)) := hl0 2 _ rfl
      have d3 : wr.cell? ⟨b, off + k * 9 + 3, none⟩ = some (.int .u64 (z.id.ser : Int)) := hl0 3 _ rfl
      have d4 : wr.cell? ⟨b, off + k * 9 + 4, none⟩ = some (.int .i64 z.client) := hl0 4 _ rfl
      have d5 : wr.cell? ⟨b, off + k * 9 + 5, none⟩ = some (.int .u64 (z.sub : Int)) := hl0 5 _ rfl
      have d6 : wr.cell? ⟨b, off + k * 9 + 6, none⟩ = some (.slice fa zF fc) := by have := hl0 6 _ rfl; simpa [← hzF, ← hzE] using this
      have d7 : wr.cell? ⟨b, off + k * 9 + 7, none⟩ = some (.slice ea zE ec) := by have := hl0 7 _ rfl; simpa [← hzF, ← hzE] using this
      have d8 : wr.cell? ⟨b, off + k * 9 + 8, none⟩ = some (.bool q) := hl0 8 _ rfl
      have hzh := PM.hid hz
      clear hz hce hl0 hR hcs cs
      have hzs := hsh.out _ (List.mem_of_getElem? hzh.out)
      have hen : Hid (∀ W : World, Below w.heap.size w W → Calls Try.prog 45 #[.agg #[.int .i64 z.kind, .int .i64 z.id.br, .int .u64 (z.id.life : Int), .int .u64 (z.id.ser : Int), .int .i64 z.client, .int .u64 (z.sub : Int), .slice fa zF fc, .slice ea zE ec]] W fun e w' => ∃ ua uc ta tc, e = .returned (.agg #[.int .i64 z.kind, .int .i64 z.id.br, .int .u64 (z.id.life : Int), .int .u64 (z.id.ser : Int), .int .i64 z.client, .int .u64 (z.sub : Int), .slice ua zF uc, .slice ta zE tc]) ∧ PM.enO 93 64 29 W.heap.size w' [.int .i64 z.kind, .int .i64 z.id.br, .int .u64 (z.id.life : Int), .int .u64 (z.id.ser : Int), .int .i64 z.client, .int .u64 (z.sub : Int), .slice ua zF uc, .slice ta zE tc] z ∧ Below W.heap.size W w') := PM.hid fun W hb => by
        rw [hzF, hzE]
        exact ownEn_any z _ _ W (by rw [← hzF]; exact hzf.keep hb) (by rw [← hzE]; exact PM.EVL.keepO hb hze) hzs.1
      have hat := PM.asksT_at hzh.out
      unfold PM.askS at hat
      simp only [← hsn] at hat
      replace hat := PM.hid hat
      rw [← hsn] at hs4
      have hsnh := PM.hid hsn
      clear hzf hze hzF hzE hzs hB hsn
      go_upto_region 5 with fail
      obtain ⟨gx, hgx⟩ : ∃ g, g = wr.heap.size := ⟨_, rfl⟩
      obtain ⟨w3, hw3⟩ : ∃ W, W = wr.alloc (.cells #[.int .i64 z.kind, .int .i64 z.id.br, .int .u64 (z.id.life : Int), .int .u64 (z.id.ser : Int), .int .i64 z.client, .int .u64 (z.sub : Int), .slice fa zF fc, .slice ea zE ec, .bool q] 39) := ⟨_, rfl⟩
      have hBn : Below wr.heap.size wr w3 := by rw [hw3]; exact (Below.refl _ _).alloc (Nat.le_refl _) _
      have kx : PM.BK w3 gx #[.int .i64 z.kind, .int .i64 z.id.br, .int .u64 (z.id.life : Int), .int .u64 (z.id.ser : Int), .int .i64 z.client, .int .u64 (z.sub : Int), .slice fa zF fc, .slice ea zE ec, .bool q] 39 := by rw [hw3, hgx]; exact PM.BK.new _ _ _
      rw [← hw3, ← hgx]
      clear hw3 hgx
      clear d0 d1 d2 d3 d4 d5 d6 d7 d8
      have hBw := PM.hid (PM.chain hS.out.2 hBn)
      have hr3 := PM.OR.keep PM.enO_lasts hBn hS.out.1
      clear hBn hS
      have x0 : w3.cell? ⟨gx, 0, none⟩ = some (.int .i64 z.kind) := kx.cell 0
      have x1 : w3.cell? ⟨gx, 1, none⟩ = some (.int .i64 z.id.br) := kx.cell 1
      have x2 : w3.cell? ⟨gx, 2, none⟩ = some (.int .u64 (z.id.life : Int)) := kx.cell 2
      have x3 : w3.cell? ⟨gx, 3, none⟩ = some (.int .u64 (z.id.ser : Int)) := kx.cell 3
      have x4 : w3.cell? ⟨gx, 4, none⟩ = some (.int .i64 z.client) := kx.cell 4
      have x5 : w3.cell? ⟨gx, 5, none⟩ = some (.int .u64 (z.sub : Int)) := kx.cell 5
      have x6 : w3.cell? ⟨gx, 6, none⟩ = some (.slice fa zF fc) := kx.cell 6
      have x7 : w3.cell? ⟨gx, 7, none⟩ = some (.slice ea zE ec) := kx.cell 7
      have x8 : w3.cell? ⟨gx, 8, none⟩ = some (.bool q) := kx.cell 8
      clear kx
      cases q
      · have hat2 : Hid (PM.asksT (l.take (k + 1)) = PM.asksT (l.take k)) := PM.hid (by rw [hat.out]; simp)
        replace hr3 := PM.hid hr3
        clear hat hen
        go_wp2_with fail
        exact ⟨⟨k + 1, by go_num, by omega, ⟨_, _, _, rfl⟩, PM.hid ⟨by rw [hat2.out]; exact hr3.out, hBw.out⟩⟩, by simp only [intOf]; omega⟩
      by_cases hc4 : sn < 4
      · have q4 : (sn : Int) < 4 := by omega
        have hd4 : decide ((sn : Int) < 4) = true := by simpa using q4
        have hat2 : Hid (PM.asksT (l.take (k + 1)) = PM.asksT (l.take k) ++ [z]) := PM.hid (by rw [hat.out]; simp [hc4])
        have ht := hen.out w3 hBw.out
        clear hat hen
        go_wp2_with fail
        refine ht.mono ?_
        clear ht x0 x1 x2 x3 x4 x5 x6 x7 x8
        rintro e w5 ⟨ua, uc, ta, tc, rfl, hRy, hBn⟩
        replace hRy := PM.enO_mono hBw.out.size hRy
        have hr5 := PM.OR.keep PM.enO_lasts hBn hr3
        have hB5h := PM.hid (PM.chain hBw.out hBn)
        have hl16 : ((PM.asksT (l.take k)).length + 1) * 96 ≤ 140737488355328 := by rw [← hsnh.out]; omega
        have hl17 : (PM.asksT (l.take k)).length + 1 ≤ maxLen := by rw [← hsnh.out]; unfold maxLen; omega
        have hsz := hB5h.out.size
        clear hBn hr3
        go_wp2_with (at_builtin; go_loud (refine PM.wpList_or1 tyEnO (PM.enO_stays (by decide) (by decide) (by decide)) PM.enO_lasts w.heap.size w5 rfl _ _ rfl _ (PM.asksT (l.take k)) z (PM.enCe z ua zF uc ta zE tc) _ rfl rfl rfl rfl hRy hr5 hl16 hl17 hsz ?_); intro v' w' t1 t2 t3; have hE := PM.hid (And.intro t1 (hB5h.out.trans t2)); clear t1 t2 t3 hr5 hRy hsz)
        obtain ⟨ra2, rc2, hre2⟩ := hE.out.1.rr.len
        have hnx : Hid (PM.OR (PM.enO 93 64 29 w.heap.size) 8 34 w.heap.size w' v' (PM.asksT (l.take (k + 1))) ∧ Below w.heap.size w w') := PM.hid ⟨by rw [hat2.out]; exact hE.out.1, hE.out.2⟩
        subst hre2
        exact ⟨⟨k + 1, by go_num, by omega, ⟨_, _, _, rfl⟩, hnx⟩, by simp only [intOf]; omega⟩
      · have q4 : ¬ (sn : Int) < 4 := by omega
        have hd4 : decide ((sn : Int) < 4) = false := by simpa using q4
        have hat2 : Hid (PM.asksT (l.take (k + 1)) = PM.asksT (l.take k)) := PM.hid (by rw [hat.out]; simp [hc4])
        replace hr3 := PM.hid hr3
        clear hat hen
        go_wp2_with fail
        exact ⟨⟨k + 1, by go_num, by omega, ⟨_, _, _, rfl⟩, PM.hid ⟨by rw [hat2.out]; exact hr3.out, hBw.out⟩⟩, by simp only [intOf]; omega⟩
    · obtain rfl : k = N := by omega
      clear hB
      go_wp2_with fail
      go_ret
      exact ⟨_, rfl, by have := hS.out.1; have h9 : l.take k = l := (by rw [hNh.out]; exact List.take_length); rwa [h9] at this, hS.out.2⟩
end Go.Proofs.Ytnjcociidipogaa
