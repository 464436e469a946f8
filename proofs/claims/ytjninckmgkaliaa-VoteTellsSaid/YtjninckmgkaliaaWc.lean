/-
  CONTRACTS OF vote.Ends.
-/
import Derived.Test.YtjninckmgkaliaaWb
namespace Go.Proofs.Ytjninckmgkaliaa
open Go.RowKit
set_option linter.unusedVariables false
set_option linter.unusedSimpArgs false
namespace PM
def en1 (k : Id → Bool) (out : List Id) (v : Vo) : List Id := if out.length = 16 then out else if k v.id || hasI out v.id then out else out ++ [v.id]
/-- what is ended -/
def endsL (k : Id → Bool) (vs : List Vo) : List Id := vs.foldl (en1 k) []
theorem endsL_snoc {k : Id → Bool} {vs : List Vo} {j : Nat} {v : Vo} (h : vs[j]? = some v) : endsL k (vs.take (j + 1)) = en1 k (endsL k (vs.take j)) v := by
  unfold endsL
  rw [take_at h, List.foldl_append]
  rfl
theorem en1_full {k : Id → Bool} {out : List Id} (h : out.length = 16) : ∀ vs : List Vo, vs.foldl (en1 k) out = out
  | [] => rfl
  | v :: vs => by
    rw [List.foldl_cons, show en1 k out v = out from by unfold en1; rw [if_pos h]]
    exact en1_full h vs
theorem endsL_full {k : Id → Bool} {vs : List Vo} {j : Nat} (h : (endsL k (vs.take j)).length = 16) : endsL k vs = endsL k (vs.take j) := by
  have : endsL k vs = (vs.drop j).foldl (en1 k) (endsL k (vs.take j)) := by
    unfold endsL
    rw [← List.foldl_append, List.take_append_drop]
  rw [this, en1_full h]
theorem en1_skip {k : Id → Bool} {out : List Id} {v : Vo} (h : (k v.id || hasI out v.id) = true) : en1 k out v = out := by
  unfold en1
  split
  · rfl
  · rfl
theorem en1_add {k : Id → Bool} {out : List Id} {v : Vo} (h0 : ¬ out.length = 16) (h : (k v.id || hasI out v.id) = false) : en1 k out v = out ++ [v.id] := by
  unfold en1
  rw [if_neg h0, if_neg (by rw [h]; decide)]
theorem en1_le {k : Id → Bool} {out : List Id} {v : Vo} (h : out.length ≤ 16) : (en1 k out v).length ≤ 16 := by
  unfold en1
  split
  · omega
  · split
    · omega
    · simp; omega
theorem endsL_le (k : Id → Bool) : ∀ (vs : List Vo) (out : List Id), out.length ≤ 16 → (vs.foldl (en1 k) out).length ≤ 16
  | [], out, h => h
  | v :: vs, out, h => endsL_le k vs _ (en1_le h)
end PM
set_option maxRecDepth 100000 in
theorem ends11_any (kd cl : Int) (i0 : PM.Id) (sub : Nat) (fa : Option Addr) (fl fc : Nat) (ea : Option Addr) (el ec : Nat) (i : PM.Id) (b : Nat) (w : World)
    (h0 : w.cell? ⟨b, 0, none⟩ = some (.int .i64 i.br)) (h1 : w.cell? ⟨b, 1, none⟩ = some (.int .u64 (i.life : Int))) (h2 : w.cell? ⟨b, 2, none⟩ = some (.int .u64 (i.ser : Int))) :
    Calls Try.prog 38 #[.agg #[.int .i64 kd, .int .i64 i0.br, .int .u64 (i0.life : Int), .int .u64 (i0.ser : Int), .int .i64 cl, .int .u64 (sub : Int), .slice fa fl fc, .slice ea el ec], .pointer (some ⟨b, 0, none⟩)] w fun e w' => e = .returned (.bool (decide (i0 = i))) ∧ Below w.heap.size w w' := by
  have a0 : ∀ o, (w.alloc o).cell? ⟨b, 0, none⟩ = some (.int .i64 i.br) := fun o => PM.cellA ((Below.refl _ _).alloc (Nat.le_refl _) o) h0
  have a1 : ∀ o, (w.alloc o).cell? ⟨b, 1, none⟩ = some (.int .u64 (i.life : Int)) := fun o => PM.cellA ((Below.refl _ _).alloc (Nat.le_refl _) o) h1
  have a2 : ∀ o, (w.alloc o).cell? ⟨b, 2, none⟩ = some (.int .u64 (i.ser : Int)) := fun o => PM.cellA ((Below.refl _ _).alloc (Nat.le_refl _) o) h2
  have hq := ideq_run i0 i
  obtain ⟨ib, il, ir⟩ := i
  obtain ⟨jb, jl, jr⟩ := i0
  simp only at hq a0 a1 a2 ⊢
  clear h0 h1 h2
  go_enter Try.func38, Try.ntmps38
  go_wp2
  go_ret
  exact ⟨by rw [PM.id_eq]; rfl, by go_grown⟩
theorem ends11_tells (i : PM.Id) (b : Nat) (w : World)
    (h0 : w.cell? ⟨b, 0, none⟩ = some (.int .i64 i.br)) (h1 : w.cell? ⟨b, 1, none⟩ = some (.int .u64 (i.life : Int))) (h2 : w.cell? ⟨b, 2, none⟩ = some (.int .u64 (i.ser : Int))) :
    PM.TellsE Try.prog 38 b (PM.isId i) w := fun x fa fl fc ea el ec W hb =>
  ends11_any x.kind x.client x.id x.sub fa fl fc ea el ec i b W (PM.cellA hb h0) (PM.cellA hb h1) (PM.cellA hb h2)
set_option maxRecDepth 100000 in
set_option maxHeartbeats 4000000 in
theorem ends1_any (lf : Nat) (a0 : Option Addr) (n0 c0 : Nat) (a1 : Option Addr) (n1 c1 : Nat) (a2 : Option Addr) (n2 c2 : Nat) (ao : Option Addr) (no co : Nat) (ar : Option Addr) (nr cr : Nat) (i : PM.Id) (ls ps op : List PM.En) (out : List PM.Id) (g1 g2 g4 : Nat) (w : World) (h0 : PM.EnL w (.slice a0 n0 c0) ls) (h1 : PM.EnL w (.slice a1 n1 c1) ps) (h2 : PM.EnL w (.slice ao no co) op) (h3 : PM.EM PM.idL 3 w (.slice ar nr cr) out)
    (k1 : PM.BK w g1 #[.int .u64 (lf : Int), .slice a0 n0 c0, .slice a1 n1 c1, .slice a2 n2 c2] 27) (k2 : PM.BK w g2 #[.slice ao no co] 24) (k4 : PM.BK w g4 #[.slice ar nr cr] 25) :
    Calls Try.prog 35 #[.agg #[.int .i64 i.br, .int .u64 (i.life : Int), .int .u64 (i.ser : Int)], .pointer (some ⟨g1, 0, none⟩), .pointer (some ⟨g4, 0, none⟩), .pointer (some ⟨g2, 0, none⟩)] w fun e w' => e = .returned (.bool (PM.hasE ls i || PM.hasE ps i || PM.hasI out i || PM.hasE op i)) ∧ Below w.heap.size w w' := by
  obtain ⟨gi, hgi⟩ : ∃ g, g = w.heap.size := ⟨_, rfl⟩
  obtain ⟨w1, hw1⟩ : ∃ W, W = w.alloc (.cells #[.int .i64 i.br, .int .u64 (i.life : Int), .int .u64 (i.ser : Int)] 30) := ⟨_, rfl⟩
  have hal : Below w.heap.size w w1 := by rw [hw1]; exact (Below.refl _ _).alloc (Nat.le_refl _) _
  have ki : PM.BK w1 gi #[.int .i64 i.br, .int .u64 (i.life : Int), .int .u64 (i.ser : Int)] 30 := by rw [hw1, hgi]; exact PM.BK.new _ _ _
  replace k1 := k1.keep hal
  replace k2 := k2.keep hal
  replace k4 := k4.keep hal
  have f1 := PM.hid fun (W : World) (hb : Below w.heap.size w W) => hasS_any lf a0 n0 c0 a1 n1 c1 a2 n2 c2 i ls W (PM.EnL.keep h0 hb)
  have f2 := PM.hid fun (W : World) (hb : Below w.heap.size w W) => promS_any lf a0 n0 c0 a1 n1 c1 a2 n2 c2 i ps W (PM.EnL.keep h1 hb)
  have f3 := PM.hid fun (W : World) (hb : Below w.heap.size w W) => contI_any _ i out W (h3.keep hb)
  have f4 := PM.hid fun (W : World) (hb : Below w1.heap.size w1 W) => contE_ends (PM.isId i) (.slice ao no co) gi op W (PM.EnL.keep h2 (PM.chain hal hb)) (ends11_tells i gi W (PM.cellA hb (ki.cell 0)) (PM.cellA hb (ki.cell 1)) (PM.cellA hb (ki.cell 2)))
  have hall := PM.hid hal
  have hOp : Hid (op.any (PM.isId i) = PM.hasE op i) := PM.hid rfl
  have hIn : Hid ((out.any fun x => decide (i = x)) = PM.hasI out i) := PM.hid rfl
  have hBB := PM.hid (Below.refl w1.heap.size w1)
  clear h0 h1 h2 h3 hal
  obtain ⟨ib, il, ir⟩ := i
  simp only at f1 f2 f3 f4 hw1 ki
  go_enter Try.func35, Try.ntmps35
  go_upto_region 1 with fail
  rw [← hw1, ← hgi]
  clear hw1 hgi
  have x0 : w1.cell? ⟨g1, 0, none⟩ = some (.int .u64 (lf : Int)) := k1.cell 0
  have x1 : w1.cell? ⟨g1, 1, none⟩ = some (.slice a0 n0 c0) := k1.cell 1
  have x2 : w1.cell? ⟨g1, 2, none⟩ = some (.slice a1 n1 c1) := k1.cell 2
  have x3 : w1.cell? ⟨g1, 3, none⟩ = some (.slice a2 n2 c2) := k1.cell 3
  have y0 : w1.cell? ⟨gi, 0, none⟩ = some (.int .i64 ib) := ki.cell 0
  have y1 : w1.cell? ⟨gi, 1, none⟩ = some (.int .u64 (il : Int)) := ki.cell 1
  have y2 : w1.cell? ⟨gi, 2, none⟩ = some (.int .u64 (ir : Int)) := ki.cell 2
  have o0 : w1.cell? ⟨g2, 0, none⟩ = some (.slice ao no co) := k2.cell 0
  have r0 : w1.cell? ⟨g4, 0, none⟩ = some (.slice ar nr cr) := k4.cell 0
  go_wp2_with fail
  refine (f1.out w1 (PM.chain hall.out hBB.out)).mono ?_
  rintro e w2 ⟨rfl, hBn⟩
  clear x0 x1 x2 x3 y0 y1 y2 o0 r0
  replace k1 := k1.keep hBn
  replace k2 := k2.keep hBn
  replace k4 := k4.keep hBn
  replace ki := ki.keep hBn
  replace hBB := PM.hid (PM.chain hBB.out hBn)
  clear hBn
  cases e1 : PM.hasE ls ⟨ib, il, ir⟩
  case true =>
    have e1h := PM.hid e1
    clear e1 k1 k2 k4 ki
    go_wp2_with fail
    go_ret
    exact ⟨by rw [e1h.out]; rfl, PM.chain hall.out hBB.out⟩
  have e1h := PM.hid e1
  clear e1
  have x0 : w2.cell? ⟨g1, 0, none⟩ = some (.int .u64 (lf : Int)) := k1.cell 0
  have x1 : w2.cell? ⟨g1, 1, none⟩ = some (.slice a0 n0 c0) := k1.cell 1
  have x2 : w2.cell? ⟨g1, 2, none⟩ = some (.slice a1 n1 c1) := k1.cell 2
  have x3 : w2.cell? ⟨g1, 3, none⟩ = some (.slice a2 n2 c2) := k1.cell 3
  have y0 : w2.cell? ⟨gi, 0, none⟩ = some (.int .i64 ib) := ki.cell 0
  have y1 : w2.cell? ⟨gi, 1, none⟩ = some (.int .u64 (il : Int)) := ki.cell 1
  have y2 : w2.cell? ⟨gi, 2, none⟩ = some (.int .u64 (ir : Int)) := ki.cell 2
  have o0 : w2.cell? ⟨g2, 0, none⟩ = some (.slice ao no co) := k2.cell 0
  have r0 : w2.cell? ⟨g4, 0, none⟩ = some (.slice ar nr cr) := k4.cell 0
  go_wp2_with fail
  refine (f2.out w2 (PM.chain hall.out hBB.out)).mono ?_
  rintro e w3 ⟨rfl, hBn⟩
  clear x0 x1 x2 x3 y0 y1 y2 o0 r0
  replace k1 := k1.keep hBn
  replace k2 := k2.keep hBn
  replace k4 := k4.keep hBn
  replace ki := ki.keep hBn
  replace hBB := PM.hid (PM.chain hBB.out hBn)
  clear hBn
  cases e2 : PM.hasE ps ⟨ib, il, ir⟩
  case true =>
    have e2h := PM.hid e2
    clear e2 k1 k2 k4 ki
    go_wp2_with fail
    go_ret
    exact ⟨by rw [e1h.out, e2h.out]; rfl, PM.chain hall.out hBB.out⟩
  have e2h := PM.hid e2
  clear e2
  have x0 : w3.cell? ⟨g1, 0, none⟩ = some (.int .u64 (lf : Int)) := k1.cell 0
  have x1 : w3.cell? ⟨g1, 1, none⟩ = some (.slice a0 n0 c0) := k1.cell 1
  have x2 : w3.cell? ⟨g1, 2, none⟩ = some (.slice a1 n1 c1) := k1.cell 2
  have x3 : w3.cell? ⟨g1, 3, none⟩ = some (.slice a2 n2 c2) := k1.cell 3
  have y0 : w3.cell? ⟨gi, 0, none⟩ = some (.int .i64 ib) := ki.cell 0
  have y1 : w3.cell? ⟨gi, 1, none⟩ = some (.int .u64 (il : Int)) := ki.cell 1
  have y2 : w3.cell? ⟨gi, 2, none⟩ = some (.int .u64 (ir : Int)) := ki.cell 2
  have o0 : w3.cell? ⟨g2, 0, none⟩ = some (.slice ao no co) := k2.cell 0
  have r0 : w3.cell? ⟨g4, 0, none⟩ = some (.slice ar nr cr) := k4.cell 0
  go_wp2_with fail
  refine (f3.out w3 (PM.chain hall.out hBB.out)).mono ?_
  rintro e w4 ⟨rfl, hBn⟩
  clear x0 x1 x2 x3 y0 y1 y2 o0 r0
  replace k1 := k1.keep hBn
  replace k2 := k2.keep hBn
  replace k4 := k4.keep hBn
  replace ki := ki.keep hBn
  replace hBB := PM.hid (PM.chain hBB.out hBn)
  clear hBn
  rw [hIn.out]
  cases e3 : PM.hasI out ⟨ib, il, ir⟩
  case true =>
    have e3h := PM.hid e3
    clear e3 k1 k2 k4 ki
    go_wp2_with fail
    go_ret
    exact ⟨by rw [e1h.out, e2h.out, e3h.out]; rfl, PM.chain hall.out hBB.out⟩
  have e3h := PM.hid e3
  clear e3
  have x0 : w4.cell? ⟨g1, 0, none⟩ = some (.int .u64 (lf : Int)) := k1.cell 0
  have x1 : w4.cell? ⟨g1, 1, none⟩ = some (.slice a0 n0 c0) := k1.cell 1
  have x2 : w4.cell? ⟨g1, 2, none⟩ = some (.slice a1 n1 c1) := k1.cell 2
  have x3 : w4.cell? ⟨g1, 3, none⟩ = some (.slice a2 n2 c2) := k1.cell 3
  have y0 : w4.cell? ⟨gi, 0, none⟩ = some (.int .i64 ib) := ki.cell 0
  have y1 : w4.cell? ⟨gi, 1, none⟩ = some (.int .u64 (il : Int)) := ki.cell 1
  have y2 : w4.cell? ⟨gi, 2, none⟩ = some (.int .u64 (ir : Int)) := ki.cell 2
  have o0 : w4.cell? ⟨g2, 0, none⟩ = some (.slice ao no co) := k2.cell 0
  have r0 : w4.cell? ⟨g4, 0, none⟩ = some (.slice ar nr cr) := k4.cell 0
  go_wp2_with fail
  refine (f4.out w4 (hBB.out)).mono ?_
  rintro e w5 ⟨rfl, hBn⟩
  clear x0 x1 x2 x3 y0 y1 y2 o0 r0
  replace k1 := k1.keep hBn
  replace k2 := k2.keep hBn
  replace k4 := k4.keep hBn
  replace ki := ki.keep hBn
  replace hBB := PM.hid (PM.chain hBB.out hBn)
  clear hBn
  rw [hOp.out]
  clear k1 k2 k4 ki
  go_wp2_with fail
  go_ret
  exact ⟨by rw [e1h.out, e2h.out, e3h.out]; rfl, PM.chain hall.out hBB.out⟩
set_option maxRecDepth 100000 in
set_option maxHeartbeats 8000000 in
theorem ends_any (lf : Nat) (a0 : Option Addr) (n0 c0 : Nat) (a1 : Option Addr) (n1 c1 : Nat) (a2 : Option Addr) (n2 c2 : Nat) (ao : Option Addr) (no co : Nat) (mk : Int) (mh : Nat) (ma0 : Option Addr) (mn0 mc0 : Nat) (ma1 : Option Addr) (mn1 mc1 : Nat) (ma2 : Option Addr) (mn2 mc2 : Nat) (ma3 : Option Addr) (mn3 mc3 : Nat) (ma4 : Option Addr) (mn4 mc4 : Nat) (ma5 : Option Addr) (mn5 mc5 : Nat) (ls ps op : List PM.En) (vs : List PM.Vo) (w : World) (h0 : PM.EnL w (.slice a0 n0 c0) ls) (h1 : PM.EnL w (.slice a1 n1 c1) ps) (h2 : PM.EnL w (.slice ao no co) op) (h3 : PM.EM PM.voL 4 w (.slice ma0 mn0 mc0) vs) :
    Calls Try.prog 18 #[.agg #[.int .u64 (lf : Int), .slice a0 n0 c0, .slice a1 n1 c1, .slice a2 n2 c2], .slice ao no co, .agg #[.int .i64 mk, .int .u64 (mh : Int), .slice ma0 mn0 mc0, .slice ma1 mn1 mc1, .slice ma2 mn2 mc2, .slice ma3 mn3 mc3, .slice ma4 mn4 mc4, .slice ma5 mn5 mc5]] w fun e w' => ∃ u, e = .returned u ∧ PM.OM PM.idL 3 30 w.heap.size w' u (PM.endsL (fun i => PM.hasE ls i || PM.hasE ps i || PM.hasE op i) vs) ∧ Below w.heap.size w w' := by
  obtain ⟨KN, hKNd⟩ : ∃ f : PM.Id → Bool, f = (fun i => PM.hasE ls i || PM.hasE ps i || PM.hasE op i) := ⟨_, rfl⟩
  rw [← hKNd]
  have hKNe : ∀ i, KN i = (PM.hasE ls i || PM.hasE ps i || PM.hasE op i) := fun i => by rw [hKNd]
  clear hKNd
  replace hKNe := PM.hid hKNe
  have hmn : mn0 = vs.length := by
    obtain ⟨a, c, h⟩ := h3.len
    injection h
  obtain ⟨N, hN⟩ : ∃ N, N = vs.length := ⟨_, rfl⟩
  have hbd := h3.bound
  unfold maxLen at hbd
  rw [← hN] at hmn hbd
  subst hmn
  have hNh := PM.hid hN
  clear hN
  obtain ⟨g1, hg1⟩ : ∃ g, g = w.heap.size := ⟨_, rfl⟩
  obtain ⟨g2, hg2⟩ : ∃ g, g = w.heap.size + 1 := ⟨_, rfl⟩
  obtain ⟨g3, hg3⟩ : ∃ g, g = w.heap.size + 1 + 1 := ⟨_, rfl⟩
  obtain ⟨g4, hg4⟩ : ∃ g, g = w.heap.size + 1 + 1 + 1 := ⟨_, rfl⟩
  obtain ⟨w1, hw1⟩ : ∃ W, W = w.alloc (.cells #[.int .u64 (lf : Int), .slice a0 n0 c0, .slice a1 n1 c1, .slice a2 n2 c2] 27) := ⟨_, rfl⟩
  obtain ⟨w2, hw2⟩ : ∃ W, W = w1.alloc (.cells #[.slice ao no co] 24) := ⟨_, rfl⟩
  obtain ⟨w3, hw3⟩ : ∃ W, W = w2.alloc (.cells #[.int .i64 mk, .int .u64 (mh : Int), .slice ma0 mn0 mc0, .slice ma1 mn1 mc1, .slice ma2 mn2 mc2, .slice ma3 mn3 mc3, .slice ma4 mn4 mc4, .slice ma5 mn5 mc5] 41) := ⟨_, rfl⟩
  obtain ⟨w4, hw4⟩ : ∃ W, W = w3.alloc (.cells #[.slice none 0 0] 25) := ⟨_, rfl⟩
  have s1 : w1.heap.size = w.heap.size + 1 := by rw [hw1]; simp
  have s2 : w2.heap.size = w.heap.size + 1 + 1 := by rw [hw2]; simp [s1]
  have s3 : w3.heap.size = w.heap.size + 1 + 1 + 1 := by rw [hw3]; simp [s2]
  have b1 : Below w.heap.size w w1 := by rw [hw1]; exact (Below.refl _ _).alloc (Nat.le_refl _) _
  have b2 : Below w1.heap.size w1 w2 := by rw [hw2]; exact (Below.refl _ _).alloc (Nat.le_refl _) _
  have b3 : Below w2.heap.size w2 w3 := by rw [hw3]; exact (Below.refl _ _).alloc (Nat.le_refl _) _
  have b4 : Below w3.heap.size w3 w4 := by rw [hw4]; exact (Below.refl _ _).alloc (Nat.le_refl _) _
  have k1 : PM.BK w1 g1 #[.int .u64 (lf : Int), .slice a0 n0 c0, .slice a1 n1 c1, .slice a2 n2 c2] 27 := by rw [hw1, hg1]; exact PM.BK.new _ _ _
  have k2 : PM.BK w2 g2 #[.slice ao no co] 24 := by rw [hw2, hg2, ← s1]; exact PM.BK.new _ _ _
  have k3 : PM.BK w3 g3 #[.int .i64 mk, .int .u64 (mh : Int), .slice ma0 mn0 mc0, .slice ma1 mn1 mc1, .slice ma2 mn2 mc2, .slice ma3 mn3 mc3, .slice ma4 mn4 mc4, .slice ma5 mn5 mc5] 41 := by rw [hw3, hg3, ← s2]; exact PM.BK.new _ _ _
  have k4 : PM.BK w4 g4 #[.slice none 0 0] 25 := by rw [hw4, hg4, ← s3]; exact PM.BK.new _ _ _
  have hks := PM.hid (And.intro (((k1.keep b2).keep b3).keep b4) (And.intro ((k2.keep b3).keep b4) (And.intro (k3.keep b4) k4)))
  have hBB := PM.hid (PM.chain (PM.chain (PM.chain b1 b2) b3) b4)
  have hnes : Hid (g1 ≠ g4 ∧ g2 ≠ g4 ∧ w.heap.size ≤ g4) := PM.hid ⟨by omega, by omega, by omega⟩
  have hS := PM.hid (And.intro h0 (And.intro h1 h2))
  have hvs := PM.hid h3
  clear h0 h1 h2 h3 b1 b2 b3 b4 k1 k2 k3 k4
  go_enter Try.func18, Try.ntmps18
  go_upto_region 1 with fail
  go_step3
  go_upto_region 2 with fail
  rw [← hw1, ← hw2, ← hw3, ← hw4, ← hg4, ← hg3, ← hg2, ← hg1]
  clear hw1 hw2 hw3 hw4 hg1 hg2 hg3 hg4 s1 s2 s3
  have m0 : w4.cell? ⟨g3, 0, none⟩ = some (.int .i64 mk) := hks.out.2.2.1.cell 0
  have m1 : w4.cell? ⟨g3, 1, none⟩ = some (.int .u64 (mh : Int)) := hks.out.2.2.1.cell 1
  have m2 : w4.cell? ⟨g3, 2, none⟩ = some (.slice ma0 mn0 mc0) := hks.out.2.2.1.cell 2
  have m3 : w4.cell? ⟨g3, 3, none⟩ = some (.slice ma1 mn1 mc1) := hks.out.2.2.1.cell 3
  have m4 : w4.cell? ⟨g3, 4, none⟩ = some (.slice ma2 mn2 mc2) := hks.out.2.2.1.cell 4
  have m5 : w4.cell? ⟨g3, 5, none⟩ = some (.slice ma3 mn3 mc3) := hks.out.2.2.1.cell 5
  have m6 : w4.cell? ⟨g3, 6, none⟩ = some (.slice ma4 mn4 mc4) := hks.out.2.2.1.cell 6
  have m7 : w4.cell? ⟨g3, 7, none⟩ = some (.slice ma5 mn5 mc5) := hks.out.2.2.1.cell 7
  go_wp2_with fail
  go_step3
  go_wp2_with fail
  clear m0 m1 m2 m3 m4 m5 m6 m7
  go_loopw [15] (fun i wr => ∃ (k : Nat) (v : Value), i = .int .i64 k ∧ k ≤ mn0 ∧ Hid (PM.OM PM.idL 3 30 w.heap.size wr v (PM.endsL KN (vs.take k)) ∧ PM.BK wr g4 #[v] 25 ∧ PM.BK wr g1 #[.int .u64 (lf : Int), .slice a0 n0 c0, .slice a1 n1 c1, .slice a2 n2 c2] 27 ∧ PM.BK wr g2 #[.slice ao no co] 24 ∧ Below w.heap.size w wr)) (fun i _ => mn0 - (intOf i).toNat)
  case atStart => exact ⟨0, _, rfl, by omega, PM.hid ⟨PM.OM.nilrow _, hks.out.2.2.2, hks.out.1, hks.out.2.1, hBB.out⟩⟩
  case round =>
    obtain ⟨k, v, rfl, hk, hin⟩ := hrel
    obtain ⟨hI, k4, k1, k2, hB⟩ := hin.out
    clear hin hBB
    have hBB := PM.hid hB
    have hle : (PM.endsL KN (vs.take k)).length ≤ 16 := PM.endsL_le KN _ _ (by simp)
    obtain ⟨out, hout⟩ : ∃ x, x = PM.endsL KN (vs.take k) := ⟨_, rfl⟩
    rw [← hout] at hI hle
    have houth := PM.hid hout
    clear hout
    obtain ⟨ar, cr, hpe⟩ := (hI.em PM.idL_len).len
    subst hpe
    obtain ⟨P, hP⟩ : ∃ P, P = out.length := ⟨_, rfl⟩
    rw [← hP] at hI hle k4
    have hPh := PM.hid hP
    clear hP
    by_cases hlt : k < mn0
    · obtain ⟨z, hz⟩ : ∃ z, vs[k]? = some z := ⟨vs[k]'(by rw [← hNh.out]; exact hlt), List.getElem?_eq_getElem _⟩
      obtain ⟨b, off, cap', he, -, -, hce⟩ := PM.EM.open1 hvs.out (by rw [← hNh.out]; omega)
      injection he with he1 he2 he3
      subst he1
      have hl0 := (hce k z hz).keep hB
      have d0 : wr.cell? ⟨b, off + k * 4, none⟩ = some (.int .i64 z.id.br) := hl0 0 _ rfl
      have d1 : wr.cell? ⟨b, off + k * 4 + 1, none⟩ = some (.int .u64 (z.id.life : Int)) := hl0 1 _ rfl
      have d2 : wr.cell? ⟨b, off + k * 4 + 2, none⟩ = some (.int .u64 (z.id.ser : Int)) := hl0 2 _ rfl
      have d3 : wr.cell? ⟨b, off + k * 4 + 3, none⟩ = some (.bool z.yes) := hl0 3 _ rfl
      have hzh := PM.hid hz
      clear hz hce hl0 hB he2 he3
      go_upto_region 6 with fail
      obtain ⟨gx, hgx⟩ : ∃ g, g = wr.heap.size := ⟨_, rfl⟩
      obtain ⟨w3, hw3⟩ : ∃ W, W = wr.alloc (.cells #[.int .i64 z.id.br, .int .u64 (z.id.life : Int), .int .u64 (z.id.ser : Int), .bool z.yes] 45) := ⟨_, rfl⟩
      have hBn : Below wr.heap.size wr w3 := by rw [hw3]; exact (Below.refl _ _).alloc (Nat.le_refl _) _
      have kx : PM.BK w3 gx #[.int .i64 z.id.br, .int .u64 (z.id.life : Int), .int .u64 (z.id.ser : Int), .bool z.yes] 45 := by rw [hw3, hgx]; exact PM.BK.new _ _ _
      rw [← hw3, ← hgx]
      clear hw3 hgx d0 d1 d2 d3
      replace hI := hI.keep hBn
      replace k1 := k1.keep hBn
      replace k2 := k2.keep hBn
      replace k4 := k4.keep hBn
      replace hBB := PM.hid (PM.chain hBB.out hBn)
      clear hBn
      have x0 : w3.cell? ⟨gx, 0, none⟩ = some (.int .i64 z.id.br) := kx.cell 0
      have x1 : w3.cell? ⟨gx, 1, none⟩ = some (.int .u64 (z.id.life : Int)) := kx.cell 1
      have x2 : w3.cell? ⟨gx, 2, none⟩ = some (.int .u64 (z.id.ser : Int)) := kx.cell 2
      have x3 : w3.cell? ⟨gx, 3, none⟩ = some (.bool z.yes) := kx.cell 3
      have r0 : w3.cell? ⟨g4, 0, none⟩ = some (.slice ar P cr) := k4.cell 0
      by_cases hfull : P = 16
      · subst hfull
        have q1 : (((16 : Nat) : Int) == 16) = true := by simp
        have hfin := PM.hid (And.intro hI hBB.out)
        clear kx k1 k2 k4 hI x0 x1 x2 x3
        go_wp2_with fail
        rw [Exit.noGoto_ret]
        go_ret
        refine ⟨_, rfl, ?_, hfin.out.2⟩
        rw [PM.endsL_full (j := k) (by rw [← houth.out, ← hPh.out]), ← houth.out]
        exact hfin.out.1
      have q1 : ((P : Int) == 16) = false := by simp; omega
      have hc := ends1_any lf a0 n0 c0 a1 n1 c1 a2 n2 c2 ao no co ar P cr z.id ls ps op out g1 g2 g4 w3 (PM.EnL.keep hS.out.1 hBB.out) (PM.EnL.keep hS.out.2.1 hBB.out) (PM.EnL.keep hS.out.2.2 hBB.out) (hI.em PM.idL_len) k1 k2 k4
      go_wp2_with fail
      refine hc.mono ?_
      rintro e w4 ⟨rfl, hBn⟩
      clear hc x0 x1 x2 x3 r0
      replace hI := hI.keep hBn
      replace k1 := k1.keep hBn
      replace k2 := k2.keep hBn
      replace k4 := k4.keep hBn
      replace kx := kx.keep hBn
      replace hBB := PM.hid (PM.chain hBB.out hBn)
      clear hBn
      have hKN : Hid ((KN z.id || PM.hasI out z.id) = (PM.hasE ls z.id || PM.hasE ps z.id || PM.hasI out z.id || PM.hasE op z.id)) := PM.hid (by
        rw [hKNe.out]
        cases PM.hasE ls z.id <;> cases PM.hasE ps z.id <;> cases PM.hasI out z.id <;> cases PM.hasE op z.id <;> rfl)
      cases hkn : (PM.hasE ls z.id || PM.hasE ps z.id || PM.hasI out z.id || PM.hasE op z.id)
      case true =>
        have hknh := PM.hid hkn
        have hin2 := PM.hid (And.intro hI (And.intro k4 (And.intro k1 (And.intro k2 hBB.out))))
        clear hkn hI k1 k2 k4 kx
        go_wp2_with fail
        exact ⟨⟨k + 1, _, by go_num, by omega, PM.hid (by rw [PM.endsL_snoc hzh.out, ← houth.out, PM.en1_skip (by rw [hKN.out]; exact hknh.out)]; exact hin2.out)⟩, by simp only [intOf]; omega⟩
      have hknh := PM.hid hkn
      clear hkn
      have x0 : w4.cell? ⟨gx, 0, none⟩ = some (.int .i64 z.id.br) := kx.cell 0
      have x1 : w4.cell? ⟨gx, 1, none⟩ = some (.int .u64 (z.id.life : Int)) := kx.cell 1
      have x2 : w4.cell? ⟨gx, 2, none⟩ = some (.int .u64 (z.id.ser : Int)) := kx.cell 2
      have x3 : w4.cell? ⟨gx, 3, none⟩ = some (.bool z.yes) := kx.cell 3
      have r0 : w4.cell? ⟨g4, 0, none⟩ = some (.slice ar P cr) := k4.cell 0
      have hl16 : (out.length + 1) * 24 ≤ 140737488355328 := by rw [← hPh.out]; omega
      have hl17 : out.length + 1 ≤ maxLen := by rw [← hPh.out]; unfold maxLen; omega
      have hsz := hBB.out.size
      have hrt := hI.rt
      rw [hPh.out] at hI
      have hfr := PM.hid (And.intro k1 (And.intro k2 k4))
      go_wp2_with (at_builtin; rw [hPh.out]; go_loud (refine PM.wpList_em1 (e := PM.idL) tyIdO PM.idL_len PM.idL_one w.heap.size w4 rfl _ _ rfl _ out z.id _ rfl rfl rfl rfl hI hl16 hl17 hsz ?_); intro v' w' t1 t2 t3 t4; rw [← hPh.out] at t3; obtain ⟨va', vc', hve'⟩ := (t1.em PM.idL_len).len; subst hve'; have hE := PM.hid (And.intro t1 (And.intro (hBB.out.trans t2) t3)); have k4' := hfr.out.2.2.grown t3 hrt (by decide); have r0' : w'.cell? ⟨g4, 0, none⟩ = some (.slice ar P cr) := k4'.cell 0; have q0' := fun i => PM.BK.free k4' i; clear t1 t2 t3 t4 hsz hI x0 x1 x2 x3 r0 kx k1 k2 k4)
      have hE1 := PM.hid hE.out.1
      rw [List.length_append] at hE1
      refine ⟨⟨k + 1, .slice va' (out.length + 1) vc', by go_num, by omega, PM.hid ?_⟩, by simp only [intOf]; omega⟩
      rw [PM.endsL_snoc hzh.out, ← houth.out, PM.en1_add (by rw [← hPh.out]; exact hfull) (by rw [hKN.out]; exact hknh.out)]
      have hx := PM.Bx.set g4 0 w' (.slice va' (out.length + 1) vc')
      refine ⟨PM.OM.keepx hE1.out hx (hfr.out.2.2.grown hE.out.2.2 hrt (by decide)) (by decide), ((hfr.out.2.2.grown hE.out.2.2 hrt (by decide)).set 0 _).seeO (by simp), (hfr.out.1.grown hE.out.2.2 hrt (by decide)).keepx hx hnes.out.1, (hfr.out.2.1.grown hE.out.2.2 hrt (by decide)).keepx hx hnes.out.2.1, PM.Bx.below hE.out.2.1 hx hnes.out.2.2 hE.out.2.1.size⟩
    · obtain rfl : k = mn0 := by omega
      have r0 : wr.cell? ⟨g4, 0, none⟩ = some (.slice ar P cr) := k4.cell 0
      have hfin := PM.hid (And.intro hI hBB.out)
      clear k1 k2 k4 hI hB
      have htk : Hid (PM.endsL KN vs = out) := PM.hid (by
        have := houth.out
        rw [hNh.out, List.take_length] at this
        exact this.symm)
      go_wp2_with fail
      rw [Exit.noGoto_ret]
      go_ret
      exact ⟨_, rfl, by rw [htk.out]; exact hfin.out.1, hfin.out.2⟩
end Go.Proofs.Ytjninckmgkaliaa
