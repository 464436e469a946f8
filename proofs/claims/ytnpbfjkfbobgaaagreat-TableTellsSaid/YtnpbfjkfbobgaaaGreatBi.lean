/-
  slices.Insert of one subscription in a row that is full.
-/
import Derived.Laws.CopyOwn
import Derived.Lib.AppendZerosOnto
import Derived.Laws.CopyRow
import Derived.Shelf.Spec.SlicesInsert
import Derived.Test.YtnpbfjkfbobgaaaGreatBa
namespace Go.Proofs.YtnpbfjkfbobgaaaGreat
open Go.RowKit
set_option linter.unusedVariables false
set_option linter.unusedSimpArgs false
open Go.Lib
namespace PM
theorem setRow_heq {w W : World} (h : W.heap = w.heap) (g : Nat) (R : Array Value) : (W.setRow g R).heap = (w.setRow g R).heap := by unfold World.setRow; rw [h]
theorem cell_heap {w W : World} (h : W.heap = w.heap) (a : Addr) : W.cell? a = w.cell? a := by unfold World.cell?; rw [h]
section
variable {P : Program}
/-- copy, of elements of some cells, into a block of one's own -/
theorem run_copyN (w : World) (dT sT ty elem : TypeId) (c m g o dLen dCap : Nat) (a : Addr) (sLen sCap : Nat) (cur : Array Value) (t : TypeId) (cs : List Value)
    (hu : P.underlying dT = some (.slice elem)) (hs : (P.info? elem).map (·.size) = some c)
    (hg : w.heap[g]? = some (.cells cur t (0, 0))) (hm : m = Nat.min sLen dLen) (hn : cs.length = m * c)
    (hsrc : ∀ j v, cs[j]? = some v → w.cell? (a.add j) = some v) (hfit : o + cs.length ≤ cur.size) (h1 : ∀ v ∈ cs, v.oneCell' = true) :
    (Builtin.copy_ #[dT, sT] ty #[.slice (some ⟨g, o, none⟩) dLen dCap, .slice (some a) sLen sCap]).run P w =
      .ok (goInt m) (w.setRow g (cur.toList.take o ++ cs ++ cur.toList.drop (o + cs.length)).toArray) := by
  have hl := run_loadCells_list (P := P) w a cs hsrc
  have hst := run_storeCells_at P g o t cs 0 cur w hg (by simpa using hfit) h1
  cases hq : P.info? elem with
  | none => simp [hq] at hs
  | some i =>
    have hi : i.size = c := by simpa [hq] using hs
    simp only [Nat.add_zero] at hst
    simp [Builtin.copy_, run_underlying hu, Builtin.lenOf, Builtin.firstCells, sizeOf, typeInfo, hq, hi, ← hm, ← hn, hl, hst]
end
theorem flat_take3 (l : List (Ce 3)) (i : Nat) : (l.flatMap ceL).take (i * 3) = (l.take i).flatMap ceL := by
  induction l generalizing i with
  | nil => simp
  | cons x l ih =>
    cases i with
    | zero => simp
    | succ i =>
      have hx : (ceL x).length = 3 := ceL_len x
      rw [List.take_succ_cons, List.flatMap_cons, List.flatMap_cons, List.take_append, hx, Nat.succ_mul, show i * 3 + 3 - 3 = i * 3 by omega, ih, List.take_of_length_le (by omega)]
theorem flat_drop3 (l : List (Ce 3)) (i : Nat) : (l.flatMap ceL).drop (i * 3) = (l.drop i).flatMap ceL := by
  induction l generalizing i with
  | nil => simp
  | cons x l ih =>
    cases i with
    | zero => simp
    | succ i =>
      have hx : (ceL x).length = 3 := ceL_len x
      rw [List.drop_succ_cons, List.flatMap_cons, List.drop_append, hx, Nat.succ_mul, show i * 3 + 3 - 3 = i * 3 by omega, ih, List.drop_of_length_le (by omega), List.nil_append]
end PM
set_option maxRecDepth 100000 in
set_option maxHeartbeats 16000000 in
theorem insSb_any (g N i vb : Nat) (css : List (PM.Ce 3)) (x : PM.Ce 3) (B : Nat) (w : World) (hN : N = css.length) (hN1 : N ≤ 1000) (hN0 : 0 < N) (hi : i ≤ N) (hB : B ≤ w.heap.size) (hown : PM.OM PM.ceL 3 57 B w (.slice (some ⟨g, 0, none⟩) N N) css) (hx : PM.BK w vb x.1.toArray 57) (hvg : vb ≠ g) :
    Calls Tryz.prog 44 #[.slice (some ⟨g, 0, none⟩) N N, .int .i64 (i : Int), .slice (some ⟨vb, 0, none⟩) 1 1] w fun e w' => ∃ u, e = .returned u ∧ PM.OM PM.ceL 3 57 B w' u (css.take i ++ [x] ++ css.drop i) ∧ Below B w w' ∧ w.grownBy w' (some g) := by
  have hxl : x.1.length = 3 := x.2.1
  have hvw : vb < w.heap.size := hx.lt
  have hcx : ∀ j u, x.1[j]? = some u → w.cell? ⟨vb, j, none⟩ = some u := fun j u hu => by
    rw [hx.cell j]
    simpa using hu
  have hgw : g < w.heap.size := (PM.OM.lt hown g rfl).2
  have hBg : B ≤ g := (PM.OM.lt hown g rfl).1
  have hemx : PM.EM PM.ceL 3 w (.slice (some ⟨vb, 0, none⟩) 1 1) [x] := by
    refine ⟨some ⟨vb, 0, none⟩, 1, rfl, Nat.le_refl _, by unfold maxLen; omega, fun _ => ⟨vb, 0, rfl, fun k y hk j u hu => ?_⟩⟩
    match k, hk with
    | 0, hk =>
      simp at hk
      subst hk
      simpa using hcx j u hu
  have hNh := PM.hid hN
  have hownh := PM.hid hown
  by_cases hiN : i = N
  · subst hiN
    have hfin : Hid (css.take i ++ [x] ++ css.drop i = css ++ [x]) := PM.hid (by rw [hNh.out, List.take_length, List.drop_length, List.append_nil])
    have hl16 : (css.length + [x].length) * 40 ≤ 140737488355328 := by rw [← hNh.out]; simp; omega
    have hl17 : css.length + [x].length ≤ maxLen := by rw [← hNh.out]; unfold maxLen; simp; omega
    have hz1 : ¬ ((i : Int) = 0) := by omega
    clear hcx hN hown hx hi hxl hgw hvw hvg
    go_enter Tryz.func44, Tryz.ntmps44
    go_wp2_with (at_builtin; go_loud (refine PM.wpList_em tySb PM.ceL_len PM.ceL_one B rfl _ _ rfl (.slice (some ⟨g, 0, none⟩) i i) (.slice (some ⟨vb, 0, none⟩) 1 1) css [x] rfl rfl hownh.out hemx hl16 hl17 hB ?_); intro v' w' t1 t2 t3 t4; have t5 : w.grownBy w' (some g) := t3; have hE := PM.hid (And.intro t1 (And.intro t2 t5)); clear t1 t2 t3 t4 t5)
    go_ret
    exact ⟨_, rfl, by rw [hfin.out]; exact hE.out.1, hE.out.2⟩
  have hilt : i < N := by omega
  obtain ⟨inf, z, hif, hz, hsz, hby, hzs⟩ := tySb.row
  have ht := tySb.sl
  have htn : Tryz.prog.underlying 3 = some (.int .i64) := Tryz.underlying3
  have hsm : (Tryz.prog.info? 57).map (·.size) = some 3 := by rw [hif]; simp [hsz]
  have hfl : ((css.take i).flatMap PM.ceL).length = i * 3 := by rw [PM.flat_len PM.ceL_len, List.length_take_of_le (by omega)]
  have hfd : ((css.drop i).flatMap PM.ceL).length = (N - i) * 3 := by rw [PM.flat_len PM.ceL_len, List.length_drop, hN]
  have hcell : ∀ j u, (css.flatMap PM.ceL)[j]? = some u → w.cell? ⟨g, j, none⟩ = some u := fun j u hu => by
    have := World.ownsRow.cells hownh.out (g := g) rfl j u hu
    rwa [Addr.add_lit, Nat.zero_add] at this
  have hold : (Builtin.firstCells inf.size i (.slice (some ⟨g, 0, none⟩) i N)).run Tryz.prog w.drew = .ok ((css.take i).flatMap PM.ceL).toArray w.drew := by
    rw [hsz]
    exact run_firstCells_some w.drew 3 i ⟨g, 0, none⟩ i N _ hfl (fun j u hu => by
      rw [Addr.add_lit, Nat.zero_add]
      refine hcell j u ?_
      rw [← PM.flat_take3, List.getElem?_take] at hu
      split at hu
      · exact hu
      · cases hu)
  obtain ⟨G, hG⟩ : ∃ G, G = grownCap w (N + 1) N 57 := ⟨_, rfl⟩
  obtain ⟨ROW, hROW⟩ : ∃ ROW : Array Value, ROW = ((css.take i).flatMap PM.ceL).toArray ++ Builtin.zeroCells z.cells (N + 1 - i) ++ Builtin.zeroCells z.cells (G - (N + 1)) := ⟨_, rfl⟩
  obtain ⟨g2, hg2⟩ : ∃ g, g = w.heap.size := ⟨_, rfl⟩
  have hrz : ∀ ty, (Builtin.append_ #[34, 3] ty #[.slice (some ⟨g, 0, none⟩) i N, .int .i64 ((N : Int) + 1 - (i : Int))]).run Tryz.prog w =
      .ok (.slice (some ⟨g2, 0, none⟩) (N + 1) G) (w.drew.alloc (.cells ROW 57)) := fun ty => by
    have h := Lib.run_append_grow_zeros w 34 3 ty 57 inf z .i64 .i64 ht htn hif hz (some ⟨g, 0, none⟩) i N ((css.take i).flatMap PM.ceL) hold (N + 1 - i) (by omega) (by omega) (by omega) (by omega) (by rw [hby]; omega) (by rw [hby, show i + (N + 1 - i) = N + 1 by omega]; exact growslice_fits (by omega) (by omega))
    rw [show i + (N + 1 - i) = N + 1 by omega, ← hG, ← hROW, ← hg2] at h
    rw [show (N : Int) + 1 - (i : Int) = ((N + 1 - i : Nat) : Int) by omega]
    exact h
  have hGn : N + 1 ≤ G := by rw [hG]; exact grownCap_ge w _ _ _
  have hGm : G ≤ maxLen := by rw [hG]; exact grownCap_le_maxLen w (N + 1) N 57 (by unfold maxLen; omega)
  have hzc : ∀ k, (Builtin.zeroCells z.cells k).size = k * 3 := fun k => by simp [Builtin.zeroCells, hzs]
  have hRs : ROW.size = G * 3 := by
    rw [hROW]
    simp only [Array.size_append, List.size_toArray, hfl, hzc]
    omega
  have hRt : ROW.toList.take (i * 3) = (css.take i).flatMap PM.ceL := by
    rw [hROW]
    simp only [Array.toList_append, List.append_assoc]
    rw [List.take_append_of_le_length (by rw [hfl]; omega), List.take_of_length_le (by rw [hfl]; omega)]
  obtain ⟨W1, hW1⟩ : ∃ W1, W1 = w.drew.alloc (.cells ROW 57) := ⟨_, rfl⟩
  rw [← hW1] at hrz
  have hW1g : W1.heap[g2]? = some (.cells ROW 57 (0, 0)) := by rw [hW1, hg2]; exact PM.BK.new w.drew ROW 57
  have hW1b : Below w.heap.size w W1 := by rw [hW1]; exact ((Below.refl _ _).drew).alloc (Nat.le_refl _) _
  obtain ⟨R2, hR2⟩ : ∃ R : Array Value, R = (ROW.toList.take (i * 3) ++ x.1 ++ ROW.toList.drop (i * 3 + x.1.length)).toArray := ⟨_, rfl⟩
  obtain ⟨R3, hR3⟩ : ∃ R : Array Value, R = (R2.toList.take ((i + 1) * 3) ++ (css.drop i).flatMap PM.ceL ++ R2.toList.drop ((i + 1) * 3 + ((css.drop i).flatMap PM.ceL).length)).toArray := ⟨_, rfl⟩
  have hR2s : R2.size = G * 3 := by
    rw [hR2]
    simp only [List.size_toArray, List.length_append, List.length_take, List.length_drop, Array.length_toList, hRs, hxl]
    omega
  have hR2t : R2.toList.take ((i + 1) * 3) = (css.take i ++ [x]).flatMap PM.ceL := by
    rw [hR2, hRt, List.flatMap_append]
    simp only [List.flatMap_cons, List.flatMap_nil, List.append_nil]
    rw [List.take_append_of_le_length (by rw [List.length_append, hfl, hxl]; omega), List.take_of_length_le (by rw [List.length_append, hfl, hxl]; omega)]
    rfl
  have hR3s : R3.size = G * 3 := by
    rw [hR3]
    simp only [List.size_toArray, List.length_append, List.length_take, List.length_drop, Array.length_toList, hR2s, hfd]
    omega
  have hR3t : R3.toList.take ((N + 1) * 3) = (css.take i ++ [x] ++ css.drop i).flatMap PM.ceL := by
    have hl2 : ((css.take i ++ [x]).flatMap PM.ceL).length = (i + 1) * 3 := by rw [PM.flat_len PM.ceL_len, List.length_append, List.length_take_of_le (by omega)]; rfl
    rw [hR3, hR2t, List.flatMap_append (xs := css.take i ++ [x])]
    rw [List.take_append_of_le_length (by rw [List.length_append, hl2, hfd]; omega), List.take_of_length_le (by rw [List.length_append, hl2, hfd]; omega)]
  have hcpA : ∀ (W : World), W.heap = W1.heap → ∀ ty dc, (Builtin.copy_ #[34, 34] ty #[.slice (some ⟨g2, i * 3, none⟩) (N + 1 - i) dc, .slice (some ⟨vb, 0, none⟩) 1 1]).run Tryz.prog W = .ok (goInt 1) (W.setRow g2 R2) := fun W hW ty dc => by
    rw [hR2]
    exact PM.run_copyN W _ _ ty 57 3 1 g2 (i * 3) (N + 1 - i) dc ⟨vb, 0, none⟩ 1 1 ROW 57 x.1 ht hsm (by rw [hW]; exact hW1g) (by simp only [Nat.min_def]; split <;> omega) hxl
      (fun j u hu => by
        rw [Addr.add_lit, Nat.zero_add, PM.cell_heap hW]
        exact PM.cellA hW1b (hcx j u hu)) (by rw [hxl, hRs]; omega) x.2.2
  have hcpB : ∀ (W : World), W.heap = (W1.setRow g2 R2).heap → ∀ ty dc sc, (Builtin.copy_ #[34, 34] ty #[.slice (some ⟨g2, (i + 1) * 3, none⟩) (N + 1 - (i + 1)) dc, .slice (some ⟨g, i * 3, none⟩) (N - i) sc]).run Tryz.prog W = .ok (goInt (N - i : Nat)) (W.setRow g2 R3) := fun W hW ty dc sc => by
    rw [hR3]
    exact PM.run_copyN W _ _ ty 57 3 (N - i) g2 ((i + 1) * 3) (N + 1 - (i + 1)) dc ⟨g, i * 3, none⟩ (N - i) sc R2 57 _ ht hsm (by rw [hW]; exact setRow_heap _ _ _ _ _ _ hW1g) (by simp only [Nat.min_def]; split <;> omega) hfd
      (fun j u hu => by
        rw [Addr.add_lit, PM.cell_heap hW, cell_setRow_other _ _ _ _ (by show g ≠ g2; omega)]
        rw [← PM.flat_drop3, List.getElem?_drop] at hu
        exact PM.cellA hW1b (hcell _ u hu)) (by rw [hfd, hR2s]; omega) (fun u hu => by
        obtain ⟨y, _, hy⟩ := List.mem_flatMap.1 hu
        exact PM.ceL_one y u hy)
  have hz1 : ¬ ((N : Int) = 0) := by omega
  have hz2 : ¬ ((i : Int) = (N : Int)) := by omega
  have hz3 : (N : Int) < (N : Int) + 1 := by omega
  have hw1 : IntKind.i64.wrap ((i : Int) + 1) = (i : Int) + 1 := by rw [IntKind.wrap_i64]; omega
  have hb1 : (0 : Int) ≤ (i : Int) + 1 := by omega
  have htn1 : ((i : Int) + 1).toNat = i + 1 := by omega
  have hb3 : (i : Int) ≤ (N : Int) := by omega
  have hGi : ¬ (G = i) := by omega
  have hGim : ¬ (G = i + 1) := by omega
  have hci : ¬ (N = i) := by omega
  have hfin : ∀ W : World, W.heap = (W1.setRow g2 R3).heap → W.os = W1.os → W.tape = W1.tape → W.output = W1.output → PM.OM PM.ceL 3 57 B W (.slice (some ⟨g2, 0, none⟩) (N + 1) G) (css.take i ++ [x] ++ css.drop i) ∧ Below B w W ∧ w.grownBy W (some g) := fun W hW ho1 ho2 ho3 => by
    have hl3 : (css.take i ++ [x] ++ css.drop i).length = N + 1 := by
      rw [List.length_append, List.length_append, List.length_take_of_le (by omega), List.length_drop, ← hN]
      simp
      omega
    have hbl : Below w.heap.size w W := by
      have hx1 := below_setRow hW1b (show w.heap.size ≤ g2 by omega) R3
      exact ⟨by rw [ho1]; exact hW1b.os, by rw [ho2]; exact hW1b.tape, by rw [ho3]; exact hW1b.output, by rw [hW]; exact hx1.size, fun k hk => by rw [hW]; exact hx1.block k hk⟩
    refine ⟨⟨?_, .inr ⟨g2, G, R3, ?_, ?_, ?_, ?_, ?_, ?_, ?_⟩⟩, hbl.mono hB, PM.Below.grown hbl⟩
    all_goals first | rw [PM.flat_len PM.ceL_len] | skip
    all_goals first | (rw [hl3]; done) | (rw [hW]; exact setRow_heap _ _ _ _ _ _ hW1g) | (rw [hl3]; exact hR3t) | exact hR3s | exact hGm | (rw [hl3]; exact hGn) | omega
  clear hold hROW hRs hRt hR2 hR3 hR2s hR2t hR3s hR3t hG hownh hcell hfl hfd hown hx hemx hcx hzc hN
  have hrzh := PM.hid hrz
  have hfinh := PM.hid hfin
  clear hrz hfin
  go_enter Tryz.func44, Tryz.ntmps44
  subst hg2
  have hE1 : ((w.alloc (.cells ROW 57)).drew).heap = W1.heap := by rw [hW1]; rfl
  have hcA := PM.hid (hcpA _ hE1)
  have hE2 : ((((w.alloc (.cells ROW 57)).drew).setRow w.heap.size R2).drew).heap = (W1.setRow w.heap.size R2).heap := PM.setRow_heq hE1 _ _
  have hcB := PM.hid (hcpB _ hE2)
  have hE3 : ((((((w.alloc (.cells ROW 57)).drew).setRow w.heap.size R2).drew).setRow w.heap.size R3)).heap = (W1.setRow w.heap.size R3).heap := (PM.setRow_heq hE2 _ _).trans (by rw [setRow_setRow])
  have hfB := PM.hid (hfinh.out _ hE3 (by rw [hW1]; rfl) (by rw [hW1]; rfl) (by rw [hW1]; rfl))
  clear hE1 hE2 hE3 hcpA hcpB hW1b hW1g hfinh
  rw [hW1] at hrzh
  clear hW1
  have mixed : Tryz.prog.follows Departure.mixedOrders = true := by kernel_rfl
  go_wp2_with (first
    | (at_builtin; refine Lib.wpList_append_run _ rfl _ _ _ _ rfl _ _ rfl rfl _ _ (hrzh.out _) ?_)
    | (refine wpList_copy_runI _ rfl _ _ 34 34 rfl _ _ rfl rfl (hcA.out _ _) ?_))
  go_region_law_o (refine step_copy_runI rfl _ _ 34 34 rfl (.slice (some ⟨w.heap.size, (i + 1) * 3, none⟩) (N + 1 - (i + 1)) (G - (i + 1))) (.slice (some ⟨g, i * 3, none⟩) (N - i) (N - i)) (by simp [Act.eval, Act.put]) (by simp [Act.eval, Act.put]) (hcB.out _ _ _) ?_)
  go_wp2_with fail
  go_ret
  exact ⟨_, rfl, hfB.out⟩
end Go.Proofs.YtnpbfjkfbobgaaaGreat
