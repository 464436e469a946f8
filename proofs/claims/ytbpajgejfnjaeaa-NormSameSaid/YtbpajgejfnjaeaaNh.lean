/-
  A ROW OF TESTS THAT IS SORTED IN PLACE: the contract of the insertion sort by norm.Order.
-/
import Derived.Test.YtbpajgejfnjaeaaNf
import Derived.Sort.LotA
import Derived.Sort.WalkA
import Derived.Deep.LoopGhost
import Derived.BigRegion
import Derived.Shelf.RegionOpenPlain
import Derived.Laws.IdiomCopy
namespace Go.Proofs.Ytbpajgejfnjaeaa
open Go.RowKit
set_option linter.unusedVariables false
set_option linter.unusedSimpArgs false
namespace PM
open Go.Sort (swp insInner insOuter)
instance : Inhabited Te := ⟨⟨⟨#[]⟩, 0, 0, 0, ⟨#[]⟩⟩⟩
/-- does a test come ahead of another one? -/
def tlt (a b : Te) : Bool := decide (tord a b < 0)
theorem tlt_yes {a b : Te} (h : tord a b < 0) : tlt a b = true := decide_eq_true h
theorem tlt_no {a b : Te} (h : 0 ≤ tord a b) : tlt a b = false := decide_eq_false (Int.not_lt.2 h)
/-- a row of tests, and what lies behind it in its block -/
def SR (T : TypeId) (w : World) (g : Nat) (d : Array Te) (tl : List Value) : Prop := BK w g (d.toList.flatMap teL ++ tl).toArray T
variable {T : TypeId} {w W : World} {g : Nat} {d : Array Te} {tl : List Value}
theorem SR.keep (hb : Below W.heap.size W w) (h : SR T W g d tl) : SR T w g d tl := BK.keep hb h
theorem SR.drew (h : SR T w g d tl) : SR T w.drew g d tl := h
theorem Bx.drew {b : Nat} {x y : World} (h : Bx b x y) : Bx b x y.drew := ⟨h.os, h.tape, h.output, h.size, h.block⟩
theorem get_bang {i : Nat} (hi : i < d.size) : d.toList[i]? = some d[i]! := by
  rw [Array.getElem?_toList, Array.getElem?_eq_getElem hi, getElem!_pos d i hi]
theorem SR.cell (h : SR T w g d tl) {i : Nat} (hi : i < d.size) {j : Nat} {u : Value} (hj : (teL d[i]!)[j]? = some u) : w.cell? ⟨g, i * 5 + j, none⟩ = some u := by
  rw [BK.cell h]
  have := flat_get teL_len d.toList i _ (get_bang hi) j u hj
  have hlt := (List.getElem?_eq_some_iff.1 this).1
  simp only [List.getElem?_toArray]
  rw [List.getElem?_append_left hlt]
  exact this
structure Cs (w : World) (g o : Nat) (x : Te) : Prop where
  c0 : w.cell? ⟨g, o, none⟩ = some (.string x.name)
  c1 : w.cell? ⟨g, o + 1, none⟩ = some (.int .i64 x.op)
  c2 : w.cell? ⟨g, o + 2, none⟩ = some (.int .i64 x.k)
  c3 : w.cell? ⟨g, o + 3, none⟩ = some (.int .i64 x.n)
  c4 : w.cell? ⟨g, o + 4, none⟩ = some (.string x.s)
theorem SR.cs (h : SR T w g d tl) {i : Nat} (hi : i < d.size) : Cs w g (i * 5) d[i]! :=
  ⟨h.cell hi (j := 0) rfl, h.cell hi (j := 1) rfl, h.cell hi (j := 2) rfl, h.cell hi (j := 3) rfl, h.cell hi (j := 4) rfl⟩
theorem cell_keep {a : Addr} {v : Value} (hb : Below W.heap.size W w) (h : W.cell? a = some v) : w.cell? a = some v := by
  rw [hb.cell (World.block_lt_of_cell? W _ h)]; exact h
theorem Cs.keep {o : Nat} {x : Te} (hb : Below W.heap.size W w) (h : Cs W g o x) : Cs w g o x :=
  ⟨cell_keep hb h.c0, cell_keep hb h.c1, cell_keep hb h.c2, cell_keep hb h.c3, cell_keep hb h.c4⟩
theorem set_app (y : Te) (r : List Value) (i j : Nat) (u : Value) : (teL y ++ r).set ((i + 1) * 5 + j) u = teL y ++ r.set (i * 5 + j) u := by
  rw [List.set_append_right _ _ (by simp [teL]; omega), show (i + 1) * 5 + j - (teL y).length = i * 5 + j by simp [teL]; omega]
theorem set5L (z : Te) : ∀ (l : List Te) (i : Nat), i < l.length → (((((l.flatMap teL ++ tl).set (i * 5) (.string z.name)).set (i * 5 + 1) (.int .i64 z.op)).set (i * 5 + 2) (.int .i64 z.k)).set (i * 5 + 3) (.int .i64 z.n)).set (i * 5 + 4) (.string z.s) = (l.set i z).flatMap teL ++ tl
  | [], i, h => absurd h (by simp)
  | y :: l, 0, h => by simp [teL]
  | y :: l, i + 1, h => by
    have ih := set5L z l i (by simpa using h)
    rw [List.flatMap_cons, List.append_assoc, show ∀ (r : List Value) (u : Value), (teL y ++ r).set ((i + 1) * 5) u = teL y ++ r.set (i * 5) u from fun r u => set_app y r i 0 u, set_app, set_app, set_app, set_app, ih, List.set_cons_succ, List.flatMap_cons, List.append_assoc]
theorem SR.set5 (h : SR T w g d tl) {i : Nat} (hi : i < d.size) (z : Te) : SR T (((((w.setCell ⟨g, i * 5, none⟩ (.string z.name)).setCell ⟨g, i * 5 + 1, none⟩ (.int .i64 z.op)).setCell ⟨g, i * 5 + 2, none⟩ (.int .i64 z.k)).setCell ⟨g, i * 5 + 3, none⟩ (.int .i64 z.n)).setCell ⟨g, i * 5 + 4, none⟩ (.string z.s)) g (d.setIfInBounds i z) tl := by
  have h' := ((((BK.set h (i * 5) (.string z.name)).set (i * 5 + 1) (.int .i64 z.op)).set (i * 5 + 2) (.int .i64 z.k)).set (i * 5 + 3) (.int .i64 z.n)).set (i * 5 + 4) (.string z.s)
  unfold SR
  simp only [List.setIfInBounds_toArray] at h'
  rw [set5L z d.toList i (by simpa using hi)] at h'
  simpa using h'
theorem SR.store5 (P : Program) (h : SR T w g d tl) {i : Nat} (hi : i < d.size) (z : Te) :
    ∃ w', Sem.run P (storeCells ⟨g, i * 5, none⟩ (teL z) 0) w = .ok () w' ∧ SR T w' g (d.setIfInBounds i z) tl ∧ Bx g w w' := by
  refine ⟨_, run_storeCells_cells g (i * 5) (teL z) 0 w (fun j hj => ?_) (fun j _ => BK.free h _) (teL_one z), ?_, ?_⟩
  · obtain ⟨u, hu⟩ : ∃ u, (teL d[i]!)[j]? = some u := ⟨(teL d[i]!)[j]'(by simpa [teL] using hj), List.getElem?_eq_getElem _⟩
    rw [Nat.add_zero, h.cell hi hu]; rfl
  · exact h.set5 hi z
  · exact ((((Bx.set g _ w _).trans (Bx.set g _ _ _)).trans (Bx.set g _ _ _)).trans (Bx.set g _ _ _)).trans (Bx.set g _ _ _)
theorem Bx.set5 (g o : Nat) (w : World) (a b c d e : Value) : Bx g w (((((w.setCell ⟨g, o, none⟩ a).setCell ⟨g, o + 1, none⟩ b).setCell ⟨g, o + 2, none⟩ c).setCell ⟨g, o + 3, none⟩ d).setCell ⟨g, o + 4, none⟩ e) :=
  ((((Bx.set g o w a).trans (Bx.set g (o + 1) _ b)).trans (Bx.set g (o + 2) _ c)).trans (Bx.set g (o + 3) _ d)).trans (Bx.set g (o + 4) _ e)
end PM
open Go.Sort in
set_option maxRecDepth 100000 in
set_option maxHeartbeats 4000000 in
theorem ins_any (g N cap : Nat) (d : Array PM.Te) (tl : List Value) (w : World) (hR : PM.SR 25 w g d tl) (hN : d.size = N) (hsz : N < 4611686018427387904) :
    Calls Try.prog 59 #[.slice (some ⟨g, 0, none⟩) N cap, .int .i64 0, .int .i64 N, .func (.func 21) #[] #[]] w fun e w' =>
      e = .returned (.tuple #[]) ∧ PM.SR 25 w' g (insertionSort PM.tlt d 0 N) tl ∧ PM.Bx g w w' := by
  have mixed : (Try.prog).follows .mixedOrders = true := by kernel_rfl
  have hRh := PM.hid (And.intro hR hN)
  clear hR hN
  go_enter Try.func59, Try.ntmps59
  go_wp2_with fail
  go_loopg [8] (N - 0) (fun g1 vi wr => ∃ (i : Nat) (dk : Array PM.Te), vi = .int .i64 i ∧ 0 < i ∧ i ≤ N + 1 ∧ N + 1 - i ≤ g1 + 1 ∧ Hid (dk.size = N ∧ PM.SR 25 wr g dk tl ∧ PM.Bx g w wr ∧ insOuter PM.tlt 0 N i dk = insOuter PM.tlt 0 N (0 + 1) d))
  case atStart => exact ⟨1, d, by go_num, by omega, by omega, by omega, PM.hid ⟨hRh.out.2, hRh.out.1, PM.Bx.refl _ _, rfl⟩⟩
  case round =>
    obtain ⟨i, dk, rfl, hai, hib, hg1, HO⟩ := hrel
    by_cases hlt : i < N
    · have hltz : (i : Int) < (N : Int) := by omega
      go_wp2_with fail
      go_loopg [9] i (fun g2 vj wr2 => ∃ (j : Nat) (dj : Array PM.Te), vj = .int .i64 j ∧ j ≤ i ∧ j ≤ g2 ∧ Hid (dj.size = N ∧ PM.SR 25 wr2 g dj tl ∧ PM.Bx g w wr2 ∧ insInner PM.tlt 0 j dj = insInner PM.tlt 0 i dk))
      case atStart => exact ⟨i, dk, rfl, Nat.le_refl _, Nat.le_refl _, PM.hid ⟨HO.out.1, HO.out.2.1, HO.out.2.2.1, rfl⟩⟩
      case round =>
        obtain ⟨j, dj, rfl, hji, hg2, HI⟩ := hrel
        have OUT : Hid ((j ≤ 0 ∨ PM.tlt dj[j]! dj[j - 1]! = false) → insOuter PM.tlt 0 N (i + 1) dj = insOuter PM.tlt 0 N (0 + 1) d) := PM.hid fun hs => by
          rw [← HO.out.2.2.2, insOuter_go _ _ _ _ _ hlt, ← HI.out.2.2.2, insInner_stop _ _ _ _ hs]
        by_cases hja : 0 < j
        · obtain ⟨jp, rfl⟩ : ∃ jp, j = jp + 1 := ⟨j - 1, by omega⟩
          obtain ⟨xj, hxj⟩ : ∃ x, dj[jp + 1]! = x := ⟨_, rfl⟩
          obtain ⟨xp, hxp⟩ : ∃ x, dj[jp]! = x := ⟨_, rfl⟩
          have hwp : IntKind.i64.wrap (jp : Int) = (jp : Int) := by rw [IntKind.wrap_i64]; omega
          have jz : (jp : Int) + 1 < (N : Int) := by omega
          have jz1 : (jp : Int) < (N : Int) := by omega
          have hja' : (0 : Int) < (jp : Int) + 1 := by omega
          have p0 : (0 : Int) ≤ (jp : Int) + 1 := by omega
          have e0 : ((jp : Int) + 1).toNat = jp + 1 := by omega
          have hcj : PM.Cs wr g ((jp + 1) * 5) xj := by rw [← hxj]; exact HI.out.2.1.cs (by rw [HI.out.1]; omega)
          have hcp : PM.Cs wr g (jp * 5) xp := by rw [← hxp]; exact HI.out.2.1.cs (by rw [HI.out.1]; omega)
          have hcc := PM.hid (And.intro hcj hcp)
          have hHx := PM.hid (And.intro hxj hxp)
          clear hcj hcp hxj hxp
          rw [show (((jp + 1 : Nat)) : Int) = (jp : Int) + 1 from rfl]
          go_upto_region 4 with fail
          refine PM.wp_region_st [some 18, some 19, some 20, some 21, some 22, some 23, some 24, some 25, some 26, some 27, some 28, some 29, some 30, some 31, some 32, some 33, some 34] [fun x _ => x = .int .i64 ((jp : Int) + 1), fun x _ => x = .int .i64 0, fun x _ => x = .bool true, fun x _ => x = .bool true, fun x _ => x = .func (.func 21) #[] #[], fun x _ => x = .slice (some ⟨g, 0, none⟩) N cap, fun x _ => x = .int .i64 ((jp : Int) + 1), fun x _ => x = .pointer (some ⟨g, (jp + 1) * 5, none⟩), fun x _ => x = .agg #[.string xj.name, .int .i64 xj.op, .int .i64 xj.k, .int .i64 xj.n, .string xj.s], fun x _ => x = .slice (some ⟨g, 0, none⟩) N cap, fun x _ => x = .int .i64 ((jp : Int) + 1), fun x _ => x = .int .i64 (jp : Int), fun x _ => x = .pointer (some ⟨g, jp * 5, none⟩), fun x _ => x = .agg #[.string xp.name, .int .i64 xp.op, .int .i64 xp.k, .int .i64 xp.n, .string xp.s], fun x _ => x = .int .i64 (PM.tord xj xp), fun x _ => x = .bool (decide (PM.tord xj xp < 0)), fun x _ => x = .bool (decide (PM.tord xj xp < 0))] (by kernel_rfl) (by kernel_rfl) (by kernel_rfl) ?_ ?_ ?_
          · simp only [List.forall_mem_cons]
            refine ⟨?_, ?_, ?_, ?_, ?_, ?_, ?_, ?_, ?_, ?_, ?_, ?_, ?_, ?_, ?_, ?_, ?_, by simp⟩
            all_goals (intro x W W' h hb; first | exact h | exact PM.BS.keep hb h | exact PM.OW.keep hb h)
          · refine ⟨?_, ?_, ?_, ?_, ?_, ?_, ?_, ?_, ?_, ?_, ?_, ?_, ?_, ?_, ?_, ?_, ?_, trivial⟩
            all_goals
              intro a W hB hF hd
              have k0 := hF 0 rfl
              have k1 := hF 1 rfl
              have k3 := hF 3 rfl
              have k9 := hF 9 rfl
              have c0 : W.cell? ⟨g, (jp + 1) * 5, none⟩ = some (.string xj.name) := (PM.cell_keep hB (hcc.out.1.c0))
              have c1 : W.cell? ⟨g, (jp + 1) * 5 + 1, none⟩ = some (.int .i64 xj.op) := (PM.cell_keep hB (hcc.out.1.c1))
              have c2 : W.cell? ⟨g, (jp + 1) * 5 + 2, none⟩ = some (.int .i64 xj.k) := (PM.cell_keep hB (hcc.out.1.c2))
              have c3 : W.cell? ⟨g, (jp + 1) * 5 + 3, none⟩ = some (.int .i64 xj.n) := (PM.cell_keep hB (hcc.out.1.c3))
              have c4 : W.cell? ⟨g, (jp + 1) * 5 + 4, none⟩ = some (.string xj.s) := (PM.cell_keep hB (hcc.out.1.c4))
              have d0 : W.cell? ⟨g, jp * 5, none⟩ = some (.string xp.name) := (PM.cell_keep hB (hcc.out.2.c0))
              have d1 : W.cell? ⟨g, jp * 5 + 1, none⟩ = some (.int .i64 xp.op) := (PM.cell_keep hB (hcc.out.2.c1))
              have d2 : W.cell? ⟨g, jp * 5 + 2, none⟩ = some (.int .i64 xp.k) := (PM.cell_keep hB (hcc.out.2.c2))
              have d3 : W.cell? ⟨g, jp * 5 + 3, none⟩ = some (.int .i64 xp.n) := (PM.cell_keep hB (hcc.out.2.c3))
              have d4 : W.cell? ⟨g, jp * 5 + 4, none⟩ = some (.string xp.s) := (PM.cell_keep hB (hcc.out.2.c4))
              clear hF
              simp [PM.depsL, PM.spec, PM.sl, Region.binds] at hd k0 k1 k3 k9
              simp only [PM.wantL, PM.spec]
              try simp only [PM.sl]
              go_simp
            all_goals try exact Below.refl _ _
            · refine (torder_any xj xp W).mono ?_
              rintro e w' ⟨rfl, hb⟩
              exact ⟨hb, rfl⟩
          · intro G W hB hF hS
            have h34 : G 34 = .bool (decide (PM.tord xj xp < 0)) := by simp [PM.allSp, PM.spec] at hS; simp [hS]
            have q0 := hF 0 rfl
            have q1 := hF 1 rfl
            have q2 := hF 2 rfl
            have q3 := hF 3 rfl
            have q4 := hF 4 rfl
            have q5 := hF 5 rfl
            have q6 := hF 6 rfl
            have q7 := hF 7 rfl
            have q8 := hF 8 rfl
            have q9 := hF 9 rfl
            have q10 := hF 10 rfl
            have q11 := hF 11 rfl
            have q12 := hF 12 rfl
            have q13 := hF 13 rfl
            have q14 := hF 14 rfl
            have q15 := hF 15 rfl
            have q16 := hF 16 rfl
            have q17 := hF 17 rfl
            simp [PM.sl] at q0 q1 q2 q3 q4 q5 q6 q7 q8 q9 q10 q11 q12 q13 q14 q15 q16 q17
            rw [show ((List.range (Array.size _)).map G).toArray = #[G 0, G 1, G 2, G 3, G 4, G 5, G 6, G 7, G 8, G 9, G 10, G 11, G 12, G 13, G 14, G 15, G 16, G 17, G 18, G 19, G 20, G 21, G 22, G 23, G 24, G 25, G 26, G 27, G 28, G 29, G 30, G 31, G 32, G 33, G 34, G 35, G 36, G 37, G 38, G 39, G 40, G 41, G 42, G 43, G 44, G 45, G 46, G 47, G 48, G 49, G 50, G 51, G 52] from rfl]
            clear hF hS
            rw [h34, q0, q1, q2, q3, q4, q5, q6, q7, q8, q9, q10, q11, q12, q13, q14, q15, q16, q17]
            clear h34 q0 q1 q2 q3 q4 q5 q6 q7 q8 q9 q10 q11 q12 q13 q14 q15 q16 q17
            have hR2 : PM.SR 25 W g dj tl := HI.out.2.1.keep hB
            have hX2 : PM.Bx g w W := HI.out.2.2.1.trans (PM.Bx.of hB)
            have hRX := PM.hid (And.intro hR2 hX2)
            clear hR2 hX2 hB
            by_cases hlv : PM.tord xj xp < 0
            · have hdv : decide (PM.tord xj xp < 0) = true := decide_eq_true hlv
              rw [hdv]
              have hlvh := PM.hid hlv
              clear hlv hdv
              go_upto_region 6 with fail
              have hcj : PM.Cs W g ((jp + 1) * 5) xj := by rw [← hHx.out.1]; exact hRX.out.1.cs (by rw [HI.out.1]; omega)
              have hcp : PM.Cs W g (jp * 5) xp := by rw [← hHx.out.2]; exact hRX.out.1.cs (by rw [HI.out.1]; omega)
              have hR1 := hRX.out.1.set5 (i := jp + 1) (by rw [HI.out.1]; omega) xp
              have hR2 := hR1.set5 (i := jp) (by rw [Array.size_setIfInBounds, HI.out.1]; omega) xj
              have hRX2 := PM.hid (And.intro hR2 (hRX.out.2.trans ((PM.Bx.set5 g ((jp + 1) * 5) W (.string xp.name) (.int .i64 xp.op) (.int .i64 xp.k) (.int .i64 xp.n) (.string xp.s)).trans (PM.Bx.set5 g (jp * 5) _ (.string xj.name) (.int .i64 xj.op) (.int .i64 xj.k) (.int .i64 xj.n) (.string xj.s)))))
              clear hR1 hR2
              have c0 := hcj.c0
              have c1 := hcj.c1
              have c2 := hcj.c2
              have c3 := hcj.c3
              have c4 := hcj.c4
              have d0 := hcp.c0
              have d1 := hcp.c1
              have d2 := hcp.c2
              have d3 := hcp.c3
              have d4 := hcp.c4
              have f0 : W.frozen? ⟨g, (jp + 1) * 5, none⟩ = false := PM.BK.free hRX.out.1 _
              have f1 : W.frozen? ⟨g, (jp + 1) * 5 + 1, none⟩ = false := PM.BK.free hRX.out.1 _
              have f2 : W.frozen? ⟨g, (jp + 1) * 5 + 2, none⟩ = false := PM.BK.free hRX.out.1 _
              have f3 : W.frozen? ⟨g, (jp + 1) * 5 + 3, none⟩ = false := PM.BK.free hRX.out.1 _
              have f4 : W.frozen? ⟨g, (jp + 1) * 5 + 4, none⟩ = false := PM.BK.free hRX.out.1 _
              have k0 : W.frozen? ⟨g, jp * 5, none⟩ = false := PM.BK.free hRX.out.1 _
              have k1 : W.frozen? ⟨g, jp * 5 + 1, none⟩ = false := PM.BK.free hRX.out.1 _
              have k2 : W.frozen? ⟨g, jp * 5 + 2, none⟩ = false := PM.BK.free hRX.out.1 _
              have k3 : W.frozen? ⟨g, jp * 5 + 3, none⟩ = false := PM.BK.free hRX.out.1 _
              have k4 : W.frozen? ⟨g, jp * 5 + 4, none⟩ = false := PM.BK.free hRX.out.1 _
              clear hcj hcp
              have hfin : ∀ w9, w9 = ((((((((((W.setCell ⟨g, (jp + 1) * 5, none⟩ (.string xp.name)).setCell ⟨g, (jp + 1) * 5 + 1, none⟩ (.int .i64 xp.op)).setCell ⟨g, (jp + 1) * 5 + 2, none⟩ (.int .i64 xp.k)).setCell ⟨g, (jp + 1) * 5 + 3, none⟩ (.int .i64 xp.n)).setCell ⟨g, (jp + 1) * 5 + 4, none⟩ (.string xp.s)).setCell ⟨g, jp * 5, none⟩ (.string xj.name)).setCell ⟨g, jp * 5 + 1, none⟩ (.int .i64 xj.op)).setCell ⟨g, jp * 5 + 2, none⟩ (.int .i64 xj.k)).setCell ⟨g, jp * 5 + 3, none⟩ (.int .i64 xj.n)).setCell ⟨g, jp * 5 + 4, none⟩ (.string xj.s)).drew → Hid ((swp dj (jp + 1) jp).size = N ∧ PM.SR 25 w9 g (swp dj (jp + 1) jp) tl ∧ PM.Bx g w w9 ∧ insInner PM.tlt 0 jp (swp dj (jp + 1) jp) = insInner PM.tlt 0 i dk) := by
                rintro w9 rfl
                refine PM.hid ⟨by rw [size_swp]; exact HI.out.1, ?_, hRX2.out.2.drew, ?_⟩
                · have := hRX2.out.1.drew
                  unfold swp
                  rw [hHx.out.1, hHx.out.2]
                  exact this
                · have := insInner_go PM.tlt 0 (jp + 1) dj hja (by rw [Nat.add_sub_cancel, hHx.out.1, hHx.out.2]; exact PM.tlt_yes hlvh.out)
                  rw [Nat.add_sub_cancel] at this
                  rw [← HI.out.2.2.2, this]
              have hfin' := PM.hid hfin
              clear hfin HI hRX OUT hHx hlvh HO hcc hRX2
              go_big_region_o
              all_goals go_wp2
              go_roundg jp
              case measure => omega
              case rel =>
                exact ⟨jp, swp dj (jp + 1) jp, by first | rfl | go_num | (congr 1; omega), by omega, Nat.le_refl _, hfin'.out _ rfl⟩
            · have hdv : decide (PM.tord xj xp < 0) = false := decide_eq_false hlv
              rw [hdv]
              have hlvh := PM.hid hlv
              clear hlv hdv
              have hfin : Hid (dj.size = N ∧ PM.SR 25 W g dj tl ∧ PM.Bx g w W ∧ insOuter PM.tlt 0 N (i + 1) dj = insOuter PM.tlt 0 N (0 + 1) d) := by
                refine PM.hid ⟨HI.out.1, hRX.out.1, hRX.out.2, OUT.out (Or.inr ?_)⟩
                rw [Nat.add_sub_cancel, hHx.out.1, hHx.out.2]
                exact PM.tlt_no (Int.not_lt.1 hlvh.out)
              clear HI hRX OUT hHx hlvh HO hcc
              go_wp2_with fail
              go_roundg (N - (i + 1))
              case measure => omega
              case rel => exact ⟨i + 1, dj, by go_num, by omega, by omega, by omega, hfin⟩
        · have hj0 : j = 0 := by omega
          subst hj0
          have hjaz : decide (((0 : Nat) : Int) > (0 : Int)) = false := by simp
          have hjaz' : ¬ (((0 : Nat) : Int) > (0 : Int)) := by simp
          have HDR := PM.hid (And.intro (show PM.SR 25 wr.drew g dj tl from HI.out.2.1) (show PM.Bx g w wr.drew from HI.out.2.2.1.trans ⟨rfl, rfl, rfl, Nat.le_refl _, fun _ _ _ => rfl⟩))
          go_wp2_with fail
          go_big_region_o
          all_goals go_wp2
          go_roundg (N - (i + 1))
          case measure => omega
          case rel => exact ⟨i + 1, dj, by go_num, by omega, by omega, by omega, PM.hid ⟨HI.out.1, HDR.out.1, HDR.out.2, OUT.out (Or.inl (by omega))⟩⟩
    · have hltz : ¬ (i : Int) < (N : Int) := by omega
      go_wp2_with fail
      go_end0
      exact ⟨rfl, by unfold Sort.insertionSort; rw [← HO.out.2.2.2, insOuter_stop _ _ _ _ _ hlt]; exact HO.out.2.1, HO.out.2.2.1⟩
end Go.Proofs.Ytbpajgejfnjaeaa
