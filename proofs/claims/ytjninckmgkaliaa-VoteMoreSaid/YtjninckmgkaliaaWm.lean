/-
  THE WALK OF VoteMore.
-/
import Derived.Test.YtjninckmgkaliaaWe
import Derived.Test.YtjninckmgkaliaaAp
import Derived.Test.YtjninckmgkaliaaWt
namespace Go.Proofs.Ytjninckmgkaliaa
open Go.RowKit
set_option linter.unusedVariables false
set_option linter.unusedSimpArgs false
theorem tyMsO : PM.MTy Try.prog 28 41 8 160 := by
  refine ⟨Try.underlying28, by decide, ?_⟩
  obtain ⟨i, h1, h2, h3, h4⟩ := info_parts (P := Try.prog) (e := 41) (z := .agg #[.int .i64 0, .int .u64 0, .slice none 0 0, .slice none 0 0, .slice none 0 0, .slice none 0 0, .slice none 0 0, .slice none 0 0]) (size := 8) (bytes := 160) (by kernel_rfl)
  exact ⟨i, _, h1, h2, h3, h4, by kernel_rfl⟩
namespace PM
theorem says_more (ks : List Ms) (m : Ms) (i : Id) : says (ks ++ [m]) i = if says ks i = 2 ∨ says [m] i = 2 then 2 else if says ks i = 1 ∧ says [m] i = 1 then 1 else 0 := by
  unfold says
  simp only [List.any_append, List.all_append, List.any_cons, List.any_nil, List.all_cons, List.all_nil, Bool.or_false, Bool.and_true]
  cases ks.any (hasV ⟨i, false⟩) <;> cases ks.all (hasV ⟨i, true⟩) <;> cases hasV ⟨i, false⟩ m <;> cases hasV ⟨i, true⟩ m <;> simp
/-- what the region's operations keep -/
def AR (E : TypeId) (B0 : Nat) (a b c : List (Ce 8)) (w w' : World) : Prop := w.heap.size ≤ w'.heap.size ∧ (B0 ≤ w.heap.size → Below B0 w w') ∧
  (∀ v, OM ceL 8 E B0 w v a → OM ceL 8 E B0 w' v a) ∧ (∀ v, OM ceL 8 E B0 w v b → OM ceL 8 E B0 w' v b) ∧ (∀ v, OM ceL 8 E B0 w v c → OM ceL 8 E B0 w' v c)
theorem AR.new {E : TypeId} {B0 : Nat} {a b c : List (Ce 8)} (w w' : World) (h : Below w.heap.size w w') : AR E B0 a b c w w' := ⟨h.size, fun hb => h.mono hb, fun v hv => hv.keep h, fun v hv => hv.keep h, fun v hv => hv.keep h⟩
theorem AR.tr {E : TypeId} {B0 : Nat} {a b c : List (Ce 8)} {x y z : World} (h : AR E B0 a b c x y) (k : AR E B0 a b c y z) : AR E B0 a b c x z :=
  ⟨Nat.le_trans h.1 k.1, fun hb => (h.2.1 hb).trans (k.2.1 (Nat.le_trans hb h.1)), fun v hv => k.2.2.1 v (h.2.2.1 v hv), fun v hv => k.2.2.2.1 v (h.2.2.2.1 v hv), fun v hv => k.2.2.2.2 v (h.2.2.2.2 v hv)⟩
def S0 (E : TypeId) (B0 : Nat) (a : List (Ce 8)) (x : Value) (w : World) : Prop := ∃ g, x = .slice (some ⟨g, 0, none⟩) 0 0 ∧ (a = [] → OM ceL 8 E B0 w x a)
def S1 (E : TypeId) (B0 : Nat) (a : List (Ce 8)) (x : Value) (w : World) : Prop := ∃ p n k, x = .slice (some p) n k ∧ OM ceL 8 E B0 w x a
def S2 (E : TypeId) (B0 : Nat) (b : List (Ce 8)) (x : Value) (w : World) : Prop := ∃ p, x = .slice (some p) 1 1 ∧ OM ceL 8 E B0 w x b
def S3 (E : TypeId) (B0 : Nat) (c : List (Ce 8)) (x : Value) (w : World) : Prop := ∃ p n k, x = .slice p n k ∧ OM ceL 8 E B0 w x c
theorem OM.lit1c {E : TypeId} {B0 : Nat} (W : World) (x : Ce 8) (cs : Array Value) (hcs : cs = x.1.toArray) (hB : B0 ≤ W.heap.size) : OM ceL 8 E B0 (W.alloc (.cells cs E)) (.slice (some ⟨W.heap.size, 0, none⟩) 1 1) [x] := by
  subst hcs
  have hx : x.1.length = 8 := x.2.1
  refine ⟨flat_len ceL_len [x], .inr ⟨W.heap.size, 1, x.1.toArray, rfl, hB, heap_alloc_new W _, Nat.le_refl _, by simp only [maxLen]; omega, by simp [hx], ?_⟩⟩
  simp [ceL, List.take_of_length_le, hx]
theorem OM.lit0c {E : TypeId} {B0 : Nat} (W : World) (hB : B0 ≤ W.heap.size) : OM ceL 8 E B0 (W.alloc (.cells #[] E)) (.slice (some ⟨W.heap.size, 0, none⟩) 0 0) ([] : List (Ce 8)) :=
  ⟨by simp, .inr ⟨W.heap.size, 0, #[], rfl, hB, heap_alloc_new W _, by simp, by decide, by simp, by simp⟩⟩
theorem wp_append {P : Program} {T : TypeId} {o : Oper} {a : Act} {w w' : World} {v xv v' : Value} {Q : Act → World → Prop} {K : Exit → Act → World → Prop} (hgd : o.guard = none) (s x : Operand) (ho : o.op = .call { callee := .builtin .append, args := #[s, x], argTypes := #[T, T] }) (hs : a.eval s = v) (hx : a.eval x = xv) (hrun : (Builtin.append_ #[T, T] o.type #[v, xv]).run P w = .ok v' w') (h : Q (a.put o.dst v') w') : o.wp P a w Q K := by
  unfold Oper.wp
  simp [execOp, ho, resolve, invoke, builtin, hs, hx, hrun, Result.andThen]
  exact h
theorem MsL.more {W0 W : World} {v : Value} {cssK : List (Ce 8)} {csm : Ce 8} {ks : List Ms} {m : Ms} (h1 : EM ceL 8 W v (cssK ++ [csm])) (hl : cssK.length = ks.length) (h3 : ∀ (i : Nat) (cs : Ce 8) (x : Ms), cssK[i]? = some cs → ks[i]? = some x → msR W0 cs.1 x) (hb : Below W0.heap.size W0 W) (hm : msR W0 csm.1 m) : MsL W v (ks ++ [m]) := by
  refine ⟨cssK ++ [csm], h1, by simp [hl], fun i cs x hi hx => ?_⟩
  by_cases hlt : i < cssK.length
  · rw [List.getElem?_append_left hlt] at hi
    rw [List.getElem?_append_left (by omega)] at hx
    exact msR_lasts _ _ _ _ hb (h3 i cs x hi hx)
  · rw [List.getElem?_append_right (by omega)] at hi hx
    have hi0 : i = cssK.length := by
      have := (List.getElem?_eq_some_iff.1 hi).1
      simp at this
      omega
    subst hi0
    simp at hi
    rw [hl] at hx
    simp at hx
    subst hi hx
    exact msR_lasts _ _ _ _ hb hm
end PM
set_option maxRecDepth 100000 in
set_option maxHeartbeats 16000000 in
theorem voteMore_walkA (b0 : Option Addr) (N d0 : Nat) (ma0 : Option Addr) (mn0 mc0 : Nat) (ma1 : Option Addr) (mn1 mc1 : Nat) (ma2 : Option Addr) (mn2 mc2 : Nat) (ma3 : Option Addr) (mn3 mc3 : Nat) (ma4 : Option Addr) (mn4 mc4 : Nat) (ma5 : Option Addr) (mn5 mc5 : Nat) (ii : PM.Id) (ks : List PM.Ms) (m : PM.Ms) (w : World) (hN : N = ks.length) (hv0 : PM.MsL w (.slice b0 N d0) ks) (hmR : PM.msR w (PM.msC m (.slice ma0 mn0 mc0) (.slice ma1 mn1 mc1) (.slice ma2 mn2 mc2) (.slice ma3 mn3 mc3) (.slice ma4 mn4 mc4) (.slice ma5 mn5 mc5)) m) :
    Calls Try.prog 7 #[.slice b0 N d0, .agg #[.int .i64 m.kind, .int .u64 (m.hav : Int), .slice ma0 mn0 mc0, .slice ma1 mn1 mc1, .slice ma2 mn2 mc2, .slice ma3 mn3 mc3, .slice ma4 mn4 mc4, .slice ma5 mn5 mc5], .agg #[.int .i64 ii.br, .int .u64 (ii.life : Int), .int .u64 (ii.ser : Int)]] w fun e w' => e = .returned (.bool true) ∧ Below w.heap.size w w' := by
  have hNh := PM.hid hN
  clear hN
  obtain ⟨A, hA⟩ : ∃ A, A = PM.says ks ii := ⟨_, rfl⟩
  obtain ⟨D, hD⟩ : ∃ D, D = PM.says [m] ii := ⟨_, rfl⟩
  obtain ⟨C, hC⟩ : ∃ C, C = PM.says (ks ++ [m]) ii := ⟨_, rfl⟩
  have hA3 : Hid (A = 0 ∨ A = 1 ∨ A = 2) := PM.hid (by rw [hA]; exact PM.says_cases ks ii)
  have hD3 : Hid (D = 0 ∨ D = 1 ∨ D = 2) := PM.hid (by rw [hD]; exact PM.says_cases [m] ii)
  have hCe : Hid (C = if A = 2 ∨ D = 2 then 2 else if A = 1 ∧ D = 1 then 1 else 0) := PM.hid (by rw [hC, hA, hD]; exact PM.says_more ks m ii)
  replace hA := PM.hid hA
  replace hD := PM.hid hD
  replace hC := PM.hid hC
  replace hv0 := PM.hid hv0
  replace hmR := PM.hid hmR
  obtain ⟨g4, hg4⟩ : ∃ g, g = w.heap.size := ⟨_, rfl⟩
  obtain ⟨w1, hw1⟩ : ∃ W, W = w.alloc (.cells #[.int .i64 m.kind, .int .u64 (m.hav : Int), .slice ma0 mn0 mc0, .slice ma1 mn1 mc1, .slice ma2 mn2 mc2, .slice ma3 mn3 mc3, .slice ma4 mn4 mc4, .slice ma5 mn5 mc5] 41) := ⟨_, rfl⟩
  obtain ⟨g5, hg5⟩ : ∃ g, g = w1.heap.size := ⟨_, rfl⟩
  obtain ⟨w2, hw2⟩ : ∃ W, W = w1.alloc (.cells #[.int .i64 ii.br, .int .u64 (ii.life : Int), .int .u64 (ii.ser : Int)] 30) := ⟨_, rfl⟩
  have hs1 : w1.heap.size = w.heap.size + 1 := by rw [hw1]; simp
  have bb1 : Below w.heap.size w w1 := by rw [hw1]; exact (Below.refl _ _).alloc (Nat.le_refl _) _
  have bb2 : Below w1.heap.size w1 w2 := by rw [hw2]; exact (Below.refl _ _).alloc (Nat.le_refl _) _
  have km : PM.BK w1 g4 #[.int .i64 m.kind, .int .u64 (m.hav : Int), .slice ma0 mn0 mc0, .slice ma1 mn1 mc1, .slice ma2 mn2 mc2, .slice ma3 mn3 mc3, .slice ma4 mn4 mc4, .slice ma5 mn5 mc5] 41 := by rw [hw1, hg4]; exact PM.BK.new _ _ _
  replace km := km.keep bb2
  have ki : PM.BK w2 g5 #[.int .i64 ii.br, .int .u64 (ii.life : Int), .int .u64 (ii.ser : Int)] 30 := by rw [hw2, hg5]; exact PM.BK.new _ _ _
  have hBB := PM.hid (PM.chain bb1 bb2)
  clear bb1 bb2
  go_enter Try.func7, Try.ntmps7
  go_upto_region 1 with fail
  rw [← hs1, ← hg4, ← hw1, ← hw2, ← hg5]
  clear hs1 hg4 hw1 hw2 hg5
  go_wp2_with fail
  refine (awake18_any w2).mono ?_
  rintro e w3 ⟨rfl, hBn⟩
  replace km := km.keep hBn
  replace ki := ki.keep hBn
  replace hBB := PM.hid (PM.chain hBB.out hBn)
  clear hBn
  have hf1 := few18_any 0 none 0 0 none 0 0 none 0 0 (.slice b0 N d0) [] [] ks w3 (PM.RR.nil _) (PM.RR.nil _) (PM.MsL.keep hv0.out hBB.out)
  go_wp2_with fail
  refine hf1.mono ?_
  clear hf1
  rintro e w4 ⟨hF, hBn⟩
  replace km := km.keep hBn
  replace ki := ki.keep hBn
  replace hBB := PM.hid (PM.chain hBB.out hBn)
  clear hBn
  rcases hF with ⟨rfl, -, -, -, h6, -⟩ | rfl
  case inr =>
    clear km ki
    go_wp2_with fail
    go_ret
    exact ⟨rfl, hBB.out⟩
  rw [← hNh.out] at h6
  obtain ⟨w5, hw5⟩ : ∃ W, W = w4.alloc (.cells #[.int .i64 m.kind, .int .u64 (m.hav : Int), .slice ma0 mn0 mc0, .slice ma1 mn1 mc1, .slice ma2 mn2 mc2, .slice ma3 mn3 mc3, .slice ma4 mn4 mc4, .slice ma5 mn5 mc5] 41) := ⟨_, rfl⟩
  obtain ⟨ga, hga⟩ : ∃ g, g = w4.heap.size := ⟨_, rfl⟩
  have hbn : Below w4.heap.size w4 w5 := by rw [hw5]; exact (Below.refl _ _).alloc (Nat.le_refl _) _
  have hml : PM.MsL w5 (.slice (some ⟨ga, 0, none⟩) 1 1) [m] := by rw [hw5, hga]; exact PM.MsL.lit1 _ _ m ma0 mn0 mc0 ma1 mn1 mc1 ma2 mn2 mc2 ma3 mn3 mc3 ma4 mn4 mc4 ma5 mn5 mc5 (PM.msR_lasts _ _ _ _ hBB.out hmR.out)
  have hf2 := few18_any 0 none 0 0 none 0 0 none 0 0 _ [] [] [m] w5 (PM.RR.nil _) (PM.RR.nil _) hml
  have mm0 : w4.cell? ⟨g4, 0, none⟩ = some (.int .i64 m.kind) := km.cell 0
  have mm1 : w4.cell? ⟨g4, 1, none⟩ = some (.int .u64 (m.hav : Int)) := km.cell 1
  have mm2 : w4.cell? ⟨g4, 2, none⟩ = some (.slice ma0 mn0 mc0) := km.cell 2
  have mm3 : w4.cell? ⟨g4, 3, none⟩ = some (.slice ma1 mn1 mc1) := km.cell 3
  have mm4 : w4.cell? ⟨g4, 4, none⟩ = some (.slice ma2 mn2 mc2) := km.cell 4
  have mm5 : w4.cell? ⟨g4, 5, none⟩ = some (.slice ma3 mn3 mc3) := km.cell 5
  have mm6 : w4.cell? ⟨g4, 6, none⟩ = some (.slice ma4 mn4 mc4) := km.cell 6
  have mm7 : w4.cell? ⟨g4, 7, none⟩ = some (.slice ma5 mn5 mc5) := km.cell 7
  go_wp2_with fail
  rw [← hw5, ← hga]
  refine hf2.mono ?_
  clear hf2 mm0 mm1 mm2 mm3 mm4 mm5 mm6 mm7
  rintro e w6 ⟨hF, hBn⟩
  have hbw := PM.chain hbn hBn
  clear hbn hBn hml hw5 hga
  replace km := km.keep hbw
  replace ki := ki.keep hbw
  replace hBB := PM.hid (PM.chain hBB.out hbw)
  clear hbw
  rcases hF with ⟨rfl, -⟩ | rfl
  case inr =>
    clear km ki
    go_wp2_with fail
    go_ret
    exact ⟨rfl, hBB.out⟩
  have hc1 := says_any (.slice b0 N d0) ii ks w6 (PM.MsL.keep hv0.out hBB.out)
  rw [← hA.out] at hc1
  have jj0 : w6.cell? ⟨g5, 0, none⟩ = some (.int .i64 ii.br) := ki.cell 0
  have jj1 : w6.cell? ⟨g5, 1, none⟩ = some (.int .u64 (ii.life : Int)) := ki.cell 1
  have jj2 : w6.cell? ⟨g5, 2, none⟩ = some (.int .u64 (ii.ser : Int)) := ki.cell 2
  go_wp2_with fail
  refine hc1.mono ?_
  clear hc1 jj0 jj1 jj2
  rintro e w7 ⟨rfl, hBn⟩
  replace km := km.keep hBn
  replace ki := ki.keep hBn
  replace hBB := PM.hid (PM.chain hBB.out hBn)
  clear hBn
  obtain ⟨w8, hw8⟩ : ∃ W, W = w7.alloc (.cells #[.int .i64 m.kind, .int .u64 (m.hav : Int), .slice ma0 mn0 mc0, .slice ma1 mn1 mc1, .slice ma2 mn2 mc2, .slice ma3 mn3 mc3, .slice ma4 mn4 mc4, .slice ma5 mn5 mc5] 41) := ⟨_, rfl⟩
  obtain ⟨ga, hga⟩ : ∃ g, g = w7.heap.size := ⟨_, rfl⟩
  have hbn : Below w7.heap.size w7 w8 := by rw [hw8]; exact (Below.refl _ _).alloc (Nat.le_refl _) _
  have hml : PM.MsL w8 (.slice (some ⟨ga, 0, none⟩) 1 1) [m] := by rw [hw8, hga]; exact PM.MsL.lit1 _ _ m ma0 mn0 mc0 ma1 mn1 mc1 ma2 mn2 mc2 ma3 mn3 mc3 ma4 mn4 mc4 ma5 mn5 mc5 (PM.msR_lasts _ _ _ _ hBB.out hmR.out)
  have hc2 := says_any _ ii [m] w8 hml
  rw [← hD.out, hga, hw8] at hc2
  have mm0 : w7.cell? ⟨g4, 0, none⟩ = some (.int .i64 m.kind) := km.cell 0
  have mm1 : w7.cell? ⟨g4, 1, none⟩ = some (.int .u64 (m.hav : Int)) := km.cell 1
  have mm2 : w7.cell? ⟨g4, 2, none⟩ = some (.slice ma0 mn0 mc0) := km.cell 2
  have mm3 : w7.cell? ⟨g4, 3, none⟩ = some (.slice ma1 mn1 mc1) := km.cell 3
  have mm4 : w7.cell? ⟨g4, 4, none⟩ = some (.slice ma2 mn2 mc2) := km.cell 4
  have mm5 : w7.cell? ⟨g4, 5, none⟩ = some (.slice ma3 mn3 mc3) := km.cell 5
  have mm6 : w7.cell? ⟨g4, 6, none⟩ = some (.slice ma4 mn4 mc4) := km.cell 6
  have mm7 : w7.cell? ⟨g4, 7, none⟩ = some (.slice ma5 mn5 mc5) := km.cell 7
  have jj0 : w7.cell? ⟨g5, 0, none⟩ = some (.int .i64 ii.br) := ki.cell 0
  have jj1 : w7.cell? ⟨g5, 1, none⟩ = some (.int .u64 (ii.life : Int)) := ki.cell 1
  have jj2 : w7.cell? ⟨g5, 2, none⟩ = some (.int .u64 (ii.ser : Int)) := ki.cell 2
  have jk0 : ∀ o, (w7.alloc o).cell? ⟨g5, 0, none⟩ = some (.int .i64 ii.br) := fun o => PM.cellA ((Below.refl _ _).alloc (Nat.le_refl _) o) jj0
  have jk1 : ∀ o, (w7.alloc o).cell? ⟨g5, 1, none⟩ = some (.int .u64 (ii.life : Int)) := fun o => PM.cellA ((Below.refl _ _).alloc (Nat.le_refl _) o) jj1
  have jk2 : ∀ o, (w7.alloc o).cell? ⟨g5, 2, none⟩ = some (.int .u64 (ii.ser : Int)) := fun o => PM.cellA ((Below.refl _ _).alloc (Nat.le_refl _) o) jj2
  have hbnh := PM.hid hbn
  have hww : Hid (w8 = w7.alloc (.cells #[.int .i64 m.kind, .int .u64 (m.hav : Int), .slice ma0 mn0 mc0, .slice ma1 mn1 mc1, .slice ma2 mn2 mc2, .slice ma3 mn3 mc3, .slice ma4 mn4 mc4, .slice ma5 mn5 mc5] 41)) := PM.hid hw8
  clear hml hw8 hga hbn
  go_wp2_with fail
  refine hc2.mono ?_
  clear hc2 mm0 mm1 mm2 mm3 mm4 mm5 mm6 mm7 jj0 jj1 jj2 jk0 jk1 jk2
  rintro e w9 ⟨rfl, hBn⟩
  rw [← hww.out] at hBn
  have hbw := PM.chain hbnh.out hBn
  clear hbnh hBn hww
  have km := PM.hid (km.keep hbw)
  have ki := PM.hid (ki.keep hbw)
  replace hBB := PM.hid (PM.chain hBB.out hbw)
  clear hbw w8
  obtain ⟨cssK, hK1, hK2, hK3⟩ := PM.MsL.keep hv0.out hBB.out
  have hK1 := PM.hid hK1
  have hKl : Hid (cssK.length ≤ 6) := PM.hid (by rw [hK2, ← hNh.out]; exact h6)
  have hK3 := PM.hid (And.intro hK2 hK3)
  obtain ⟨csm, hcsm⟩ : ∃ c : PM.Ce 8, c = PM.msCe m ma0 mn0 mc0 ma1 mn1 mc1 ma2 mn2 mc2 ma3 mn3 mc3 ma4 mn4 mc4 ma5 mn5 mc5 := ⟨_, rfl⟩
  have hcsm1 : Hid (csm.1 = PM.msC m (.slice ma0 mn0 mc0) (.slice ma1 mn1 mc1) (.slice ma2 mn2 mc2) (.slice ma3 mn3 mc3) (.slice ma4 mn4 mc4) (.slice ma5 mn5 mc5)) := PM.hid (by rw [hcsm]; rfl)
  have hmR9 := PM.hid (PM.msR_lasts _ _ _ _ hBB.out hmR.out)
  clear hcsm hK2 h6
  go_upto_region 6 with fail
  refine PM.wp_region_stR (PM.AR 41 w9.heap.size cssK [csm] (cssK ++ [csm])) PM.AR.new PM.AR.tr [some 32, some 33, some 34, some 35, some 36, some 37, some 38, some 39, some 10] [PM.S0 41 w9.heap.size cssK, fun x _ => x = .slice b0 N d0, PM.S1 41 w9.heap.size cssK, fun x _ => x = .agg #[.int .i64 m.kind, .int .u64 (m.hav : Int), .slice ma0 mn0 mc0, .slice ma1 mn1 mc1, .slice ma2 mn2 mc2, .slice ma3 mn3 mc3, .slice ma4 mn4 mc4, .slice ma5 mn5 mc5], PM.S2 41 w9.heap.size [csm], PM.S3 41 w9.heap.size (cssK ++ [csm]), fun x _ => x = .agg #[.int .i64 ii.br, .int .u64 (ii.life : Int), .int .u64 (ii.ser : Int)], fun x _ => x = .int .i64 C, fun x _ => x = .int .i64 C] (by kernel_rfl) (by kernel_rfl) (by kernel_rfl) ?_ ?_ ?_
  · simp only [List.forall_mem_cons]
    refine ⟨?_, ?_, ?_, ?_, ?_, ?_, ?_, ?_, ?_, by simp⟩
    all_goals (intro x W W' h hb; first | exact h | (obtain ⟨g, hx, h⟩ := h; exact ⟨g, hx, fun e => hb.2.2.1 _ (h e)⟩) | (obtain ⟨p, n, k, hx, h⟩ := h; exact ⟨p, n, k, hx, hb.2.2.1 _ h⟩) | (obtain ⟨p, hx, h⟩ := h; exact ⟨p, hx, hb.2.2.2.1 _ h⟩) | (obtain ⟨p, n, k, hx, h⟩ := h; exact ⟨p, n, k, hx, hb.2.2.2.2 _ h⟩))
  · refine ⟨?_, ?_, ?_, ?_, ?_, ?_, ?_, ?_, ?_, trivial⟩
    all_goals
      intro a W hB hF hd
      have k0 := hF 0 rfl
      have k4 := hF 4 rfl
      have k5 := hF 5 rfl
      have hBW := hB.2.1 (Nat.le_refl _)
      have mm0 : W.cell? ⟨g4, 0, none⟩ = some (.int .i64 m.kind) := (km.out.keep hBW).cell 0
      have mm1 : W.cell? ⟨g4, 1, none⟩ = some (.int .u64 (m.hav : Int)) := (km.out.keep hBW).cell 1
      have mm2 : W.cell? ⟨g4, 2, none⟩ = some (.slice ma0 mn0 mc0) := (km.out.keep hBW).cell 2
      have mm3 : W.cell? ⟨g4, 3, none⟩ = some (.slice ma1 mn1 mc1) := (km.out.keep hBW).cell 3
      have mm4 : W.cell? ⟨g4, 4, none⟩ = some (.slice ma2 mn2 mc2) := (km.out.keep hBW).cell 4
      have mm5 : W.cell? ⟨g4, 5, none⟩ = some (.slice ma3 mn3 mc3) := (km.out.keep hBW).cell 5
      have mm6 : W.cell? ⟨g4, 6, none⟩ = some (.slice ma4 mn4 mc4) := (km.out.keep hBW).cell 6
      have mm7 : W.cell? ⟨g4, 7, none⟩ = some (.slice ma5 mn5 mc5) := (km.out.keep hBW).cell 7
      have jj0 : W.cell? ⟨g5, 0, none⟩ = some (.int .i64 ii.br) := (ki.out.keep hBW).cell 0
      have jj1 : W.cell? ⟨g5, 1, none⟩ = some (.int .u64 (ii.life : Int)) := (ki.out.keep hBW).cell 1
      have jj2 : W.cell? ⟨g5, 2, none⟩ = some (.int .u64 (ii.ser : Int)) := (ki.out.keep hBW).cell 2
      clear hF
      simp [PM.depsL, PM.spec, PM.sl, Region.binds] at hd k0 k4 k5
      simp only [PM.wantL, PM.spec]
      try simp only [PM.sl]
      first
        | (have hd' : PM.S0 41 w9.heap.size cssK _ W ∧ _ := hd; obtain ⟨⟨g, hx, hO⟩, hx33⟩ := hd'; rw [hx] at hO; obtain ⟨pa, pn, pk, W2, hrun, hO2, hb2⟩ := PM.run_app0 tyMsO PM.ceL_len PM.ceL_one 28 hO (hK1.out.keep hBW) (by have := hKl.out; omega) (by have := hKl.out; unfold maxLen; omega) hB.1; rw [if_pos trivial]; refine PM.wp_append rfl _ _ rfl (by simp [go_sem, hx]) (by simp [go_sem, hx33]) hrun ?_)
        | (have hd' : PM.S1 41 w9.heap.size cssK _ W ∧ PM.S2 41 w9.heap.size [csm] _ W ∧ _ := hd; obtain ⟨⟨pa, pn, pk, hx, hO⟩, ⟨pb, hy, hO4⟩, _⟩ := hd'; rw [hx] at hO; rw [hy] at hO4; obtain ⟨v', W2, hrun, hO2, hb2, hkp⟩ := PM.run_app1 tyMsO PM.ceL_len PM.ceL_one 28 hO (hO4.em PM.ceL_len) (by have := hKl.out; omega) (by have := hKl.out; unfold maxLen; omega) hB.1 (by simp); rw [if_pos trivial]; refine PM.wp_append rfl _ _ rfl (by simp [go_sem, hx]) (by simp [go_sem, hy]) hrun ?_)
        | (have hd' : PM.S3 41 w9.heap.size (cssK ++ [csm]) _ W ∧ _ := hd; obtain ⟨⟨p, n, k, hx, hO⟩, hx38⟩ := hd'; (first | (obtain ⟨hx38, _⟩ := hx38) | skip); go_simp)
        | go_simp
    all_goals try exact ⟨Nat.le_refl _, fun _ => Below.refl _ _, fun _ h => h, fun _ h => h, fun _ h => h⟩
    · exact ⟨PM.AR.new _ _ ((Below.refl _ _).alloc (Nat.le_refl _) _), _, rfl, W.heap.size, rfl, fun e => by rw [e]; exact PM.OM.lit0c W hB.1⟩
    · exact ⟨PM.AR.new _ _ hb2, _, rfl, pa, pn, pk, rfl, hO2⟩
    · exact ⟨PM.AR.new _ _ ((Below.refl _ _).alloc (Nat.le_refl _) _), _, rfl, ⟨W.heap.size, 0, none⟩, rfl, PM.OM.lit1c W csm _ (by rw [hcsm1.out]; rfl) hB.1⟩
    · obtain ⟨p, k, hv⟩ := (hO2.em PM.ceL_len).len
      exact ⟨⟨hb2.size, fun _ => hb2, fun v hv => hkp v _ (.inl (Nat.le_refl _)) hv, fun v hv => hkp v _ (by
        by_cases h : cssK = []
        · exact .inr (by simp [h])
        · exact .inl (by have := List.length_pos_iff.2 h; simp; omega)) hv, fun v hv => hkp v _ (.inr rfl) hv⟩, _, rfl, _, _, _, hv, hO2⟩
    · rw [hx] at hO
      have hc := says_any _ ii (ks ++ [m]) W (PM.MsL.more (hO.em PM.ceL_len) hK3.out.1 hK3.out.2 hBW (by rw [hcsm1.out]; exact hmR9.out))
      rw [← hC.out] at hc
      refine hc.mono ?_
      rintro e w' ⟨rfl, hb⟩
      first | exact ⟨PM.AR.new _ _ hb, rfl⟩ | exact ⟨PM.AR.new _ _ hb, _, rfl, rfl⟩
  · intro G W hB hF hS
    have h10 : G 10 = .int .i64 C := by simp [PM.allSp, PM.spec] at hS; simp [hS]
    have k0 := hF 0 rfl
    have k1 := hF 1 rfl
    have k2 := hF 2 rfl
    have k3 := hF 3 rfl
    have k4 := hF 4 rfl
    have k5 := hF 5 rfl
    have k6 := hF 6 rfl
    have k7 := hF 7 rfl
    have k8 := hF 8 rfl
    have k9 := hF 9 rfl
    have k11 := hF 11 rfl
    have k12 := hF 12 rfl
    have k13 := hF 13 rfl
    have k14 := hF 14 rfl
    have k15 := hF 15 rfl
    have k16 := hF 16 rfl
    have k17 := hF 17 rfl
    have k18 := hF 18 rfl
    have k19 := hF 19 rfl
    have k20 := hF 20 rfl
    have k21 := hF 21 rfl
    have k22 := hF 22 rfl
    have k23 := hF 23 rfl
    have k24 := hF 24 rfl
    have k25 := hF 25 rfl
    have k26 := hF 26 rfl
    have k27 := hF 27 rfl
    have k28 := hF 28 rfl
    have k29 := hF 29 rfl
    have k30 := hF 30 rfl
    have k31 := hF 31 rfl
    have k40 := hF 40 rfl
    have k41 := hF 41 rfl
    have k42 := hF 42 rfl
    have k43 := hF 43 rfl
    have k44 := hF 44 rfl
    have k45 := hF 45 rfl
    have k46 := hF 46 rfl
    have k47 := hF 47 rfl
    have k48 := hF 48 rfl
    have k49 := hF 49 rfl
    have k50 := hF 50 rfl
    have k51 := hF 51 rfl
    have k52 := hF 52 rfl
    have k53 := hF 53 rfl
    have k54 := hF 54 rfl
    have k55 := hF 55 rfl
    have k56 := hF 56 rfl
    have k57 := hF 57 rfl
    simp [PM.sl] at k0 k1 k2 k3 k4 k5 k6 k7 k8 k9 k11 k12 k13 k14 k15 k16 k17 k18 k19 k20 k21 k22 k23 k24 k25 k26 k27 k28 k29 k30 k31 k40 k41 k42 k43 k44 k45 k46 k47 k48 k49 k50 k51 k52 k53 k54 k55 k56 k57
    rw [show ((List.range (Array.size _)).map G).toArray = #[G 0, G 1, G 2, G 3, G 4, G 5, G 6, G 7, G 8, G 9, G 10, G 11, G 12, G 13, G 14, G 15, G 16, G 17, G 18, G 19, G 20, G 21, G 22, G 23, G 24, G 25, G 26, G 27, G 28, G 29, G 30, G 31, G 32, G 33, G 34, G 35, G 36, G 37, G 38, G 39, G 40, G 41, G 42, G 43, G 44, G 45, G 46, G 47, G 48, G 49, G 50, G 51, G 52, G 53, G 54, G 55, G 56, G 57] from rfl]
    clear hF hS
    rw [h10, k0, k1, k2, k3, k4, k5, k6, k7, k8, k9, k11, k12, k13, k14, k15, k16, k17, k18, k19, k20, k21, k22, k23, k24, k25, k26, k27, k28, k29, k30, k31, k40, k41, k42, k43, k44, k45, k46, k47, k48, k49, k50, k51, k52, k53, k54, k55, k56, k57]
    clear h10 k0 k1 k2 k3 k4 k5 k6 k7 k8 k9 k11 k12 k13 k14 k15 k16 k17 k18 k19 k20 k21 k22 k23 k24 k25 k26 k27 k28 k29 k30 k31 k40 k41 k42 k43 k44 k45 k46 k47 k48 k49 k50 k51 k52 k53 k54 k55 k56 k57
    have hBe := PM.hid (PM.chain hBB.out (hB.2.1 (Nat.le_refl _)))
    clear hB
    rcases hA3.out with ha | ha | ha <;> rcases hD3.out with hd | hd | hd <;> subst ha <;> subst hd
    all_goals
      have hC9 := hCe.out
      simp at hC9
      subst hC9
      go_wp2_with fail
      go_ret
      exact ⟨by simp, hBe.out⟩
theorem voteMore_walk (v0 : Value) (ks : List PM.Ms) (cs : Array Value) (m : PM.Ms) (i0 i1 i2 : Int) (h0 : (Lit.int .i64 i0).wf = true) (h1 : (Lit.int .u64 i1).wf = true) (h2 : (Lit.int .u64 i2).wf = true) (w : World) (hv : PM.MsL w v0 ks) (hm : PM.msR w cs.toList m) :
    Calls Try.prog 7 #[v0, .agg cs, .agg #[.int .i64 i0, .int .u64 i1, .int .u64 i2]] w fun e w' => e = .returned (.bool true) ∧ Below w.heap.size w w' := by
  obtain ⟨a0, c0, rfl⟩ := hv.len
  obtain ⟨n1, rfl, _⟩ := PM.nat_u64 h1
  obtain ⟨n2, rfl, _⟩ := PM.nat_u64 h2
  have hm' := hm
  obtain ⟨b0, d0, b1, d1, b2, d2, b3, d3, b4, d4, b5, d5, hcs, -⟩ := PM.msR_open hm
  rw [hcs] at hm'
  have hca := congrArg List.toArray hcs
  rw [Array.toArray_toList] at hca
  subst hca
  exact voteMore_walkA a0 _ c0 b0 _ d0 b1 _ d1 b2 _ d2 b3 _ d3 b4 _ d4 b5 _ d5 ⟨i0, n1, n2⟩ ks m w rfl hv hm'
end Go.Proofs.Ytjninckmgkaliaa
