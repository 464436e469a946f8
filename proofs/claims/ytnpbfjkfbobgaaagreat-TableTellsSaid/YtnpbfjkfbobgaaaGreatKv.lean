/-
  CONTRACTS OF postilionref07: Covers, covered, Reduce, Any; out of Kt.
-/
import Derived.Test.YtnpbfjkfbobgaaaGreatKc
import Derived.Test.YtnpbfjkfbobgaaaGreatKr
import Derived.Test.YtnpbfjkfbobgaaaGreatR0
namespace Go.Proofs.YtnpbfjkfbobgaaaGreat
open Go.RowKit
set_option linter.unusedVariables false
set_option linter.unusedSimpArgs false
namespace PM
/-- texts of a filter's tests are no longer than any text -/
def szT (f : List Te) : Prop := ∀ t ∈ f, t.s.size ≤ maxLen
structure CsR (w : World) (g o : Nat) (x : Te) : Prop where
  c0 : w.cell? ⟨g, o, none⟩ = some (.string x.name)
  c1 : w.cell? ⟨g, o + 1, none⟩ = some (.int .i64 x.op)
  c2 : w.cell? ⟨g, o + 2, none⟩ = some (.int .i64 x.k)
  c3 : w.cell? ⟨g, o + 3, none⟩ = some (.int .i64 x.n)
  c4 : w.cell? ⟨g, o + 4, none⟩ = some (.string x.s)
theorem any_nextK {α : Type} (p : α → Bool) (l : List α) (k : Nat) (x : α) (h : l[k]? = some x) : (l.take (k + 1)).any p = ((l.take k).any p || p x) := by
  obtain ⟨hk, rfl⟩ := List.getElem?_eq_some_iff.1 h
  rw [List.take_succ_eq_append_getElem hk, List.any_append]
  simp
end PM
set_option maxRecDepth 100000 in
set_option maxHeartbeats 4000000 in
theorem rcovers_any (v u : Value) (f g : List PM.Te) (w : World) (hv : PM.TV w v f) (hu : PM.TV w u g) (hsf : PM.szT f) (hsg : PM.szT g) :
    Calls Tryz.prog 67 #[v, u] w fun e w' => e = .returned (.bool (PM.covB f g)) ∧ Below w.heap.size w w' := by
  obtain ⟨fa, fc, rfl, hcap, hmax, hel⟩ := hv
  obtain ⟨ga, gc, rfl, hcag, hmag, hem⟩ := hu
  unfold maxLen at hmax hmag
  obtain ⟨L, hL⟩ : ∃ L, L = f.length := ⟨_, rfl⟩
  obtain ⟨M, hM⟩ : ∃ M, M = g.length := ⟨_, rfl⟩
  have hLh := PM.hid hL
  have hMh := PM.hid hM
  rw [← hL] at hcap ⊢
  rw [← hM] at hcag ⊢
  have helh := PM.hid hel
  have hemh := PM.hid hem
  have hss := PM.hid (And.intro hsf hsg)
  clear hel hL hem hM hsf hsg
  go_enter Tryz.func67, Tryz.ntmps67
  go_wp2_with fail
  go_loopw [5] (fun i wr => ∃ n : Nat, i = .int .i64 n ∧ n ≤ L ∧ Hid (Below w.heap.size w wr ∧ ∀ (j : Nat) z, j < n → f[j]? = some z → PM.anyI g z = true)) (fun i _ => L - (intOf i).toNat)
  case atStart => exact ⟨0, rfl, by omega, PM.hid ⟨Below.refl _ _, fun j z hj => absurd hj (by omega)⟩⟩
  case round =>
    obtain ⟨n, rfl, hn, hin⟩ := hrel
    obtain ⟨wo, rfl⟩ : ∃ wo : World, wo = wr := ⟨_, rfl⟩
    by_cases hlt : n < L
    · obtain ⟨zz, hz⟩ : ∃ z, f[n]? = some z := ⟨f[n]'(by rw [← hLh.out]; exact hlt), List.getElem?_eq_getElem _⟩
      obtain ⟨bf, off, rfl, hcf⟩ := helh.out (by rw [← hLh.out]; omega)
      have hlz := hcf n zz hz
      have hzh := PM.hid (And.intro hz hlz)
      clear hz hlz hcf
      go_wp2_with fail
      go_loopw [6, 7] (fun b i wr => ∃ k : Nat, b = .bool ((g.take k).any fun y => PM.impB y zz) ∧ i = .int .i64 k ∧ k ≤ M ∧ Hid (Below w.heap.size w wr)) (fun _ i _ => M - (intOf i).toNat)
      case atStart => exact ⟨0, rfl, rfl, by omega, PM.hid hin.out.1⟩
      case round =>
        obtain ⟨k, rfl, rfl, hk, hB2⟩ := hrel
        by_cases hlk : k < M
        · obtain ⟨zy, hy⟩ : ∃ z, g[k]? = some z := ⟨g[k]'(by rw [← hMh.out]; exact hlk), List.getElem?_eq_getElem _⟩
          obtain ⟨bg, og, rfl, hcg⟩ := hemh.out (by rw [← hMh.out]; omega)
          have hly := hcg k zy hy
          have hc1 : PM.CsR wr bg (og + k * 5) zy := ⟨by have := PM.cellA hB2.out (hly 0 _ rfl); exact this, PM.cellA hB2.out (hly 1 _ rfl), PM.cellA hB2.out (hly 2 _ rfl), PM.cellA hB2.out (hly 3 _ rfl), PM.cellA hB2.out (hly 4 _ rfl)⟩
          have hc2 : PM.CsR wr bf (off + n * 5) zz := ⟨by have := PM.cellA hB2.out (hzh.out.2 0 _ rfl); exact this, PM.cellA hB2.out (hzh.out.2 1 _ rfl), PM.cellA hB2.out (hzh.out.2 2 _ rfl), PM.cellA hB2.out (hzh.out.2 3 _ rfl), PM.cellA hB2.out (hzh.out.2 4 _ rfl)⟩
          have hcc := PM.hid (And.intro hc1 hc2)
          have hsz := PM.hid (And.intro (hss.out.2 zy (List.mem_of_getElem? hy)) (hss.out.1 zz (List.mem_of_getElem? hzh.out.1)))
          have hnx := PM.hid (PM.any_nextK (fun y => PM.impB y zz) g k zy hy)
          clear hy hcg hly hc1 hc2
          cases hfb0 : (g.take k).any fun y => PM.impB y zz
          · have hfb := PM.hid hfb0
            clear hfb0
            go_upto_region 8 with fail
            refine PM.wp_region_stL 12 [some 20, some 21, some 22, some 23, some 24, some 25, some 26, some 27, some 28, some 29, some 30, some 31, some 6] [fun x _ => x = .bool false, fun x _ => x = .bool false, fun x _ => x = .slice (some ⟨bg, og, none⟩) M gc, fun x _ => x = .int .i64 (k : Int), fun x _ => x = .pointer (some ⟨bg, og + k * 5, none⟩), fun x _ => x = .agg #[.string zy.name, .int .i64 zy.op, .int .i64 zy.k, .int .i64 zy.n, .string zy.s], fun x _ => x = .slice (some ⟨bf, off, none⟩) L fc, fun x _ => x = .int .i64 (n : Int), fun x _ => x = .pointer (some ⟨bf, off + n * 5, none⟩), fun x _ => x = .agg #[.string zz.name, .int .i64 zz.op, .int .i64 zz.k, .int .i64 zz.n, .string zz.s], fun x _ => x = .bool (PM.impB zy zz), fun x _ => x = .bool (PM.impB zy zz)] (by kernel_rfl) (by kernel_rfl) (by kernel_rfl) (by kernel_rfl) (by kernel_rfl) (of_decide_eq_true (by kernel_rfl)) (by kernel_rfl) ?_ ?_ ?_
            · simp only [List.forall_mem_cons]
              refine ⟨?_, ?_, ?_, ?_, ?_, ?_, ?_, ?_, ?_, ?_, ?_, ?_, by simp⟩
              all_goals (intro x W W' h hb; first | exact h | exact PM.BS.keep hb h | exact PM.OW.keep hb h)
            · refine ⟨?_, ?_, ?_, ?_, ?_, ?_, ?_, ?_, ?_, ?_, ?_, ?_, trivial⟩
              all_goals
                intro a W hB hF hd
                have k0 := hF 0 rfl
                have k1 := hF 1 rfl
                have k5 := hF 5 rfl
                have k6 := hF 6 rfl
                have k7 := hF 7 rfl
                have c0 : W.cell? ⟨bg, og + k * 5, none⟩ = some (.string zy.name) := PM.cell_keepR hB hcc.out.1.c0
                have c1 : W.cell? ⟨bg, og + k * 5 + 1, none⟩ = some (.int .i64 zy.op) := PM.cell_keepR hB hcc.out.1.c1
                have c2 : W.cell? ⟨bg, og + k * 5 + 2, none⟩ = some (.int .i64 zy.k) := PM.cell_keepR hB hcc.out.1.c2
                have c3 : W.cell? ⟨bg, og + k * 5 + 3, none⟩ = some (.int .i64 zy.n) := PM.cell_keepR hB hcc.out.1.c3
                have c4 : W.cell? ⟨bg, og + k * 5 + 4, none⟩ = some (.string zy.s) := PM.cell_keepR hB hcc.out.1.c4
                have d0 : W.cell? ⟨bf, off + n * 5, none⟩ = some (.string zz.name) := PM.cell_keepR hB hcc.out.2.c0
                have d1 : W.cell? ⟨bf, off + n * 5 + 1, none⟩ = some (.int .i64 zz.op) := PM.cell_keepR hB hcc.out.2.c1
                have d2 : W.cell? ⟨bf, off + n * 5 + 2, none⟩ = some (.int .i64 zz.k) := PM.cell_keepR hB hcc.out.2.c2
                have d3 : W.cell? ⟨bf, off + n * 5 + 3, none⟩ = some (.int .i64 zz.n) := PM.cell_keepR hB hcc.out.2.c3
                have d4 : W.cell? ⟨bf, off + n * 5 + 4, none⟩ = some (.string zz.s) := PM.cell_keepR hB hcc.out.2.c4
                clear hF
                simp [PM.depsL, PM.spec, PM.sl, Region.binds] at hd k0 k1 k5 k6 k7
                simp only [PM.wantL, PM.spec]
                try simp only [PM.sl]
                go_simp
              all_goals try exact Below.refl _ _
              · refine (rimplies_any zy zz hsz.out.1 hsz.out.2 W).mono ?_
                rintro e w' ⟨rfl, hb⟩
                exact ⟨hb, rfl⟩
            · intro G W hB hF hS
              have h6 : G 31 = .bool (PM.impB zy zz) := by simp [PM.allSp, PM.spec] at hS; simp [hS]
              have k0 := hF 0 rfl
              have k1 := hF 1 rfl
              have k2 := hF 2 rfl
              have k3 := hF 3 rfl
              have k4 := hF 4 rfl
              have k5 := hF 5 rfl
              have k6 := hF 6 rfl
              have k7 := hF 7 rfl
              have k8 := hF 8 rfl
              have k9 := hF 9 rfl
              have k10 := hF 10 rfl
              have k11 := hF 11 rfl
              have k12 := hF 12 rfl
              have k13 := hF 13 rfl
              have k14 := hF 14 rfl
              have k15 := hF 15 rfl
              have k16 := hF 16 rfl
              have k17 := hF 17 rfl
              have k18 := hF 18 rfl
              have k19 := hF 19 rfl
              have k32 := hF 32 rfl
              have k33 := hF 33 rfl
              simp [PM.sl] at k0 k1 k2 k3 k4 k5 k6 k7 k8 k9 k10 k11 k12 k13 k14 k15 k16 k17 k18 k19 k32 k33
              rw [show ((List.range (Array.size _)).map G).toArray = #[G 0, G 1, G 2, G 3, G 4, G 5, G 6, G 7, G 8, G 9, G 10, G 11, G 12, G 13, G 14, G 15, G 16, G 17, G 18, G 19, G 20, G 21, G 22, G 23, G 24, G 25, G 26, G 27, G 28, G 29, G 30, G 31, G 32, G 33] from rfl]
              clear hF hS
              rw [h6, k0, k1, k2, k3, k4, k5, k6, k7, k8, k9, k10, k11, k12, k13, k14, k15, k16, k17, k18, k19, k32, k33]
              clear h6 k0 k1 k2 k3 k4 k5 k6 k7 k8 k9 k10 k11 k12 k13 k14 k15 k16 k17 k18 k19 k32 k33
              have hB3 := PM.hid (PM.chain hB2.out hB)
              clear hB hB2 hcc
              go_wp2_with fail
              exact ⟨⟨k + 1, by rw [hnx.out, hfb.out, Bool.false_or], by go_num, by omega, hB3⟩, by simp only [intOf]; omega⟩
          · have hfb := PM.hid hfb0
            clear hfb0
            go_upto_region 8 with fail
            refine PM.wp_region_stL 12 [some 20, some 21, some 22, some 23, some 24, some 25, some 26, some 27, some 28, some 29, some 30, some 31, some 6] [fun x _ => x = .bool true, fun x _ => x = .bool true, fun _ _ => True, fun _ _ => True, fun _ _ => True, fun _ _ => True, fun _ _ => True, fun _ _ => True, fun _ _ => True, fun _ _ => True, fun _ _ => True, fun x _ => x = .bool true] (by kernel_rfl) (by kernel_rfl) (by kernel_rfl) (by kernel_rfl) (by kernel_rfl) (of_decide_eq_true (by kernel_rfl)) (by kernel_rfl) ?_ ?_ ?_
            · simp only [List.forall_mem_cons]
              refine ⟨?_, ?_, ?_, ?_, ?_, ?_, ?_, ?_, ?_, ?_, ?_, ?_, by simp⟩
              all_goals (intro x W W' h hb; first | exact h | exact PM.BS.keep hb h | exact PM.OW.keep hb h)
            · refine ⟨?_, ?_, ?_, ?_, ?_, ?_, ?_, ?_, ?_, ?_, ?_, ?_, trivial⟩
              all_goals
                intro a W hB hF hd
                have k0 := hF 0 rfl
                have k1 := hF 1 rfl
                have k5 := hF 5 rfl
                have k6 := hF 6 rfl
                have k7 := hF 7 rfl
                clear hF
                simp [PM.depsL, PM.spec, PM.sl, Region.binds] at hd k0 k1 k5 k6 k7
                simp only [PM.wantL, PM.spec]
                try simp only [PM.sl]
                go_simp
              all_goals try exact Below.refl _ _
            · intro G W hB hF hS
              have h6 : G 31 = .bool (true) := by simp [PM.allSp, PM.spec] at hS; simp [hS]
              have k0 := hF 0 rfl
              have k1 := hF 1 rfl
              have k2 := hF 2 rfl
              have k3 := hF 3 rfl
              have k4 := hF 4 rfl
              have k5 := hF 5 rfl
              have k6 := hF 6 rfl
              have k7 := hF 7 rfl
              have k8 := hF 8 rfl
              have k9 := hF 9 rfl
              have k10 := hF 10 rfl
              have k11 := hF 11 rfl
              have k12 := hF 12 rfl
              have k13 := hF 13 rfl
              have k14 := hF 14 rfl
              have k15 := hF 15 rfl
              have k16 := hF 16 rfl
              have k17 := hF 17 rfl
              have k18 := hF 18 rfl
              have k19 := hF 19 rfl
              have k32 := hF 32 rfl
              have k33 := hF 33 rfl
              simp [PM.sl] at k0 k1 k2 k3 k4 k5 k6 k7 k8 k9 k10 k11 k12 k13 k14 k15 k16 k17 k18 k19 k32 k33
              rw [show ((List.range (Array.size _)).map G).toArray = #[G 0, G 1, G 2, G 3, G 4, G 5, G 6, G 7, G 8, G 9, G 10, G 11, G 12, G 13, G 14, G 15, G 16, G 17, G 18, G 19, G 20, G 21, G 22, G 23, G 24, G 25, G 26, G 27, G 28, G 29, G 30, G 31, G 32, G 33] from rfl]
              clear hF hS
              rw [h6, k0, k1, k2, k3, k4, k5, k6, k7, k8, k9, k10, k11, k12, k13, k14, k15, k16, k17, k18, k19, k32, k33]
              clear h6 k0 k1 k2 k3 k4 k5 k6 k7 k8 k9 k10 k11 k12 k13 k14 k15 k16 k17 k18 k19 k32 k33
              have hB3 := PM.hid (PM.chain hB2.out hB)
              clear hB hB2
              go_wp2_with fail
              exact ⟨⟨k + 1, by rw [hnx.out, hfb.out, Bool.true_or], by go_num, by omega, hB3⟩, by simp only [intOf]; omega⟩
        · obtain rfl : k = M := by omega
          have ht : (g.take k).any (fun y => PM.impB y zz) = PM.anyI g zz := by rw [hMh.out, List.take_length]; rfl
          rw [ht]
          clear ht
          cases ha : PM.anyI g zz
          · have hr : Hid (PM.covB f g = false) := PM.hid (by
              unfold PM.covB
              rw [List.all_eq_false]
              exact ⟨zz, List.mem_of_getElem? hzh.out.1, by simp [ha]⟩)
            clear ha
            go_wp2_with fail
            go_ret
            exact ⟨by rw [hr.out]; rfl, hB2.out⟩
          · have hah := PM.hid ha
            clear ha
            go_wp2_with fail
            refine ⟨⟨n + 1, by go_num, by omega, PM.hid ⟨hB2.out, fun i x hi hx => ?_⟩⟩, by simp only [intOf]; omega⟩
            by_cases hij : i < n
            · exact hin.out.2 i x hij hx
            · obtain rfl : i = n := by omega
              rw [hzh.out.1] at hx
              injection hx with hx
              subst hx
              exact hah.out
    · obtain rfl : n = L := by omega
      have ht : Hid (PM.covB f g = true) := PM.hid (by
        unfold PM.covB
        rw [List.all_eq_true]
        intro x hx
        obtain ⟨j, hj⟩ := List.mem_iff_getElem?.1 hx
        exact hin.out.2 j x (by rw [hLh.out]; exact (List.getElem?_eq_some_iff.1 hj).1) hj)
      go_wp2_with fail
      go_ret
      exact ⟨by rw [ht.out]; rfl, hin.out.1⟩
set_option maxHeartbeats 2000000 in
theorem rcovered_any (v u : Value) (ls : List (List PM.Te)) (f : List PM.Te) (w : World) (hv : PM.FL w v ls) (hf : PM.TV w u f) (hsf : PM.szT f) (hsl : ∀ x ∈ ls, PM.szT x) :
    Calls Tryz.prog 51 #[v, u] w fun e w' => e = .returned (.bool (ls.any fun x => PM.covB x f)) ∧ Below w.heap.size w w' := by
  obtain ⟨ad, cap, hve⟩ := hv.len
  subst hve
  have hbd := hv.bound
  unfold maxLen at hbd
  obtain ⟨L, hL⟩ : ∃ L, L = ls.length := ⟨_, rfl⟩
  have hLh := PM.hid hL
  rw [← hL] at hbd hv ⊢
  have hvh := PM.hid (And.intro hv (And.intro (And.intro hf hsf) hsl))
  clear hL hv hf hsf hsl
  go_enter Tryz.func51, Tryz.ntmps51
  go_wp2_with fail
  go_loopw [5] (fun i wr => ∃ k : Nat, i = .int .i64 k ∧ k ≤ L ∧ Hid (Below w.heap.size w wr ∧ ∀ (j : Nat) x, j < k → ls[j]? = some x → PM.covB x f = false)) (fun i _ => L - (intOf i).toNat)
  case atStart => exact ⟨0, rfl, by omega, PM.hid ⟨Below.refl _ _, fun j z hj => absurd hj (by omega)⟩⟩
  case round =>
    obtain ⟨k, rfl, hk, hin⟩ := hrel
    by_cases hlt : k < L
    · obtain ⟨x, hx⟩ : ∃ x, ls[k]? = some x := ⟨ls[k]'(by rw [← hLh.out]; exact hlt), List.getElem?_eq_getElem _⟩
      obtain ⟨b, off, rfl, hce⟩ := PM.RR.opn hvh.out.1 (by rw [← hLh.out]; omega)
      obtain ⟨xv, hc, hxv⟩ := PM.fR_cell (hce k x hx)
      have c0 := PM.cell_keepK hin.out.1 hc
      have hxh := PM.hid (And.intro hx (hxv.keep hin.out.1))
      have hxs := PM.hid (hvh.out.2.2 x (List.mem_of_getElem? hx))
      clear hx hce hc hxv
      go_wp2_with fail
      refine (rcovers_any xv u x f wr hxh.out.2 (hvh.out.2.1.1.keep hin.out.1) hxs.out hvh.out.2.1.2).mono ?_
      rintro e W5 ⟨rfl, hB5⟩
      have hB5h := PM.hid (PM.chain hin.out.1 hB5)
      clear hB5 c0
      cases hi : PM.covB x f
      · have hin' := PM.hid hi
        clear hi
        go_wp2_with fail
        refine ⟨⟨k + 1, by go_num, by omega, PM.hid ⟨hB5h.out, fun i z hi hz => ?_⟩⟩, by simp only [intOf]; omega⟩
        by_cases hij : i < k
        · exact hin.out.2 i z hij hz
        · obtain rfl : i = k := by omega
          rw [hxh.out.1] at hz
          injection hz with hz
          subst hz
          exact hin'.out
      · have ht : Hid ((ls.any fun x => PM.covB x f) = true) := PM.hid (List.any_eq_true.2 ⟨x, List.mem_of_getElem? hxh.out.1, hi⟩)
        clear hi
        go_wp2_with fail
        go_ret
        exact ⟨by rw [ht.out]; rfl, hB5h.out⟩
    · obtain rfl : k = L := by omega
      have ht : Hid ((ls.any fun x => PM.covB x f) = false) := PM.hid (by
        rw [List.any_eq_false]
        intro x hx
        obtain ⟨j, hj⟩ := List.mem_iff_getElem?.1 hx
        rw [hin.out.2 j x (by rw [hLh.out]; exact (List.getElem?_eq_some_iff.1 hj).1) hj]
        simp)
      go_wp2_with fail
      go_ret
      exact ⟨by rw [ht.out]; rfl, hin.out.1⟩
set_option maxHeartbeats 2000000 in
theorem rcany_any (v u : Value) (ls : List (List PM.Te)) (es : List PM.At) (w : World) (hv : PM.FL w v ls) (he : PM.EV w u es) (hse : ∀ x ∈ es, x.s.size ≤ maxLen) (hsl : ∀ x ∈ ls, PM.szT x) :
    Calls Tryz.prog 58 #[v, u] w fun e w' => e = .returned (.bool (ls.any fun x => PM.matchB x es)) ∧ Below w.heap.size w w' := by
  obtain ⟨ad, cap, hve⟩ := hv.len
  subst hve
  have hbd := hv.bound
  unfold maxLen at hbd
  obtain ⟨L, hL⟩ : ∃ L, L = ls.length := ⟨_, rfl⟩
  have hLh := PM.hid hL
  rw [← hL] at hbd hv ⊢
  have hvh := PM.hid (And.intro hv (And.intro (And.intro he hse) hsl))
  clear hL hv he hse hsl
  go_enter Tryz.func58, Tryz.ntmps58
  go_wp2_with fail
  go_loopw [5] (fun i wr => ∃ k : Nat, i = .int .i64 k ∧ k ≤ L ∧ Hid (Below w.heap.size w wr ∧ ∀ (j : Nat) x, j < k → ls[j]? = some x → PM.matchB x es = false)) (fun i _ => L - (intOf i).toNat)
  case atStart => exact ⟨0, rfl, by omega, PM.hid ⟨Below.refl _ _, fun j z hj => absurd hj (by omega)⟩⟩
  case round =>
    obtain ⟨k, rfl, hk, hin⟩ := hrel
    by_cases hlt : k < L
    · obtain ⟨x, hx⟩ : ∃ x, ls[k]? = some x := ⟨ls[k]'(by rw [← hLh.out]; exact hlt), List.getElem?_eq_getElem _⟩
      obtain ⟨b, off, rfl, hce⟩ := PM.RR.opn hvh.out.1 (by rw [← hLh.out]; omega)
      obtain ⟨xv, hc, hxv⟩ := PM.fR_cell (hce k x hx)
      have c0 := PM.cell_keepK hin.out.1 hc
      have hxh := PM.hid (And.intro hx (hxv.keep hin.out.1))
      have hxs := PM.hid (hvh.out.2.2 x (List.mem_of_getElem? hx))
      clear hx hce hc hxv
      go_wp2_with fail
      refine (rmatches_any xv x u es wr hxh.out.2 (hvh.out.2.1.1.keep hin.out.1) hvh.out.2.1.2 hxs.out).mono ?_
      rintro e W5 ⟨rfl, hB5⟩
      have hB5h := PM.hid (PM.chain hin.out.1 hB5)
      clear hB5 c0
      cases hi : PM.matchB x es
      · have hin' := PM.hid hi
        clear hi
        go_wp2_with fail
        refine ⟨⟨k + 1, by go_num, by omega, PM.hid ⟨hB5h.out, fun i z hi hz => ?_⟩⟩, by simp only [intOf]; omega⟩
        by_cases hij : i < k
        · exact hin.out.2 i z hij hz
        · obtain rfl : i = k := by omega
          rw [hxh.out.1] at hz
          injection hz with hz
          subst hz
          exact hin'.out
      · have ht : Hid ((ls.any fun x => PM.matchB x es) = true) := PM.hid (List.any_eq_true.2 ⟨x, List.mem_of_getElem? hxh.out.1, hi⟩)
        clear hi
        go_wp2_with fail
        go_ret
        exact ⟨by rw [ht.out]; rfl, hB5h.out⟩
    · obtain rfl : k = L := by omega
      have ht : Hid ((ls.any fun x => PM.matchB x es) = false) := PM.hid (by
        rw [List.any_eq_false]
        intro x hx
        obtain ⟨j, hj⟩ := List.mem_iff_getElem?.1 hx
        rw [hin.out.2 j x (by rw [hLh.out]; exact (List.getElem?_eq_some_iff.1 hj).1) hj]
        simp)
      go_wp2_with fail
      go_ret
      exact ⟨by rw [ht.out]; rfl, hin.out.1⟩
set_option maxRecDepth 100000 in
set_option maxHeartbeats 4000000 in
theorem rreduce_any (v : Value) (ls : List (List PM.Te)) (w : World) (hv : PM.FL w v ls) (hl : ls.length ≤ 30) (hs : ∀ x ∈ ls, PM.szT x) :
    Calls Tryz.prog 34 #[v] w fun e w' => ∃ u, e = .returned u ∧ PM.OR (PM.cR w) 1 28 w.heap.size w' u (PM.redL ls) ∧ Below w.heap.size w w' := by
  obtain ⟨ad, cap, hve⟩ := hv.len
  subst hve
  have hbd := hv.bound
  unfold maxLen at hbd
  obtain ⟨N, hN⟩ : ∃ N, N = ls.length := ⟨_, rfl⟩
  have hNh := PM.hid hN
  rw [← hN] at hbd hl hv ⊢
  have hvh := PM.hid hv
  have hsh := PM.hid hs
  clear hN hv hs
  go_enter Tryz.func34, Tryz.ntmps34
  go_wp2_with fail
  go_loopw [3, 4] (fun v3 i wr => ∃ (k : Nat) (st : List (List PM.Te)), i = .int .i64 k ∧ k ≤ N ∧ st.length ≤ k ∧ Hid (PM.OR (PM.cR w) 1 28 w.heap.size wr v3 st ∧ Below w.heap.size w wr ∧ PM.sv PM.covB st (ls.drop k) = PM.redL ls ∧ ∀ x ∈ st, x ∈ ls)) (fun _ i _ => N - (intOf i).toNat)
  case atStart => exact ⟨0, [], rfl, by omega, by simp, PM.hid ⟨PM.OR.nilrow _, Below.refl _ _, by simp [PM.redL], by simp⟩⟩
  case round =>
    obtain ⟨k, st, rfl, hk, hstk, hin0⟩ := hrel
    have hsub := PM.hid hin0.out.2.2.2
    have hin := PM.hid (And.intro hin0.out.1 (And.intro hin0.out.2.1 hin0.out.2.2.1))
    clear hin0
    obtain ⟨wo, rfl⟩ : ∃ wo : World, wo = wr := ⟨_, rfl⟩
    by_cases hlt : k < N
    · obtain ⟨x0, hx⟩ : ∃ x, ls[k]? = some x := ⟨ls[k]'(by rw [← hNh.out]; exact hlt), List.getElem?_eq_getElem _⟩
      obtain ⟨b, off, rfl, hce⟩ := PM.RR.opn hvh.out (by rw [← hNh.out]; omega)
      obtain ⟨xv, hc, hxv⟩ := PM.fR_cell (hce k x0 hx)
      obtain ⟨xa, xc, rfl⟩ := hxv.len
      obtain ⟨X, hX⟩ : ∃ X, X = x0.length := ⟨_, rfl⟩
      have hXh := PM.hid hX
      rw [← hX] at hc hxv
      clear hX
      have c0 := PM.cell_keepK hin.out.2.1 hc
      have hxh := PM.hid (And.intro hx (And.intro hc hxv))
      have hx0s := PM.hid (hsh.out x0 (List.mem_of_getElem? hx))
      obtain ⟨sa, sc, rfl⟩ := hin.out.1.rr.len
      clear hx hce hc hxv
      have hst := PM.hid hstk
      have hO5 := PM.hid hin.out.1
      obtain ⟨M, hM⟩ : ∃ M, M = st.length := ⟨_, rfl⟩
      have hMh := PM.hid hM
      rw [← hM] at hO5 hstk ⊢
      clear hM
      go_wp2_with fail
      refine (rcovered_any _ _ st x0 wo (PM.RR.toF hin.out.2.1 hO5.out.rr) (hxh.out.2.2.keep hin.out.2.1) hx0s.out (fun x hx => hsh.out x (hsub.out x hx))).mono ?_
      rintro e w6 ⟨rfl, hB6⟩
      have hB6h := PM.hid (PM.chain hin.out.2.1 hB6)
      have hO6 := PM.hid (PM.OR.keep (PM.cR_lasts w) hB6 hO5.out)
      clear hB6 hO5 c0
      obtain ⟨ra, rc, hrun, hrs⟩ := PM.RR.rest flTy (hvh.out.keep hB6h.out) (K := k + 1) (by rw [← hNh.out]; omega)
      obtain ⟨J, hjd⟩ : ∃ J, J = N - (k + 1) := ⟨_, rfl⟩
      rw [← hNh.out, ← hjd] at hrun hrs
      replace hrun : ∀ W : World, (Instr.slice 40 (.slice (some ⟨b, off, none⟩) N cap) (some (.int .i64 ((k : Int) + 1))) none none).run Tryz.prog W = .ok (.slice ra J rc) W := hrun
      have hrsh := PM.hid hrs
      have hdr : Hid (∀ x ∈ ls.drop (k + 1), PM.szT x) := PM.hid fun x hx => hsh.out x (List.mem_of_mem_drop hx)
      clear hrs hjd
      go_upto_region 6 with fail
      refine PM.wp_region_st [some 19, some 20, some 21, some 22, some 23, some 24, some 25, some 26, some 27, some 6] [fun x _ => x = .slice (some ⟨b, off, none⟩) N cap, fun x _ => x = .int .i64 (k : Int), fun x _ => x = .int .i64 ((k : Int) + 1), fun x _ => x = .slice ra J rc, fun x _ => x = .slice (some ⟨b, off, none⟩) N cap, fun x _ => x = .int .i64 (k : Int), fun x _ => x = .pointer (some ⟨b, off + k, none⟩), fun x _ => x = .slice xa X xc, fun x _ => x = .bool ((ls.drop (k + 1)).any fun y => PM.covB y x0), fun x _ => x = .bool ((ls.drop (k + 1)).any fun y => PM.covB y x0)] (by kernel_rfl) (by kernel_rfl) (by kernel_rfl) ?_ ?_ ?_
      · simp only [List.forall_mem_cons]
        refine ⟨?_, ?_, ?_, ?_, ?_, ?_, ?_, ?_, ?_, ?_, by simp⟩
        all_goals (intro x W W' h hb; first | exact h | exact PM.BS.keep hb h | exact PM.OW.keep hb h)
      · refine ⟨?_, ?_, ?_, ?_, ?_, ?_, ?_, ?_, ?_, ?_, trivial⟩
        all_goals
          intro a W hB hF hd
          have k0 := hF 0 rfl
          have k4 := hF 4 rfl
          have hwk : IntKind.i64.wrap ((k : Int) + 1) = (k : Int) + 1 := by rw [IntKind.wrap_i64]; omega
          have c0 : W.cell? ⟨b, off + k, none⟩ = some (.slice xa X xc) := PM.cell_keepK (PM.chain hB6h.out hB) hxh.out.2.1
          clear hF
          simp [PM.depsL, PM.spec, PM.sl, Region.binds] at hd k0 k4
          simp only [PM.wantL, PM.spec]
          try simp only [PM.sl]
          go_simp
        all_goals try exact Below.refl _ _
        · refine (rcovered_any _ _ (ls.drop (k + 1)) x0 W (PM.FL.keep hB hrsh.out) (hxh.out.2.2.keep (PM.chain hB6h.out hB)) hx0s.out hdr.out).mono ?_
          rintro e w' ⟨rfl, hb⟩
          exact ⟨hb, rfl⟩
      · intro G W hB hF hS
        have h6 : G 6 = .bool ((ls.drop (k + 1)).any fun y => PM.covB y x0) := by simp [PM.allSp, PM.spec] at hS; simp [hS]
        have k0 := hF 0 rfl
        have k1 := hF 1 rfl
        have k2 := hF 2 rfl
        have k3 := hF 3 rfl
        have k4 := hF 4 rfl
        have k5 := hF 5 rfl
        have k7 := hF 7 rfl
        have k8 := hF 8 rfl
        have k9 := hF 9 rfl
        have k10 := hF 10 rfl
        have k11 := hF 11 rfl
        have k12 := hF 12 rfl
        have k13 := hF 13 rfl
        have k14 := hF 14 rfl
        have k15 := hF 15 rfl
        have k16 := hF 16 rfl
        have k17 := hF 17 rfl
        have k18 := hF 18 rfl
        have k28 := hF 28 rfl
        have k29 := hF 29 rfl
        have k30 := hF 30 rfl
        have k31 := hF 31 rfl
        have k32 := hF 32 rfl
        have k33 := hF 33 rfl
        have k34 := hF 34 rfl
        have k35 := hF 35 rfl
        have k36 := hF 36 rfl
        have k37 := hF 37 rfl
        have k38 := hF 38 rfl
        have k39 := hF 39 rfl
        have k40 := hF 40 rfl
        have k41 := hF 41 rfl
        simp [PM.sl] at k0 k1 k2 k3 k4 k5 k7 k8 k9 k10 k11 k12 k13 k14 k15 k16 k17 k18 k28 k29 k30 k31 k32 k33 k34 k35 k36 k37 k38 k39 k40 k41
        rw [show ((List.range (Array.size _)).map G).toArray = #[G 0, G 1, G 2, G 3, G 4, G 5, G 6, G 7, G 8, G 9, G 10, G 11, G 12, G 13, G 14, G 15, G 16, G 17, G 18, G 19, G 20, G 21, G 22, G 23, G 24, G 25, G 26, G 27, G 28, G 29, G 30, G 31, G 32, G 33, G 34, G 35, G 36, G 37, G 38, G 39, G 40, G 41] from rfl]
        clear hF hS
        rw [h6, k0, k1, k2, k3, k4, k5, k7, k8, k9, k10, k11, k12, k13, k14, k15, k16, k17, k18, k28, k29, k30, k31, k32, k33, k34, k35, k36, k37, k38, k39, k40, k41]
        clear h6 k0 k1 k2 k3 k4 k5 k7 k8 k9 k10 k11 k12 k13 k14 k15 k16 k17 k18 k28 k29 k30 k31 k32 k33 k34 k35 k36 k37 k38 k39 k40 k41
        have hB7h := PM.hid (PM.chain hB6h.out hB)
        have hO7 := PM.hid (PM.OR.keep (PM.cR_lasts w) hB hO6.out)
        have c0 : W.cell? ⟨b, off + k, none⟩ = some (.slice xa X xc) := PM.cell_keepK hB7h.out hxh.out.2.1
        clear hB hB6h hO6 hrun hrsh
        cases hA2 : (ls.drop (k + 1)).any fun y => PM.covB y x0
        case true =>
          have hAh2 := PM.hid hA2
          clear hA2 c0
          cases hA : st.any fun y => PM.covB y x0 <;>
          · have hAh := PM.hid hA
            clear hA
            go_wp2_with fail
            refine ⟨⟨k + 1, st, by go_num, by omega, by have := hst.out; omega, PM.hid ⟨hO7.out, hB7h.out, ?_, hsub.out⟩⟩, by simp only [intOf]; omega⟩
            rw [← hin.out.2.2, PM.drop_atK hxh.out.1]
            exact (PM.sv_out (Or.inr hAh2.out)).symm
        have hAh2 := PM.hid hA2
        clear hA2
        cases hA : st.any fun y => PM.covB y x0
        case true =>
          have hAh := PM.hid hA
          clear hA c0
          go_wp2_with fail
          refine ⟨⟨k + 1, st, by go_num, by omega, by have := hst.out; omega, PM.hid ⟨hO7.out, hB7h.out, ?_, hsub.out⟩⟩, by simp only [intOf]; omega⟩
          rw [← hin.out.2.2, PM.drop_atK hxh.out.1]
          exact (PM.sv_out (Or.inl hAh.out)).symm
        have hAh := PM.hid hA
        clear hA
        have hO8 := hO7.out
        have hst' := hst.out
        have hl16 : (st.length + 1) * 24 ≤ 140737488355328 := by omega
        have hl17 : st.length + 1 ≤ maxLen := by unfold maxLen; omega
        have hsz := hB7h.out.size
        have hRy : PM.cR w W [.slice xa X xc] x0 := ⟨_, rfl, hxh.out.2.2⟩
        clear hst' hO7
        go_wp2_with (first
          | (at_builtin; go_loud (refine PM.wpList_or1 flTy (PM.cR_stays w _) (PM.cR_lasts w) w.heap.size W rfl _ _ rfl _ st x0 (PM.ce1 (.slice xa X xc) rfl) _ rfl rfl rfl rfl hRy hO8 hl16 hl17 hsz ?_); intro v' w' t1 t2 t3; have hE := PM.hid (And.intro t1 (hB7h.out.trans t2)); clear t1 t2 t3 hO8 hRy hsz c0))
        refine ⟨⟨k + 1, st ++ [x0], by go_num, by omega, by have := hst.out; simp; omega, PM.hid ⟨hE.out.1, hE.out.2, ?_, by intro x hx; simp only [List.mem_append, List.mem_singleton] at hx; rcases hx with hx | rfl; exact hsub.out x hx; exact List.mem_of_getElem? hxh.out.1⟩⟩, by simp only [intOf]; omega⟩
        rw [← hin.out.2.2, PM.drop_atK hxh.out.1]
        exact (PM.sv_in hAh.out hAh2.out).symm
    · obtain rfl : k = N := by omega
      have he : Hid (st = PM.redL ls) := PM.hid (by
        have := hin.out.2.2
        rw [hNh.out, List.drop_length] at this
        exact this)
      go_wp2_with fail
      go_ret
      exact ⟨_, rfl, by rw [← he.out]; exact hin.out.1, hin.out.2.1⟩
theorem PM.szT_few {f : List PM.Te} (h : PM.FFew f) : PM.szT f := fun t ht => by
  obtain ⟨i, hi⟩ := List.mem_iff_getElem?.1 ht
  exact Nat.le_trans (h.2 i t hi).2 (by unfold maxLen; decide)
theorem PM.few_sz {es : List PM.At} (h : PM.Few es) : ∀ x ∈ es, x.s.size ≤ maxLen := fun t ht => by
  obtain ⟨i, hi⟩ := List.mem_iff_getElem?.1 ht
  exact Nat.le_trans (h.2 i t hi).2 (by unfold maxLen; decide)
end Go.Proofs.YtnpbfjkfbobgaaaGreat
