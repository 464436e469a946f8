/-
  THE CALL AT THE HEAD OF ALL STATEMENTS OF LAYER 6.
-/
import Derived.Test.YtbpajgejfnjaeaaNj
import Derived.Test.YtbpajgejfnjaeaaIi
namespace Go.Proofs.Ytbpajgejfnjaeaa
open Go.RowKit
set_option linter.unusedVariables false
set_option linter.unusedSimpArgs false
namespace PM
/-- a list in order is what any list of the same tests is sorted to -/
theorem srt_eq {l s : List Te} (hp : s.Perm l) (hs : s.Pairwise fun a b => tord a b ≤ 0) : srt l = s := by
  have h1 : (srt l).Pairwise fun a b => tord a b ≤ 0 := by
    have := List.pairwise_mergeSort (le := fun x y => !tlt y x) (fun a b c h1 h2 => by
      simp only [Bool.not_eq_true'] at *
      exact swoT.ntrans _ _ _ h2 h1) (fun a b => by
      simp only [Bool.or_eq_true, Bool.not_eq_true']
      by_cases h : tlt b a = true
      · right
        have h' := of_decide_eq_true h
        have := tord_anti a b
        exact tlt_no (by omega)
      · left; simpa using h) l
    refine this.imp fun {a b} h => ?_
    have h' : tlt b a = false := by simpa using h
    have h'' := of_decide_eq_false h'
    have := tord_anti a b
    omega
  refine List.Perm.eq_of_pairwise (fun a b _ _ h1 h2 => ?_) h1 hs ((srt_perm l).trans hp.symm)
  have := tord_anti a b
  exact tord_zero (by omega)
theorem EM.lits' {α : Type} {e : α → List Value} {c : Nat} (he : ∀ x, (e x).length = c) (W : World) (E : TypeId) (l : List α) (n : Nat) (hn : n = l.length) (hl : l.length ≤ maxLen) (cs : Array Value) (hcs : cs = (l.flatMap e).toArray) : EM e c (W.alloc (.cells cs E)) (.slice (Option.some ⟨W.heap.size, 0, Option.none⟩) n n) l := by
  subst hn hcs
  refine ⟨_, l.length, rfl, Nat.le_refl _, hl, fun _ => ⟨W.heap.size, 0, rfl, fun i y hi j u hu => ?_⟩⟩
  rw [Nat.zero_add, World.cell?_alloc_new]
  have := flat_get he l i y hi j u hu
  simpa using this
def n1 : Te := ⟨⟨#[112]⟩, 8, 0, 0, ⟨#[]⟩⟩
def n2 : Te := ⟨⟨#[112]⟩, 3, 1, 9, ⟨#[]⟩⟩
def n3 : Te := ⟨⟨#[112]⟩, 3, 1, 5, ⟨#[]⟩⟩
def n4 : Te := ⟨⟨#[97]⟩, 8, 0, 0, ⟨#[]⟩⟩
theorem nrm_n : nrm [n1, n2, n3, n4] = [n4, n3] := by
  have h : srt [n1, n2, n3, n4] = [n4, n3, n2, n1] := srt_eq ((List.reverse_perm [n1, n2, n3, n4])) (by
    refine .cons (fun x hx => ?_) (.cons (fun x hx => ?_) (.cons (fun x hx => ?_) (.cons (fun x hx => ?_) .nil)))
    all_goals simp at hx
    · rcases hx with rfl | rfl | rfl <;> decide
    · rcases hx with rfl | rfl <;> decide
    · subst hx; decide)
  unfold nrm
  rw [h]
  have e : ∀ a b, impB a b = impB a b := fun _ _ => rfl
  have a1 : impB n3 n4 = false := by decide
  have a2 : impB n2 n4 = false := by decide
  have a3 : impB n1 n4 = false := by decide
  have b1 : impB n4 n3 = false := by decide
  have b2 : impB n2 n3 = false := by decide
  have b3 : impB n1 n3 = false := by decide
  have c1 : impB n3 n2 = true := by decide
  have d1 : impB n3 n1 = true := by decide
  simp [nrmGo, a1, a2, a3, b1, b2, b3, c1, d1]
end PM
theorem test_any (op n : Int) (w : World) : Calls Try.prog 23 #[.int .i64 op, .int .i64 n] w fun e w' => e = .returned (.agg #[.string ⟨#[112]⟩, .int .i64 op, .int .i64 1, .int .i64 n, .string ⟨#[]⟩]) ∧ Below w.heap.size w w' := by
  go_enter Try.func23, Try.ntmps23
  go_upto_region 1 with fail
  obtain ⟨g, hg⟩ : ∃ g, g = w.heap.size := ⟨_, rfl⟩
  obtain ⟨w1, hw1⟩ : ∃ W, W = w.alloc (.cells #[.string ⟨#[]⟩, .int .i64 0, .int .i64 0, .int .i64 0, .string ⟨#[]⟩] 25) := ⟨_, rfl⟩
  have hk : PM.BK w1 g #[.string ⟨#[]⟩, .int .i64 0, .int .i64 0, .int .i64 0, .string ⟨#[]⟩] 25 := by rw [hw1, hg]; exact PM.BK.new _ _ _
  have hal : Below w.heap.size w w1 := by rw [hw1]; exact (Below.refl _ _).alloc (Nat.le_refl _) _
  have hgl : w.heap.size ≤ g := by omega
  have hglh := PM.hid hgl
  rw [← hw1, ← hg]
  clear hw1 hg hgl
  go_wp2_with fail
  refine (int_any _ _).mono ?_
  rintro e w2 ⟨rfl, hB2⟩
  replace hk := hk.keep hB2
  have hB := PM.hid (PM.chain hal hB2)
  have c0 : w2.cell? ⟨g, 0, none⟩ = some (.string ⟨#[]⟩) := hk.cell 0
  have c1 : w2.cell? ⟨g, 1, none⟩ = some (.int .i64 0) := hk.cell 1
  have c2 : w2.cell? ⟨g, 2, none⟩ = some (.int .i64 0) := hk.cell 2
  have c3 : w2.cell? ⟨g, 3, none⟩ = some (.int .i64 0) := hk.cell 3
  have c4 : w2.cell? ⟨g, 4, none⟩ = some (.string ⟨#[]⟩) := hk.cell 4
  have f0 : w2.frozen? ⟨g, 0, none⟩ = false := hk.free 0
  have f1 : w2.frozen? ⟨g, 1, none⟩ = false := hk.free 1
  have f2 : w2.frozen? ⟨g, 2, none⟩ = false := hk.free 2
  have f3 : w2.frozen? ⟨g, 3, none⟩ = false := hk.free 3
  have f4 : w2.frozen? ⟨g, 4, none⟩ = false := hk.free 4
  have hkh := PM.hid hk
  clear hk hal hB2
  go_wp2_with fail
  obtain ⟨W3, hW3⟩ : ∃ W, W = ((((w2.setCell ⟨g, 0, none⟩ (.string ⟨#[112]⟩)).setCell ⟨g, 1, none⟩ (.int .i64 op)).setCell ⟨g, 2, none⟩ (.int .i64 1)).setCell ⟨g, 3, none⟩ (.int .i64 n)).setCell ⟨g, 4, none⟩ (.string ⟨#[]⟩) := ⟨_, rfl⟩
  have hk5 : PM.BK W3 g #[.string ⟨#[112]⟩, .int .i64 op, .int .i64 1, .int .i64 n, .string ⟨#[]⟩] 25 := by
    rw [hW3]
    have := ((((hkh.out.set 0 (.string ⟨#[112]⟩)).set 1 (.int .i64 op)).set 2 (.int .i64 1)).set 3 (.int .i64 n)).set 4 (.string ⟨#[]⟩)
    simpa using this
  have hB3 := PM.hid (show Below w.heap.size w W3 from by rw [hW3]; exact ((((hB.out.setCell (p := ⟨g, 0, none⟩) hglh.out _).setCell (p := ⟨g, 1, none⟩) hglh.out _).setCell (p := ⟨g, 2, none⟩) hglh.out _).setCell (p := ⟨g, 3, none⟩) hglh.out _).setCell (p := ⟨g, 4, none⟩) hglh.out _)
  rw [← hW3]
  clear hW3
  have e0 := hk5.cell 0
  have e1 := hk5.cell 1
  have e2 := hk5.cell 2
  have e3 := hk5.cell 3
  have e4 := hk5.cell 4
  simp only [List.getElem?_toArray, List.getElem?_cons_zero, List.getElem?_cons_succ] at e0 e1 e2 e3 e4
  clear hk5
  refine bodyPost_ret (v := .agg #[.string ⟨#[112]⟩, .int .i64 op, .int .i64 1, .int .i64 n, .string ⟨#[]⟩]) (by simp [results, Try.results23, go_sem, e0, e1, e2, e3, e4]; try rfl) rfl ?_
  exact ⟨rfl, hB3.out⟩
set_option maxRecDepth 100000 in
set_option maxHeartbeats 4000000 in
theorem awake6 (w : World) : Calls Try.prog 9 #[] w fun e w' => e = .returned (.bool true) ∧ Below w.heap.size w w' := by
  go_enter Try.func9, Try.ntmps9
  go_wp2_with fail
  refine (test_any 3 9 _).mono ?_
  rintro e w1 ⟨rfl, hB1⟩
  go_wp2_with fail
  refine (test_any 3 5 _).mono ?_
  rintro e w2 ⟨rfl, hB2⟩
  have hBB := PM.hid (PM.chain hB1 hB2)
  clear hB1 hB2
  go_wp2_with fail
  obtain ⟨ge, hge⟩ : ∃ g, g = w2.heap.size := ⟨_, rfl⟩
  obtain ⟨w3, hw3⟩ : ∃ W, W = w2.alloc (.cells #[.string ⟨#[112]⟩, .int .i64 8, .int .i64 0, .int .i64 0, .string ⟨#[]⟩, .string ⟨#[112]⟩, .int .i64 3, .int .i64 1, .int .i64 9, .string ⟨#[]⟩, .string ⟨#[112]⟩, .int .i64 3, .int .i64 1, .int .i64 5, .string ⟨#[]⟩, .string ⟨#[97]⟩, .int .i64 8, .int .i64 0, .int .i64 0, .string ⟨#[]⟩] 25) := ⟨_, rfl⟩
  have hE : PM.TV w3 (.slice (some ⟨ge, 0, none⟩) 4 4) [PM.n1, PM.n2, PM.n3, PM.n4] := by rw [hw3, hge]; exact PM.EM.lits' PM.teL_len w2 25 [PM.n1, PM.n2, PM.n3, PM.n4] 4 rfl (by decide) _ rfl
  have hal : Below w2.heap.size w2 w3 := by rw [hw3]; exact (Below.refl _ _).alloc (Nat.le_refl _) _
  rw [← hw3, ← hge]
  have hB3 := PM.chain hBB.out hal
  clear hw3 hge hal hBB
  refine (norm_any _ _ w3 hE (by decide)).mono ?_
  rintro e w4 ⟨u, rfl, hO, hB4⟩
  rw [PM.nrm_n] at hO
  obtain ⟨gl, ol, cl, rfl, _, _, hce⟩ := (hO.em PM.teL_len).open1 (by simp)
  have hBB := PM.hid (PM.chain hB3 hB4)
  have l0 := hce 0 _ rfl
  have l1 := hce 1 _ rfl
  have hc0 : PM.Cs w4 gl ol PM.n4 := ⟨l0 0 _ rfl, l0 1 _ rfl, l0 2 _ rfl, l0 3 _ rfl, l0 4 _ rfl⟩
  have hc1 : PM.Cs w4 gl (ol + 5) PM.n3 := ⟨l1 0 _ rfl, l1 1 _ rfl, l1 2 _ rfl, l1 3 _ rfl, l1 4 _ rfl⟩
  have hcs := PM.hid (And.intro hc0 hc1)
  clear hE hB3 hB4 hO hce l0 l1 hc0 hc1
  go_upto_region 4 with fail
  refine PM.wp_region_st [some 11, some 12, some 13, some 14, some 15, some 16, some 17, some 18, some 19, some 20, some 21, some 22, some 23, some 24, some 25, some 26, some 27, some 28, some 29, some 30, some 31, some 32, some 33, some 34, some 35, some 36, some 37, some 38, some 39, some 40, some 41, some 42, some 43, some 0] [fun x _ => x = .agg #[.string ⟨#[112]⟩, .int .i64 5, .int .i64 1, .int .i64 3, .string ⟨#[]⟩], fun x _ => x = .agg #[.string ⟨#[112]⟩, .int .i64 6, .int .i64 1, .int .i64 2, .string ⟨#[]⟩], fun x _ => x = .bool true, fun x _ => x = .bool true, fun x _ => x = .agg #[.string ⟨#[112]⟩, .int .i64 6, .int .i64 1, .int .i64 3, .string ⟨#[]⟩], fun x _ => x = .agg #[.string ⟨#[112]⟩, .int .i64 5, .int .i64 1, .int .i64 3, .string ⟨#[]⟩], fun x _ => x = .bool false, fun x _ => x = .bool true, fun x _ => x = .bool true, fun x _ => x = .bool true, fun x _ => x = .slice (some ⟨gl, ol, none⟩) 2 cl, fun x _ => x = .pointer (some ⟨gl, ol, none⟩), fun x _ => x = .pointer (some ⟨gl, ol, none⟩), fun x _ => x = .string ⟨#[97]⟩, fun x _ => x = .bool true, fun x _ => x = .bool true, fun x _ => x = .bool true, fun x _ => x = .slice (some ⟨gl, ol, none⟩) 2 cl, fun x _ => x = .pointer (some ⟨gl, ol + 5, none⟩), fun x _ => x = .agg #[.string ⟨#[112]⟩, .int .i64 3, .int .i64 1, .int .i64 5, .string ⟨#[]⟩], fun x _ => x = .agg #[.string ⟨#[112]⟩, .int .i64 3, .int .i64 1, .int .i64 5, .string ⟨#[]⟩], fun x _ => x = .bool true, fun x _ => x = .bool true, fun x _ => x = .bool true, fun x _ => x = .slice (some ⟨gl, ol, none⟩) 2 cl, fun x _ => x = .pointer (some ⟨gl, ol, none⟩), fun x _ => x = .agg #[.string ⟨#[97]⟩, .int .i64 8, .int .i64 0, .int .i64 0, .string ⟨#[]⟩], fun x _ => x = .slice (some ⟨gl, ol, none⟩) 2 cl, fun x _ => x = .pointer (some ⟨gl, ol + 5, none⟩), fun x _ => x = .agg #[.string ⟨#[112]⟩, .int .i64 3, .int .i64 1, .int .i64 5, .string ⟨#[]⟩], fun x _ => x = .int .i64 (-1), fun x _ => x = .bool true, fun x _ => x = .bool true, fun x _ => x = .bool true] (by kernel_rfl) (by kernel_rfl) (by kernel_rfl) ?_ ?_ ?_
  · simp only [List.forall_mem_cons]
    refine ⟨?_, ?_, ?_, ?_, ?_, ?_, ?_, ?_, ?_, ?_, ?_, ?_, ?_, ?_, ?_, ?_, ?_, ?_, ?_, ?_, ?_, ?_, ?_, ?_, ?_, ?_, ?_, ?_, ?_, ?_, ?_, ?_, ?_, ?_, by simp⟩
    all_goals (intro x W W' h hb; first | exact h | exact PM.BS.keep hb h | exact PM.OW.keep hb h)
  · refine ⟨?_, ?_, ?_, ?_, ?_, ?_, ?_, ?_, ?_, ?_, ?_, ?_, ?_, ?_, ?_, ?_, ?_, ?_, ?_, ?_, ?_, ?_, ?_, ?_, ?_, ?_, ?_, ?_, ?_, ?_, ?_, ?_, ?_, ?_, trivial⟩
    all_goals
      intro a W hB hF hd
      have k1 := hF 1 rfl
      have c0 : W.cell? ⟨gl, ol, none⟩ = some (.string ⟨#[97]⟩) := PM.cell_keep hB hcs.out.1.c0
      have c1 : W.cell? ⟨gl, ol + 1, none⟩ = some (.int .i64 8) := PM.cell_keep hB hcs.out.1.c1
      have c2 : W.cell? ⟨gl, ol + 2, none⟩ = some (.int .i64 0) := PM.cell_keep hB hcs.out.1.c2
      have c3 : W.cell? ⟨gl, ol + 3, none⟩ = some (.int .i64 0) := PM.cell_keep hB hcs.out.1.c3
      have c4 : W.cell? ⟨gl, ol + 4, none⟩ = some (.string ⟨#[]⟩) := PM.cell_keep hB hcs.out.1.c4
      have d0 : W.cell? ⟨gl, ol + 5, none⟩ = some (.string ⟨#[112]⟩) := PM.cell_keep hB hcs.out.2.c0
      have d1 : W.cell? ⟨gl, ol + 5 + 1, none⟩ = some (.int .i64 3) := PM.cell_keep hB hcs.out.2.c1
      have d2 : W.cell? ⟨gl, ol + 5 + 2, none⟩ = some (.int .i64 1) := PM.cell_keep hB hcs.out.2.c2
      have d3 : W.cell? ⟨gl, ol + 5 + 3, none⟩ = some (.int .i64 5) := PM.cell_keep hB hcs.out.2.c3
      have d4 : W.cell? ⟨gl, ol + 5 + 4, none⟩ = some (.string ⟨#[]⟩) := PM.cell_keep hB hcs.out.2.c4
      clear hF
      simp [PM.depsL, PM.spec, PM.sl, Region.binds] at hd k1
      simp only [PM.wantL, PM.spec]
      try simp only [PM.sl]
      go_simp
    all_goals try exact Below.refl _ _
    · refine (test_any 5 3 W).mono ?_
      rintro e w' ⟨rfl, hb⟩
      exact ⟨hb, rfl⟩
    · refine (test_any 6 2 W).mono ?_
      rintro e w' ⟨rfl, hb⟩
      exact ⟨hb, rfl⟩
    · refine (implies_any ⟨⟨#[112]⟩, 5, 1, 3, ⟨#[]⟩⟩ ⟨⟨#[112]⟩, 6, 1, 2, ⟨#[]⟩⟩ W).mono ?_
      rw [show PM.impB ⟨⟨#[112]⟩, 5, 1, 3, ⟨#[]⟩⟩ ⟨⟨#[112]⟩, 6, 1, 2, ⟨#[]⟩⟩ = true by decide]
      rintro e w' ⟨rfl, hb⟩
      exact ⟨hb, rfl⟩
    · refine (test_any 6 3 W).mono ?_
      rintro e w' ⟨rfl, hb⟩
      exact ⟨hb, rfl⟩
    · refine (test_any 5 3 W).mono ?_
      rintro e w' ⟨rfl, hb⟩
      exact ⟨hb, rfl⟩
    · refine (implies_any ⟨⟨#[112]⟩, 6, 1, 3, ⟨#[]⟩⟩ ⟨⟨#[112]⟩, 5, 1, 3, ⟨#[]⟩⟩ W).mono ?_
      rw [show PM.impB ⟨⟨#[112]⟩, 6, 1, 3, ⟨#[]⟩⟩ ⟨⟨#[112]⟩, 5, 1, 3, ⟨#[]⟩⟩ = false by decide]
      rintro e w' ⟨rfl, hb⟩
      exact ⟨hb, rfl⟩
    · refine (test_any 3 5 W).mono ?_
      rintro e w' ⟨rfl, hb⟩
      exact ⟨hb, rfl⟩
    · refine (torder_any ⟨⟨#[97]⟩, 8, 0, 0, ⟨#[]⟩⟩ ⟨⟨#[112]⟩, 3, 1, 5, ⟨#[]⟩⟩ W).mono ?_
      rw [show PM.tord ⟨⟨#[97]⟩, 8, 0, 0, ⟨#[]⟩⟩ ⟨⟨#[112]⟩, 3, 1, 5, ⟨#[]⟩⟩ = -1 by decide]
      rintro e w' ⟨rfl, hb⟩
      exact ⟨hb, rfl⟩
  · intro G W hB hF hS
    have h0 : G 0 = .bool true := by simp [PM.allSp, PM.spec] at hS; simp [hS]
    rw [show ((List.range (Array.size _)).map G).toArray = #[G 0, G 1, G 2, G 3, G 4, G 5, G 6, G 7, G 8, G 9, G 10, G 11, G 12, G 13, G 14, G 15, G 16, G 17, G 18, G 19, G 20, G 21, G 22, G 23, G 24, G 25, G 26, G 27, G 28, G 29, G 30, G 31, G 32, G 33, G 34, G 35, G 36, G 37, G 38, G 39, G 40, G 41, G 42, G 43] from rfl]
    clear hF hS
    go_wp2
    go_ret
    exact ⟨by simp [h0], PM.chain hBB.out hB⟩
end Go.Proofs.Ytbpajgejfnjaeaa
