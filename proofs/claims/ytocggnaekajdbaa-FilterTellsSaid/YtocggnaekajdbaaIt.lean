/-
  THE WALKS OF LAYER 5's STATEMENTS: tells.
-/
import Derived.Test.YtocggnaekajdbaaIk
import Derived.Test.YtocggnaekajdbaaIm
import Derived.Test.YtocggnaekajdbaaRs
namespace Go.Proofs.Ytocggnaekajdbaa
open Go.RowKit
set_option linter.unusedVariables false
set_option maxRecDepth 100000 in
set_option maxHeartbeats 8000000 in
theorem filterTells_walk (v : Value) (l : List PM.Te) (ev : Value) (es : List PM.At) (z : PM.Te) (k n : Int) (s : ByteArray) (hz : z.wf) (hk : (Lit.int .i64 k).wf = true) (hn : (Lit.int .i64 n).wf = true) (hs : s.size ≤ maxLen) (w : World) (hv : PM.TV w v l) (hw : ∀ x ∈ l, x.wf) (he : PM.EV w ev es) (hwe : ∀ x ∈ es, x.wf) :
    Calls Try.prog 4 #[v, ev, .agg #[.string z.name, .int .i64 z.op, .int .i64 z.k, .int .i64 z.n, .string z.s], .agg #[.int .i64 k, .int .i64 n, .string s]] w fun e w' => e = .returned (.bool true) ∧ Below w.heap.size w w' := by
  have hwn := PM.hid (fun (x : PM.Te) (hx : x ∈ l) => (hw x hx).1)
  have hwt := PM.hid (fun (x : PM.Te) (hx : x ∈ l) => (hw x hx).2.2.2.2)
  have hws := PM.hid (fun (x : PM.At) (hx : x ∈ es) => (hwe x hx).2.2.2)
  have hww := PM.hid hw
  have hzn := PM.hid hz.1
  have hzs := PM.hid hz.2.2.2.2
  have hss := PM.hid hs
  clear hw hwe hz hk hn hs
  obtain ⟨g6, hg6⟩ : ∃ g, g = w.heap.size := ⟨_, rfl⟩
  obtain ⟨wa, hwa⟩ : ∃ W, W = w.alloc (.cells #[.string z.name, .int .i64 z.op, .int .i64 z.k, .int .i64 z.n, .string z.s] 30) := ⟨_, rfl⟩
  obtain ⟨g7, hg7⟩ : ∃ g, g = w.heap.size + 1 := ⟨_, rfl⟩
  obtain ⟨wb, hwb⟩ : ∃ W, W = wa.alloc (.cells #[.int .i64 k, .int .i64 n, .string s] 28) := ⟨_, rfl⟩
  have hBa : Below w.heap.size w wa := by rw [hwa]; exact (Below.refl _ _).alloc (Nat.le_refl _) _
  have hBb : Below wa.heap.size wa wb := by rw [hwb]; exact (Below.refl _ _).alloc (Nat.le_refl _) _
  have hsa : wa.heap.size = w.heap.size + 1 := by rw [hwa]; simp
  have hk6 : PM.BK wb g6 #[.string z.name, .int .i64 z.op, .int .i64 z.k, .int .i64 z.n, .string z.s] 30 := by
    have : PM.BK wa g6 #[.string z.name, .int .i64 z.op, .int .i64 z.k, .int .i64 z.n, .string z.s] 30 := by rw [hwa, hg6]; exact PM.BK.new _ _ _
    exact this.keep hBb
  have hk7 : PM.BK wb g7 #[.int .i64 k, .int .i64 n, .string s] 28 := by rw [hwb, hg7, ← hsa]; exact PM.BK.new _ _ _
  have hBab := PM.chain hBa hBb
  replace hv := hv.keep hBab
  replace he := he.keep hBab
  clear hBa hBb hsa
  go_enter Try.func4, Try.ntmps4
  go_upto_region 1 with fail
  rw [← hwa, ← hwb, ← hg7, ← hg6]
  clear hwa hwb hg6 hg7
  go_wp2_with fail
  refine (awake5 _).mono ?_
  rintro e w1 ⟨rfl, hB1⟩
  replace hv := hv.keep hB1
  replace he := he.keep hB1
  replace hk6 := hk6.keep hB1
  replace hk7 := hk7.keep hB1
  have hBB := PM.hid (PM.chain hBab hB1)
  clear hB1 hBab
  go_wp2_with fail
  refine (ffew_any v l w1 hv).mono ?_
  rintro e w2 ⟨hF, rfl⟩
  rcases hF with ⟨rfl, hF⟩ | ⟨rfl, hF⟩
  case inr =>
    clear hF hv he hk6 hk7
    go_wp2_with fail
    go_ret
    exact ⟨rfl, hBB.out⟩
  clear hF
  have c0 : w2.cell? ⟨g6, 0, none⟩ = some (.string z.name) := hk6.cell 0
  have c1 : w2.cell? ⟨g6, 1, none⟩ = some (.int .i64 z.op) := hk6.cell 1
  have c2 : w2.cell? ⟨g6, 2, none⟩ = some (.int .i64 z.k) := hk6.cell 2
  have c3 : w2.cell? ⟨g6, 3, none⟩ = some (.int .i64 z.n) := hk6.cell 3
  have c4 : w2.cell? ⟨g6, 4, none⟩ = some (.string z.s) := hk6.cell 4
  go_wp2_with fail
  obtain ⟨gl, hgl⟩ : ∃ g, g = w2.heap.size := ⟨_, rfl⟩
  obtain ⟨w3, hw3⟩ : ∃ W, W = w2.alloc (.cells #[.string z.name, .int .i64 z.op, .int .i64 z.k, .int .i64 z.n, .string z.s] 30) := ⟨_, rfl⟩
  have hal : Below w2.heap.size w2 w3 := by rw [hw3]; exact (Below.refl _ _).alloc (Nat.le_refl _) _
  have hlit : PM.TV w3 (.slice (some ⟨gl, 0, none⟩) 1 1) [z] := by rw [hw3, hgl]; exact PM.EM.lit PM.teL_len w2 30 z
  rw [← hw3, ← hgl]
  replace hv := hv.keep hal
  replace he := he.keep hal
  replace hk6 := hk6.keep hal
  replace hk7 := hk7.keep hal
  replace hBB := PM.hid (PM.chain hBB.out hal)
  clear hw3 hgl hal c0 c1 c2 c3 c4
  refine (ffew_any _ [z] w3 hlit).mono ?_
  rintro e w4 ⟨hF, rfl⟩
  clear hlit
  rcases hF with ⟨rfl, hF⟩ | ⟨rfl, hF⟩
  case inr =>
    clear hF hv he hk6 hk7
    go_wp2_with fail
    go_ret
    exact ⟨rfl, hBB.out⟩
  clear hF
  go_wp2_with fail
  refine (few_any ev es w4 he).mono ?_
  rintro e w5 ⟨hF, rfl⟩
  rcases hF with ⟨rfl, hF⟩ | ⟨rfl, hF⟩
  case inr =>
    clear hF hv he hk6 hk7
    go_wp2_with fail
    go_ret
    exact ⟨rfl, hBB.out⟩
  clear hF
  have d2 : w5.cell? ⟨g7, 2, none⟩ = some (.string s) := hk7.cell 2
  by_cases h100 : 100 < s.size
  case pos =>
    have hd : decide ((100 : Int) < (s.size : Int)) = true := by simp; omega
    clear hv he hk6 hk7
    go_wp2_with fail
    go_ret
    exact ⟨rfl, hBB.out⟩
  have hd : decide ((100 : Int) < (s.size : Int)) = false := by simp; omega
  go_wp2_with fail
  refine (fencode_any v l w5 hv hww.out).mono ?_
  rintro e w6 ⟨o1, rfl, ho1, hn1, hB6⟩
  replace hv := hv.keep hB6
  replace he := he.keep hB6
  replace hk6 := hk6.keep hB6
  replace hk7 := hk7.keep hB6
  replace hBB := PM.hid (PM.chain hBB.out hB6)
  clear hB6 d2 h100 hd
  go_wp2_with fail
  refine (rfencode_any v l w6 hv hww.out).mono ?_
  rintro e w7 ⟨o2, rfl, ho2, hn2, hB7⟩
  replace hv := hv.keep hB7
  replace he := he.keep hB7
  replace hk6 := hk6.keep hB7
  replace hk7 := hk7.keep hB7
  replace hBB := PM.hid (PM.chain hBB.out hB7)
  have hbs : ∃ lb, PM.BS w7 o1 lb ∧ PM.BS w7 o2 lb := by
    by_cases hc : PM.filP l
    · exact ⟨_, (ho1 hc).bs.keep hB7, (ho2 hc).bs⟩
    · rw [hn1 hc, hn2 hc]; exact ⟨[], PM.BS.nil _, PM.BS.nil _⟩
  clear ho1 hn1 ho2 hn2 hB7
  obtain ⟨lb, b1, b2⟩ := hbs
  go_wp2_with fail
  refine PM.wp_region_st [some 47, some 48, some 49, some 50, some 51, some 52, some 53, some 54, some 55, some 56, some 57, some 58, some 14] [fun x _ => x = v, fun x _ => x = .int .i64 (PM.filE l), fun x _ => x = v, fun x _ => x = .int .i64 (PM.filE l), fun x _ => x = .bool true, fun x _ => x = .bool true, fun x _ => x = .agg #[.string z.name, .int .i64 z.op, .int .i64 z.k, .int .i64 z.n, .string z.s], fun x _ => x = .int .i64 (PM.teE z), fun x _ => x = .agg #[.string z.name, .int .i64 z.op, .int .i64 z.k, .int .i64 z.n, .string z.s], fun x _ => x = .int .i64 (PM.teE z), fun x _ => x = .bool true, fun x _ => x = .bool true, fun x _ => x = .bool true] (by kernel_rfl) (by kernel_rfl) (by kernel_rfl) ?_ ?_ ?_
  · simp only [List.forall_mem_cons]
    refine ⟨?_, ?_, ?_, ?_, ?_, ?_, ?_, ?_, ?_, ?_, ?_, ?_, ?_, by simp⟩
    all_goals (intro x W W' h hb; first | exact h | exact PM.BS.keep hb h | exact PM.OW.keep hb h)
  · refine ⟨?_, ?_, ?_, ?_, ?_, ?_, ?_, ?_, ?_, ?_, ?_, ?_, ?_, trivial⟩
    all_goals
      intro a W hB hF hd
      have k0 := hF 0 rfl
      have k6 := hF 6 rfl
      have hv' := hv.keep hB
      have he' := he.keep hB
      have hk6' := hk6.keep hB
      have hk7' := hk7.keep hB
      have c0 : W.cell? ⟨g6, 0, none⟩ = some (.string z.name) := hk6'.cell 0
      have c1 : W.cell? ⟨g6, 1, none⟩ = some (.int .i64 z.op) := hk6'.cell 1
      have c2 : W.cell? ⟨g6, 2, none⟩ = some (.int .i64 z.k) := hk6'.cell 2
      have c3 : W.cell? ⟨g6, 3, none⟩ = some (.int .i64 z.n) := hk6'.cell 3
      have c4 : W.cell? ⟨g6, 4, none⟩ = some (.string z.s) := hk6'.cell 4
      have d0 : W.cell? ⟨g7, 0, none⟩ = some (.int .i64 k) := hk7'.cell 0
      have d1 : W.cell? ⟨g7, 1, none⟩ = some (.int .i64 n) := hk7'.cell 1
      have d2 : W.cell? ⟨g7, 2, none⟩ = some (.string s) := hk7'.cell 2
      clear hF
      simp [PM.depsL, PM.spec, PM.sl, Region.binds] at hd k0 k6
      simp only [PM.wantL, PM.spec]
      try simp only [PM.sl]
      go_simp
    all_goals try exact Below.refl _ _
    · refine (fcheck_any v l W hv').mono ?_
      rintro e w' ⟨rfl, hb⟩
      exact ⟨hb, rfl⟩
    · refine (rfcheck_any v l W hv' hwn.out).mono ?_
      rintro e w' ⟨rfl, hb⟩
      exact ⟨hb, rfl⟩
    · refine (one_any z W).mono ?_
      rintro e w' ⟨rfl, hb⟩
      exact ⟨hb, rfl⟩
    · refine (rone_any z hzn.out W).mono ?_
      rintro e w' ⟨rfl, hb⟩
      exact ⟨hb, rfl⟩
  · intro G W hB hF hS
    simp [PM.allSp, PM.spec] at hS
    have h14 : G 14 = .bool true := by simp [hS]
    rw [show ((List.range (Array.size _)).map G).toArray = #[G 0, G 1, G 2, G 3, G 4, G 5, G 6, G 7, G 8, G 9, G 10, G 11, G 12, G 13, G 14, G 15, G 16, G 17, G 18, G 19, G 20, G 21, G 22, G 23, G 24, G 25, G 26, G 27, G 28, G 29, G 30, G 31, G 32, G 33, G 34, G 35, G 36, G 37, G 38, G 39, G 40, G 41, G 42, G 43, G 44, G 45, G 46, G 47, G 48, G 49, G 50, G 51, G 52, G 53, G 54, G 55, G 56, G 57, G 58, G 59, G 60, G 61, G 62, G 63, G 64, G 65, G 66, G 67, G 68, G 69, G 70, G 71, G 72, G 73, G 74, G 75, G 76, G 77, G 78, G 79, G 80, G 81, G 82, G 83, G 84, G 85, G 86, G 87, G 88, G 89, G 90, G 91, G 92, G 93, G 94, G 95, G 96, G 97, G 98, G 99, G 100, G 101] from rfl]
    have q0 := hF 0 rfl
    have q1 := hF 1 rfl
    have q6 := hF 6 rfl
    have q7 := hF 7 rfl
    have q9 := hF 9 rfl
    have q10 := hF 10 rfl
    have q11 := hF 11 rfl
    have q12 := hF 12 rfl
    have q13 := hF 13 rfl
    simp [PM.sl] at q0 q1 q6 q7 q9 q10 q11 q12 q13
    clear hF hS
    rw [q0, q1, q6, q7, q9, q10, q11, q12, q13, h14]
    clear q0 q1 q6 q7 q9 q10 q11 q12 q13 h14
    replace hv := hv.keep hB
    replace he := he.keep hB
    replace hk6 := hk6.keep hB
    replace hk7 := hk7.keep hB
    replace b1 := b1.keep hB
    replace b2 := b2.keep hB
    replace hBB := PM.hid (PM.chain hBB.out hB)
    clear hB
    go_wp2_with fail
    refine PM.wp_region_st [some 59, some 60, some 61, some 62, some 63, some 64, some 65, some 66, some 67, some 68, some 69, some 70, some 71, some 72, some 73, some 74, some 75, some 76, some 77, some 78, some 79, some 80, some 81, some 82, some 83, some 84, some 85, some 86, some 87, some 88, some 89, some 90, some 91, some 92, some 93, some 94, some 95, some 96, some 97, some 98, some 99, some 100, some 101, some 8] [fun x _ => x = .bool true, fun x _ => x = .bool true, fun x _ => x = .bool true, fun x _ => x = .bool true, fun x _ => x = .bool true, fun x _ => x = o1, fun x _ => x = .string ⟨lb.toArray⟩, fun x _ => x = o2, fun x _ => x = .string ⟨lb.toArray⟩, fun x _ => x = .bool true, fun x _ => x = .bool true, fun x _ => x = .bool true, fun x _ => x = .int .i64 (PM.filE l), fun x _ => x = .int .i64 (PM.filE l), fun x _ => x = .bool true, fun x _ => x = .bool true, fun x _ => x = .bool true, fun x _ => x = v, fun x _ => x = ev, fun x _ => x = .bool (PM.matchB l es), fun x _ => x = v, fun x _ => x = ev, fun x _ => x = .bool (PM.matchB l es), fun x _ => x = .bool true, fun x _ => x = .bool true, fun x _ => x = .bool true, fun x _ => x = .agg #[.string z.name, .int .i64 z.op, .int .i64 z.k, .int .i64 z.n, .string z.s], fun x _ => x = .agg #[.int .i64 k, .int .i64 n, .string s], fun x _ => x = .bool (PM.isB z k n s), fun x _ => x = .agg #[.string z.name, .int .i64 z.op, .int .i64 z.k, .int .i64 z.n, .string z.s], fun x _ => x = .agg #[.int .i64 k, .int .i64 n, .string s], fun x _ => x = .bool (PM.isB z k n s), fun x _ => x = .bool true, fun x _ => x = .bool true, fun x _ => x = .bool true, fun x _ => x = .agg #[.string z.name, .int .i64 z.op, .int .i64 z.k, .int .i64 z.n, .string z.s], fun x _ => x = ev, fun x _ => x = .bool (PM.holdsB z es), fun x _ => x = .agg #[.string z.name, .int .i64 z.op, .int .i64 z.k, .int .i64 z.n, .string z.s], fun x _ => x = ev, fun x _ => x = .bool (PM.holdsB z es), fun x _ => x = .bool true, fun x _ => x = .bool true, fun x _ => x = .bool true] (by kernel_rfl) (by kernel_rfl) (by kernel_rfl) ?_ ?_ ?_
    · simp only [List.forall_mem_cons]
      refine ⟨?_, ?_, ?_, ?_, ?_, ?_, ?_, ?_, ?_, ?_, ?_, ?_, ?_, ?_, ?_, ?_, ?_, ?_, ?_, ?_, ?_, ?_, ?_, ?_, ?_, ?_, ?_, ?_, ?_, ?_, ?_, ?_, ?_, ?_, ?_, ?_, ?_, ?_, ?_, ?_, ?_, ?_, ?_, ?_, by simp⟩
      all_goals (intro x W W' h hb; first | exact h | exact PM.BS.keep hb h | exact PM.OW.keep hb h)
    · refine ⟨?_, ?_, ?_, ?_, ?_, ?_, ?_, ?_, ?_, ?_, ?_, ?_, ?_, ?_, ?_, ?_, ?_, ?_, ?_, ?_, ?_, ?_, ?_, ?_, ?_, ?_, ?_, ?_, ?_, ?_, ?_, ?_, ?_, ?_, ?_, ?_, ?_, ?_, ?_, ?_, ?_, ?_, ?_, ?_, trivial⟩
      all_goals
        intro a W hB hF hd
        have k0 := hF 0 rfl
        have k1 := hF 1 rfl
        have k6 := hF 6 rfl
        have k7 := hF 7 rfl
        have k9 := hF 9 rfl
        have k10 := hF 10 rfl
        have k11 := hF 11 rfl
        have k12 := hF 12 rfl
        have k13 := hF 13 rfl
        have k14 := hF 14 rfl
        have hv' := hv.keep hB
        have he' := he.keep hB
        have hk6' := hk6.keep hB
        have hk7' := hk7.keep hB
        have c0 : W.cell? ⟨g6, 0, none⟩ = some (.string z.name) := hk6'.cell 0
        have c1 : W.cell? ⟨g6, 1, none⟩ = some (.int .i64 z.op) := hk6'.cell 1
        have c2 : W.cell? ⟨g6, 2, none⟩ = some (.int .i64 z.k) := hk6'.cell 2
        have c3 : W.cell? ⟨g6, 3, none⟩ = some (.int .i64 z.n) := hk6'.cell 3
        have c4 : W.cell? ⟨g6, 4, none⟩ = some (.string z.s) := hk6'.cell 4
        have d0 : W.cell? ⟨g7, 0, none⟩ = some (.int .i64 k) := hk7'.cell 0
        have d1 : W.cell? ⟨g7, 1, none⟩ = some (.int .i64 n) := hk7'.cell 1
        have d2 : W.cell? ⟨g7, 2, none⟩ = some (.string s) := hk7'.cell 2
        have kb1 := PM.run_str bty Try.underlying9 (b1.keep hB)
        have kb2 := PM.run_str bty Try.underlying9 (b2.keep hB)
        clear hF
        simp [PM.depsL, PM.spec, PM.sl, Region.binds] at hd k0 k1 k6 k7 k9 k10 k11 k12 k13 k14
        simp only [PM.wantL, PM.spec]
        try simp only [PM.sl]
        go_simp
      all_goals try exact Below.refl _ _
      · refine (matches_any v l ev es W hv' he').mono ?_
        rintro e w' ⟨rfl, hb⟩
        exact ⟨hb, rfl⟩
      · refine (rmatches_any v l ev es W hv' he' hws.out hwt.out).mono ?_
        rintro e w' ⟨rfl, hb⟩
        exact ⟨hb, rfl⟩
      · refine (is_any z k n s W).mono ?_
        rintro e w' ⟨rfl, hb⟩
        exact ⟨hb, rfl⟩
      · refine (ris_any z k n s hss.out hzs.out W).mono ?_
        rintro e w' ⟨rfl, hb⟩
        exact ⟨hb, rfl⟩
      · refine (holds_any z ev es W he').mono ?_
        rintro e w' ⟨rfl, hb⟩
        exact ⟨hb, rfl⟩
      · refine (rholds_any z hzs.out ev es W he' hws.out).mono ?_
        rintro e w' ⟨rfl, hb⟩
        exact ⟨hb, rfl⟩
    · intro G W hB hF hS
      simp [PM.allSp, PM.spec] at hS
      have h8 : G 8 = .bool true := by simp [hS]
      rw [show ((List.range (Array.size _)).map G).toArray = #[G 0, G 1, G 2, G 3, G 4, G 5, G 6, G 7, G 8, G 9, G 10, G 11, G 12, G 13, G 14, G 15, G 16, G 17, G 18, G 19, G 20, G 21, G 22, G 23, G 24, G 25, G 26, G 27, G 28, G 29, G 30, G 31, G 32, G 33, G 34, G 35, G 36, G 37, G 38, G 39, G 40, G 41, G 42, G 43, G 44, G 45, G 46, G 47, G 48, G 49, G 50, G 51, G 52, G 53, G 54, G 55, G 56, G 57, G 58, G 59, G 60, G 61, G 62, G 63, G 64, G 65, G 66, G 67, G 68, G 69, G 70, G 71, G 72, G 73, G 74, G 75, G 76, G 77, G 78, G 79, G 80, G 81, G 82, G 83, G 84, G 85, G 86, G 87, G 88, G 89, G 90, G 91, G 92, G 93, G 94, G 95, G 96, G 97, G 98, G 99, G 100, G 101] from rfl]
      clear hF hS
      go_wp2
      go_ret
      exact ⟨by simp [h8], PM.chain hBB.out hB⟩
end Go.Proofs.Ytocggnaekajdbaa
