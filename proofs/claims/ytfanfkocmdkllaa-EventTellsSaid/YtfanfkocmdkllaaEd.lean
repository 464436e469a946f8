/-
  CONTRACT OF postilionref04.Check.
-/
import Derived.Test.YtfanfkocmdkllaaEc
import Derived.Test.YtfanfkocmdkllaaRs
namespace Go.Proofs.Ytfanfkocmdkllaa
open Go.RowKit Go.BigFrame
set_option linter.unusedVariables false
theorem rvcheck_any (k n : Int) (s : ByteArray) (w : World) :
    Calls Try.prog 33 #[.agg #[.int .i64 k, .int .i64 n, .string s]] w fun e w' =>
      e = .returned (.int .i64 (PM.mayE k n s.data.toList)) ∧ Below w.heap.size w w' := by
  go_enter Try.func33, Try.ntmps33
  go_wp2
  all_goals (go_ret; refine ⟨PM.ret_int ?_, by go_grown⟩)
  all_goals (simp only [PM.isEmpty_iff, PM.size_len, beq_iff_eq, beq_eq_false_iff_ne, Bool.not_eq_true', decide_eq_true_eq, decide_eq_false_iff_not, Bool.not_eq_false'] at *)
  all_goals (simp_all [PM.mayE, PM.may_one, PM.may_two, PM.may_three, PM.may_other])
  all_goals omega
set_option maxHeartbeats 2000000 in
theorem recheck_any (v : Value) (es : List PM.At) (w : World) (hv : PM.EV w v es) (hw : ∀ z ∈ es, z.wf) :
    Calls Try.prog 17 #[v] w fun e w' => e = .returned (.int .i64 (PM.chk es)) ∧ Below w.heap.size w w' := by
  obtain ⟨ad, cap, rfl, hcap, hmax, hel⟩ := hv
  unfold maxLen at hmax
  obtain ⟨L, hL⟩ : ∃ L, L = es.length := ⟨_, rfl⟩
  have hLh := PM.hid hL
  rw [← hL] at hcap ⊢
  have helh := PM.hid hel
  have hwh := PM.hid hw
  clear hel hL hw
  by_cases h0 : L = 0
  · have hno : PM.chk es = 40 := PM.chk_no fun h => by have := h.1; rw [← hLh.out] at this; omega
    rw [hno]
    have hz : (L : Int) < 1 := by omega
    clear hno h0
    go_enter Try.func17, Try.ntmps17
    go_wp2_with fail
    go_ret
    exact ⟨rfl, Below.refl _ _⟩
  have hz : ¬ (L : Int) < 1 := by omega
  by_cases h1 : 16 < L
  · have hno : PM.chk es = 40 := PM.chk_no fun h => by have := h.2.1; rw [← hLh.out] at this; omega
    rw [hno]
    have hg : (16 : Int) < (L : Int) := by omega
    clear hno
    go_enter Try.func17, Try.ntmps17
    go_wp2_with fail
    go_ret
    exact ⟨rfl, Below.refl _ _⟩
  have hg : ¬ (16 : Int) < (L : Int) := by omega
  obtain ⟨b, off, rfl, hce⟩ := helh.out (by rw [← hLh.out]; omega)
  have hceh := PM.hid hce
  clear hce helh
  go_enter Try.func17, Try.ntmps17
  go_wp2
  go_loopw [3] (fun i wr => ∃ k : Nat, i = .int .i64 k ∧ k ≤ L ∧ (∀ j, j < k → PM.okAt es j) ∧ Below w.heap.size w wr) (fun i _ => L - (intOf i).toNat)
  case atStart => exact ⟨0, rfl, by omega, fun j hj => absurd hj (by omega), Below.refl _ _⟩
  case round =>
    obtain ⟨k, rfl, hk, hall, hB⟩ := hrel
    have hS := PM.hid (And.intro hall hB)
    have hS0 := hS
    by_cases hlt : k < L
    · obtain ⟨z, hx⟩ : ∃ z, es[k]? = some z := ⟨es[k]'(by rw [← hLh.out]; exact hlt), List.getElem?_eq_getElem _⟩
      obtain ⟨c0, c1, c2, c3⟩ := hceh.out k z hx
      have d0 := PM.cellA hB c0
      have hwf := (hwh.out z (List.mem_of_getElem? hx)).1
      have hxh := PM.hid hx
      clear hx hall hB
      go_wp2_with fail
      refine (rname_any _ _ hwf).mono ?_
      rintro e w2 ⟨rfl, hB2⟩
      have hB3 := PM.chain hS.out.2 hB2
      replace d0 := PM.cellA hB3 c0
      have d1 := PM.cellA hB3 c1
      have d2 := PM.cellA hB3 c2
      have d3 := PM.cellA hB3 c3
      have hB3h := PM.hid hB3
      have hch := PM.hid (And.intro c0 (And.intro c1 (And.intro c2 c3)))
      clear hB3 hB2 hwf c0 c1 c2 c3
      cases hnm : PM.nameL z.name.data.toList
      · have hnmh := PM.hid hnm
        clear hnm
        go_wp2_with fail
        go_quiet (fail)
        go_wp2_with fail
        go_ret
        refine ⟨PM.ret_i (PM.chk_no fun h => ?_).symm, PM.dN' hB3h.out _⟩
        have := (h.2.2 k (by rw [← hLh.out]; exact hlt) z hxh.out).1
        rw [PM.atOk, hnmh.out] at this
        simp at this
      · have hnmh := PM.hid hnm
        clear hnm
        cases hmay : PM.may z.k z.n z.s.data.toList
        · have hmh := PM.hid hmay
          have hme : PM.mayE z.k z.n z.s.data.toList = 10 := by unfold PM.mayE; rw [hmay]; rfl
          have hc := fun w => rvcheck_any z.k z.n z.s w
          rw [hme] at hc
          clear hmay hme
          go_wp2_with fail
          refine PM.wp_region_st [some 25, some 26, some 27, some 28, some 29, some 30, some 31, some 32, some 33, some 34, some 35, some 36, some 37, some 38, some 39, some 40, some 41, some 42, some 43, some 44, some 45, some 46, some 47, some 48, some 49, some 50, some 51, some 52, some 53] [fun x _ => x = .bool true, fun x _ => x = .bool false, fun x _ => x = .bool false, fun x _ => x = .slice (some ⟨b, off, none⟩) L cap, fun x _ => x = .int .i64 (k : Int), fun x _ => x = .pointer (some ⟨b, off + k * 4, none⟩), fun x _ => x = .pointer (some ⟨b, off + k * 4 + 1, none⟩), fun x _ => x = .agg #[.int .i64 z.k, .int .i64 z.n, .string z.s], fun x _ => x = .int .i64 10, fun x _ => x = .bool true, fun x _ => x = .bool true, fun x _ => x = .bool true, fun x _ => x = undef, fun x _ => x = undef, fun x _ => x = undef, fun x _ => x = undef, fun x _ => x = undef, fun x _ => x = undef, fun x _ => x = undef, fun x _ => x = undef, fun x _ => x = undef, fun x _ => x = undef, fun x _ => x = undef, fun x _ => x = undef, fun x _ => x = undef, fun x _ => x = undef, fun x _ => x = undef, fun x _ => x = undef, fun x _ => x = .bool true] (by kernel_rfl) (by kernel_rfl) (by kernel_rfl) ?_ ?_ ?_
          · simp only [List.forall_mem_cons]
            refine ⟨?_, ?_, ?_, ?_, ?_, ?_, ?_, ?_, ?_, ?_, ?_, ?_, ?_, ?_, ?_, ?_, ?_, ?_, ?_, ?_, ?_, ?_, ?_, ?_, ?_, ?_, ?_, ?_, ?_, by simp⟩
            all_goals (intro x W W' h hb; first | exact h | exact PM.BS.keep hb h | exact PM.OW.keep hb h)
          · refine ⟨?_, ?_, ?_, ?_, ?_, ?_, ?_, ?_, ?_, ?_, ?_, ?_, ?_, ?_, ?_, ?_, ?_, ?_, ?_, ?_, ?_, ?_, ?_, ?_, ?_, ?_, ?_, ?_, ?_, trivial⟩
            all_goals
              intro a W hB hF hd
              have k0 := hF 0 rfl
              have k3 := hF 3 rfl
              have k4 := hF 4 rfl
              have d1' := PM.cellA hB d1
              have d2' := PM.cellA hB d2
              have d3' := PM.cellA hB d3
              clear hF
              simp [PM.depsL, PM.spec, PM.sl, Region.binds] at hd k0 k3 k4
              simp only [PM.wantL, PM.spec]
              try simp only [PM.sl]
              go_simp
            all_goals try exact Below.refl _ _
            all_goals try (intro h; simp [undef] at h; done)
            · refine (hc W).mono ?_
              rintro e w' ⟨rfl, hb⟩
              exact ⟨hb, rfl⟩
          · intro G W hB hF hS
            simp [PM.allSp, PM.spec] at hS
            rw [show ((List.range (Array.size _)).map G).toArray = #[G 0, G 1, G 2, G 3, G 4, G 5, G 6, G 7, G 8, G 9, G 10, G 11, G 12, G 13, G 14, G 15, G 16, G 17, G 18, G 19, G 20, G 21, G 22, G 23, G 24, G 25, G 26, G 27, G 28, G 29, G 30, G 31, G 32, G 33, G 34, G 35, G 36, G 37, G 38, G 39, G 40, G 41, G 42, G 43, G 44, G 45, G 46, G 47, G 48, G 49, G 50, G 51, G 52, G 53] from rfl]
            have q0 := hF 0 rfl
            have q1 := hF 1 rfl
            have q2 := hF 2 rfl
            have q3 := hF 3 rfl
            have q4 := hF 4 rfl
            have q5 := hF 5 rfl
            have q6 := hF 6 rfl
            have q7 := hF 7 rfl
            have q8 := hF 8 rfl
            have q9 := hF 9 rfl
            have q10 := hF 10 rfl
            have q11 := hF 11 rfl
            have q12 := hF 12 rfl
            have q13 := hF 13 rfl
            have q14 := hF 14 rfl
            have q15 := hF 15 rfl
            have q16 := hF 16 rfl
            have q17 := hF 17 rfl
            have q18 := hF 18 rfl
            have q19 := hF 19 rfl
            have q20 := hF 20 rfl
            have q21 := hF 21 rfl
            have q22 := hF 22 rfl
            have q23 := hF 23 rfl
            have q24 := hF 24 rfl
            have q53 : G 53 = .bool true := by simp [hS]
            simp [PM.sl] at q0 q1 q2 q3 q4 q5 q6 q7 q8 q9 q10 q11 q12 q13 q14 q15 q16 q17 q18 q19 q20 q21 q22 q23 q24
            clear hF hS
            rw [q0, q1, q2, q3, q4, q5, q6, q7, q8, q9, q10, q11, q12, q13, q14, q15, q16, q17, q18, q19, q20, q21, q22, q23, q24, q53]
            clear q0 q1 q2 q3 q4 q5 q6 q7 q8 q9 q10 q11 q12 q13 q14 q15 q16 q17 q18 q19 q20 q21 q22 q23 q24 q53
            have hBe := PM.hid (PM.chain hB3h.out hB)
            clear hB
            go_wp2_with fail
            go_ret
            refine ⟨PM.ret_i (PM.chk_no fun h => ?_).symm, hBe.out⟩
            have := (h.2.2 k (by rw [← hLh.out]; exact hlt) z hxh.out).1
            rw [PM.atOk, hmh.out] at this
            simp at this

        · have hmh := PM.hid hmay
          have hme : PM.mayE z.k z.n z.s.data.toList = 0 := by unfold PM.mayE; rw [hmay]; rfl
          have hc := fun w => rvcheck_any z.k z.n z.s w
          rw [hme] at hc
          clear hmay hme
          have hok : PM.atOk z = true := by rw [PM.atOk, hnmh.out, hmh.out]; rfl
          have hokh := PM.hid hok
          clear hok
          by_cases hk0 : k = 0
          · have hkd : decide (0 < k) = false := decide_eq_false (by omega)
            have hkd' : ¬ 0 < k := by omega
            have hkh := PM.hid hk0
            clear hk0
            go_wp2_with fail
            refine PM.wp_region_st [some 25, some 26, some 27, some 28, some 29, some 30, some 31, some 32, some 33, some 34, some 35, some 36, some 37, some 38, some 39, some 40, some 41, some 42, some 43, some 44, some 45, some 46, some 47, some 48, some 49, some 50, some 51, some 52, some 53] [fun x _ => x = .bool true, fun x _ => x = .bool false, fun x _ => x = .bool false, fun x _ => x = .slice (some ⟨b, off, none⟩) L cap, fun x _ => x = .int .i64 (k : Int), fun x _ => x = .pointer (some ⟨b, off + k * 4, none⟩), fun x _ => x = .pointer (some ⟨b, off + k * 4 + 1, none⟩), fun x _ => x = .agg #[.int .i64 z.k, .int .i64 z.n, .string z.s], fun x _ => x = .int .i64 0, fun x _ => x = .bool false, fun x _ => x = .bool false, fun x _ => x = .bool false, fun x _ => x = .int .i64 (k : Int), fun x _ => x = .bool false, fun x _ => x = .bool false, fun x _ => x = undef, fun x _ => x = undef, fun x _ => x = undef, fun x _ => x = undef, fun x _ => x = undef, fun x _ => x = undef, fun x _ => x = undef, fun x _ => x = undef, fun x _ => x = undef, fun x _ => x = undef, fun x _ => x = undef, fun x _ => x = undef, fun x _ => x = .bool false, fun x _ => x = .bool false] (by kernel_rfl) (by kernel_rfl) (by kernel_rfl) ?_ ?_ ?_
            · simp only [List.forall_mem_cons]
              refine ⟨?_, ?_, ?_, ?_, ?_, ?_, ?_, ?_, ?_, ?_, ?_, ?_, ?_, ?_, ?_, ?_, ?_, ?_, ?_, ?_, ?_, ?_, ?_, ?_, ?_, ?_, ?_, ?_, ?_, by simp⟩
              all_goals (intro x W W' h hb; first | exact h | exact PM.BS.keep hb h | exact PM.OW.keep hb h)
            · refine ⟨?_, ?_, ?_, ?_, ?_, ?_, ?_, ?_, ?_, ?_, ?_, ?_, ?_, ?_, ?_, ?_, ?_, ?_, ?_, ?_, ?_, ?_, ?_, ?_, ?_, ?_, ?_, ?_, ?_, trivial⟩
              all_goals
                intro a W hB hF hd
                have k0 := hF 0 rfl
                have k3 := hF 3 rfl
                have k4 := hF 4 rfl
                have d1' := PM.cellA hB d1
                have d2' := PM.cellA hB d2
                have d3' := PM.cellA hB d3
                clear hF
                simp [PM.depsL, PM.spec, PM.sl, Region.binds] at hd k0 k3 k4
                simp only [PM.wantL, PM.spec]
                try simp only [PM.sl]
                go_simp
              all_goals try exact Below.refl _ _
              all_goals try (intro h; simp [undef] at h; done)
              · refine (hc W).mono ?_
                rintro e w' ⟨rfl, hb⟩
                exact ⟨hb, rfl⟩
            · intro G W hB hF hS
              simp [PM.allSp, PM.spec] at hS
              rw [show ((List.range (Array.size _)).map G).toArray = #[G 0, G 1, G 2, G 3, G 4, G 5, G 6, G 7, G 8, G 9, G 10, G 11, G 12, G 13, G 14, G 15, G 16, G 17, G 18, G 19, G 20, G 21, G 22, G 23, G 24, G 25, G 26, G 27, G 28, G 29, G 30, G 31, G 32, G 33, G 34, G 35, G 36, G 37, G 38, G 39, G 40, G 41, G 42, G 43, G 44, G 45, G 46, G 47, G 48, G 49, G 50, G 51, G 52, G 53] from rfl]
              have q0 := hF 0 rfl
              have q1 := hF 1 rfl
              have q2 := hF 2 rfl
              have q3 := hF 3 rfl
              have q4 := hF 4 rfl
              have q5 := hF 5 rfl
              have q6 := hF 6 rfl
              have q7 := hF 7 rfl
              have q8 := hF 8 rfl
              have q9 := hF 9 rfl
              have q10 := hF 10 rfl
              have q11 := hF 11 rfl
              have q12 := hF 12 rfl
              have q13 := hF 13 rfl
              have q14 := hF 14 rfl
              have q15 := hF 15 rfl
              have q16 := hF 16 rfl
              have q17 := hF 17 rfl
              have q18 := hF 18 rfl
              have q19 := hF 19 rfl
              have q20 := hF 20 rfl
              have q21 := hF 21 rfl
              have q22 := hF 22 rfl
              have q23 := hF 23 rfl
              have q24 := hF 24 rfl
              have q53 : G 53 = .bool false := by simp [hS]
              simp [PM.sl] at q0 q1 q2 q3 q4 q5 q6 q7 q8 q9 q10 q11 q12 q13 q14 q15 q16 q17 q18 q19 q20 q21 q22 q23 q24
              clear hF hS
              rw [q0, q1, q2, q3, q4, q5, q6, q7, q8, q9, q10, q11, q12, q13, q14, q15, q16, q17, q18, q19, q20, q21, q22, q23, q24, q53]
              clear q0 q1 q2 q3 q4 q5 q6 q7 q8 q9 q10 q11 q12 q13 q14 q15 q16 q17 q18 q19 q20 q21 q22 q23 q24 q53
              have hBe := PM.hid (PM.chain hB3h.out hB)
              clear hB
              go_wp2_with fail
              refine ⟨⟨k + 1, by go_num, by omega, fun j hj => ?_, hBe.out⟩, by simp only [intOf]; omega⟩
              by_cases hjk : j < k
              · exact hS0.out.1 j hjk
              · obtain rfl : j = k := by omega
                intro z' hx'
                rw [hxh.out] at hx'
                cases hx'
                exact ⟨hokh.out, fun y h0 _ => absurd h0 (by have := hkh.out; omega)⟩

          · have hkd : decide (0 < k) = true := decide_eq_true (by omega)
            have hkp : 0 < k := by omega
            obtain ⟨y, hy⟩ : ∃ y, es[k - 1]? = some y := ⟨es[k - 1]'(by rw [← hLh.out]; omega), List.getElem?_eq_getElem _⟩
            obtain ⟨e0, -, -, -⟩ := hceh.out (k - 1) y hy
            replace e0 := PM.cellA hB3h.out e0
            have hyh := PM.hid hy
            clear hy hk0
            by_cases hlt2 : y.name.data.toList < z.name.data.toList
            · have hleq : (Op.bytesLess z.name.toList y.name.toList || z.name.toList == y.name.toList) = false := by rw [PM.leq_eq, decide_eq_true hlt2]; rfl
              have hlth := PM.hid hlt2
              clear hlt2
              go_wp2_with fail
              refine PM.wp_region_st [some 25, some 26, some 27, some 28, some 29, some 30, some 31, some 32, some 33, some 34, some 35, some 36, some 37, some 38, some 39, some 40, some 41, some 42, some 43, some 44, some 45, some 46, some 47, some 48, some 49, some 50, some 51, some 52, some 53] [fun x _ => x = .bool true, fun x _ => x = .bool false, fun x _ => x = .bool false, fun x _ => x = .slice (some ⟨b, off, none⟩) L cap, fun x _ => x = .int .i64 (k : Int), fun x _ => x = .pointer (some ⟨b, off + k * 4, none⟩), fun x _ => x = .pointer (some ⟨b, off + k * 4 + 1, none⟩), fun x _ => x = .agg #[.int .i64 z.k, .int .i64 z.n, .string z.s], fun x _ => x = .int .i64 0, fun x _ => x = .bool false, fun x _ => x = .bool false, fun x _ => x = .bool false, fun x _ => x = .int .i64 (k : Int), fun x _ => x = .bool true, fun x _ => x = .bool true, fun x _ => x = .slice (some ⟨b, off, none⟩) L cap, fun x _ => x = .int .i64 (k : Int), fun x _ => x = .pointer (some ⟨b, off + k * 4, none⟩), fun x _ => x = .pointer (some ⟨b, off + k * 4, none⟩), fun x _ => x = .string z.name, fun x _ => x = .slice (some ⟨b, off, none⟩) L cap, fun x _ => x = .int .i64 (k : Int), fun x _ => x = .int .i64 ((k : Int) - 1), fun x _ => x = .pointer (some ⟨b, off + (k - 1) * 4, none⟩), fun x _ => x = .pointer (some ⟨b, off + (k - 1) * 4, none⟩), fun x _ => x = .string y.name, fun x _ => x = .bool false, fun x _ => x = .bool false, fun x _ => x = .bool false] (by kernel_rfl) (by kernel_rfl) (by kernel_rfl) ?_ ?_ ?_
              · simp only [List.forall_mem_cons]
                refine ⟨?_, ?_, ?_, ?_, ?_, ?_, ?_, ?_, ?_, ?_, ?_, ?_, ?_, ?_, ?_, ?_, ?_, ?_, ?_, ?_, ?_, ?_, ?_, ?_, ?_, ?_, ?_, ?_, ?_, by simp⟩
                all_goals (intro x W W' h hb; first | exact h | exact PM.BS.keep hb h | exact PM.OW.keep hb h)
              · refine ⟨?_, ?_, ?_, ?_, ?_, ?_, ?_, ?_, ?_, ?_, ?_, ?_, ?_, ?_, ?_, ?_, ?_, ?_, ?_, ?_, ?_, ?_, ?_, ?_, ?_, ?_, ?_, ?_, ?_, trivial⟩
                all_goals
                  intro a W hB hF hd
                  have k0 := hF 0 rfl
                  have k3 := hF 3 rfl
                  have k4 := hF 4 rfl
                  have d1' := PM.cellA hB d1
                  have d2' := PM.cellA hB d2
                  have d3' := PM.cellA hB d3
                  have d0' := PM.cellA hB d0
                  have e0' := PM.cellA hB e0
                  have hwr : IntKind.i64.wrap ((k : Int) - 1) = (k : Int) - 1 := by rw [IntKind.wrap_i64]; omega
                  have g1 : (1 : Int) ≤ (k : Int) := by omega
                  have g2 : (k : Int) - 1 < (L : Int) := by omega
                  clear hF
                  simp [PM.depsL, PM.spec, PM.sl, Region.binds] at hd k0 k3 k4
                  simp only [PM.wantL, PM.spec]
                  try simp only [PM.sl]
                  go_simp
                all_goals try exact Below.refl _ _
                all_goals try (intro h; simp [undef] at h; done)
                · refine (hc W).mono ?_
                  rintro e w' ⟨rfl, hb⟩
                  exact ⟨hb, rfl⟩
              · intro G W hB hF hS
                simp [PM.allSp, PM.spec] at hS
                rw [show ((List.range (Array.size _)).map G).toArray = #[G 0, G 1, G 2, G 3, G 4, G 5, G 6, G 7, G 8, G 9, G 10, G 11, G 12, G 13, G 14, G 15, G 16, G 17, G 18, G 19, G 20, G 21, G 22, G 23, G 24, G 25, G 26, G 27, G 28, G 29, G 30, G 31, G 32, G 33, G 34, G 35, G 36, G 37, G 38, G 39, G 40, G 41, G 42, G 43, G 44, G 45, G 46, G 47, G 48, G 49, G 50, G 51, G 52, G 53] from rfl]
                have q0 := hF 0 rfl
                have q1 := hF 1 rfl
                have q2 := hF 2 rfl
                have q3 := hF 3 rfl
                have q4 := hF 4 rfl
                have q5 := hF 5 rfl
                have q6 := hF 6 rfl
                have q7 := hF 7 rfl
                have q8 := hF 8 rfl
                have q9 := hF 9 rfl
                have q10 := hF 10 rfl
                have q11 := hF 11 rfl
                have q12 := hF 12 rfl
                have q13 := hF 13 rfl
                have q14 := hF 14 rfl
                have q15 := hF 15 rfl
                have q16 := hF 16 rfl
                have q17 := hF 17 rfl
                have q18 := hF 18 rfl
                have q19 := hF 19 rfl
                have q20 := hF 20 rfl
                have q21 := hF 21 rfl
                have q22 := hF 22 rfl
                have q23 := hF 23 rfl
                have q24 := hF 24 rfl
                have q53 : G 53 = .bool false := by simp [hS]
                simp [PM.sl] at q0 q1 q2 q3 q4 q5 q6 q7 q8 q9 q10 q11 q12 q13 q14 q15 q16 q17 q18 q19 q20 q21 q22 q23 q24
                clear hF hS
                rw [q0, q1, q2, q3, q4, q5, q6, q7, q8, q9, q10, q11, q12, q13, q14, q15, q16, q17, q18, q19, q20, q21, q22, q23, q24, q53]
                clear q0 q1 q2 q3 q4 q5 q6 q7 q8 q9 q10 q11 q12 q13 q14 q15 q16 q17 q18 q19 q20 q21 q22 q23 q24 q53
                have hBe := PM.hid (PM.chain hB3h.out hB)
                clear hB
                go_wp2_with fail
                refine ⟨⟨k + 1, by go_num, by omega, fun j hj => ?_, hBe.out⟩, by simp only [intOf]; omega⟩
                by_cases hjk : j < k
                · exact hS0.out.1 j hjk
                · obtain rfl : j = k := by omega
                  intro z' hx'
                  rw [hxh.out] at hx'
                  cases hx'
                  refine ⟨hokh.out, fun y' h0 hy' => ?_⟩
                  rw [hyh.out] at hy'
                  cases hy'
                  exact hlth.out

            · have hleq : (Op.bytesLess z.name.toList y.name.toList || z.name.toList == y.name.toList) = true := by rw [PM.leq_eq, decide_eq_false hlt2]; rfl
              have hlth := PM.hid hlt2
              clear hlt2
              go_wp2_with fail
              refine PM.wp_region_st [some 25, some 26, some 27, some 28, some 29, some 30, some 31, some 32, some 33, some 34, some 35, some 36, some 37, some 38, some 39, some 40, some 41, some 42, some 43, some 44, some 45, some 46, some 47, some 48, some 49, some 50, some 51, some 52, some 53] [fun x _ => x = .bool true, fun x _ => x = .bool false, fun x _ => x = .bool false, fun x _ => x = .slice (some ⟨b, off, none⟩) L cap, fun x _ => x = .int .i64 (k : Int), fun x _ => x = .pointer (some ⟨b, off + k * 4, none⟩), fun x _ => x = .pointer (some ⟨b, off + k * 4 + 1, none⟩), fun x _ => x = .agg #[.int .i64 z.k, .int .i64 z.n, .string z.s], fun x _ => x = .int .i64 0, fun x _ => x = .bool false, fun x _ => x = .bool false, fun x _ => x = .bool false, fun x _ => x = .int .i64 (k : Int), fun x _ => x = .bool true, fun x _ => x = .bool true, fun x _ => x = .slice (some ⟨b, off, none⟩) L cap, fun x _ => x = .int .i64 (k : Int), fun x _ => x = .pointer (some ⟨b, off + k * 4, none⟩), fun x _ => x = .pointer (some ⟨b, off + k * 4, none⟩), fun x _ => x = .string z.name, fun x _ => x = .slice (some ⟨b, off, none⟩) L cap, fun x _ => x = .int .i64 (k : Int), fun x _ => x = .int .i64 ((k : Int) - 1), fun x _ => x = .pointer (some ⟨b, off + (k - 1) * 4, none⟩), fun x _ => x = .pointer (some ⟨b, off + (k - 1) * 4, none⟩), fun x _ => x = .string y.name, fun x _ => x = .bool true, fun x _ => x = .bool true, fun x _ => x = .bool true] (by kernel_rfl) (by kernel_rfl) (by kernel_rfl) ?_ ?_ ?_
              · simp only [List.forall_mem_cons]
                refine ⟨?_, ?_, ?_, ?_, ?_, ?_, ?_, ?_, ?_, ?_, ?_, ?_, ?_, ?_, ?_, ?_, ?_, ?_, ?_, ?_, ?_, ?_, ?_, ?_, ?_, ?_, ?_, ?_, ?_, by simp⟩
                all_goals (intro x W W' h hb; first | exact h | exact PM.BS.keep hb h | exact PM.OW.keep hb h)
              · refine ⟨?_, ?_, ?_, ?_, ?_, ?_, ?_, ?_, ?_, ?_, ?_, ?_, ?_, ?_, ?_, ?_, ?_, ?_, ?_, ?_, ?_, ?_, ?_, ?_, ?_, ?_, ?_, ?_, ?_, trivial⟩
                all_goals
                  intro a W hB hF hd
                  have k0 := hF 0 rfl
                  have k3 := hF 3 rfl
                  have k4 := hF 4 rfl
                  have d1' := PM.cellA hB d1
                  have d2' := PM.cellA hB d2
                  have d3' := PM.cellA hB d3
                  have d0' := PM.cellA hB d0
                  have e0' := PM.cellA hB e0
                  have hwr : IntKind.i64.wrap ((k : Int) - 1) = (k : Int) - 1 := by rw [IntKind.wrap_i64]; omega
                  have g1 : (1 : Int) ≤ (k : Int) := by omega
                  have g2 : (k : Int) - 1 < (L : Int) := by omega
                  clear hF
                  simp [PM.depsL, PM.spec, PM.sl, Region.binds] at hd k0 k3 k4
                  simp only [PM.wantL, PM.spec]
                  try simp only [PM.sl]
                  go_simp
                all_goals try exact Below.refl _ _
                all_goals try (intro h; simp [undef] at h; done)
                · refine (hc W).mono ?_
                  rintro e w' ⟨rfl, hb⟩
                  exact ⟨hb, rfl⟩
              · intro G W hB hF hS
                simp [PM.allSp, PM.spec] at hS
                rw [show ((List.range (Array.size _)).map G).toArray = #[G 0, G 1, G 2, G 3, G 4, G 5, G 6, G 7, G 8, G 9, G 10, G 11, G 12, G 13, G 14, G 15, G 16, G 17, G 18, G 19, G 20, G 21, G 22, G 23, G 24, G 25, G 26, G 27, G 28, G 29, G 30, G 31, G 32, G 33, G 34, G 35, G 36, G 37, G 38, G 39, G 40, G 41, G 42, G 43, G 44, G 45, G 46, G 47, G 48, G 49, G 50, G 51, G 52, G 53] from rfl]
                have q0 := hF 0 rfl
                have q1 := hF 1 rfl
                have q2 := hF 2 rfl
                have q3 := hF 3 rfl
                have q4 := hF 4 rfl
                have q5 := hF 5 rfl
                have q6 := hF 6 rfl
                have q7 := hF 7 rfl
                have q8 := hF 8 rfl
                have q9 := hF 9 rfl
                have q10 := hF 10 rfl
                have q11 := hF 11 rfl
                have q12 := hF 12 rfl
                have q13 := hF 13 rfl
                have q14 := hF 14 rfl
                have q15 := hF 15 rfl
                have q16 := hF 16 rfl
                have q17 := hF 17 rfl
                have q18 := hF 18 rfl
                have q19 := hF 19 rfl
                have q20 := hF 20 rfl
                have q21 := hF 21 rfl
                have q22 := hF 22 rfl
                have q23 := hF 23 rfl
                have q24 := hF 24 rfl
                have q53 : G 53 = .bool true := by simp [hS]
                simp [PM.sl] at q0 q1 q2 q3 q4 q5 q6 q7 q8 q9 q10 q11 q12 q13 q14 q15 q16 q17 q18 q19 q20 q21 q22 q23 q24
                clear hF hS
                rw [q0, q1, q2, q3, q4, q5, q6, q7, q8, q9, q10, q11, q12, q13, q14, q15, q16, q17, q18, q19, q20, q21, q22, q23, q24, q53]
                clear q0 q1 q2 q3 q4 q5 q6 q7 q8 q9 q10 q11 q12 q13 q14 q15 q16 q17 q18 q19 q20 q21 q22 q23 q24 q53
                have hBe := PM.hid (PM.chain hB3h.out hB)
                clear hB
                go_wp2_with fail
                go_ret
                refine ⟨PM.ret_i (PM.chk_no fun h => ?_).symm, hBe.out⟩
                exact hlth.out ((h.2.2 k (by rw [← hLh.out]; exact hlt) z hxh.out).2 y (by omega) hyh.out)

    · have hkL : k = L := by omega
      subst hkL
      clear hall hB
      go_wp2_with fail
      go_ret
      refine ⟨PM.ret_i (PM.chk_yes ⟨?_, ?_, ?_⟩).symm, hS.out.2⟩
      · rw [← hLh.out]; omega
      · rw [← hLh.out]; omega
      · rw [← hLh.out]; exact hS.out.1
end Go.Proofs.Ytfanfkocmdkllaa

