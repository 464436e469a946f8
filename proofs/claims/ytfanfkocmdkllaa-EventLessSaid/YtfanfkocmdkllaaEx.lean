/-
  THE WALKS OF LAYER 4's STATEMENTS: less.
-/
import Derived.Test.YtfanfkocmdkllaaEw
import Derived.Test.YtfanfkocmdkllaaRx
import Derived.Test.YtfanfkocmdkllaaGl
import Derived.Deep.CutRange
namespace Go.Proofs.Ytfanfkocmdkllaa
open Go.RowKit
set_option linter.unusedVariables false
namespace PM
theorem less_get (es : List At) (A i : Nat) (hA : A < es.length) : (es.take A ++ es.drop (A + 1))[i]? = if i < A then es[i]? else es[i + 1]? := by
  split
  · rename_i h
    rw [List.getElem?_append_left (by rw [List.length_take]; omega), List.getElem?_take_of_lt h]
  · rename_i h
    rw [List.getElem?_append_right (by rw [List.length_take]; omega), List.getElem?_drop, List.length_take]
    congr 1
    omega
theorem less_len (es : List At) (A : Nat) (hA : A < es.length) : (es.take A ++ es.drop (A + 1)).length = es.length - 1 := by
  rw [List.length_append, List.length_take, List.length_drop]; omega
theorem less_ok {es : List At} (hc : chkP es) {A : Nat} (hA : A < es.length) (h2 : 2 ≤ es.length) : chkP (es.take A ++ es.drop (A + 1)) := by
  have hl := less_len es A hA
  have h16 := hc.2.1
  refine ⟨by omega, by omega, fun i hi x hx => ?_⟩
  rw [hl] at hi
  rw [less_get es A i hA] at hx
  have key : ∀ p, es[p]? = some x → atOk x = true := fun p hp => (hc.2.2 p (List.getElem?_eq_some_iff.1 hp).1 x hp).1
  refine ⟨?_, fun y h0 hy => ?_⟩
  · split at hx
    · exact key _ hx
    · exact key _ hx
  · rw [less_get es A (i - 1) hA] at hy
    by_cases hi1 : i < A
    · rw [if_pos hi1] at hx
      rw [if_pos (by omega)] at hy
      exact lt_of hc 0 (i - 1) y x hy (by rw [← hx]; congr 1; omega)
    · rw [if_neg hi1] at hx
      by_cases hi2 : i - 1 < A
      · rw [if_pos hi2] at hy
        exact lt_of hc 1 (i - 1) y x hy (by rw [← hx]; congr 1; omega)
      · rw [if_neg hi2] at hy
        exact lt_of hc 0 (i - 1 + 1) y x hy (by rw [← hx]; congr 1; omega)
theorem less_not {es : List At} (hc : chkP es) {A : Nat} (hA : A < es.length) {z : At} (hz : es[A]? = some z) : there z.name (es.take A ++ es.drop (A + 1)) = false := by
  unfold there
  rw [Bool.eq_false_iff]
  intro h
  rw [List.any_eq_true] at h
  obtain ⟨x, hx, he⟩ := h
  obtain ⟨i, hi⟩ := List.mem_iff_getElem?.1 hx
  rw [less_get es A i hA] at hi
  have hn : x.name = z.name := ba_ext (by simpa using he)
  split at hi
  · have := same_place hc hi hz hn; omega
  · have := same_place hc hi hz hn; omega
theorem twice_no {es : List At} {A : Nat} (hA : A < es.length) {z : At} (hz : es[A]? = some z) : ¬ chkP (es.take A ++ [z] ++ es.drop A) := by
  intro h
  have hl : (es.take A).length = A := by rw [List.length_take]; omega
  have g1 : (es.take A ++ [z] ++ es.drop A)[A]? = some z := by
    rw [List.append_assoc, List.getElem?_append_right (by omega), hl]
    simp
  have g2 : (es.take A ++ [z] ++ es.drop A)[A + 1]? = some z := by
    rw [List.append_assoc, List.getElem?_append_right (by omega), hl, List.getElem?_append_right (by simp)]
    simp [hz]
  have := lt_of h 0 A z z g1 g2
  exact absurd this (List.lt_irrefl _)
end PM
set_option maxRecDepth 100000 in
set_option maxHeartbeats 8000000 in
theorem eventLess_walk (v : Value) (es : List PM.At) (at_ : Int) (hat : (Lit.int .i64 at_).wf = true) (w : World) (hv : PM.EV w v es) (hw : ∀ x ∈ es, x.wf) :
    Calls Try.prog 8 #[v, .int .i64 at_] w fun e w' => e = .returned (.bool true) ∧ Below w.heap.size w w' := by
  have hvh := PM.hid hv
  obtain ⟨ad, cap, rfl, hcap, hmax, hel⟩ := hv
  unfold maxLen at hmax
  obtain ⟨L, hL⟩ : ∃ L, L = es.length := ⟨_, rfl⟩
  have hLh := PM.hid hL
  rw [← hL] at hcap ⊢
  have helh := PM.hid hel
  clear hel hL
  obtain ⟨hat1, hat2⟩ := Go.bounds_i64 hat
  go_enter Try.func8, Try.ntmps8
  go_wp2_with fail
  refine (awake4 _).mono ?_
  rintro e w1 ⟨rfl, hB1⟩
  have hB1h := PM.hid hB1
  clear hB1
  go_wp2_with fail
  refine (few_any _ es w1 (by rw [hLh.out]; have := hvh.out.keep hB1h.out; exact this)).mono ?_
  rintro e w2 ⟨hF, rfl⟩
  rcases hF with ⟨rfl, hF⟩ | ⟨rfl, hF⟩
  case inr =>
    clear hF
    go_wp2_with fail
    go_ret
    exact ⟨rfl, hB1h.out⟩
  clear hF
  go_wp2_with fail
  refine (echeck_any _ es w2 (by rw [hLh.out]; have := hvh.out.keep hB1h.out; exact this)).mono ?_
  rintro e w3 ⟨rfl, hB3⟩
  have hB3h := PM.hid (PM.chain hB1h.out hB3)
  clear hB3 hB1h
  by_cases hc : PM.chkP es
  case neg =>
    rw [PM.chk_no hc]
    clear hc
    go_wp2_with fail
    go_ret
    exact ⟨rfl, hB3h.out⟩
  rw [PM.chk_yes hc]
  have hch := PM.hid hc
  have h16 := hc.2.1
  rw [← hLh.out] at h16
  clear hc
  by_cases h2 : L < 2
  case pos =>
    have hd : decide ((L : Int) < 2) = true := by simp; omega
    go_wp2_with fail
    go_ret
    exact ⟨rfl, hB3h.out⟩
  have hd : decide ((L : Int) < 2) = false := by simp; omega
  have hl0 : ((L : Int) == 0) = false := by simp; omega
  go_upto_if 26 with fail
  go_cut [1] from 27 to 29 (fun s wx => w3 = wx ∧ ∃ A0 : Int, s = .int .i64 A0 ∧ 0 ≤ A0 ∧ A0 ≤ 9223372036854775807)
  case first =>
    go_wp2_with fail
    all_goals
      go_meet
      exact ⟨rfl, _, rfl, by omega, by omega⟩
  case rest =>
  obtain ⟨rfl, A0, rfl, hA0, hA1⟩ := hcut
  obtain ⟨A, hA⟩ : ∃ A : Nat, (A : Int) = A0 % (L : Int) := ⟨(A0 % (L : Int)).toNat, by have := Int.emod_nonneg A0 (show (L : Int) ≠ 0 by omega); omega⟩
  have hAL : A < L := by
    have := Int.emod_lt_of_pos A0 (show (0 : Int) < (L : Int) by omega)
    omega
  obtain ⟨b, off, rfl, hce⟩ := helh.out (by rw [← hLh.out]; omega)
  obtain ⟨z, hz⟩ : ∃ z, es[A]? = some z := ⟨es[A]'(by rw [← hLh.out]; exact hAL), List.getElem?_eq_getElem _⟩
  obtain ⟨x0, x1, x2, x3⟩ := hce A z hz
  have hE3 := (hvh.out.keep hB3h.out).em
  obtain ⟨ta, tk, ht, hT⟩ := PM.run_takeM attTy hE3 (K := A) (by rw [← hLh.out]; omega)
  obtain ⟨ra, rk, hr, hR⟩ := PM.run_restM attTy hE3 (K := A + 1) (by rw [← hLh.out]; omega)
  obtain ⟨sa, sk, hs, hS⟩ := PM.run_restM attTy hE3 (K := A) (by rw [← hLh.out]; omega)
  rw [← hLh.out] at ht hr hR hs hS
  rw [show ((A + 1 : Nat) : Int) = (A : Int) + 1 by omega] at hr
  have hlen := hLh.out.symm
  go_upto_region 7 with fail
  rw [← hA]
  have hAh := PM.hid hA
  clear hA
  go_cut [6] from 34 to 43 (fun s wx => PM.OM PM.attL 4 43 w3.heap.size wx s (es.take A ++ es.drop (A + 1)) ∧ Below w3.heap.size w3 wx)
  case first =>
    have hwA : IntKind.i64.wrap ((A : Int) + 1) = (A : Int) + 1 := by rw [IntKind.wrap_i64]; omega
    refine wp_region_any (by kernel_rfl) ?_
    change wpAny _ _ _ _ _ _ _ (World.drew w3)
    obtain ⟨wd, hwd⟩ : ∃ x, x = World.drew w3 := ⟨_, rfl⟩
    have hBd : Below w3.heap.size w3 wd := by rw [hwd]; exact (Below.refl _ _).drew
    rw [← hwd]
    clear hwd
    refine wpAny_take (i := 1) (v := ?_) rfl (by kernel_rfl) (by kernel_rfl) (by kernel_rfl) (fun _ _ _ h => h) (Or.inl ⟨by rfl, ?_⟩) ?_
    rotate_left
    · intro W
      go_simp
      try with_reducible rfl
    refine wpAny_take (i := 2) (v := ?_) rfl (by kernel_rfl) (by kernel_rfl) (by kernel_rfl) (fun _ _ _ h => h) (Or.inl ⟨by rfl, ?_⟩) ?_
    rotate_left
    · intro W
      go_simp
      try with_reducible rfl
    refine wpAny_take (i := 3) (v := ?_) rfl (by kernel_rfl) (by kernel_rfl) (by kernel_rfl) (fun _ _ _ h => h) (Or.inl ⟨by rfl, ?_⟩) ?_
    rotate_left
    · intro W
      go_simp
      try with_reducible rfl
    refine wpAny_take (i := 5) (v := ?_) rfl (by kernel_rfl) (by kernel_rfl) (by kernel_rfl) (fun _ _ _ h => h) (Or.inl ⟨by rfl, ?_⟩) ?_
    rotate_left
    · intro W
      go_simp
      try with_reducible rfl
    refine wpAny_take (i := 6) (v := ?_) rfl (by kernel_rfl) (by kernel_rfl) (by kernel_rfl) (fun _ _ _ h => h) (Or.inl ⟨by rfl, ?_⟩) ?_
    rotate_left
    · intro W
      go_simp
      try with_reducible rfl
    refine wpAny_take (i := 7) (v := ?_) rfl (by kernel_rfl) (by kernel_rfl) (by kernel_rfl) (fun _ _ _ h => h) (Or.inl ⟨by rfl, ?_⟩) ?_
    rotate_left
    · intro W
      go_simp
      try with_reducible rfl
    refine wpAny_take (i := 8) (v := ?_) rfl (by kernel_rfl) (by kernel_rfl) (by kernel_rfl) (fun _ _ _ h => h) (Or.inl ⟨by rfl, ?_⟩) ?_
    rotate_left
    · intro W
      go_simp
      try with_reducible rfl
    clear hwA
    refine wpAny_ready (rs := [0]) (by kernel_rfl) (by simp) ?_
    refine PM.ready1 rfl ?_ ?_
    · go_wp2_with fail
      obtain ⟨g2, hg2⟩ : ∃ g, g = wd.heap.size := ⟨_, rfl⟩
      obtain ⟨W1, hW1⟩ : ∃ x, x = wd.alloc (.cells #[] 43) := ⟨_, rfl⟩
      have hal4 : Below wd.heap.size wd W1 := by rw [hW1]; exact (Below.refl _ _).alloc (Nat.le_refl _) _
      have hO3 : PM.OM PM.attL 4 43 w3.heap.size W1 (.slice (some ⟨g2, 0, none⟩) 0 0) [] := by rw [hW1, hg2]; exact PM.OM.made wd #[] 0 (by decide) rfl hBd.size
      have hB5 := PM.chain hBd hal4
      rw [← hW1, ← hg2]
      clear hW1 hg2
      refine ⟨rfl, ?_⟩
      refine wpAny_ready (rs := [4]) (by kernel_rfl) (by simp) ?_
      refine PM.ready1 rfl ?_ ?_
      · have hs13 := hT.keep hB5
        have hz14 := hB5.size
        have hn15 : (([] : List PM.At).length + (es.take A : List PM.At).length) * 48 ≤ 140737488355328 ∧ ([] : List PM.At).length + (es.take A : List PM.At).length ≤ maxLen := by
          unfold maxLen
          simp
          omega
        refine PM.wpList_em (e := PM.attL) attTy PM.attL_len PM.attL_one w3.heap.size rfl _ _ rfl (.slice (some ⟨g2, 0, none⟩) 0 0) _ ([]) (es.take A) rfl rfl hO3 hs13 hn15.1 hn15.2 hz14 ?_
        intro v6 W7 q8 q9 q10 q11
        go_wp2_with fail
        have hB12 := hB5.trans q9
        refine ⟨rfl, ?_⟩
        refine wpAny_ready (rs := [9]) (by kernel_rfl) (by simp) ?_
        refine PM.ready1 rfl ?_ ?_
        · have hs23 := hR.keep hB12
          have hz24 := hB12.size
          have hn25 : (([] ++ es.take A : List PM.At).length + (es.drop (A + 1) : List PM.At).length) * 48 ≤ 140737488355328 ∧ ([] ++ es.take A : List PM.At).length + (es.drop (A + 1) : List PM.At).length ≤ maxLen := by
            unfold maxLen
            simp
            omega
          refine PM.wpList_em (e := PM.attL) attTy PM.attL_len PM.attL_one w3.heap.size rfl _ _ rfl (v6) _ ([] ++ es.take A) (es.drop (A + 1)) rfl rfl q8 hs23 hn25.1 hn25.2 hz24 ?_
          intro v16 W17 q18 q19 q20 q21
          go_wp2_with fail
          have hB22 := hB12.trans q19
          refine ⟨rfl, ?_⟩
          refine wpAny_ready (rs := [10]) (by kernel_rfl) (by simp) ?_
          refine PM.ready1 rfl ?_ ?_
          · go_wp2_with fail
            refine ⟨rfl, ?_⟩
            refine wpAny_done (by kernel_rfl) ?_ _
            go_wp2_with fail
            go_meet
            exact ⟨(by simpa using q18), hB22⟩
          exact AllReady.nil
        exact AllReady.nil
      exact AllReady.nil
    exact AllReady.nil
  case rest =>
  obtain ⟨hO6, hB6⟩ := hcut
  have hE6 := (hO6.em PM.attL_len).ev
  have hBw := PM.chain hB3h.out hB6
  have d0 := PM.cellA hBw x0
  have hl6 := PM.hid hE6
  clear hO6 hE6
  go_wp2_with fail
  refine (efind_any _ z.name _ wc hl6.out).mono ?_
  rintro e w5 ⟨k5, n5, s5, f5, rfl, hF5, hB5⟩
  obtain ⟨hf5, hz5⟩ := PM.found_there hF5
  rw [PM.less_not hch.out (by rw [hlen]; exact hAL) hz] at hf5
  subst hf5
  obtain ⟨rfl, rfl, rfl⟩ := hz5 rfl
  go_upto_region 9 with fail
  obtain ⟨g8, hg8⟩ : ∃ g, g = w5.heap.size := ⟨_, rfl⟩
  obtain ⟨w8, hw8⟩ : ∃ W, W = w5.alloc (.cells #[.int .i64 0, .int .i64 0, .string ⟨#[]⟩] 31) := ⟨_, rfl⟩
  have hal : Below w5.heap.size w5 w8 := by rw [hw8]; exact (Below.refl _ _).alloc (Nat.le_refl _) _
  have h38 := PM.chain hB6 (PM.chain hB5 hal)
  have hBw8 := PM.chain hB3h.out h38
  have e0 := PM.hid (PM.cellA hBw8 x0)
  have e1 := PM.hid (PM.cellA hBw8 x1)
  have e2 := PM.hid (PM.cellA hBw8 x2)
  have e3 := PM.hid (PM.cellA hBw8 x3)
  have hT8 := hT.keep h38
  have hS8 := hS.keep h38
  have hl8 := PM.hid (hl6.out.keep (PM.chain hB5 hal))
  have hBh8 := PM.hid hBw8
  rw [← hw8, ← hg8]
  clear hw8 hg8 hal h38 hBw8 hBw d0 hl6 hF5 hz5 hT hS hR hr x0 x1 x2 x3 hB5 hB6
  go_cut [9] from 54 to 68 (fun s wx => PM.OM PM.attL 4 43 w8.heap.size wx s (es.take A ++ [z] ++ es.drop A) ∧ Below w8.heap.size w8 wx)
  case first =>
    refine wp_region_any (by kernel_rfl) ?_
    change wpAny _ _ _ _ _ _ _ (World.drew w8)
    obtain ⟨wd, hwd⟩ : ∃ x, x = World.drew w8 := ⟨_, rfl⟩
    have hBd : Below w8.heap.size w8 wd := by rw [hwd]; exact (Below.refl _ _).drew
    rw [← hwd]
    clear hwd
    refine wpAny_take (i := 1) (v := ?_) rfl (by kernel_rfl) (by kernel_rfl) (by kernel_rfl) (fun _ _ _ h => h) (Or.inl ⟨by rfl, ?_⟩) ?_
    rotate_left
    · intro W
      go_simp
      try with_reducible rfl
    refine wpAny_take (i := 2) (v := ?_) rfl (by kernel_rfl) (by kernel_rfl) (by kernel_rfl) (fun _ _ _ h => h) (Or.inl ⟨by rfl, ?_⟩) ?_
    rotate_left
    · intro W
      go_simp
      try with_reducible rfl
    refine wpAny_take (i := 3) (v := ?_) rfl (by kernel_rfl) (by kernel_rfl) (by kernel_rfl) (fun _ _ _ h => h) (Or.inl ⟨by rfl, ?_⟩) ?_
    rotate_left
    · intro W
      go_simp
      try with_reducible rfl
    refine wpAny_take (i := 5) (v := ?_) rfl (by kernel_rfl) (by kernel_rfl) (by kernel_rfl) (fun _ _ _ h => h) (Or.inl ⟨by rfl, ?_⟩) ?_
    rotate_left
    · intro W
      go_simp
      try with_reducible rfl
    refine wpAny_take (i := 6) (v := ?_) rfl (by kernel_rfl) (by kernel_rfl) (by kernel_rfl) (fun _ _ _ h => h) (Or.inl ⟨by rfl, ?_⟩) ?_
    rotate_left
    · intro W
      go_simp
      try with_reducible rfl
    refine wpAny_take (i := 7) (v := ?_) rfl (by kernel_rfl) (by kernel_rfl) (by kernel_rfl) (fun _ _ _ h => h) (Or.inl ⟨by rfl, ?_⟩) ?_
    rotate_left
    · intro W
      go_simp
      try with_reducible rfl
    refine wpAny_take (i := 11) (v := ?_) rfl (by kernel_rfl) (by kernel_rfl) (by kernel_rfl) (fun _ _ _ h => h) (Or.inl ⟨by rfl, ?_⟩) ?_
    rotate_left
    · intro W
      go_simp
      try with_reducible rfl
    refine wpAny_take (i := 12) (v := ?_) rfl (by kernel_rfl) (by kernel_rfl) (by kernel_rfl) (fun _ _ _ h => h) (Or.inl ⟨by rfl, ?_⟩) ?_
    rotate_left
    · intro W
      go_simp
      try with_reducible rfl
    refine wpAny_take (i := 13) (v := ?_) rfl (by kernel_rfl) (by kernel_rfl) (by kernel_rfl) (fun _ _ _ h => h) (Or.inl ⟨by rfl, ?_⟩) ?_
    rotate_left
    · intro W
      go_simp
      try with_reducible rfl
    refine wpAny_ready (rs := [0, 8]) (by kernel_rfl) (by simp) ?_
    refine PM.ready1 rfl ?_ ?_
    · go_wp2_with fail
      obtain ⟨g27, hg27⟩ : ∃ g, g = wd.heap.size := ⟨_, rfl⟩
      obtain ⟨W26, hW26⟩ : ∃ x, x = wd.alloc (.cells #[] 43) := ⟨_, rfl⟩
      have hal29 : Below wd.heap.size wd W26 := by rw [hW26]; exact (Below.refl _ _).alloc (Nat.le_refl _) _
      have hO28 : PM.OM PM.attL 4 43 w8.heap.size W26 (.slice (some ⟨g27, 0, none⟩) 0 0) [] := by rw [hW26, hg27]; exact PM.OM.made wd #[] 0 (by decide) rfl hBd.size
      have hB30 := PM.chain hBd hal29
      rw [← hW26, ← hg27]
      clear hW26 hg27
      refine ⟨rfl, ?_⟩
      refine wpAny_ready (rs := [4, 8]) (by kernel_rfl) (by simp) ?_
      refine PM.ready1 rfl ?_ ?_
      · have hs38 := hT8.keep hB30
        have hz39 := hB30.size
        have hn40 : (([] : List PM.At).length + (es.take A : List PM.At).length) * 48 ≤ 140737488355328 ∧ ([] : List PM.At).length + (es.take A : List PM.At).length ≤ maxLen := by
          unfold maxLen
          simp
          omega
        refine PM.wpList_em (e := PM.attL) attTy PM.attL_len PM.attL_one w8.heap.size rfl _ _ rfl (.slice (some ⟨g27, 0, none⟩) 0 0) _ ([]) (es.take A) rfl rfl hO28 hs38 hn40.1 hn40.2 hz39 ?_
        intro v31 W32 q33 q34 q35 q36
        go_wp2_with fail
        have hB37 := hB30.trans q34
        refine ⟨rfl, ?_⟩
        refine wpAny_ready (rs := [8]) (by kernel_rfl) (by simp) ?_
        refine PM.ready1 rfl ?_ ?_
        · have d0 := PM.cellA hB37 e0.out
          have d1 := PM.cellA hB37 e1.out
          have d2 := PM.cellA hB37 e2.out
          have d3 := PM.cellA hB37 e3.out
          go_wp2_with fail
          clear d0 d1 d2 d3
          refine ⟨rfl, ?_⟩
          refine wpAny_ready (rs := [9]) (by kernel_rfl) (by simp) ?_
          refine PM.ready1 rfl ?_ ?_
          · go_wp2_with fail
            obtain ⟨g42, hg42⟩ : ∃ g, g = W32.heap.size := ⟨_, rfl⟩
            obtain ⟨W41, hW41⟩ : ∃ x, x = W32.alloc (.cells #[.string z.name, .int .i64 z.k, .int .i64 z.n, .string z.s] 43) := ⟨_, rfl⟩
            have hal44 : Below W32.heap.size W32 W41 := by rw [hW41]; exact (Below.refl _ _).alloc (Nat.le_refl _) _
            have hL43 : PM.EM PM.attL 4 W41 (.slice (some ⟨g42, 0, none⟩) 1 1) [z] := by rw [hW41, hg42]; exact PM.EM.lit PM.attL_len W32 43 z
            have hlt46 : g42 < W41.heap.size := by rw [hW41, hg42]; simp
            have hB45 := PM.chain hB37 hal44
            have hap48 : ∀ k, (v31 : Value).ownBlock = some k → k ≠ g42 := by intro k hk; have := (q33.lt k hk).2; omega
            have hO47 := q33.keep hal44
            rw [← hW41, ← hg42]
            clear hW41 hg42
            refine ⟨rfl, ?_⟩
            refine wpAny_ready (rs := [10]) (by kernel_rfl) (by simp) ?_
            refine PM.ready1 rfl ?_ ?_
            · have hs56 := hL43
              have hz57 := hB45.size
              have hn58 : (([] ++ es.take A : List PM.At).length + ([z] : List PM.At).length) * 48 ≤ 140737488355328 ∧ ([] ++ es.take A : List PM.At).length + ([z] : List PM.At).length ≤ maxLen := by
                unfold maxLen
                simp
                omega
              refine PM.wpList_em (e := PM.attL) attTy PM.attL_len PM.attL_one w8.heap.size rfl _ _ rfl (v31) _ ([] ++ es.take A) ([z]) rfl rfl hO47 hs56 hn58.1 hn58.2 hz57 ?_
              intro v49 W50 q51 q52 q53 q54
              go_wp2_with fail
              have hB55 := hB45.trans q52
              refine ⟨rfl, ?_⟩
              refine wpAny_ready (rs := [14]) (by kernel_rfl) (by simp) ?_
              refine PM.ready1 rfl ?_ ?_
              · have hs66 := hS8.keep hB55
                have hz67 := hB55.size
                have hn68 : (([] ++ es.take A ++ [z] : List PM.At).length + (es.drop A : List PM.At).length) * 48 ≤ 140737488355328 ∧ ([] ++ es.take A ++ [z] : List PM.At).length + (es.drop A : List PM.At).length ≤ maxLen := by
                  unfold maxLen
                  simp
                  omega
                refine PM.wpList_em (e := PM.attL) attTy PM.attL_len PM.attL_one w8.heap.size rfl _ _ rfl (v49) _ ([] ++ es.take A ++ [z]) (es.drop A) rfl rfl q51 hs66 hn68.1 hn68.2 hz67 ?_
                intro v59 W60 q61 q62 q63 q64
                go_wp2_with fail
                have hB65 := hB55.trans q62
                refine ⟨rfl, ?_⟩
                refine wpAny_ready (rs := [15]) (by kernel_rfl) (by simp) ?_
                refine PM.ready1 rfl ?_ ?_
                · go_wp2_with fail
                  refine ⟨rfl, ?_⟩
                  refine wpAny_done (by kernel_rfl) ?_ _
                  go_wp2_with fail
                  go_meet
                  exact ⟨(by simpa using q61), hB65⟩
                exact AllReady.nil
              exact AllReady.nil
            exact AllReady.nil
          exact AllReady.nil
        exact AllReady.nil
      refine PM.ready1 rfl ?_ ?_
      · have d0 := PM.cellA hB30 e0.out
        have d1 := PM.cellA hB30 e1.out
        have d2 := PM.cellA hB30 e2.out
        have d3 := PM.cellA hB30 e3.out
        go_wp2_with fail
        clear d0 d1 d2 d3
        refine ⟨rfl, ?_⟩
        refine wpAny_ready (rs := [4, 9]) (by kernel_rfl) (by simp) ?_
        refine PM.ready1 rfl ?_ ?_
        · have hs76 := hT8.keep hB30
          have hz77 := hB30.size
          have hn78 : (([] : List PM.At).length + (es.take A : List PM.At).length) * 48 ≤ 140737488355328 ∧ ([] : List PM.At).length + (es.take A : List PM.At).length ≤ maxLen := by
            unfold maxLen
            simp
            omega
          refine PM.wpList_em (e := PM.attL) attTy PM.attL_len PM.attL_one w8.heap.size rfl _ _ rfl (.slice (some ⟨g27, 0, none⟩) 0 0) _ ([]) (es.take A) rfl rfl hO28 hs76 hn78.1 hn78.2 hz77 ?_
          intro v69 W70 q71 q72 q73 q74
          go_wp2_with fail
          have hB75 := hB30.trans q72
          refine ⟨rfl, ?_⟩
          refine wpAny_ready (rs := [9]) (by kernel_rfl) (by simp) ?_
          refine PM.ready1 rfl ?_ ?_
          · go_wp2_with fail
            obtain ⟨g80, hg80⟩ : ∃ g, g = W70.heap.size := ⟨_, rfl⟩
            obtain ⟨W79, hW79⟩ : ∃ x, x = W70.alloc (.cells #[.string z.name, .int .i64 z.k, .int .i64 z.n, .string z.s] 43) := ⟨_, rfl⟩
            have hal82 : Below W70.heap.size W70 W79 := by rw [hW79]; exact (Below.refl _ _).alloc (Nat.le_refl _) _
            have hL81 : PM.EM PM.attL 4 W79 (.slice (some ⟨g80, 0, none⟩) 1 1) [z] := by rw [hW79, hg80]; exact PM.EM.lit PM.attL_len W70 43 z
            have hlt84 : g80 < W79.heap.size := by rw [hW79, hg80]; simp
            have hB83 := PM.chain hB75 hal82
            have hap86 : ∀ k, (v69 : Value).ownBlock = some k → k ≠ g80 := by intro k hk; have := (q71.lt k hk).2; omega
            have hO85 := q71.keep hal82
            rw [← hW79, ← hg80]
            clear hW79 hg80
            refine ⟨rfl, ?_⟩
            refine wpAny_ready (rs := [10]) (by kernel_rfl) (by simp) ?_
            refine PM.ready1 rfl ?_ ?_
            · have hs94 := hL81
              have hz95 := hB83.size
              have hn96 : (([] ++ es.take A : List PM.At).length + ([z] : List PM.At).length) * 48 ≤ 140737488355328 ∧ ([] ++ es.take A : List PM.At).length + ([z] : List PM.At).length ≤ maxLen := by
                unfold maxLen
                simp
                omega
              refine PM.wpList_em (e := PM.attL) attTy PM.attL_len PM.attL_one w8.heap.size rfl _ _ rfl (v69) _ ([] ++ es.take A) ([z]) rfl rfl hO85 hs94 hn96.1 hn96.2 hz95 ?_
              intro v87 W88 q89 q90 q91 q92
              go_wp2_with fail
              have hB93 := hB83.trans q90
              refine ⟨rfl, ?_⟩
              refine wpAny_ready (rs := [14]) (by kernel_rfl) (by simp) ?_
              refine PM.ready1 rfl ?_ ?_
              · have hs104 := hS8.keep hB93
                have hz105 := hB93.size
                have hn106 : (([] ++ es.take A ++ [z] : List PM.At).length + (es.drop A : List PM.At).length) * 48 ≤ 140737488355328 ∧ ([] ++ es.take A ++ [z] : List PM.At).length + (es.drop A : List PM.At).length ≤ maxLen := by
                  unfold maxLen
                  simp
                  omega
                refine PM.wpList_em (e := PM.attL) attTy PM.attL_len PM.attL_one w8.heap.size rfl _ _ rfl (v87) _ ([] ++ es.take A ++ [z]) (es.drop A) rfl rfl q89 hs104 hn106.1 hn106.2 hz105 ?_
                intro v97 W98 q99 q100 q101 q102
                go_wp2_with fail
                have hB103 := hB93.trans q100
                refine ⟨rfl, ?_⟩
                refine wpAny_ready (rs := [15]) (by kernel_rfl) (by simp) ?_
                refine PM.ready1 rfl ?_ ?_
                · go_wp2_with fail
                  refine ⟨rfl, ?_⟩
                  refine wpAny_done (by kernel_rfl) ?_ _
                  go_wp2_with fail
                  go_meet
                  exact ⟨(by simpa using q99), hB103⟩
                exact AllReady.nil
              exact AllReady.nil
            exact AllReady.nil
          exact AllReady.nil
        refine PM.ready1 rfl ?_ ?_
        · go_wp2_with fail
          obtain ⟨g108, hg108⟩ : ∃ g, g = W26.heap.size := ⟨_, rfl⟩
          obtain ⟨W107, hW107⟩ : ∃ x, x = W26.alloc (.cells #[.string z.name, .int .i64 z.k, .int .i64 z.n, .string z.s] 43) := ⟨_, rfl⟩
          have hal110 : Below W26.heap.size W26 W107 := by rw [hW107]; exact (Below.refl _ _).alloc (Nat.le_refl _) _
          have hL109 : PM.EM PM.attL 4 W107 (.slice (some ⟨g108, 0, none⟩) 1 1) [z] := by rw [hW107, hg108]; exact PM.EM.lit PM.attL_len W26 43 z
          have hlt112 : g108 < W107.heap.size := by rw [hW107, hg108]; simp
          have hB111 := PM.chain hB30 hal110
          have hap114 : ∀ k, (.slice (some ⟨g27, 0, none⟩) 0 0 : Value).ownBlock = some k → k ≠ g108 := by intro k hk; have := (hO28.lt k hk).2; omega
          have hO113 := hO28.keep hal110
          rw [← hW107, ← hg108]
          clear hW107 hg108
          refine ⟨rfl, ?_⟩
          refine wpAny_ready (rs := [4]) (by kernel_rfl) (by simp) ?_
          refine PM.ready1 rfl ?_ ?_
          · have hs122 := hT8.keep hB111
            have hz123 := hB111.size
            have hn124 : (([] : List PM.At).length + (es.take A : List PM.At).length) * 48 ≤ 140737488355328 ∧ ([] : List PM.At).length + (es.take A : List PM.At).length ≤ maxLen := by
              unfold maxLen
              simp
              omega
            refine PM.wpList_em (e := PM.attL) attTy PM.attL_len PM.attL_one w8.heap.size rfl _ _ rfl (.slice (some ⟨g27, 0, none⟩) 0 0) _ ([]) (es.take A) rfl rfl hO113 hs122 hn124.1 hn124.2 hz123 ?_
            intro v115 W116 q117 q118 q119 q120
            go_wp2_with fail
            have hB121 := hB111.trans q118
            have hL125 := hL109.kept q119 (by intro k hk he; simp [Value.ownBlock] at hk; exact hap114 k he hk.symm)
            have hap126 : ∀ k, (v115 : Value).ownBlock = some k → k ≠ g108 := by
              intro k hk
              rcases q120 with h | h
              · exact hap114 k (h ▸ hk)
              · have := h k hk; omega
            have hlt127 : g108 < W116.heap.size := Nat.lt_of_lt_of_le hlt112 q119.size
            refine ⟨rfl, ?_⟩
            refine wpAny_ready (rs := [10]) (by kernel_rfl) (by simp) ?_
            refine PM.ready1 rfl ?_ ?_
            · have hs135 := hL125
              have hz136 := hB121.size
              have hn137 : (([] ++ es.take A : List PM.At).length + ([z] : List PM.At).length) * 48 ≤ 140737488355328 ∧ ([] ++ es.take A : List PM.At).length + ([z] : List PM.At).length ≤ maxLen := by
                unfold maxLen
                simp
                omega
              refine PM.wpList_em (e := PM.attL) attTy PM.attL_len PM.attL_one w8.heap.size rfl _ _ rfl (v115) _ ([] ++ es.take A) ([z]) rfl rfl q117 hs135 hn137.1 hn137.2 hz136 ?_
              intro v128 W129 q130 q131 q132 q133
              go_wp2_with fail
              have hB134 := hB121.trans q131
              refine ⟨rfl, ?_⟩
              refine wpAny_ready (rs := [14]) (by kernel_rfl) (by simp) ?_
              refine PM.ready1 rfl ?_ ?_
              · have hs145 := hS8.keep hB134
                have hz146 := hB134.size
                have hn147 : (([] ++ es.take A ++ [z] : List PM.At).length + (es.drop A : List PM.At).length) * 48 ≤ 140737488355328 ∧ ([] ++ es.take A ++ [z] : List PM.At).length + (es.drop A : List PM.At).length ≤ maxLen := by
                  unfold maxLen
                  simp
                  omega
                refine PM.wpList_em (e := PM.attL) attTy PM.attL_len PM.attL_one w8.heap.size rfl _ _ rfl (v128) _ ([] ++ es.take A ++ [z]) (es.drop A) rfl rfl q130 hs145 hn147.1 hn147.2 hz146 ?_
                intro v138 W139 q140 q141 q142 q143
                go_wp2_with fail
                have hB144 := hB134.trans q141
                refine ⟨rfl, ?_⟩
                refine wpAny_ready (rs := [15]) (by kernel_rfl) (by simp) ?_
                refine PM.ready1 rfl ?_ ?_
                · go_wp2_with fail
                  refine ⟨rfl, ?_⟩
                  refine wpAny_done (by kernel_rfl) ?_ _
                  go_wp2_with fail
                  go_meet
                  exact ⟨(by simpa using q140), hB144⟩
                exact AllReady.nil
              exact AllReady.nil
            exact AllReady.nil
          exact AllReady.nil
        exact AllReady.nil
      exact AllReady.nil
    refine PM.ready1 rfl ?_ ?_
    · have d0 := PM.cellA hBd e0.out
      have d1 := PM.cellA hBd e1.out
      have d2 := PM.cellA hBd e2.out
      have d3 := PM.cellA hBd e3.out
      go_wp2_with fail
      clear d0 d1 d2 d3
      refine ⟨rfl, ?_⟩
      refine wpAny_ready (rs := [0, 9]) (by kernel_rfl) (by simp) ?_
      refine PM.ready1 rfl ?_ ?_
      · go_wp2_with fail
        obtain ⟨g149, hg149⟩ : ∃ g, g = wd.heap.size := ⟨_, rfl⟩
        obtain ⟨W148, hW148⟩ : ∃ x, x = wd.alloc (.cells #[] 43) := ⟨_, rfl⟩
        have hal151 : Below wd.heap.size wd W148 := by rw [hW148]; exact (Below.refl _ _).alloc (Nat.le_refl _) _
        have hO150 : PM.OM PM.attL 4 43 w8.heap.size W148 (.slice (some ⟨g149, 0, none⟩) 0 0) [] := by rw [hW148, hg149]; exact PM.OM.made wd #[] 0 (by decide) rfl hBd.size
        have hB152 := PM.chain hBd hal151
        rw [← hW148, ← hg149]
        clear hW148 hg149
        refine ⟨rfl, ?_⟩
        refine wpAny_ready (rs := [4, 9]) (by kernel_rfl) (by simp) ?_
        refine PM.ready1 rfl ?_ ?_
        · have hs160 := hT8.keep hB152
          have hz161 := hB152.size
          have hn162 : (([] : List PM.At).length + (es.take A : List PM.At).length) * 48 ≤ 140737488355328 ∧ ([] : List PM.At).length + (es.take A : List PM.At).length ≤ maxLen := by
            unfold maxLen
            simp
            omega
          refine PM.wpList_em (e := PM.attL) attTy PM.attL_len PM.attL_one w8.heap.size rfl _ _ rfl (.slice (some ⟨g149, 0, none⟩) 0 0) _ ([]) (es.take A) rfl rfl hO150 hs160 hn162.1 hn162.2 hz161 ?_
          intro v153 W154 q155 q156 q157 q158
          go_wp2_with fail
          have hB159 := hB152.trans q156
          refine ⟨rfl, ?_⟩
          refine wpAny_ready (rs := [9]) (by kernel_rfl) (by simp) ?_
          refine PM.ready1 rfl ?_ ?_
          · go_wp2_with fail
            obtain ⟨g164, hg164⟩ : ∃ g, g = W154.heap.size := ⟨_, rfl⟩
            obtain ⟨W163, hW163⟩ : ∃ x, x = W154.alloc (.cells #[.string z.name, .int .i64 z.k, .int .i64 z.n, .string z.s] 43) := ⟨_, rfl⟩
            have hal166 : Below W154.heap.size W154 W163 := by rw [hW163]; exact (Below.refl _ _).alloc (Nat.le_refl _) _
            have hL165 : PM.EM PM.attL 4 W163 (.slice (some ⟨g164, 0, none⟩) 1 1) [z] := by rw [hW163, hg164]; exact PM.EM.lit PM.attL_len W154 43 z
            have hlt168 : g164 < W163.heap.size := by rw [hW163, hg164]; simp
            have hB167 := PM.chain hB159 hal166
            have hap170 : ∀ k, (v153 : Value).ownBlock = some k → k ≠ g164 := by intro k hk; have := (q155.lt k hk).2; omega
            have hO169 := q155.keep hal166
            rw [← hW163, ← hg164]
            clear hW163 hg164
            refine ⟨rfl, ?_⟩
            refine wpAny_ready (rs := [10]) (by kernel_rfl) (by simp) ?_
            refine PM.ready1 rfl ?_ ?_
            · have hs178 := hL165
              have hz179 := hB167.size
              have hn180 : (([] ++ es.take A : List PM.At).length + ([z] : List PM.At).length) * 48 ≤ 140737488355328 ∧ ([] ++ es.take A : List PM.At).length + ([z] : List PM.At).length ≤ maxLen := by
                unfold maxLen
                simp
                omega
              refine PM.wpList_em (e := PM.attL) attTy PM.attL_len PM.attL_one w8.heap.size rfl _ _ rfl (v153) _ ([] ++ es.take A) ([z]) rfl rfl hO169 hs178 hn180.1 hn180.2 hz179 ?_
              intro v171 W172 q173 q174 q175 q176
              go_wp2_with fail
              have hB177 := hB167.trans q174
              refine ⟨rfl, ?_⟩
              refine wpAny_ready (rs := [14]) (by kernel_rfl) (by simp) ?_
              refine PM.ready1 rfl ?_ ?_
              · have hs188 := hS8.keep hB177
                have hz189 := hB177.size
                have hn190 : (([] ++ es.take A ++ [z] : List PM.At).length + (es.drop A : List PM.At).length) * 48 ≤ 140737488355328 ∧ ([] ++ es.take A ++ [z] : List PM.At).length + (es.drop A : List PM.At).length ≤ maxLen := by
                  unfold maxLen
                  simp
                  omega
                refine PM.wpList_em (e := PM.attL) attTy PM.attL_len PM.attL_one w8.heap.size rfl _ _ rfl (v171) _ ([] ++ es.take A ++ [z]) (es.drop A) rfl rfl q173 hs188 hn190.1 hn190.2 hz189 ?_
                intro v181 W182 q183 q184 q185 q186
                go_wp2_with fail
                have hB187 := hB177.trans q184
                refine ⟨rfl, ?_⟩
                refine wpAny_ready (rs := [15]) (by kernel_rfl) (by simp) ?_
                refine PM.ready1 rfl ?_ ?_
                · go_wp2_with fail
                  refine ⟨rfl, ?_⟩
                  refine wpAny_done (by kernel_rfl) ?_ _
                  go_wp2_with fail
                  go_meet
                  exact ⟨(by simpa using q183), hB187⟩
                exact AllReady.nil
              exact AllReady.nil
            exact AllReady.nil
          exact AllReady.nil
        refine PM.ready1 rfl ?_ ?_
        · go_wp2_with fail
          obtain ⟨g192, hg192⟩ : ∃ g, g = W148.heap.size := ⟨_, rfl⟩
          obtain ⟨W191, hW191⟩ : ∃ x, x = W148.alloc (.cells #[.string z.name, .int .i64 z.k, .int .i64 z.n, .string z.s] 43) := ⟨_, rfl⟩
          have hal194 : Below W148.heap.size W148 W191 := by rw [hW191]; exact (Below.refl _ _).alloc (Nat.le_refl _) _
          have hL193 : PM.EM PM.attL 4 W191 (.slice (some ⟨g192, 0, none⟩) 1 1) [z] := by rw [hW191, hg192]; exact PM.EM.lit PM.attL_len W148 43 z
          have hlt196 : g192 < W191.heap.size := by rw [hW191, hg192]; simp
          have hB195 := PM.chain hB152 hal194
          have hap198 : ∀ k, (.slice (some ⟨g149, 0, none⟩) 0 0 : Value).ownBlock = some k → k ≠ g192 := by intro k hk; have := (hO150.lt k hk).2; omega
          have hO197 := hO150.keep hal194
          rw [← hW191, ← hg192]
          clear hW191 hg192
          refine ⟨rfl, ?_⟩
          refine wpAny_ready (rs := [4]) (by kernel_rfl) (by simp) ?_
          refine PM.ready1 rfl ?_ ?_
          · have hs206 := hT8.keep hB195
            have hz207 := hB195.size
            have hn208 : (([] : List PM.At).length + (es.take A : List PM.At).length) * 48 ≤ 140737488355328 ∧ ([] : List PM.At).length + (es.take A : List PM.At).length ≤ maxLen := by
              unfold maxLen
              simp
              omega
            refine PM.wpList_em (e := PM.attL) attTy PM.attL_len PM.attL_one w8.heap.size rfl _ _ rfl (.slice (some ⟨g149, 0, none⟩) 0 0) _ ([]) (es.take A) rfl rfl hO197 hs206 hn208.1 hn208.2 hz207 ?_
            intro v199 W200 q201 q202 q203 q204
            go_wp2_with fail
            have hB205 := hB195.trans q202
            have hL209 := hL193.kept q203 (by intro k hk he; simp [Value.ownBlock] at hk; exact hap198 k he hk.symm)
            have hap210 : ∀ k, (v199 : Value).ownBlock = some k → k ≠ g192 := by
              intro k hk
              rcases q204 with h | h
              · exact hap198 k (h ▸ hk)
              · have := h k hk; omega
            have hlt211 : g192 < W200.heap.size := Nat.lt_of_lt_of_le hlt196 q203.size
            refine ⟨rfl, ?_⟩
            refine wpAny_ready (rs := [10]) (by kernel_rfl) (by simp) ?_
            refine PM.ready1 rfl ?_ ?_
            · have hs219 := hL209
              have hz220 := hB205.size
              have hn221 : (([] ++ es.take A : List PM.At).length + ([z] : List PM.At).length) * 48 ≤ 140737488355328 ∧ ([] ++ es.take A : List PM.At).length + ([z] : List PM.At).length ≤ maxLen := by
                unfold maxLen
                simp
                omega
              refine PM.wpList_em (e := PM.attL) attTy PM.attL_len PM.attL_one w8.heap.size rfl _ _ rfl (v199) _ ([] ++ es.take A) ([z]) rfl rfl q201 hs219 hn221.1 hn221.2 hz220 ?_
              intro v212 W213 q214 q215 q216 q217
              go_wp2_with fail
              have hB218 := hB205.trans q215
              refine ⟨rfl, ?_⟩
              refine wpAny_ready (rs := [14]) (by kernel_rfl) (by simp) ?_
              refine PM.ready1 rfl ?_ ?_
              · have hs229 := hS8.keep hB218
                have hz230 := hB218.size
                have hn231 : (([] ++ es.take A ++ [z] : List PM.At).length + (es.drop A : List PM.At).length) * 48 ≤ 140737488355328 ∧ ([] ++ es.take A ++ [z] : List PM.At).length + (es.drop A : List PM.At).length ≤ maxLen := by
                  unfold maxLen
                  simp
                  omega
                refine PM.wpList_em (e := PM.attL) attTy PM.attL_len PM.attL_one w8.heap.size rfl _ _ rfl (v212) _ ([] ++ es.take A ++ [z]) (es.drop A) rfl rfl q214 hs229 hn231.1 hn231.2 hz230 ?_
                intro v222 W223 q224 q225 q226 q227
                go_wp2_with fail
                have hB228 := hB218.trans q225
                refine ⟨rfl, ?_⟩
                refine wpAny_ready (rs := [15]) (by kernel_rfl) (by simp) ?_
                refine PM.ready1 rfl ?_ ?_
                · go_wp2_with fail
                  refine ⟨rfl, ?_⟩
                  refine wpAny_done (by kernel_rfl) ?_ _
                  go_wp2_with fail
                  go_meet
                  exact ⟨(by simpa using q224), hB228⟩
                exact AllReady.nil
              exact AllReady.nil
            exact AllReady.nil
          exact AllReady.nil
        exact AllReady.nil
      refine PM.ready1 rfl ?_ ?_
      · go_wp2_with fail
        obtain ⟨g233, hg233⟩ : ∃ g, g = wd.heap.size := ⟨_, rfl⟩
        obtain ⟨W232, hW232⟩ : ∃ x, x = wd.alloc (.cells #[.string z.name, .int .i64 z.k, .int .i64 z.n, .string z.s] 43) := ⟨_, rfl⟩
        have hal235 : Below wd.heap.size wd W232 := by rw [hW232]; exact (Below.refl _ _).alloc (Nat.le_refl _) _
        have hL234 : PM.EM PM.attL 4 W232 (.slice (some ⟨g233, 0, none⟩) 1 1) [z] := by rw [hW232, hg233]; exact PM.EM.lit PM.attL_len wd 43 z
        have hlt237 : g233 < W232.heap.size := by rw [hW232, hg233]; simp
        have hB236 := PM.chain hBd hal235
        rw [← hW232, ← hg233]
        clear hW232 hg233
        refine ⟨rfl, ?_⟩
        refine wpAny_ready (rs := [0]) (by kernel_rfl) (by simp) ?_
        refine PM.ready1 rfl ?_ ?_
        · go_wp2_with fail
          obtain ⟨g239, hg239⟩ : ∃ g, g = W232.heap.size := ⟨_, rfl⟩
          obtain ⟨W238, hW238⟩ : ∃ x, x = W232.alloc (.cells #[] 43) := ⟨_, rfl⟩
          have hal241 : Below W232.heap.size W232 W238 := by rw [hW238]; exact (Below.refl _ _).alloc (Nat.le_refl _) _
          have hO240 : PM.OM PM.attL 4 43 w8.heap.size W238 (.slice (some ⟨g239, 0, none⟩) 0 0) [] := by rw [hW238, hg239]; exact PM.OM.made W232 #[] 0 (by decide) rfl hB236.size
          have hB242 := PM.chain hB236 hal241
          have hL243 := hL234.keep hal241
          have hap244 : ∀ k, (.slice (some ⟨g239, 0, none⟩) 0 0 : Value).ownBlock = some k → k ≠ g233 := by intro k hk; simp [Value.ownBlock] at hk; omega
          have hlt245 : g233 < W238.heap.size := Nat.lt_of_lt_of_le hlt237 hal241.size
          rw [← hW238, ← hg239]
          clear hW238 hg239
          refine ⟨rfl, ?_⟩
          refine wpAny_ready (rs := [4]) (by kernel_rfl) (by simp) ?_
          refine PM.ready1 rfl ?_ ?_
          · have hs253 := hT8.keep hB242
            have hz254 := hB242.size
            have hn255 : (([] : List PM.At).length + (es.take A : List PM.At).length) * 48 ≤ 140737488355328 ∧ ([] : List PM.At).length + (es.take A : List PM.At).length ≤ maxLen := by
              unfold maxLen
              simp
              omega
            refine PM.wpList_em (e := PM.attL) attTy PM.attL_len PM.attL_one w8.heap.size rfl _ _ rfl (.slice (some ⟨g239, 0, none⟩) 0 0) _ ([]) (es.take A) rfl rfl hO240 hs253 hn255.1 hn255.2 hz254 ?_
            intro v246 W247 q248 q249 q250 q251
            go_wp2_with fail
            have hB252 := hB242.trans q249
            have hL256 := hL243.kept q250 (by intro k hk he; simp [Value.ownBlock] at hk; exact hap244 k he hk.symm)
            have hap257 : ∀ k, (v246 : Value).ownBlock = some k → k ≠ g233 := by
              intro k hk
              rcases q251 with h | h
              · exact hap244 k (h ▸ hk)
              · have := h k hk; omega
            have hlt258 : g233 < W247.heap.size := Nat.lt_of_lt_of_le hlt245 q250.size
            refine ⟨rfl, ?_⟩
            refine wpAny_ready (rs := [10]) (by kernel_rfl) (by simp) ?_
            refine PM.ready1 rfl ?_ ?_
            · have hs266 := hL256
              have hz267 := hB252.size
              have hn268 : (([] ++ es.take A : List PM.At).length + ([z] : List PM.At).length) * 48 ≤ 140737488355328 ∧ ([] ++ es.take A : List PM.At).length + ([z] : List PM.At).length ≤ maxLen := by
                unfold maxLen
                simp
                omega
              refine PM.wpList_em (e := PM.attL) attTy PM.attL_len PM.attL_one w8.heap.size rfl _ _ rfl (v246) _ ([] ++ es.take A) ([z]) rfl rfl q248 hs266 hn268.1 hn268.2 hz267 ?_
              intro v259 W260 q261 q262 q263 q264
              go_wp2_with fail
              have hB265 := hB252.trans q262
              refine ⟨rfl, ?_⟩
              refine wpAny_ready (rs := [14]) (by kernel_rfl) (by simp) ?_
              refine PM.ready1 rfl ?_ ?_
              · have hs276 := hS8.keep hB265
                have hz277 := hB265.size
                have hn278 : (([] ++ es.take A ++ [z] : List PM.At).length + (es.drop A : List PM.At).length) * 48 ≤ 140737488355328 ∧ ([] ++ es.take A ++ [z] : List PM.At).length + (es.drop A : List PM.At).length ≤ maxLen := by
                  unfold maxLen
                  simp
                  omega
                refine PM.wpList_em (e := PM.attL) attTy PM.attL_len PM.attL_one w8.heap.size rfl _ _ rfl (v259) _ ([] ++ es.take A ++ [z]) (es.drop A) rfl rfl q261 hs276 hn278.1 hn278.2 hz277 ?_
                intro v269 W270 q271 q272 q273 q274
                go_wp2_with fail
                have hB275 := hB265.trans q272
                refine ⟨rfl, ?_⟩
                refine wpAny_ready (rs := [15]) (by kernel_rfl) (by simp) ?_
                refine PM.ready1 rfl ?_ ?_
                · go_wp2_with fail
                  refine ⟨rfl, ?_⟩
                  refine wpAny_done (by kernel_rfl) ?_ _
                  go_wp2_with fail
                  go_meet
                  exact ⟨(by simpa using q271), hB275⟩
                exact AllReady.nil
              exact AllReady.nil
            exact AllReady.nil
          exact AllReady.nil
        exact AllReady.nil
      exact AllReady.nil
    exact AllReady.nil
  case rest =>
  obtain ⟨hO9, hB9⟩ := hcut
  have hE9 := (hO9.em PM.attL_len).ev
  have hl9 := hl8.out.keep hB9
  have hBc := PM.hid (PM.chain hBh8.out hB9)
  clear hO9 hB9 hT8 hS8 ht hs
  have hy := PM.chk_yes (PM.less_ok hch.out (A := A) (by rw [hlen]; exact hAL) (by rw [hlen]; omega))
  have hn := PM.chk_no (PM.twice_no (A := A) (by rw [hlen]; exact hAL) hz)
  have hyn := PM.hid (And.intro hy hn)
  clear hy hn
  go_wp2_with fail
  refine (echeck_any _ _ wc hl9).mono ?_
  rw [hyn.out.1]
  rintro e wx ⟨rfl, hBx⟩
  have hE10 := hE9.keep hBx
  have hBc2 := PM.hid (PM.chain hBc.out hBx)
  clear hBx hE9 hl9
  go_wp2_with fail
  refine (echeck_any _ _ wx hE10).mono ?_
  rw [hyn.out.2]
  rintro e wy ⟨rfl, hBy⟩
  have hBc3 := PM.hid (PM.chain hBc2.out hBy)
  clear hBy hE10
  go_wp2_with fail
  go_ret
  exact ⟨rfl, hBc3.out⟩
end Go.Proofs.Ytfanfkocmdkllaa
