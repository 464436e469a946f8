/-
  postilionlaw15.grown, events.
-/
import Derived.Test.YtnpbfjkfbobgaaaGreatBh
import Derived.Test.YtnpbfjkfbobgaaaGreatWd
namespace Go.Proofs.YtnpbfjkfbobgaaaGreat
open Go.RowKit
set_option linter.unusedVariables false
set_option linter.unusedSimpArgs false
set_option maxRecDepth 100000 in
set_option maxHeartbeats 2000000 in
theorem few11x_any (x : PM.En) (fv ev : Value) (w : World) (hf : PM.TV w fv x.fil) (he : PM.EVL w ev x.evs) :
    Calls Tryz.prog 5 #[.agg (PM.enC x fv ev).toArray] w fun e w' => (e = .returned (.bool true) ∧ PM.FewEn x ∨ e = .returned (.bool false) ∧ ¬ PM.FewEn x) ∧ Below w.heap.size w w' := by
  obtain ⟨ea, ec, hee⟩ := he.len
  subst hee
  obtain ⟨fa, fc, hfe⟩ := hf.len
  subst hfe
  have hbe := he.bound
  unfold maxLen at hbe
  obtain ⟨Q, hQ⟩ : ∃ Q : Prop, Q = PM.FewEn x := ⟨_, rfl⟩
  rw [← hQ]
  have hQh := PM.hid hQ
  clear hQ
  obtain ⟨kd, ⟨ib, il, is⟩, cl, sub, fil, evs⟩ := x
  unfold PM.enC
  simp only at hf he hbe ⊢
  obtain ⟨L, hL⟩ : ∃ F, F = evs.length := ⟨_, rfl⟩
  obtain ⟨F, hF⟩ : ∃ F, F = fil.length := ⟨_, rfl⟩
  rw [← hL] at he hbe ⊢
  rw [← hF] at hf ⊢
  have hLh := PM.hid hL
  clear hL hF
  obtain ⟨g, hg⟩ : ∃ g, g = w.heap.size := ⟨_, rfl⟩
  obtain ⟨w1, hw1⟩ : ∃ W, W = w.alloc (.cells #[.int .i64 kd, .int .i64 ib, .int .u64 (il : Int), .int .u64 (is : Int), .int .i64 cl, .int .u64 (sub : Int), .slice fa F fc, .slice ea L ec] 31) := ⟨_, rfl⟩
  have hal : Below w.heap.size w w1 := by rw [hw1]; exact (Below.refl _ _).alloc (Nat.le_refl _) _
  have kg : PM.BK w1 g #[.int .i64 kd, .int .i64 ib, .int .u64 (il : Int), .int .u64 (is : Int), .int .i64 cl, .int .u64 (sub : Int), .slice fa F fc, .slice ea L ec] 31 := by rw [hw1, hg]; exact PM.BK.new _ _ _
  replace hf := PM.hid (hf.keep hal)
  replace he := PM.hid (he.keep hal)
  have hB := PM.hid hal
  clear hal
  have c6 : w1.cell? ⟨g, 6, none⟩ = some (.slice fa F fc) := kg.cell 6
  have c7 : w1.cell? ⟨g, 7, none⟩ = some (.slice ea L ec) := kg.cell 7
  by_cases hbig : 10 < L
  · have hb : (10 : Int) < (L : Int) := by omega
    go_enter Tryz.func5, Tryz.ntmps5
    go_upto_region 1 with fail
    rw [← hw1, ← hg]
    clear hw1 hg kg
    go_wp2_with fail
    go_ret
    exact ⟨.inr ⟨rfl, by rw [hQh.out]; exact fun h => by have h1 := h.1; simp only at h1; rw [← hLh.out] at h1; omega⟩, hB.out⟩
  have hb : ¬ (10 : Int) < (L : Int) := by omega
  go_enter Tryz.func5, Tryz.ntmps5
  go_upto_region 1 with fail
  rw [← hw1, ← hg]
  clear hw1 hg kg
  go_wp2_with fail
  go_loopw [3] (fun i wr => ∃ k : Nat, i = .int .i64 k ∧ k ≤ L ∧ wr = w1 ∧ ∀ j e, j < k → evs[j]? = some e → PM.Few e) (fun i _ => L - (intOf i).toNat)
  case atStart => exact ⟨0, rfl, by omega, rfl, fun j e hj => absurd hj (by omega)⟩
  case round =>
    obtain ⟨k, rfl, hk, rfl, hall⟩ := hrel
    replace hall := PM.hid hall
    by_cases hlt : k < L
    · obtain ⟨x, hx⟩ : ∃ x, evs[k]? = some x := ⟨evs[k]'(by rw [← hLh.out]; exact hlt), List.getElem?_eq_getElem _⟩
      obtain ⟨b, off, rfl, hce⟩ := PM.RR.opn he.out (by rw [← hLh.out]; omega)
      obtain ⟨cs, hl0, xv, hcs, hxv⟩ := hce k x hx
      have c0 := hl0 0 xv (by rw [hcs]; rfl)
      rw [Nat.mul_one, Nat.add_zero] at c0
      have hfw := few_any xv x wr hxv
      have hxh := PM.hid hx
      clear hx hce hl0 hcs hxv cs
      go_wp2_with fail
      refine hfw.mono ?_
      clear hfw c0
      rintro e W5 ⟨hF, rfl⟩
      rcases hF with ⟨rfl, hF⟩ | ⟨rfl, hF⟩
      · replace hF := PM.hid hF
        go_wp2_with fail
        refine ⟨⟨k + 1, by go_num, by omega, by first | rfl | trivial, fun j e hj hje => ?_⟩, by simp only [intOf]; omega⟩
        by_cases hjk : j < k
        · exact hall.out j e hjk hje
        · obtain rfl : j = k := by omega
          rw [hxh.out] at hje
          cases hje
          exact hF.out
      · replace hF := PM.hid hF
        go_wp2_with fail
        go_ret
        exact ⟨.inr ⟨rfl, by rw [hQh.out]; exact fun h => hF.out (h.2.1 x (List.mem_of_getElem? hxh.out))⟩, hB.out⟩
    · obtain rfl : k = L := by omega
      go_wp2_with fail
      refine (ffew_any _ fil wr hf.out).mono ?_
      rintro e W5 ⟨hF, rfl⟩
      rcases hF with ⟨rfl, hF⟩ | ⟨rfl, hF⟩
      · replace hF := PM.hid hF
        go_wp2_with fail
        go_ret
        refine ⟨.inl ⟨rfl, ?_⟩, hB.out⟩
        rw [hQh.out]
        refine ⟨by simp only; rw [← hLh.out]; omega, fun e he => ?_, hF.out⟩
        obtain ⟨j, hj⟩ := List.mem_iff_getElem?.1 he
        exact hall.out j e (by rw [hLh.out]; exact (List.getElem?_eq_some_iff.1 hj).1) hj
      · replace hF := PM.hid hF
        go_wp2_with fail
        go_ret
        exact ⟨.inr ⟨rfl, by rw [hQh.out]; exact fun h => hF.out h.2.2⟩, hB.out⟩
namespace PM
/-- what an entry is as a subscription -/
def subOf (x : En) : Sb := ⟨x.client, x.sub, x.fil⟩
open Classical in
noncomputable def gr1 (t : List Sb) (x : En) : List Sb := if FewEn x ∧ enOk x then applyL x.kind (subOf x) t else t
/-- the subscriptions behind some entries -/
noncomputable def grL (l : List En) : List Sb := (l.take 30).foldl gr1 []
structure GrOk (n : Nat) (t : List Sb) : Prop where
  rise : Rise t
  len : t.length ≤ n
  fil : ∀ x ∈ t, x.fil.length ≤ 1000
theorem GrOk.sbs {n : Nat} {t : List Sb} (h : GrOk n t) (hn : n ≤ 1000) : sbsS t := ⟨by have := h.len; omega, h.fil⟩
theorem apply_ok {n : Nat} {t : List Sb} {k : Int} {s : Sb} (h : GrOk n t) (hs : s.fil.length ≤ 1000) : GrOk (n + 1) (applyL k s t) := by
  unfold applyL
  split
  · exact ⟨insL_rise h.rise, by have := insL_len s t; have := h.len; omega, fun x hx => (insL_mem hx).elim (fun e => by rw [e]; exact hs) (h.fil x)⟩
  · split
    · exact ⟨List.Pairwise.filter _ h.rise, by have := List.length_filter_le (pS fun cl sb => !sameB s.cl s.sub cl sb) t; have := h.len; omega, fun x hx => h.fil x (List.mem_filter.1 hx).1⟩
    · exact ⟨h.rise, by have := h.len; omega, h.fil⟩
theorem FewEn.fil1000 {x : En} (h : FewEn x) : x.fil.length ≤ 1000 := by have := h.2.2.1; omega
theorem gr1_ok {n : Nat} {t : List Sb} {x : En} (h : GrOk n t) : GrOk (n + 1) (gr1 t x) := by
  unfold gr1
  split
  · rename_i hc
    exact apply_ok h hc.1.fil1000
  · exact ⟨h.rise, by have := h.len; omega, h.fil⟩
theorem gr_okA : ∀ (l : List En) (n : Nat) (t : List Sb), GrOk n t → GrOk (n + l.length) (l.foldl gr1 t)
  | [], n, t, h => h
  | x :: l, n, t, h => by
    have := gr_okA l (n + 1) _ (gr1_ok (x := x) h)
    rw [List.foldl_cons, List.length_cons]
    rw [show n + (l.length + 1) = n + 1 + l.length by omega]
    exact this
theorem gr_ok (l : List En) : GrOk l.length (l.foldl gr1 []) := by
  have := gr_okA l 0 [] ⟨List.Pairwise.nil, by simp, fun x hx => by cases hx⟩
  simpa using this
theorem grL_ok (l : List En) : GrOk 30 (grL l) := by
  have := gr_ok (l.take 30)
  exact ⟨this.rise, Nat.le_trans this.len (by rw [List.length_take]; omega), this.fil⟩
theorem gr_snoc {l : List En} {k : Nat} {x : En} (h : l[k]? = some x) : (l.take (k + 1)).foldl gr1 [] = gr1 ((l.take k).foldl gr1 []) x := by
  rw [take_at h, List.foldl_append]
  rfl
theorem gr_end (l : List En) {k : Nat} (h : k = l.length ∧ k ≤ 30 ∨ k = 30) : (l.take k).foldl gr1 [] = grL l := by
  unfold grL
  rcases h with ⟨rfl, h30⟩ | rfl
  · rw [List.take_length, List.take_of_length_le h30]
  · rfl
end PM
set_option maxRecDepth 100000 in
set_option maxHeartbeats 8000000 in
theorem events15_any (v0 v1 : Value) (l m : List (List PM.At)) (w : World) (h0 : PM.EVL w v0 l) (h1 : PM.EVL w v1 m) :
    Calls Tryz.prog 16 #[v0, v1] w fun e w' => (e = .returned (.bool true) ∧ l = m ∨ e = .returned (.bool false) ∧ ¬ l = m) ∧ Below w.heap.size w w' := by
  have hm0 := h0.bound
  have hm1 := h1.bound
  unfold maxLen at hm0 hm1
  obtain ⟨a0, c0, rfl⟩ := h0.len
  obtain ⟨a1, c1, rfl⟩ := h1.len
  obtain ⟨N, hN⟩ : ∃ N, N = l.length := ⟨_, rfl⟩
  obtain ⟨M, hM⟩ : ∃ N, N = m.length := ⟨_, rfl⟩
  have hNh := PM.hid hN
  have hMh := PM.hid hM
  rw [← hN] at h0 hm0 ⊢
  rw [← hM] at h1 hm1 ⊢
  have hv0 := PM.hid h0
  have hv1 := PM.hid h1
  clear hN hM h0 h1
  go_enter Tryz.func16, Tryz.ntmps16
  by_cases hNM : N = M
  case neg =>
    have q : ((N : Int) != (M : Int)) = true := by simp; omega
    go_wp2_with fail
    go_ret
    exact ⟨.inr ⟨rfl, fun h => hNM (by rw [hNh.out, hMh.out, h])⟩, Below.refl _ _⟩
  subst hNM
  go_wp2_with fail
  go_loopw [5, 6] (fun i _ wr => ∃ k : Nat, i = .int .i64 k ∧ k ≤ N ∧ Hid (l.take k = m.take k ∧ Below w.heap.size w wr)) (fun i _ _ => N - (intOf i).toNat)
  case atStart => exact ⟨0, rfl, by omega, PM.hid ⟨rfl, Below.refl _ _⟩⟩
  case round =>
    obtain ⟨k, rfl, hk, hin⟩ := hrel
    by_cases hlt : k < N
    · obtain ⟨xx, hxx⟩ : ∃ z, l[k]? = some z := ⟨l[k]'(by rw [← hNh.out]; exact hlt), List.getElem?_eq_getElem _⟩
      obtain ⟨b0, b0o, hbe, hce⟩ := PM.RR.opn hv0.out (by rw [← hNh.out]; omega)
      subst hbe
      obtain ⟨cs, hl0, pv, hcs, pR⟩ := hce k xx hxx
      have pR2 := pR
      obtain ⟨pa, pc, hze, -⟩ := pR2
      subst hze
      rw [hcs] at hl0
      obtain ⟨pN, hpN⟩ : ∃ P, P = xx.length := ⟨_, rfl⟩
      rw [← hpN] at hl0 pR
      have pd : w.cell? ⟨b0, b0o + k, none⟩ = some (.slice pa pN pc) := by have := hl0 0 _ rfl; simpa using this
      have pdh := PM.hid pd
      have ph := PM.hid pR
      have xxh := PM.hid hxx
      clear hce hl0 hcs cs pR pd hpN hxx
      obtain ⟨yy, hyy⟩ : ∃ z, m[k]? = some z := ⟨m[k]'(by rw [← hMh.out]; exact hlt), List.getElem?_eq_getElem _⟩
      obtain ⟨b1, b1o, hbe, hce⟩ := PM.RR.opn hv1.out (by rw [← hMh.out]; omega)
      subst hbe
      obtain ⟨cs, hl0, qv, hcs, qR⟩ := hce k yy hyy
      have qR2 := qR
      obtain ⟨qa, qc, hze, -⟩ := qR2
      subst hze
      rw [hcs] at hl0
      obtain ⟨qN, hqN⟩ : ∃ P, P = yy.length := ⟨_, rfl⟩
      rw [← hqN] at hl0 qR
      have qd : w.cell? ⟨b1, b1o + k, none⟩ = some (.slice qa qN qc) := by have := hl0 0 _ rfl; simpa using this
      have qdh := PM.hid qd
      have qh := PM.hid qR
      have yyh := PM.hid hyy
      clear hce hl0 hcs cs qR qd hqN hyy
      obtain ⟨c, hc⟩ : ∃ c : Bool, (c = true ↔ xx = yy) := by
        by_cases h : xx = yy
        · exact ⟨true, by simp [h]⟩
        · exact ⟨false, by simp [h]⟩
      replace hc := PM.hid hc
      go_upto_region 6 with fail
      refine PM.wp_region_st [some 18, some 19, some 20, some 21, some 22, some 23, some 24, some 25, some 26, some 6] [fun x _ => x = .slice (some ⟨b0, b0o, none⟩) N c0, fun x _ => x = .int .i64 (k : Int), fun x _ => x = .pointer (some ⟨b0, b0o + k, none⟩), fun x _ => x = .slice pa pN pc, fun x _ => x = .slice (some ⟨b1, b1o, none⟩) N c1, fun x _ => x = .int .i64 (k : Int), fun x _ => x = .pointer (some ⟨b1, b1o + k, none⟩), fun x _ => x = .slice qa qN qc, fun x _ => x = .bool c, fun x _ => x = .bool c] (by kernel_rfl) (by kernel_rfl) (by kernel_rfl) ?_ ?_ ?_
      · simp only [List.forall_mem_cons]
        refine ⟨?_, ?_, ?_, ?_, ?_, ?_, ?_, ?_, ?_, ?_, by simp⟩
        all_goals (intro x W W' h hb; first | exact h | exact PM.BS.keep hb h | exact PM.OW.keep hb h)
      · refine ⟨?_, ?_, ?_, ?_, ?_, ?_, ?_, ?_, ?_, ?_, trivial⟩
        all_goals
          intro a W hB hF hd
          have k0 := hF 0 rfl
          have k1 := hF 1 rfl
          have k5 := hF 5 rfl
          have hBW := PM.chain hin.out.2 hB
          have d0 : W.cell? ⟨b0, b0o + k, none⟩ = some (.slice pa pN pc) := PM.cellA hBW pdh.out
          have e0 : W.cell? ⟨b1, b1o + k, none⟩ = some (.slice qa qN qc) := PM.cellA hBW qdh.out
          clear hF
          simp [PM.depsL, PM.spec, PM.sl, Region.binds] at hd k0 k1 k5
          simp only [PM.wantL, PM.spec]
          try simp only [PM.sl]
          go_simp
        all_goals try exact Below.refl _ _
        · refine (esame_any _ _ xx yy W (ph.out.keep hBW) (qh.out.keep hBW)).mono ?_
          rintro e w' ⟨h, hb⟩
          rcases h with ⟨rfl, h⟩ | ⟨rfl, h⟩
          · have hct : c = true := hc.out.2 h
            subst hct
            first | exact ⟨hb, rfl⟩ | exact ⟨hb, _, rfl, rfl⟩
          · have hcf : c = false := by
              cases hcc : c
              · rfl
              · exact absurd (hc.out.1 hcc) h
            subst hcf
            first | exact ⟨hb, rfl⟩ | exact ⟨hb, _, rfl, rfl⟩
      · intro G W hB hF hS
        simp [PM.allSp, PM.spec] at hS
        have h6 : G 6 = .bool c := by simp [hS]
        have k0 := hF 0 rfl
        have k1 := hF 1 rfl
        have k2 := hF 2 rfl
        have k3 := hF 3 rfl
        have k4 := hF 4 rfl
        have k5 := hF 5 rfl
        have k7 := hF 7 rfl
        have k8 := hF 8 rfl
        have k9 := hF 9 rfl
        have k10 := hF 10 rfl
        have k11 := hF 11 rfl
        have k12 := hF 12 rfl
        have k13 := hF 13 rfl
        have k14 := hF 14 rfl
        have k15 := hF 15 rfl
        have k16 := hF 16 rfl
        have k17 := hF 17 rfl
        have k27 := hF 27 rfl
        have k28 := hF 28 rfl
        simp [PM.sl] at k0 k1 k2 k3 k4 k5 k7 k8 k9 k10 k11 k12 k13 k14 k15 k16 k17 k27 k28
        rw [show ((List.range (Array.size _)).map G).toArray = #[G 0, G 1, G 2, G 3, G 4, G 5, G 6, G 7, G 8, G 9, G 10, G 11, G 12, G 13, G 14, G 15, G 16, G 17, G 18, G 19, G 20, G 21, G 22, G 23, G 24, G 25, G 26, G 27, G 28] from rfl]
        clear hF hS
        rw [h6, k0, k1, k2, k3, k4, k5, k7, k8, k9, k10, k11, k12, k13, k14, k15, k16, k17, k27, k28]
        clear h6 k0 k1 k2 k3 k4 k5 k7 k8 k9 k10 k11 k12 k13 k14 k15 k16 k17 k27 k28
        have hBh := PM.hid (PM.chain hin.out.2 hB)
        clear hB
        cases c
        · have hne : Hid (¬ l = m) := PM.hid (fun h => by
            have h1 := xxh.out
            rw [h, yyh.out] at h1
            injection h1 with h1
            exact Bool.noConfusion (hc.out.2 h1.symm))
          go_wp2_with fail
          go_ret
          exact ⟨.inr ⟨by simp, hne.out⟩, hBh.out⟩
        · have hxy2 := hc.out.1 rfl
          go_wp2_with fail
          exact ⟨⟨k + 1, by go_num, by omega, PM.hid ⟨by rw [PM.take_at xxh.out, PM.take_at yyh.out, hin.out.1, hxy2], hBh.out⟩⟩, by simp only [intOf]; omega⟩
    · obtain rfl : k = N := by omega
      have hlm : Hid (l = m) := PM.hid (by
        have h9 := hin.out.1
        rw [show l.take k = l from by rw [hNh.out]; exact List.take_length, show m.take k = m from by rw [hMh.out]; exact List.take_length] at h9
        exact h9)
      go_wp2_with fail
      go_ret
      exact ⟨.inl ⟨rfl, hlm.out⟩, hin.out.2⟩
end Go.Proofs.YtnpbfjkfbobgaaaGreat
