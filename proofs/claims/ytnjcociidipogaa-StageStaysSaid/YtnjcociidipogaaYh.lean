/-
  CONTRACT of postilionref17.Same. (Written by tools/mk_xh.py.)
-/
import Derived.Test.YtnjcociidipogaaWt
import Derived.Test.YtnjcociidipogaaJO
import Derived.Test.YtnjcociidipogaaYa
namespace Go.Proofs.Ytnjcociidipogaa
open Go.RowKit
set_option linter.unusedVariables false
set_option linter.unusedSimpArgs false
set_option maxRecDepth 100000 in
set_option maxHeartbeats 8000000 in
theorem same17_any (v0 v1 : Value) (l m : List PM.Tx) (w : World) (h0 : PM.TxL w v0 l) (h1 : PM.TxL w v1 m) (hw0 : ∀ x ∈ l, x.en.wf) (hw1 : ∀ x ∈ m, x.en.wf) :
    Calls Try.prog 18 #[v0, v1] w fun e w' => (e = .returned (.bool true) ∧ l = m ∨ e = .returned (.bool false) ∧ ¬ l = m) ∧ Below w.heap.size w w' := by
  have hm0 := h0.bound
  have hm1 := h1.bound
  unfold maxLen at hm0 hm1
  obtain ⟨a0, c0, rfl⟩ := h0.len
  obtain ⟨a1, c1, rfl⟩ := h1.len
  obtain ⟨N, hN⟩ : ∃ N, N = l.length := ⟨_, rfl⟩
  obtain ⟨M, hM⟩ : ∃ N, N = m.length := ⟨_, rfl⟩
  have hNh := PM.hid hN
  have hMh := PM.hid hM
  rw [← hN] at h0 hm0 ⊢
  rw [← hM] at h1 hm1 ⊢
  have hv0 := PM.hid h0
  have hv1 := PM.hid h1
  have hwf := PM.hid (And.intro hw0 hw1)
  clear hN hM h0 h1 hw0 hw1
  go_enter Try.func18, Try.ntmps18
  by_cases hNM : N = M
  case neg =>
    have q : ((N : Int) != (M : Int)) = true := by simp; omega
    go_wp2_with fail
    go_ret
    exact ⟨.inr ⟨rfl, fun h => hNM (by rw [hNh.out, hMh.out, h])⟩, Below.refl _ _⟩
  subst hNM
  go_wp2_with fail
  go_loopw [5, 6] (fun i _ wr => ∃ k : Nat, i = .int .i64 k ∧ k ≤ N ∧ Hid (l.take k = m.take k ∧ Below w.heap.size w wr)) (fun i _ _ => N - (intOf i).toNat)
  case atStart => exact ⟨0, rfl, by omega, PM.hid ⟨rfl, Below.refl _ _⟩⟩
  case round =>
    obtain ⟨k, rfl, hk, hin⟩ := hrel
    by_cases hlt : k < N
    · obtain ⟨xxt, hxx⟩ : ∃ z, l[k]? = some z := ⟨l[k]'(by rw [← hNh.out]; exact hlt), List.getElem?_eq_getElem _⟩
      obtain ⟨b0, b0o, rfl, hce⟩ := PM.RR.opn hv0.out (by rw [← hNh.out]; omega)
      obtain ⟨cs, hl0, hR⟩ := hce k xxt hxx
      obtain ⟨pa, pc, pe, pd, hcs, xx1, xx2⟩ := PM.txR_open hR
      rw [hcs] at hl0
      obtain ⟨xx, aq⟩ := xxt
      simp only at xx1 xx2
      have xxl := PM.hid hl0
      have xxr := PM.hid (And.intro xx1 xx2)
      have xxh := PM.hid hxx
      obtain ⟨xxF, hxxF⟩ : ∃ P, P = xx.fil.length := ⟨_, rfl⟩
      obtain ⟨xxE, hxxE⟩ : ∃ P, P = xx.evs.length := ⟨_, rfl⟩
      simp only [← hxxF, ← hxxE] at xxr xxl
      clear hce hl0 hR hcs cs xx1 xx2 hxx hxxF hxxE
      obtain ⟨yyt, hyy⟩ : ∃ z, m[k]? = some z := ⟨m[k]'(by rw [← hMh.out]; exact hlt), List.getElem?_eq_getElem _⟩
      obtain ⟨b1, b1o, rfl, hce⟩ := PM.RR.opn hv1.out (by rw [← hMh.out]; omega)
      obtain ⟨cs, hl0, hR⟩ := hce k yyt hyy
      obtain ⟨qa, qc, qe, qd, hcs, yy1, yy2⟩ := PM.txR_open hR
      rw [hcs] at hl0
      obtain ⟨yy, bq⟩ := yyt
      simp only at yy1 yy2
      have yyl := PM.hid hl0
      have yyr := PM.hid (And.intro yy1 yy2)
      have yyh := PM.hid hyy
      obtain ⟨yyF, hyyF⟩ : ∃ P, P = yy.fil.length := ⟨_, rfl⟩
      obtain ⟨yyE, hyyE⟩ : ∃ P, P = yy.evs.length := ⟨_, rfl⟩
      simp only [← hyyF, ← hyyE] at yyr yyl
      clear hce hl0 hR hcs cs yy1 yy2 hyy hyyF hyyE
      have hxy : Hid (xx.wf ∧ yy.wf) := PM.hid ⟨hwf.out.1 _ (List.mem_of_getElem? xxh.out), hwf.out.2 _ (List.mem_of_getElem? yyh.out)⟩
      obtain ⟨c, hc⟩ : ∃ c : Bool, (c = true ↔ xx = yy) := by
        by_cases h : xx = yy
        · exact ⟨true, by simp [h]⟩
        · exact ⟨false, by simp [h]⟩
      replace hc := PM.hid hc
      go_upto_region 6 with fail
      refine PM.wp_region_st [some 18, some 19, some 20, some 21, some 22, some 23, some 24, some 25, some 26, some 27, some 28, some 6] [fun x _ => x = .slice (some ⟨b0, b0o, none⟩) N c0, fun x _ => x = .int .i64 (k : Int), fun x _ => x = .pointer (some ⟨b0, b0o + k * 9, none⟩), fun x _ => x = .pointer (some ⟨b0, b0o + k * 9, none⟩), fun x _ => x = .agg #[.int .i64 xx.kind, .int .i64 xx.id.br, .int .u64 (xx.id.life : Int), .int .u64 (xx.id.ser : Int), .int .i64 xx.client, .int .u64 (xx.sub : Int), .slice pa xxF pc, .slice pe xxE pd], fun x _ => x = .slice (some ⟨b1, b1o, none⟩) N c1, fun x _ => x = .int .i64 (k : Int), fun x _ => x = .pointer (some ⟨b1, b1o + k * 9, none⟩), fun x _ => x = .pointer (some ⟨b1, b1o + k * 9, none⟩), fun x _ => x = .agg #[.int .i64 yy.kind, .int .i64 yy.id.br, .int .u64 (yy.id.life : Int), .int .u64 (yy.id.ser : Int), .int .i64 yy.client, .int .u64 (yy.sub : Int), .slice qa yyF qc, .slice qe yyE qd], fun x _ => x = .bool c, fun x _ => x = .bool c] (by kernel_rfl) (by kernel_rfl) (by kernel_rfl) ?_ ?_ ?_
      · simp only [List.forall_mem_cons]
        refine ⟨?_, ?_, ?_, ?_, ?_, ?_, ?_, ?_, ?_, ?_, ?_, ?_, by simp⟩
        all_goals (intro x W W' h hb; first | exact h | exact PM.BS.keep hb h | exact PM.OW.keep hb h)
      · refine ⟨?_, ?_, ?_, ?_, ?_, ?_, ?_, ?_, ?_, ?_, ?_, ?_, trivial⟩
        all_goals
          intro a W hB hF hd
          have k0 := hF 0 rfl
          have k1 := hF 1 rfl
          have k5 := hF 5 rfl
          have hBW := PM.chain hin.out.2 hB
          have d0 : W.cell? ⟨b0, b0o + k * 9, none⟩ = some (.int .i64 xx.kind) := PM.cellA hBW (xxl.out 0 _ rfl)
          have d1 : W.cell? ⟨b0, b0o + k * 9 + 1, none⟩ = some (.int .i64 xx.id.br) := PM.cellA hBW (xxl.out 1 _ rfl)
          have d2 : W.cell? ⟨b0, b0o + k * 9 + 2, none⟩ = some (.int .u64 (xx.id.life : Int)) := PM.cellA hBW (xxl.out 2 _ rfl)
          have d3 : W.cell? ⟨b0, b0o + k * 9 + 3, none⟩ = some (.int .u64 (xx.id.ser : Int)) := PM.cellA hBW (xxl.out 3 _ rfl)
          have d4 : W.cell? ⟨b0, b0o + k * 9 + 4, none⟩ = some (.int .i64 xx.client) := PM.cellA hBW (xxl.out 4 _ rfl)
          have d5 : W.cell? ⟨b0, b0o + k * 9 + 5, none⟩ = some (.int .u64 (xx.sub : Int)) := PM.cellA hBW (xxl.out 5 _ rfl)
          have d6 : W.cell? ⟨b0, b0o + k * 9 + 6, none⟩ = some (.slice pa xxF pc) := PM.cellA hBW (xxl.out 6 _ rfl)
          have d7 : W.cell? ⟨b0, b0o + k * 9 + 7, none⟩ = some (.slice pe xxE pd) := PM.cellA hBW (xxl.out 7 _ rfl)
          have d8 : W.cell? ⟨b0, b0o + k * 9 + 8, none⟩ = some (.bool aq) := PM.cellA hBW (xxl.out 8 _ rfl)
          have f0 : W.cell? ⟨b1, b1o + k * 9, none⟩ = some (.int .i64 yy.kind) := PM.cellA hBW (yyl.out 0 _ rfl)
          have f1 : W.cell? ⟨b1, b1o + k * 9 + 1, none⟩ = some (.int .i64 yy.id.br) := PM.cellA hBW (yyl.out 1 _ rfl)
          have f2 : W.cell? ⟨b1, b1o + k * 9 + 2, none⟩ = some (.int .u64 (yy.id.life : Int)) := PM.cellA hBW (yyl.out 2 _ rfl)
          have f3 : W.cell? ⟨b1, b1o + k * 9 + 3, none⟩ = some (.int .u64 (yy.id.ser : Int)) := PM.cellA hBW (yyl.out 3 _ rfl)
          have f4 : W.cell? ⟨b1, b1o + k * 9 + 4, none⟩ = some (.int .i64 yy.client) := PM.cellA hBW (yyl.out 4 _ rfl)
          have f5 : W.cell? ⟨b1, b1o + k * 9 + 5, none⟩ = some (.int .u64 (yy.sub : Int)) := PM.cellA hBW (yyl.out 5 _ rfl)
          have f6 : W.cell? ⟨b1, b1o + k * 9 + 6, none⟩ = some (.slice qa yyF qc) := PM.cellA hBW (yyl.out 6 _ rfl)
          have f7 : W.cell? ⟨b1, b1o + k * 9 + 7, none⟩ = some (.slice qe yyE qd) := PM.cellA hBW (yyl.out 7 _ rfl)
          have f8 : W.cell? ⟨b1, b1o + k * 9 + 8, none⟩ = some (.bool bq) := PM.cellA hBW (yyl.out 8 _ rfl)
          clear hF
          simp [PM.depsL, PM.spec, PM.sl, Region.binds] at hd k0 k1 k5
          simp only [PM.wantL, PM.spec]
          try simp only [PM.sl]
          go_simp
        all_goals try exact Below.refl _ _
        · have hsm := same11_any xx yy _ _ _ _ W hxy.out.1 hxy.out.2 (xxr.out.1.keep hBW) (PM.EVL.keepO hBW xxr.out.2) (yyr.out.1.keep hBW) (PM.EVL.keepO hBW yyr.out.2)
          refine hsm.mono ?_
          rintro e w' ⟨h, hb⟩
          rcases h with ⟨rfl, h⟩ | ⟨rfl, h⟩
          · have hct : c = true := hc.out.2 h
            subst hct
            first | exact ⟨hb, rfl⟩ | exact ⟨hb, _, rfl, rfl⟩
          · have hcf : c = false := by
              cases hcc : c
              · rfl
              · exact absurd (hc.out.1 hcc) h
            subst hcf
            first | exact ⟨hb, rfl⟩ | exact ⟨hb, _, rfl, rfl⟩
      · intro G W hB hF hS
        simp [PM.allSp, PM.spec] at hS
        have h6 : G 6 = .bool c := by simp [hS]
        have k0 := hF 0 rfl
        have k1 := hF 1 rfl
        have k2 := hF 2 rfl
        have k3 := hF 3 rfl
        have k4 := hF 4 rfl
        have k5 := hF 5 rfl
        have k7 := hF 7 rfl
        have k8 := hF 8 rfl
        have k9 := hF 9 rfl
        have k10 := hF 10 rfl
        have k11 := hF 11 rfl
        have k12 := hF 12 rfl
        have k13 := hF 13 rfl
        have k14 := hF 14 rfl
        have k15 := hF 15 rfl
        have k16 := hF 16 rfl
        have k17 := hF 17 rfl
        have k29 := hF 29 rfl
        have k30 := hF 30 rfl
        have k31 := hF 31 rfl
        have k32 := hF 32 rfl
        have k33 := hF 33 rfl
        have k34 := hF 34 rfl
        have k35 := hF 35 rfl
        have k36 := hF 36 rfl
        have k37 := hF 37 rfl
        have k38 := hF 38 rfl
        have k39 := hF 39 rfl
        have k40 := hF 40 rfl
        have k41 := hF 41 rfl
        have k42 := hF 42 rfl
        have k43 := hF 43 rfl
        simp [PM.sl] at k0 k1 k2 k3 k4 k5 k7 k8 k9 k10 k11 k12 k13 k14 k15 k16 k17 k29 k30 k31 k32 k33 k34 k35 k36 k37 k38 k39 k40 k41 k42 k43
        rw [show ((List.range (Array.size _)).map G).toArray = #[G 0, G 1, G 2, G 3, G 4, G 5, G 6, G 7, G 8, G 9, G 10, G 11, G 12, G 13, G 14, G 15, G 16, G 17, G 18, G 19, G 20, G 21, G 22, G 23, G 24, G 25, G 26, G 27, G 28, G 29, G 30, G 31, G 32, G 33, G 34, G 35, G 36, G 37, G 38, G 39, G 40, G 41, G 42, G 43] from rfl]
        clear hF hS
        rw [h6, k0, k1, k2, k3, k4, k5, k7, k8, k9, k10, k11, k12, k13, k14, k15, k16, k17, k29, k30, k31, k32, k33, k34, k35, k36, k37, k38, k39, k40, k41, k42, k43]
        clear h6 k0 k1 k2 k3 k4 k5 k7 k8 k9 k10 k11 k12 k13 k14 k15 k16 k17 k29 k30 k31 k32 k33 k34 k35 k36 k37 k38 k39 k40 k41 k42 k43
        have hin2 := PM.hid (PM.chain hin.out.2 hB)
        clear hB
        go_upto_region 7 with fail
        refine PM.wp_region_st [some 29, some 30, some 31, some 32, some 33, some 34, some 35, some 36, some 37, some 38, some 39, some 40, some 41, some 42, some 43] [fun x _ => x = .bool c, fun x _ => x = .bool (!c), fun x _ => x = .bool (!c), fun x _ => c = true → x = .slice (some ⟨b0, b0o, none⟩) N c0, fun x _ => c = true → x = .int .i64 (k : Int), fun x _ => c = true → x = .pointer (some ⟨b0, b0o + k * 9, none⟩), fun x _ => c = true → x = .pointer (some ⟨b0, b0o + k * 9 + 8, none⟩), fun x _ => c = true → x = .bool aq, fun x _ => c = true → x = .slice (some ⟨b1, b1o, none⟩) N c1, fun x _ => c = true → x = .int .i64 (k : Int), fun x _ => c = true → x = .pointer (some ⟨b1, b1o + k * 9, none⟩), fun x _ => c = true → x = .pointer (some ⟨b1, b1o + k * 9 + 8, none⟩), fun x _ => c = true → x = .bool bq, fun x _ => c = true → x = .bool (aq != bq), fun x _ => x = .bool (!c || (aq != bq))] (by kernel_rfl) (by kernel_rfl) (by kernel_rfl) ?_ ?_ ?_
        · simp only [List.forall_mem_cons]
          refine ⟨?_, ?_, ?_, ?_, ?_, ?_, ?_, ?_, ?_, ?_, ?_, ?_, ?_, ?_, ?_, by simp⟩
          all_goals (intro x W W' h hb; first | exact h | exact PM.BS.keep hb h | exact PM.OW.keep hb h)
        · refine ⟨?_, ?_, ?_, ?_, ?_, ?_, ?_, ?_, ?_, ?_, ?_, ?_, ?_, ?_, ?_, trivial⟩
          all_goals
            intro a W hB hF hd
            have k0 := hF 0 rfl
            have k1 := hF 1 rfl
            have k5 := hF 5 rfl
            have k6 := hF 6 rfl
            have hBW := PM.chain hin2.out hB
            have d8 : W.cell? ⟨b0, b0o + k * 9 + 8, none⟩ = some (.bool aq) := PM.cellA hBW (xxl.out 8 _ rfl)
            have f8 : W.cell? ⟨b1, b1o + k * 9 + 8, none⟩ = some (.bool bq) := PM.cellA hBW (yyl.out 8 _ rfl)
            cases c
          all_goals
            clear hF
            simp [PM.depsL, PM.spec, PM.sl, Region.binds] at hd k0 k1 k5 k6
            simp only [PM.wantL, PM.spec]
            try simp only [PM.sl]
            go_simp
          all_goals try exact Below.refl _ _
          all_goals try (intro h; simp [undef] at h; done)
          · exact ⟨Below.refl _ _, rfl⟩
        · intro G W hB hF hS
          have h43 : G 43 = .bool (!c || (aq != bq)) := by simp [PM.allSp, PM.spec] at hS; simp [hS]
          have k0 := hF 0 rfl
          have k1 := hF 1 rfl
          have k2 := hF 2 rfl
          have k3 := hF 3 rfl
          have k4 := hF 4 rfl
          have k5 := hF 5 rfl
          have k6 := hF 6 rfl
          have k7 := hF 7 rfl
          have k8 := hF 8 rfl
          have k9 := hF 9 rfl
          have k10 := hF 10 rfl
          have k11 := hF 11 rfl
          have k12 := hF 12 rfl
          have k13 := hF 13 rfl
          have k14 := hF 14 rfl
          have k15 := hF 15 rfl
          have k16 := hF 16 rfl
          have k17 := hF 17 rfl
          have k18 := hF 18 rfl
          have k19 := hF 19 rfl
          have k20 := hF 20 rfl
          have k21 := hF 21 rfl
          have k22 := hF 22 rfl
          have k23 := hF 23 rfl
          have k24 := hF 24 rfl
          have k25 := hF 25 rfl
          have k26 := hF 26 rfl
          have k27 := hF 27 rfl
          have k28 := hF 28 rfl
          simp [PM.sl] at k0 k1 k2 k3 k4 k5 k6 k7 k8 k9 k10 k11 k12 k13 k14 k15 k16 k17 k18 k19 k20 k21 k22 k23 k24 k25 k26 k27 k28
          rw [show ((List.range (Array.size _)).map G).toArray = #[G 0, G 1, G 2, G 3, G 4, G 5, G 6, G 7, G 8, G 9, G 10, G 11, G 12, G 13, G 14, G 15, G 16, G 17, G 18, G 19, G 20, G 21, G 22, G 23, G 24, G 25, G 26, G 27, G 28, G 29, G 30, G 31, G 32, G 33, G 34, G 35, G 36, G 37, G 38, G 39, G 40, G 41, G 42, G 43] from rfl]
          clear hF hS
          rw [h43, k0, k1, k2, k3, k4, k5, k6, k7, k8, k9, k10, k11, k12, k13, k14, k15, k16, k17, k18, k19, k20, k21, k22, k23, k24, k25, k26, k27, k28]
          clear h43 k0 k1 k2 k3 k4 k5 k6 k7 k8 k9 k10 k11 k12 k13 k14 k15 k16 k17 k18 k19 k20 k21 k22 k23 k24 k25 k26 k27 k28
          have hBh := PM.hid (PM.chain hin2.out hB)
          clear hB
          obtain ⟨d, hd⟩ : ∃ d, d = (!c || (aq != bq)) := ⟨_, rfl⟩
          rw [← hd]
          replace hd := PM.hid hd
          cases d
          · have hxy2 : xx = yy ∧ aq = bq := by
              have := hd.out
              have h1 : c = true := by cases hcc : c <;> simp [hcc] at this; rfl
              rw [h1] at this
              refine ⟨hc.out.1 h1, ?_⟩
              cases aq <;> cases bq <;> simp at this <;> rfl
            replace hxy2 := PM.hid hxy2
            go_wp2_with fail
            exact ⟨⟨k + 1, by go_num, by omega, PM.hid ⟨by rw [PM.take_at xxh.out, PM.take_at yyh.out, hin.out.1, hxy2.out.1, hxy2.out.2], hBh.out⟩⟩, by simp only [intOf]; omega⟩
          · have hne : Hid (¬ l = m) := PM.hid (fun h => by
              have h1 := xxh.out
              rw [h, yyh.out] at h1
              injection h1 with h1
              injection h1 with h1 h2
              have := hd.out
              rw [hc.out.2 h1.symm, h2] at this
              simp at this)
            go_wp2_with fail
            go_ret
            exact ⟨.inr ⟨by simp, hne.out⟩, hBh.out⟩
    · obtain rfl : k = N := by omega
      have hlm : Hid (l = m) := PM.hid (by
        have h9 := hin.out.1
        rw [show l.take k = l from by rw [hNh.out]; exact List.take_length, show m.take k = m from by rw [hMh.out]; exact List.take_length] at h9
        exact h9)
      go_wp2_with fail
      go_ret
      exact ⟨.inl ⟨rfl, hlm.out⟩, hin.out.2⟩
end Go.Proofs.Ytnjcociidipogaa
