/-
  CONTRACT of postilionref13.SameEntries.
-/
import Derived.Test.YtjninckmgkaliaaWt
import Derived.Test.YtjninckmgkaliaaJO
namespace Go.Proofs.Ytjninckmgkaliaa
open Go.RowKit
set_option linter.unusedVariables false
set_option linter.unusedSimpArgs false
set_option maxRecDepth 100000 in
set_option maxHeartbeats 8000000 in
theorem sameEns_any (v0 v1 : Value) (l m : List PM.En) (w : World) (h0 : PM.EnL w v0 l) (h1 : PM.EnL w v1 m) (hw0 : ∀ x ∈ l, x.wf) (hw1 : ∀ x ∈ m, x.wf) :
    Calls Try.prog 13 #[v0, v1] w fun e w' => (e = .returned (.bool true) ∧ l = m ∨ e = .returned (.bool false) ∧ ¬ l = m) ∧ Below w.heap.size w w' := by
  have hm0 := h0.bound
  have hm1 := h1.bound
  unfold maxLen at hm0 hm1
  obtain ⟨a0, c0, rfl⟩ := h0.len
  obtain ⟨a1, c1, rfl⟩ := h1.len
  obtain ⟨N, hN⟩ : ∃ N, N = l.length := ⟨_, rfl⟩
  obtain ⟨M, hM⟩ : ∃ N, N = m.length := ⟨_, rfl⟩
  have hNh := PM.hid hN
  have hMh := PM.hid hM
  rw [← hN] at h0 hm0 ⊢
  rw [← hM] at h1 hm1 ⊢
  have hv0 := PM.hid h0
  have hv1 := PM.hid h1
  have hwf := PM.hid (And.intro hw0 hw1)
  clear hN hM h0 h1 hw0 hw1
  go_enter Try.func13, Try.ntmps13
  by_cases hNM : N = M
  case neg =>
    have q : ((N : Int) != (M : Int)) = true := by simp; omega
    go_wp2_with fail
    go_ret
    exact ⟨.inr ⟨rfl, fun h => hNM (by rw [hNh.out, hMh.out, h])⟩, Below.refl _ _⟩
  subst hNM
  go_wp2_with fail
  go_loopw [5, 6] (fun i _ wr => ∃ k : Nat, i = .int .i64 k ∧ k ≤ N ∧ Hid (l.take k = m.take k ∧ Below w.heap.size w wr)) (fun i _ _ => N - (intOf i).toNat)
  case atStart => exact ⟨0, rfl, by omega, PM.hid ⟨rfl, Below.refl _ _⟩⟩
  case round =>
    obtain ⟨k, rfl, hk, hin⟩ := hrel
    by_cases hlt : k < N
    · obtain ⟨xx, hxx⟩ : ∃ z, l[k]? = some z := ⟨l[k]'(by rw [← hNh.out]; exact hlt), List.getElem?_eq_getElem _⟩
      obtain ⟨b0, b0o, rfl, hce⟩ := PM.RR.opn hv0.out (by rw [← hNh.out]; omega)
      obtain ⟨cs, hl0, hR⟩ := hce k xx hxx
      obtain ⟨pa, pc, pe, pd, hcs, xx1, xx2⟩ := PM.enR_open hR
      rw [hcs] at hl0
      have xxl := PM.hid hl0
      have xxr := PM.hid (And.intro xx1 xx2)
      have xxh := PM.hid hxx
      obtain ⟨xxF, hxxF⟩ : ∃ P, P = xx.fil.length := ⟨_, rfl⟩
      obtain ⟨xxE, hxxE⟩ : ∃ P, P = xx.evs.length := ⟨_, rfl⟩
      rw [← hxxF, ← hxxE] at xxr xxl
      clear hce hl0 hR hcs cs xx1 xx2 hxx hxxF hxxE
      obtain ⟨yy, hyy⟩ : ∃ z, m[k]? = some z := ⟨m[k]'(by rw [← hMh.out]; exact hlt), List.getElem?_eq_getElem _⟩
      obtain ⟨b1, b1o, rfl, hce⟩ := PM.RR.opn hv1.out (by rw [← hMh.out]; omega)
      obtain ⟨cs, hl0, hR⟩ := hce k yy hyy
      obtain ⟨qa, qc, qe, qd, hcs, yy1, yy2⟩ := PM.enR_open hR
      rw [hcs] at hl0
      have yyl := PM.hid hl0
      have yyr := PM.hid (And.intro yy1 yy2)
      have yyh := PM.hid hyy
      obtain ⟨yyF, hyyF⟩ : ∃ P, P = yy.fil.length := ⟨_, rfl⟩
      obtain ⟨yyE, hyyE⟩ : ∃ P, P = yy.evs.length := ⟨_, rfl⟩
      rw [← hyyF, ← hyyE] at yyr yyl
      clear hce hl0 hR hcs cs yy1 yy2 hyy hyyF hyyE
      have hxy : Hid (xx.wf ∧ yy.wf) := PM.hid ⟨hwf.out.1 xx (List.mem_of_getElem? xxh.out), hwf.out.2 yy (List.mem_of_getElem? yyh.out)⟩
      obtain ⟨c, hc⟩ : ∃ c : Bool, (c = true ↔ xx = yy) := by
        by_cases h : xx = yy
        · exact ⟨true, by simp [h]⟩
        · exact ⟨false, by simp [h]⟩
      replace hc := PM.hid hc
      go_upto_region 6 with fail
      refine PM.wp_region_st [some 18, some 19, some 20, some 21, some 22, some 23, some 24, some 25, some 26, some 6] [fun x _ => x = .slice (some ⟨b0, b0o, none⟩) N c0, fun x _ => x = .int .i64 (k : Int), fun x _ => x = .pointer (some ⟨b0, b0o + k * 8, none⟩), fun x _ => x = .agg #[.int .i64 xx.kind, .int .i64 xx.id.br, .int .u64 (xx.id.life : Int), .int .u64 (xx.id.ser : Int), .int .i64 xx.client, .int .u64 (xx.sub : Int), .slice pa xxF pc, .slice pe xxE pd], fun x _ => x = .slice (some ⟨b1, b1o, none⟩) N c1, fun x _ => x = .int .i64 (k : Int), fun x _ => x = .pointer (some ⟨b1, b1o + k * 8, none⟩), fun x _ => x = .agg #[.int .i64 yy.kind, .int .i64 yy.id.br, .int .u64 (yy.id.life : Int), .int .u64 (yy.id.ser : Int), .int .i64 yy.client, .int .u64 (yy.sub : Int), .slice qa yyF qc, .slice qe yyE qd], fun x _ => x = .bool c, fun x _ => x = .bool c] (by kernel_rfl) (by kernel_rfl) (by kernel_rfl) ?_ ?_ ?_
      · simp only [List.forall_mem_cons]
        refine ⟨?_, ?_, ?_, ?_, ?_, ?_, ?_, ?_, ?_, ?_, by simp⟩
        all_goals (intro x W W' h hb; first | exact h | exact PM.BS.keep hb h | exact PM.OW.keep hb h)
      · refine ⟨?_, ?_, ?_, ?_, ?_, ?_, ?_, ?_, ?_, ?_, trivial⟩
        all_goals
          intro a W hB hF hd
          have k0 := hF 0 rfl
          have k1 := hF 1 rfl
          have k5 := hF 5 rfl
          have hBW := PM.chain hin.out.2 hB
          have d0 : W.cell? ⟨b0, b0o + k * 8, none⟩ = some (.int .i64 xx.kind) := PM.cellA hBW (xxl.out 0 _ rfl)
          have d1 : W.cell? ⟨b0, b0o + k * 8 + 1, none⟩ = some (.int .i64 xx.id.br) := PM.cellA hBW (xxl.out 1 _ rfl)
          have d2 : W.cell? ⟨b0, b0o + k * 8 + 2, none⟩ = some (.int .u64 (xx.id.life : Int)) := PM.cellA hBW (xxl.out 2 _ rfl)
          have d3 : W.cell? ⟨b0, b0o + k * 8 + 3, none⟩ = some (.int .u64 (xx.id.ser : Int)) := PM.cellA hBW (xxl.out 3 _ rfl)
          have d4 : W.cell? ⟨b0, b0o + k * 8 + 4, none⟩ = some (.int .i64 xx.client) := PM.cellA hBW (xxl.out 4 _ rfl)
          have d5 : W.cell? ⟨b0, b0o + k * 8 + 5, none⟩ = some (.int .u64 (xx.sub : Int)) := PM.cellA hBW (xxl.out 5 _ rfl)
          have d6 : W.cell? ⟨b0, b0o + k * 8 + 6, none⟩ = some (.slice pa xxF pc) := PM.cellA hBW (xxl.out 6 _ rfl)
          have d7 : W.cell? ⟨b0, b0o + k * 8 + 7, none⟩ = some (.slice pe xxE pd) := PM.cellA hBW (xxl.out 7 _ rfl)
          have f0 : W.cell? ⟨b1, b1o + k * 8, none⟩ = some (.int .i64 yy.kind) := PM.cellA hBW (yyl.out 0 _ rfl)
          have f1 : W.cell? ⟨b1, b1o + k * 8 + 1, none⟩ = some (.int .i64 yy.id.br) := PM.cellA hBW (yyl.out 1 _ rfl)
          have f2 : W.cell? ⟨b1, b1o + k * 8 + 2, none⟩ = some (.int .u64 (yy.id.life : Int)) := PM.cellA hBW (yyl.out 2 _ rfl)
          have f3 : W.cell? ⟨b1, b1o + k * 8 + 3, none⟩ = some (.int .u64 (yy.id.ser : Int)) := PM.cellA hBW (yyl.out 3 _ rfl)
          have f4 : W.cell? ⟨b1, b1o + k * 8 + 4, none⟩ = some (.int .i64 yy.client) := PM.cellA hBW (yyl.out 4 _ rfl)
          have f5 : W.cell? ⟨b1, b1o + k * 8 + 5, none⟩ = some (.int .u64 (yy.sub : Int)) := PM.cellA hBW (yyl.out 5 _ rfl)
          have f6 : W.cell? ⟨b1, b1o + k * 8 + 6, none⟩ = some (.slice qa yyF qc) := PM.cellA hBW (yyl.out 6 _ rfl)
          have f7 : W.cell? ⟨b1, b1o + k * 8 + 7, none⟩ = some (.slice qe yyE qd) := PM.cellA hBW (yyl.out 7 _ rfl)
          clear hF
          simp [PM.depsL, PM.spec, PM.sl, Region.binds] at hd k0 k1 k5
          simp only [PM.wantL, PM.spec]
          try simp only [PM.sl]
          go_simp
        all_goals try exact Below.refl _ _
        · have hsm := same11_any xx yy _ _ _ _ W hxy.out.1 hxy.out.2 (xxr.out.1.keep hBW) (xxr.out.2.keep hBW) (yyr.out.1.keep hBW) (yyr.out.2.keep hBW)
          refine hsm.mono ?_
          rintro e w' ⟨h, hb⟩
          rcases h with ⟨rfl, h⟩ | ⟨rfl, h⟩
          · have hct : c = true := hc.out.2 h
            subst hct
            first | exact ⟨hb, rfl⟩ | exact ⟨hb, _, rfl, rfl⟩
          · have hcf : c = false := by
              cases hcc : c
              · rfl
              · exact absurd (hc.out.1 hcc) h
            subst hcf
            first | exact ⟨hb, rfl⟩ | exact ⟨hb, _, rfl, rfl⟩
      · intro G W hB hF hS
        simp [PM.allSp, PM.spec] at hS
        have h6 : G 6 = .bool c := by simp [hS]
        have k0 := hF 0 rfl
        have k1 := hF 1 rfl
        have k2 := hF 2 rfl
        have k3 := hF 3 rfl
        have k4 := hF 4 rfl
        have k5 := hF 5 rfl
        have k7 := hF 7 rfl
        have k8 := hF 8 rfl
        have k9 := hF 9 rfl
        have k10 := hF 10 rfl
        have k11 := hF 11 rfl
        have k12 := hF 12 rfl
        have k13 := hF 13 rfl
        have k14 := hF 14 rfl
        have k15 := hF 15 rfl
        have k16 := hF 16 rfl
        have k17 := hF 17 rfl
        have k27 := hF 27 rfl
        have k28 := hF 28 rfl
        simp [PM.sl] at k0 k1 k2 k3 k4 k5 k7 k8 k9 k10 k11 k12 k13 k14 k15 k16 k17 k27 k28
        rw [show ((List.range (Array.size _)).map G).toArray = #[G 0, G 1, G 2, G 3, G 4, G 5, G 6, G 7, G 8, G 9, G 10, G 11, G 12, G 13, G 14, G 15, G 16, G 17, G 18, G 19, G 20, G 21, G 22, G 23, G 24, G 25, G 26, G 27, G 28] from rfl]
        clear hF hS
        rw [h6, k0, k1, k2, k3, k4, k5, k7, k8, k9, k10, k11, k12, k13, k14, k15, k16, k17, k27, k28]
        clear h6 k0 k1 k2 k3 k4 k5 k7 k8 k9 k10 k11 k12 k13 k14 k15 k16 k17 k27 k28
        have hBh := PM.hid (PM.chain hin.out.2 hB)
        clear hB
        cases c
        · have hne : Hid (¬ l = m) := PM.hid (fun h => by
            have h1 := xxh.out
            rw [h, yyh.out] at h1
            injection h1 with h1
            exact Bool.noConfusion (hc.out.2 h1.symm))
          go_wp2_with fail
          go_ret
          exact ⟨.inr ⟨by simp, hne.out⟩, hBh.out⟩
        · have hxy2 := hc.out.1 rfl
          go_wp2_with fail
          exact ⟨⟨k + 1, by go_num, by omega, PM.hid ⟨by rw [PM.take_at xxh.out, PM.take_at yyh.out, hin.out.1, hxy2], hBh.out⟩⟩, by simp only [intOf]; omega⟩
    · obtain rfl : k = N := by omega
      have hlm : Hid (l = m) := PM.hid (by
        have h9 := hin.out.1
        rw [show l.take k = l from by rw [hNh.out]; exact List.take_length, show m.take k = m from by rw [hMh.out]; exact List.take_length] at h9
        exact h9)
      go_wp2_with fail
      go_ret
      exact ⟨.inl ⟨rfl, hlm.out⟩, hin.out.2⟩
end Go.Proofs.Ytjninckmgkaliaa
