/-
  postilionref15.Same on equal lists; plain facts of TableOrders.
-/
import Derived.Test.YtnpbfjkfbobgaaaGreatBn
import Derived.Test.YtnpbfjkfbobgaaaGreatIC
namespace Go.Proofs.YtnpbfjkfbobgaaaGreat
open Go.RowKit
set_option linter.unusedVariables false
set_option linter.unusedSimpArgs false
namespace PM
theorem gr_last {l : List En} {x : En} (hl : l.length ≤ 29) (hf : FewEn x) (ho : enOk x) : grL (l ++ [x]) = applyL x.kind (subOf x) (l.foldl gr1 []) := by
  unfold grL
  rw [List.take_of_length_le (by simp; omega), List.foldl_append]
  show gr1 _ x = _
  unfold gr1
  rw [if_pos ⟨hf, ho⟩]
theorem insL_twice {s : Sb} {t : List Sb} : insL s (insL s t) = insL s t := by
  have := insL_of (s := s) (a := t.filter fun e => bef e s) (m := [s]) (b := t.filter fun e => bef s e) (fun x hx => (List.mem_filter.1 hx).2) (fun x hx => by simp at hx; subst hx; rw [same_iff]; exact ⟨rfl, rfl⟩) (fun x hx => (List.mem_filter.1 hx).2)
  exact this
theorem applyL_twice (k : Int) (s : Sb) (t : List Sb) : applyL k s (applyL k s t) = applyL k s t := by
  unfold applyL
  split
  · exact insL_twice
  · split
    · rw [List.filter_filter]
      simp
    · rfl
/-- those of one client and one number -/
def cntS (s : Sb) (t : List Sb) : Nat := t.countP (sameS s)
theorem cntS_snoc {s z : Sb} {t : List Sb} {k : Nat} (h : t[k]? = some z) : cntS s (t.take (k + 1)) = cntS s (t.take k) + if sameS s z then 1 else 0 := by
  unfold cntS
  rw [take_at h, List.countP_append, List.countP_cons, List.countP_nil, Nat.zero_add]
theorem cnt_ins (s : Sb) (t : List Sb) : cntS s (insL s t) = 1 := by
  unfold cntS insL
  rw [List.countP_append, List.countP_append]
  have h1 : (t.filter fun e => bef e s).countP (sameS s) = 0 := List.countP_eq_zero.2 fun x hx h => by
    have := (List.mem_filter.1 hx).2
    rw [(same_no h).2] at this
    cases this
  have h2 : (t.filter fun e => bef s e).countP (sameS s) = 0 := List.countP_eq_zero.2 fun x hx h => by
    have := (List.mem_filter.1 hx).2
    rw [(same_no h).1] at this
    cases this
  have h3 : [s].countP (sameS s) = 1 := by
    rw [List.countP_cons, List.countP_nil, if_pos (by rw [same_iff]; exact ⟨rfl, rfl⟩)]
  omega
theorem cnt_uns (s : Sb) (t : List Sb) : cntS s (applyL 3 s t) = 0 := by
  unfold cntS applyL
  rw [if_neg (by decide), if_pos rfl]
  refine List.countP_eq_zero.2 fun x hx h => ?_
  have h2 := (List.mem_filter.1 hx).2
  unfold pS at h2
  have h3 : sameB s.cl s.sub x.cl x.sub = true := h
  simp [h3] at h2
theorem cnt_le (s : Sb) (t : List Sb) (k : Nat) : cntS s (t.take k) ≤ k := Nat.le_trans List.countP_le_length (by rw [List.length_take]; omega)
end PM
set_option maxRecDepth 100000 in
set_option maxHeartbeats 8000000 in
theorem same15_refl (v0 v1 : Value) (l : List PM.Sb) (w : World) (h0 : PM.SbL w v0 l) (h1 : PM.SbL w v1 l) :
    Calls Tryz.prog 9 #[v0, v1] w fun e w' => e = .returned (.bool true) ∧ Below w.heap.size w w' := by
  have hm0 := PM.RR.bound h0
  unfold maxLen at hm0
  obtain ⟨a0, c0, rfl⟩ := PM.RR.len h0
  obtain ⟨a1, c1, rfl⟩ := PM.RR.len h1
  obtain ⟨N, hN⟩ : ∃ N, N = l.length := ⟨_, rfl⟩
  have hNh := PM.hid hN
  rw [← hN] at h0 h1 hm0 ⊢
  have hv0 := PM.hid h0
  have hv1 := PM.hid h1
  clear hN h0 h1
  have q : ((N : Int) != (N : Int)) = false := by simp
  go_enter Tryz.func9, Tryz.ntmps9
  go_wp2_with fail
  clear q
  go_loopw [5, 6] (fun i _ wr => ∃ k : Nat, i = .int .i64 k ∧ k ≤ N ∧ Hid (Below w.heap.size w wr)) (fun i _ _ => N - (intOf i).toNat)
  case atStart => exact ⟨0, rfl, by omega, PM.hid (Below.refl _ _)⟩
  case round =>
    obtain ⟨k, rfl, hk, hin⟩ := hrel
    by_cases hlt : k < N
    · obtain ⟨z, hz⟩ : ∃ z, l[k]? = some z := ⟨l[k]'(by rw [← hNh.out]; exact hlt), List.getElem?_eq_getElem _⟩
      obtain ⟨zF, hzF⟩ : ∃ q, q = z.fil.length := ⟨_, rfl⟩
      obtain ⟨b0, b0o, hbe, hce⟩ := PM.RR.opn hv0.out (by rw [← hNh.out]; omega)
      subst hbe
      obtain ⟨cs, hl0, pv, hcs, pR⟩ := hce k z hz
      obtain ⟨pa, pc, hze⟩ := pR.len
      subst hze
      rw [hcs] at hl0
      rw [← hzF] at hl0 pR
      have pl := PM.hid hl0
      have ph := PM.hid pR
      clear hce hl0 hcs cs pR
      obtain ⟨b1, b1o, hbe, hce⟩ := PM.RR.opn hv1.out (by rw [← hNh.out]; omega)
      subst hbe
      obtain ⟨cs, hl0, qv, hcs, qR⟩ := hce k z hz
      obtain ⟨qa, qc, hze⟩ := qR.len
      subst hze
      rw [hcs] at hl0
      rw [← hzF] at hl0 qR
      have ql := PM.hid hl0
      have qh := PM.hid qR
      clear hce hl0 hcs cs qR
      clear hz hzF
      go_upto_region 6 with fail
      refine PM.wp_region_st [some 18, some 19, some 20, some 21, some 22, some 23, some 24, some 25, some 26, some 27, some 28, some 6] [fun vq _ => vq = .slice (some ⟨b0, b0o, none⟩) N c0, fun vq _ => vq = .int .i64 (k : Int), fun vq _ => vq = .pointer (some ⟨b0, b0o + k * 3, none⟩), fun vq _ => vq = .pointer (some ⟨b0, b0o + k * 3 + 2, none⟩), fun vq _ => vq = .slice pa zF pc, fun vq _ => vq = .slice (some ⟨b1, b1o, none⟩) N c1, fun vq _ => vq = .int .i64 (k : Int), fun vq _ => vq = .pointer (some ⟨b1, b1o + k * 3, none⟩), fun vq _ => vq = .pointer (some ⟨b1, b1o + k * 3 + 2, none⟩), fun vq _ => vq = .slice qa zF qc, fun vq _ => vq = .bool true, fun vq _ => vq = .bool true] (by kernel_rfl) (by kernel_rfl) (by kernel_rfl) ?_ ?_ ?_
      · simp only [List.forall_mem_cons]
        refine ⟨?_, ?_, ?_, ?_, ?_, ?_, ?_, ?_, ?_, ?_, ?_, ?_, by simp⟩
        all_goals (intro vq W W' h hb; first | exact h | exact PM.BS.keep hb h | exact PM.OW.keep hb h)
      · refine ⟨?_, ?_, ?_, ?_, ?_, ?_, ?_, ?_, ?_, ?_, ?_, ?_, trivial⟩
        all_goals
          intro a W hB hF hd
          have k0 := hF 0 rfl
          have k1 := hF 1 rfl
          have k5 := hF 5 rfl
          have hBW := PM.chain hin.out hB
          have d0 : W.cell? ⟨b0, b0o + k * 3, none⟩ = some (.int .i64 z.cl) := PM.cellA hBW (pl.out 0 _ rfl)
          have d1 : W.cell? ⟨b0, b0o + k * 3 + 1, none⟩ = some (.int .u64 (z.sub : Int)) := PM.cellA hBW (pl.out 1 _ rfl)
          have d2 : W.cell? ⟨b0, b0o + k * 3 + 2, none⟩ = some (.slice pa zF pc) := PM.cellA hBW (pl.out 2 _ rfl)
          have e0 : W.cell? ⟨b1, b1o + k * 3, none⟩ = some (.int .i64 z.cl) := PM.cellA hBW (ql.out 0 _ rfl)
          have e1 : W.cell? ⟨b1, b1o + k * 3 + 1, none⟩ = some (.int .u64 (z.sub : Int)) := PM.cellA hBW (ql.out 1 _ rfl)
          have e2 : W.cell? ⟨b1, b1o + k * 3 + 2, none⟩ = some (.slice qa zF qc) := PM.cellA hBW (ql.out 2 _ rfl)
          clear hF
          simp [PM.depsL, PM.spec, PM.sl, Region.binds] at hd k0 k1 k5
          simp only [PM.wantL, PM.spec]
          try simp only [PM.sl]
          go_simp
        all_goals try exact Below.refl _ _
        · refine (fsame_any _ _ z.fil z.fil W (ph.out.keep hBW) (qh.out.keep hBW)).mono ?_
          rintro e w' ⟨h, hb⟩
          rcases h with ⟨rfl, -⟩ | ⟨-, hno⟩
          · first | exact ⟨hb, rfl⟩ | exact ⟨hb, _, rfl, rfl⟩
          · first | exact (hno rfl).elim | exact (hno trivial).elim
      · intro G W hB hF hS
        simp [PM.allSp, PM.spec] at hS
        have h6 : G 6 = .bool true := by simp [hS]
        have k0 := hF 0 rfl
        have k1 := hF 1 rfl
        have k2 := hF 2 rfl
        have k3 := hF 3 rfl
        have k4 := hF 4 rfl
        have k5 := hF 5 rfl
        have k7 := hF 7 rfl
        have k8 := hF 8 rfl
        have k9 := hF 9 rfl
        have k10 := hF 10 rfl
        have k11 := hF 11 rfl
        have k12 := hF 12 rfl
        have k13 := hF 13 rfl
        have k14 := hF 14 rfl
        have k15 := hF 15 rfl
        have k16 := hF 16 rfl
        have k17 := hF 17 rfl
        have k29 := hF 29 rfl
        have k30 := hF 30 rfl
        have k31 := hF 31 rfl
        have k32 := hF 32 rfl
        have k33 := hF 33 rfl
        have k34 := hF 34 rfl
        have k35 := hF 35 rfl
        have k36 := hF 36 rfl
        have k37 := hF 37 rfl
        have k38 := hF 38 rfl
        have k39 := hF 39 rfl
        have k40 := hF 40 rfl
        have k41 := hF 41 rfl
        have k42 := hF 42 rfl
        have k43 := hF 43 rfl
        have k44 := hF 44 rfl
        have k45 := hF 45 rfl
        have k46 := hF 46 rfl
        have k47 := hF 47 rfl
        have k48 := hF 48 rfl
        have k49 := hF 49 rfl
        have k50 := hF 50 rfl
        have k51 := hF 51 rfl
        have k52 := hF 52 rfl
        have k53 := hF 53 rfl
        have k54 := hF 54 rfl
        have k55 := hF 55 rfl
        have k56 := hF 56 rfl
        simp [PM.sl] at k0 k1 k2 k3 k4 k5 k7 k8 k9 k10 k11 k12 k13 k14 k15 k16 k17 k29 k30 k31 k32 k33 k34 k35 k36 k37 k38 k39 k40 k41 k42 k43 k44 k45 k46 k47 k48 k49 k50 k51 k52 k53 k54 k55 k56
        rw [show ((List.range (Array.size _)).map G).toArray = #[G 0, G 1, G 2, G 3, G 4, G 5, G 6, G 7, G 8, G 9, G 10, G 11, G 12, G 13, G 14, G 15, G 16, G 17, G 18, G 19, G 20, G 21, G 22, G 23, G 24, G 25, G 26, G 27, G 28, G 29, G 30, G 31, G 32, G 33, G 34, G 35, G 36, G 37, G 38, G 39, G 40, G 41, G 42, G 43, G 44, G 45, G 46, G 47, G 48, G 49, G 50, G 51, G 52, G 53, G 54, G 55, G 56] from rfl]
        clear hF hS
        rw [h6, k0, k1, k2, k3, k4, k5, k7, k8, k9, k10, k11, k12, k13, k14, k15, k16, k17, k29, k30, k31, k32, k33, k34, k35, k36, k37, k38, k39, k40, k41, k42, k43, k44, k45, k46, k47, k48, k49, k50, k51, k52, k53, k54, k55, k56]
        clear h6 k0 k1 k2 k3 k4 k5 k7 k8 k9 k10 k11 k12 k13 k14 k15 k16 k17 k29 k30 k31 k32 k33 k34 k35 k36 k37 k38 k39 k40 k41 k42 k43 k44 k45 k46 k47 k48 k49 k50 k51 k52 k53 k54 k55 k56
        have hBh := PM.hid (PM.chain hin.out hB)
        clear hB
        have d0 : W.cell? ⟨b0, b0o + k * 3, none⟩ = some (.int .i64 z.cl) := PM.cellA hBh.out (pl.out 0 _ rfl)
        have d1 : W.cell? ⟨b0, b0o + k * 3 + 1, none⟩ = some (.int .u64 (z.sub : Int)) := PM.cellA hBh.out (pl.out 1 _ rfl)
        have d2 : W.cell? ⟨b0, b0o + k * 3 + 2, none⟩ = some (.slice pa zF pc) := PM.cellA hBh.out (pl.out 2 _ rfl)
        have e0 : W.cell? ⟨b1, b1o + k * 3, none⟩ = some (.int .i64 z.cl) := PM.cellA hBh.out (ql.out 0 _ rfl)
        have e1 : W.cell? ⟨b1, b1o + k * 3 + 1, none⟩ = some (.int .u64 (z.sub : Int)) := PM.cellA hBh.out (ql.out 1 _ rfl)
        have e2 : W.cell? ⟨b1, b1o + k * 3 + 2, none⟩ = some (.slice qa zF qc) := PM.cellA hBh.out (ql.out 2 _ rfl)
        have q1 : (z.cl != z.cl) = false := by simp
        have q2 : ((z.sub : Int) != (z.sub : Int)) = false := by simp
        go_upto_region 7 with fail
        go_region
        clear d0 d1 d2 e0 e1 e2 q1 q2
        go_wp2_with fail
        exact ⟨⟨k + 1, by go_num, by omega, PM.hid hBh.out.drew⟩, by simp only [intOf]; omega⟩
    · obtain rfl : k = N := by omega
      go_wp2_with fail
      go_ret
      exact ⟨rfl, hin.out⟩
end Go.Proofs.YtnpbfjkfbobgaaaGreat
