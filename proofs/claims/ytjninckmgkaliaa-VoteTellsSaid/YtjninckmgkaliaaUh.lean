/-
  CONTRACTS of postilionref13.SameIDs, SameVotes.
-/
import Derived.Test.YtjninckmgkaliaaWt
import Derived.Test.YtjninckmgkaliaaVt
namespace Go.Proofs.Ytjninckmgkaliaa
open Go.RowKit
set_option linter.unusedVariables false
set_option linter.unusedSimpArgs false
theorem idneU_run (a b : PM.Id) : ∀ w : World, Sem.run Try.prog (binOp .neq 30 (.agg #[.int .i64 a.br, .int .u64 (a.life : Int), .int .u64 (a.ser : Int)]) (.agg #[.int .i64 b.br, .int .u64 (b.life : Int), .int .u64 (b.ser : Int)])) w = .ok (.bool (!decide (a = b))) w := by
  intro w
  rw [run_neq_struct, show (10000 : Nat) = 9999 + 1 from rfl, run_equalIn_agg w 9999 30 _ _ (by kernel_rfl) (by kernel_rfl)]
  simp only [Program.fieldsOf, Try.underlying30]
  go_simp
  obtain ⟨a1, a2, a3⟩ := a
  obtain ⟨b1, b2, b3⟩ := b
  simp only [PM.Id.mk.injEq]
  by_cases e1 : a1 = b1 <;> by_cases e2 : a2 = b2 <;> by_cases e3 : a3 = b3 <;> simp [e1, e2, e3] <;> omega
theorem vone_run (a b : PM.Vo) : ∀ w : World, Sem.run Try.prog (binOp .neq 45 (.agg #[.int .i64 a.id.br, .int .u64 (a.id.life : Int), .int .u64 (a.id.ser : Int), .bool a.yes]) (.agg #[.int .i64 b.id.br, .int .u64 (b.id.life : Int), .int .u64 (b.id.ser : Int), .bool b.yes])) w = .ok (.bool (!decide (a = b))) w := by
  intro w
  rw [run_neq_struct, show (10000 : Nat) = 9999 + 1 from rfl, run_equalIn_agg w 9999 45 _ _ (by kernel_rfl) (by kernel_rfl)]
  simp only [Program.fieldsOf, Try.underlying45, Try.underlying30]
  go_simp
  obtain ⟨⟨a1, a2, a3⟩, a4⟩ := a
  obtain ⟨⟨b1, b2, b3⟩, b4⟩ := b
  simp only [PM.Vo.mk.injEq, PM.Id.mk.injEq]
  by_cases e1 : a1 = b1 <;> by_cases e2 : a2 = b2 <;> by_cases e3 : a3 = b3 <;> by_cases e4 : a4 = b4 <;> simp [e1, e2, e3, e4] <;> omega
set_option maxRecDepth 100000 in
set_option maxHeartbeats 4000000 in
theorem sameIds_any (v0 v1 : Value) (l m : List PM.Id) (w : World) (h0 : PM.EM PM.idL 3 w v0 l) (h1 : PM.EM PM.idL 3 w v1 m) :
    Calls Try.prog 14 #[v0, v1] w fun e w' => (e = .returned (.bool true) ∧ l = m ∨ e = .returned (.bool false) ∧ ¬ l = m) ∧ Below w.heap.size w w' := by
  have hm0 := h0.bound
  have hm1 := h1.bound
  unfold maxLen at hm0 hm1
  obtain ⟨a0, c0, rfl⟩ := h0.len
  obtain ⟨a1, c1, rfl⟩ := h1.len
  obtain ⟨N, hN⟩ : ∃ N, N = l.length := ⟨_, rfl⟩
  obtain ⟨M, hM⟩ : ∃ N, N = m.length := ⟨_, rfl⟩
  have hNh := PM.hid hN
  have hMh := PM.hid hM
  rw [← hN] at h0 hm0 ⊢
  rw [← hM] at h1 hm1 ⊢
  have hv0 := PM.hid h0
  have hv1 := PM.hid h1
  clear hN hM h0 h1
  go_enter Try.func14, Try.ntmps14
  by_cases hNM : N = M
  case neg =>
    have q : ((N : Int) != (M : Int)) = true := by simp; omega
    go_wp2_with fail
    go_ret
    exact ⟨.inr ⟨rfl, fun h => hNM (by rw [hNh.out, hMh.out, h])⟩, Below.refl _ _⟩
  subst hNM
  go_wp2_with fail
  go_loopw [5] (fun i wr => ∃ k : Nat, i = .int .i64 k ∧ k ≤ N ∧ Hid (l.take k = m.take k ∧ Below w.heap.size w wr)) (fun i _ => N - (intOf i).toNat)
  case atStart => exact ⟨0, rfl, by omega, PM.hid ⟨rfl, Below.refl _ _⟩⟩
  case round =>
    obtain ⟨k, rfl, hk, hin⟩ := hrel
    by_cases hlt : k < N
    · obtain ⟨xx, hxx⟩ : ∃ z, l[k]? = some z := ⟨l[k]'(by rw [← hNh.out]; exact hlt), List.getElem?_eq_getElem _⟩
      obtain ⟨b0, b0o, b0c, he, -, -, hce⟩ := PM.EM.open1 hv0.out (by rw [← hNh.out]; omega)
      injection he with he1 he2 he3
      subst he1
      have hl0 := (hce k xx hxx).keep hin.out.2
      have xx0 : wr.cell? ⟨b0, b0o + k * 3, none⟩ = some (.int .i64 xx.br) := hl0 0 _ rfl
      have xx1 : wr.cell? ⟨b0, b0o + k * 3 + 1, none⟩ = some (.int .u64 (xx.life : Int)) := hl0 1 _ rfl
      have xx2 : wr.cell? ⟨b0, b0o + k * 3 + 2, none⟩ = some (.int .u64 (xx.ser : Int)) := hl0 2 _ rfl
      have xxh := PM.hid hxx
      clear hce hl0 hxx he2 he3
      obtain ⟨yy, hyy⟩ : ∃ z, m[k]? = some z := ⟨m[k]'(by rw [← hMh.out]; exact hlt), List.getElem?_eq_getElem _⟩
      obtain ⟨b1, b1o, b1c, he, -, -, hce⟩ := PM.EM.open1 hv1.out (by rw [← hMh.out]; omega)
      injection he with he1 he2 he3
      subst he1
      have hl0 := (hce k yy hyy).keep hin.out.2
      have yy0 : wr.cell? ⟨b1, b1o + k * 3, none⟩ = some (.int .i64 yy.br) := hl0 0 _ rfl
      have yy1 : wr.cell? ⟨b1, b1o + k * 3 + 1, none⟩ = some (.int .u64 (yy.life : Int)) := hl0 1 _ rfl
      have yy2 : wr.cell? ⟨b1, b1o + k * 3 + 2, none⟩ = some (.int .u64 (yy.ser : Int)) := hl0 2 _ rfl
      have yyh := PM.hid hyy
      clear hce hl0 hyy he2 he3
      have hq := idneU_run xx yy
      cases hc : decide (xx = yy)
      · rw [hc] at hq
        simp only [Bool.not_false] at hq
        have hcc := PM.hid (of_decide_eq_false hc)
        clear hc
        go_upto_region 6 with fail
        go_region
        clear xx0 yy0 xx1 yy1 xx2 yy2 hq
        have hB := PM.hid hin.out.2.drew
        go_wp2_with fail
        go_ret
        refine ⟨.inr ⟨by simp, fun h => hcc.out ?_⟩, hB.out⟩
        have h1 := xxh.out
        rw [h, yyh.out] at h1
        injection h1 with h1
        exact h1.symm
      · rw [hc] at hq
        simp only [Bool.not_true] at hq
        have hcc := PM.hid (of_decide_eq_true hc)
        clear hc
        go_upto_region 6 with fail
        go_region
        clear xx0 yy0 xx1 yy1 xx2 yy2 hq
        have hB := PM.hid hin.out.2.drew
        go_wp2_with fail
        exact ⟨⟨k + 1, by go_num, by omega, PM.hid ⟨by rw [PM.take_at xxh.out, PM.take_at yyh.out, hin.out.1, hcc.out], hB.out⟩⟩, by simp only [intOf]; omega⟩
    · obtain rfl : k = N := by omega
      have hlm : Hid (l = m) := PM.hid (by
        have h9 := hin.out.1
        rw [show l.take k = l from by rw [hNh.out]; exact List.take_length, show m.take k = m from by rw [hMh.out]; exact List.take_length] at h9
        exact h9)
      go_wp2_with fail
      go_ret
      exact ⟨.inl ⟨rfl, hlm.out⟩, hin.out.2⟩
set_option maxRecDepth 100000 in
set_option maxHeartbeats 4000000 in
theorem sameVos_any (v0 v1 : Value) (l m : List PM.Vo) (w : World) (h0 : PM.EM PM.voL 4 w v0 l) (h1 : PM.EM PM.voL 4 w v1 m) :
    Calls Try.prog 15 #[v0, v1] w fun e w' => (e = .returned (.bool true) ∧ l = m ∨ e = .returned (.bool false) ∧ ¬ l = m) ∧ Below w.heap.size w w' := by
  have hm0 := h0.bound
  have hm1 := h1.bound
  unfold maxLen at hm0 hm1
  obtain ⟨a0, c0, rfl⟩ := h0.len
  obtain ⟨a1, c1, rfl⟩ := h1.len
  obtain ⟨N, hN⟩ : ∃ N, N = l.length := ⟨_, rfl⟩
  obtain ⟨M, hM⟩ : ∃ N, N = m.length := ⟨_, rfl⟩
  have hNh := PM.hid hN
  have hMh := PM.hid hM
  rw [← hN] at h0 hm0 ⊢
  rw [← hM] at h1 hm1 ⊢
  have hv0 := PM.hid h0
  have hv1 := PM.hid h1
  clear hN hM h0 h1
  go_enter Try.func15, Try.ntmps15
  by_cases hNM : N = M
  case neg =>
    have q : ((N : Int) != (M : Int)) = true := by simp; omega
    go_wp2_with fail
    go_ret
    exact ⟨.inr ⟨rfl, fun h => hNM (by rw [hNh.out, hMh.out, h])⟩, Below.refl _ _⟩
  subst hNM
  go_wp2_with fail
  go_loopw [5] (fun i wr => ∃ k : Nat, i = .int .i64 k ∧ k ≤ N ∧ Hid (l.take k = m.take k ∧ Below w.heap.size w wr)) (fun i _ => N - (intOf i).toNat)
  case atStart => exact ⟨0, rfl, by omega, PM.hid ⟨rfl, Below.refl _ _⟩⟩
  case round =>
    obtain ⟨k, rfl, hk, hin⟩ := hrel
    by_cases hlt : k < N
    · obtain ⟨xx, hxx⟩ : ∃ z, l[k]? = some z := ⟨l[k]'(by rw [← hNh.out]; exact hlt), List.getElem?_eq_getElem _⟩
      obtain ⟨b0, b0o, b0c, he, -, -, hce⟩ := PM.EM.open1 hv0.out (by rw [← hNh.out]; omega)
      injection he with he1 he2 he3
      subst he1
      have hl0 := (hce k xx hxx).keep hin.out.2
      have xx0 : wr.cell? ⟨b0, b0o + k * 4, none⟩ = some (.int .i64 xx.id.br) := hl0 0 _ rfl
      have xx1 : wr.cell? ⟨b0, b0o + k * 4 + 1, none⟩ = some (.int .u64 (xx.id.life : Int)) := hl0 1 _ rfl
      have xx2 : wr.cell? ⟨b0, b0o + k * 4 + 2, none⟩ = some (.int .u64 (xx.id.ser : Int)) := hl0 2 _ rfl
      have xx3 : wr.cell? ⟨b0, b0o + k * 4 + 3, none⟩ = some (.bool xx.yes) := hl0 3 _ rfl
      have xxh := PM.hid hxx
      clear hce hl0 hxx he2 he3
      obtain ⟨yy, hyy⟩ : ∃ z, m[k]? = some z := ⟨m[k]'(by rw [← hMh.out]; exact hlt), List.getElem?_eq_getElem _⟩
      obtain ⟨b1, b1o, b1c, he, -, -, hce⟩ := PM.EM.open1 hv1.out (by rw [← hMh.out]; omega)
      injection he with he1 he2 he3
      subst he1
      have hl0 := (hce k yy hyy).keep hin.out.2
      have yy0 : wr.cell? ⟨b1, b1o + k * 4, none⟩ = some (.int .i64 yy.id.br) := hl0 0 _ rfl
      have yy1 : wr.cell? ⟨b1, b1o + k * 4 + 1, none⟩ = some (.int .u64 (yy.id.life : Int)) := hl0 1 _ rfl
      have yy2 : wr.cell? ⟨b1, b1o + k * 4 + 2, none⟩ = some (.int .u64 (yy.id.ser : Int)) := hl0 2 _ rfl
      have yy3 : wr.cell? ⟨b1, b1o + k * 4 + 3, none⟩ = some (.bool yy.yes) := hl0 3 _ rfl
      have yyh := PM.hid hyy
      clear hce hl0 hyy he2 he3
      have hq := vone_run xx yy
      cases hc : decide (xx = yy)
      · rw [hc] at hq
        simp only [Bool.not_false] at hq
        have hcc := PM.hid (of_decide_eq_false hc)
        clear hc
        go_upto_region 6 with fail
        go_region
        clear xx0 yy0 xx1 yy1 xx2 yy2 xx3 yy3 hq
        have hB := PM.hid hin.out.2.drew
        go_wp2_with fail
        go_ret
        refine ⟨.inr ⟨by simp, fun h => hcc.out ?_⟩, hB.out⟩
        have h1 := xxh.out
        rw [h, yyh.out] at h1
        injection h1 with h1
        exact h1.symm
      · rw [hc] at hq
        simp only [Bool.not_true] at hq
        have hcc := PM.hid (of_decide_eq_true hc)
        clear hc
        go_upto_region 6 with fail
        go_region
        clear xx0 yy0 xx1 yy1 xx2 yy2 xx3 yy3 hq
        have hB := PM.hid hin.out.2.drew
        go_wp2_with fail
        exact ⟨⟨k + 1, by go_num, by omega, PM.hid ⟨by rw [PM.take_at xxh.out, PM.take_at yyh.out, hin.out.1, hcc.out], hB.out⟩⟩, by simp only [intOf]; omega⟩
    · obtain rfl : k = N := by omega
      have hlm : Hid (l = m) := PM.hid (by
        have h9 := hin.out.1
        rw [show l.take k = l from by rw [hNh.out]; exact List.take_length, show m.take k = m from by rw [hMh.out]; exact List.take_length] at h9
        exact h9)
      go_wp2_with fail
      go_ret
      exact ⟨.inl ⟨rfl, hlm.out⟩, hin.out.2⟩
end Go.Proofs.Ytjninckmgkaliaa
