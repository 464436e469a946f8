/-
  Few of layer 11, exactly; small, made of layer 16. (Written by tools/mk_sg.py.)
-/
import Derived.Test.YtphdadlpfjfeoaaSf
namespace Go.Proofs.Ytphdadlpfjfeoaa
open Go.RowKit
set_option linter.unusedVariables false
set_option linter.unusedSimpArgs false
set_option maxRecDepth 100000 in
set_option maxHeartbeats 2000000 in
theorem few11x_any (x : PM.En) (fv ev : Value) (w : World) (hf : PM.TV w fv x.fil) (he : PM.EVL w ev x.evs) :
    Calls Try.prog 22 #[.agg (PM.enC x fv ev).toArray] w fun e w' => (e = .returned (.bool true) ∧ PM.FewEn x ∨ e = .returned (.bool false) ∧ ¬ PM.FewEn x) ∧ Below w.heap.size w w' := by
  obtain ⟨ea, ec, hee⟩ := he.len
  subst hee
  obtain ⟨fa, fc, hfe⟩ := hf.len
  subst hfe
  have hbe := he.bound
  unfold maxLen at hbe
  obtain ⟨Q, hQ⟩ : ∃ Q : Prop, Q = PM.FewEn x := ⟨_, rfl⟩
  rw [← hQ]
  have hQh := PM.hid hQ
  clear hQ
  obtain ⟨kd, ⟨ib, il, is⟩, cl, sub, fil, evs⟩ := x
  unfold PM.enC
  simp only at hf he hbe ⊢
  obtain ⟨L, hL⟩ : ∃ F, F = evs.length := ⟨_, rfl⟩
  obtain ⟨F, hF⟩ : ∃ F, F = fil.length := ⟨_, rfl⟩
  rw [← hL] at he hbe ⊢
  rw [← hF] at hf ⊢
  have hLh := PM.hid hL
  clear hL hF
  obtain ⟨g, hg⟩ : ∃ g, g = w.heap.size := ⟨_, rfl⟩
  obtain ⟨w1, hw1⟩ : ∃ W, W = w.alloc (.cells #[.int .i64 kd, .int .i64 ib, .int .u64 (il : Int), .int .u64 (is : Int), .int .i64 cl, .int .u64 (sub : Int), .slice fa F fc, .slice ea L ec] 44) := ⟨_, rfl⟩
  have hal : Below w.heap.size w w1 := by rw [hw1]; exact (Below.refl _ _).alloc (Nat.le_refl _) _
  have kg : PM.BK w1 g #[.int .i64 kd, .int .i64 ib, .int .u64 (il : Int), .int .u64 (is : Int), .int .i64 cl, .int .u64 (sub : Int), .slice fa F fc, .slice ea L ec] 44 := by rw [hw1, hg]; exact PM.BK.new _ _ _
  replace hf := PM.hid (hf.keep hal)
  replace he := PM.hid (he.keep hal)
  have hB := PM.hid hal
  clear hal
  have c6 : w1.cell? ⟨g, 6, none⟩ = some (.slice fa F fc) := kg.cell 6
  have c7 : w1.cell? ⟨g, 7, none⟩ = some (.slice ea L ec) := kg.cell 7
  by_cases hbig : 10 < L
  · have hb : (10 : Int) < (L : Int) := by omega
    go_enter Try.func22, Try.ntmps22
    go_upto_region 1 with fail
    rw [← hw1, ← hg]
    clear hw1 hg kg
    go_wp2_with fail
    go_ret
    exact ⟨.inr ⟨rfl, by rw [hQh.out]; exact fun h => by have h1 := h.1; simp only at h1; rw [← hLh.out] at h1; omega⟩, hB.out⟩
  have hb : ¬ (10 : Int) < (L : Int) := by omega
  go_enter Try.func22, Try.ntmps22
  go_upto_region 1 with fail
  rw [← hw1, ← hg]
  clear hw1 hg kg
  go_wp2_with fail
  go_loopw [3] (fun i wr => ∃ k : Nat, i = .int .i64 k ∧ k ≤ L ∧ wr = w1 ∧ ∀ j e, j < k → evs[j]? = some e → PM.Few e) (fun i _ => L - (intOf i).toNat)
  case atStart => exact ⟨0, rfl, by omega, rfl, fun j e hj => absurd hj (by omega)⟩
  case round =>
    obtain ⟨k, rfl, hk, rfl, hall⟩ := hrel
    replace hall := PM.hid hall
    by_cases hlt : k < L
    · obtain ⟨x, hx⟩ : ∃ x, evs[k]? = some x := ⟨evs[k]'(by rw [← hLh.out]; exact hlt), List.getElem?_eq_getElem _⟩
      obtain ⟨b, off, rfl, hce⟩ := PM.RR.opn he.out (by rw [← hLh.out]; omega)
      obtain ⟨cs, hl0, xv, hcs, hxv⟩ := hce k x hx
      have c0 := hl0 0 xv (by rw [hcs]; rfl)
      rw [Nat.mul_one, Nat.add_zero] at c0
      have hfw := few_any xv x wr hxv
      have hxh := PM.hid hx
      clear hx hce hl0 hcs hxv cs
      go_wp2_with fail
      refine hfw.mono ?_
      clear hfw c0
      rintro e W5 ⟨hF, rfl⟩
      rcases hF with ⟨rfl, hF⟩ | ⟨rfl, hF⟩
      · replace hF := PM.hid hF
        go_wp2_with fail
        refine ⟨⟨k + 1, by go_num, by omega, by first | rfl | trivial, fun j e hj hje => ?_⟩, by simp only [intOf]; omega⟩
        by_cases hjk : j < k
        · exact hall.out j e hjk hje
        · obtain rfl : j = k := by omega
          rw [hxh.out] at hje
          cases hje
          exact hF.out
      · replace hF := PM.hid hF
        go_wp2_with fail
        go_ret
        exact ⟨.inr ⟨rfl, by rw [hQh.out]; exact fun h => hF.out (h.2.1 x (List.mem_of_getElem? hxh.out))⟩, hB.out⟩
    · obtain rfl : k = L := by omega
      go_wp2_with fail
      refine (ffew_any _ fil wr hf.out).mono ?_
      rintro e W5 ⟨hF, rfl⟩
      rcases hF with ⟨rfl, hF⟩ | ⟨rfl, hF⟩
      · replace hF := PM.hid hF
        go_wp2_with fail
        go_ret
        refine ⟨.inl ⟨rfl, ?_⟩, hB.out⟩
        rw [hQh.out]
        refine ⟨by simp only; rw [← hLh.out]; omega, fun e he => ?_, hF.out⟩
        obtain ⟨j, hj⟩ := List.mem_iff_getElem?.1 he
        exact hall.out j e (by rw [hLh.out]; exact (List.getElem?_eq_some_iff.1 hj).1) hj
      · replace hF := PM.hid hF
        go_wp2_with fail
        go_ret
        exact ⟨.inr ⟨rfl, by rw [hQh.out]; exact fun h => hF.out h.2.2⟩, hB.out⟩
set_option maxHeartbeats 1000000 in
theorem small16x_any (kd : Int) (nn : Nat) (z : PM.En) (fa : Option Addr) (fc : Nat) (ea : Option Addr) (ec : Nat) (i : PM.Id) (w : World) (hf : PM.TV w (.slice fa z.fil.length fc) z.fil) (he : PM.EVL w (.slice ea z.evs.length ec) z.evs) :
    Calls Try.prog 12 #[.agg #[.int .i64 kd, .int .u64 (nn : Int), .int .i64 z.kind, .int .i64 z.id.br, .int .u64 (z.id.life : Int), .int .u64 (z.id.ser : Int), .int .i64 z.client, .int .u64 (z.sub : Int), .slice fa z.fil.length fc, .slice ea z.evs.length ec, .int .i64 i.br, .int .u64 (i.life : Int), .int .u64 (i.ser : Int)]] w fun e w' => (e = .returned (.bool true) ∧ PM.FewEn z ∨ e = .returned (.bool false) ∧ ¬ PM.FewEn z) ∧ Below w.heap.size w w' := by
  have hal : ∀ o, Below w.heap.size w (w.alloc o) := fun o => (Below.refl _ _).alloc (Nat.le_refl _) o
  have hcf := fun o => few11x_any z _ _ (w.alloc o) (hf.keep (hal o)) (PM.EVL.keepO (hal o) he)
  generalize z.fil.length = zF at *
  generalize z.evs.length = zE at *
  replace hal := PM.hid hal
  clear hf he
  unfold PM.enC at hcf
  go_enter Try.func12, Try.ntmps12
  go_wp2_with fail
  refine (hcf _).mono ?_
  rintro e w2 ⟨⟨rfl, hy⟩ | ⟨rfl, hy⟩, hB⟩
  · have hB2 := PM.hid (And.intro hy (PM.chain (hal.out _) hB))
    clear hB hcf hy
    go_wp2_with fail
    go_ret
    exact ⟨.inl ⟨rfl, hB2.out.1⟩, hB2.out.2⟩
  · have hB2 := PM.hid (And.intro hy (PM.chain (hal.out _) hB))
    clear hB hcf hy
    go_wp2_with fail
    go_ret
    exact ⟨.inr ⟨rfl, hB2.out.1⟩, hB2.out.2⟩
namespace PM
/-- what the cells of a record read as -/
def rcR (w : World) (cs : List Value) (x : Rc) : Prop := ∃ fv ev, cs = rcC x fv ev ∧ TV w fv x.en.fil ∧ EVL w ev x.en.evs
theorem rcR_lasts : Lasts rcR := fun W w cs x hb ⟨fv, ev, h1, h2, h3⟩ => ⟨fv, ev, h1, h2.keep hb, h3.keep hb⟩
abbrev RcL (w : World) (v : Value) (l : List Rc) : Prop := RR rcR 13 w v l
open Classical in
noncomputable def md1 (s : Fs) (x : Rc) : Fs := if FewEn x.en then (stp s x).1 else s
noncomputable def mdP (l : List Rc) : Fs := (l.take 40).foldl md1 Fs0
theorem md_snoc {l : List Rc} {k : Nat} {x : Rc} (h : l[k]? = some x) (hk : k < 40) : mdP (l.take (k + 1)) = md1 (mdP (l.take k)) x := by
  unfold mdP
  rw [List.take_take, List.take_take, Nat.min_eq_right (by omega), Nat.min_eq_right (by omega), take_at h, List.foldl_append]
  rfl
theorem md_end (l : List Rc) {k : Nat} (h : k = l.length ∨ k = 40) : mdP (l.take k) = mdP l := by
  unfold mdP
  rcases h with rfl | rfl
  · rw [List.take_length]
  · rw [List.take_take, Nat.min_self]
theorem md_ok (l : List Rc) (hw : ∀ x ∈ l, x.wf) : ∀ k, k ≤ l.length → k ≤ 40 → FsOk k (mdP (l.take k))
  | 0, _, _ => FsOk.nil
  | k + 1, h1, h2 => by
    have ih := md_ok l hw k (by omega) (by omega)
    obtain ⟨x, hx⟩ : ∃ x, l[k]? = some x := ⟨l[k]'(by omega), List.getElem?_eq_getElem _⟩
    rw [md_snoc hx (by omega)]
    unfold md1
    split
    · rename_i hf
      exact ih.stp hf.enS (hw x (List.mem_of_getElem? hx)).2.1
    · exact ih.mono (Nat.le_succ k)
theorem md_grown (l : List Rc) (n : Nat) : Grown (mdP (l.take n)) (mdP l) := by
  unfold mdP
  rw [List.take_take]
  have key : ∀ (m : List Rc) (s : Fs), Grown s (m.foldl md1 s) := by
    intro m
    induction m with
    | nil => exact fun s => Grown.refl s
    | cons x m ih =>
      intro s
      refine Grown.trans ?_ (ih _)
      unfold md1
      split
      · exact stp_grown s x
      · exact Grown.refl s
  by_cases h : n ≤ 40
  · rw [Nat.min_eq_right h, ← List.take_append_drop n (l.take 40), List.foldl_append, List.take_take, Nat.min_eq_left h]
    exact key _ _
  · rw [Nat.min_eq_left (by omega)]
    exact Grown.refl _
end PM
end Go.Proofs.Ytphdadlpfjfeoaa
