/-
  THE WALKS OF LAYER 7's STATEMENTS: sound, twice, chain.
-/
import Derived.Test.YtenfjgfpeheepaaKd
namespace Go.Proofs.Ytenfjgfpeheepaa
open Go.RowKit
set_option linter.unusedVariables false
set_option linter.unusedSimpArgs false
namespace PM
theorem EM.one {α : Type} {e : α → List Value} {c : Nat} {w : World} {v : Value} {l : List α} (h : EM e c w v l) : v.oneCell' = true := by
  obtain ⟨a, k, rfl⟩ := h.len
  rfl
theorem FL.lit1 {W : World} {E : TypeId} {v0 : Value} {f0 : List Te} (h0 : TV W v0 f0) : FL (W.alloc (.cells #[v0] E)) (.slice (some ⟨W.heap.size, 0, none⟩) 1 1) [f0] := by
  refine RR.lits1 fR_lasts W E [v0] [f0] 1 _ rfl rfl rfl (by simp [maxLen]) (by intro v hv; simp at hv; subst hv; exact h0.one) ?_
  intro i v x hi hx
  match i, hi, hx with
  | 0, hi, hx => simp at hi hx; subst hi hx; exact ⟨_, rfl, h0⟩
  | i + 1, hi, hx => simp at hi
theorem FL.lit2 {W : World} {E : TypeId} {v0 v1 : Value} {f0 f1 : List Te} (h0 : TV W v0 f0) (h1 : TV W v1 f1) : FL (W.alloc (.cells #[v0, v1] E)) (.slice (some ⟨W.heap.size, 0, none⟩) 2 2) [f0, f1] := by
  refine RR.lits1 fR_lasts W E [v0, v1] [f0, f1] 2 _ rfl rfl rfl (by simp [maxLen]) (by intro v hv; simp at hv; rcases hv with rfl | rfl; exact h0.one; exact h1.one) ?_
  intro i v x hi hx
  match i, hi, hx with
  | 0, hi, hx => simp at hi hx; subst hi hx; exact ⟨_, rfl, h0⟩
  | 1, hi, hx => simp at hi hx; subst hi hx; exact ⟨_, rfl, h1⟩
  | i + 2, hi, hx => simp at hi
theorem FL.lit3 {W : World} {E : TypeId} {v0 v1 v2 : Value} {f0 f1 f2 : List Te} (h0 : TV W v0 f0) (h1 : TV W v1 f1) (h2 : TV W v2 f2) : FL (W.alloc (.cells #[v0, v1, v2] E)) (.slice (some ⟨W.heap.size, 0, none⟩) 3 3) [f0, f1, f2] := by
  refine RR.lits1 fR_lasts W E [v0, v1, v2] [f0, f1, f2] 3 _ rfl rfl rfl (by simp [maxLen]) (by intro v hv; simp at hv; rcases hv with rfl | rfl | rfl; exact h0.one; exact h1.one; exact h2.one) ?_
  intro i v x hi hx
  match i, hi, hx with
  | 0, hi, hx => simp at hi hx; subst hi hx; exact ⟨_, rfl, h0⟩
  | 1, hi, hx => simp at hi hx; subst hi hx; exact ⟨_, rfl, h1⟩
  | 2, hi, hx => simp at hi hx; subst hi hx; exact ⟨_, rfl, h2⟩
  | i + 3, hi, hx => simp at hi
theorem FL.lit4 {W : World} {E : TypeId} {v0 v1 v2 v3 : Value} {f0 f1 f2 f3 : List Te} (h0 : TV W v0 f0) (h1 : TV W v1 f1) (h2 : TV W v2 f2) (h3 : TV W v3 f3) : FL (W.alloc (.cells #[v0, v1, v2, v3] E)) (.slice (some ⟨W.heap.size, 0, none⟩) 4 4) [f0, f1, f2, f3] := by
  refine RR.lits1 fR_lasts W E [v0, v1, v2, v3] [f0, f1, f2, f3] 4 _ rfl rfl rfl (by simp [maxLen]) (by intro v hv; simp at hv; rcases hv with rfl | rfl | rfl | rfl; exact h0.one; exact h1.one; exact h2.one; exact h3.one) ?_
  intro i v x hi hx
  match i, hi, hx with
  | 0, hi, hx => simp at hi hx; subst hi hx; exact ⟨_, rfl, h0⟩
  | 1, hi, hx => simp at hi hx; subst hi hx; exact ⟨_, rfl, h1⟩
  | 2, hi, hx => simp at hi hx; subst hi hx; exact ⟨_, rfl, h2⟩
  | 3, hi, hx => simp at hi hx; subst hi hx; exact ⟨_, rfl, h3⟩
  | i + 4, hi, hx => simp at hi
theorem FF.len {ls : List (List Te)} (h : FF ls) {x : List Te} (hx : x ∈ ls) : x.length ≤ 1000 := Nat.le_trans (h.2 x hx).1 (by decide)
end PM
set_option maxRecDepth 100000 in
set_option maxHeartbeats 4000000 in
theorem coverSound_walk (v : Value) (f : List PM.Te) (u : Value) (g : List PM.Te) (ev : Value) (es : List PM.At) (w : World) (hf : PM.TV w v f) (wf : ∀ x ∈ f, x.wf) (hg : PM.TV w u g) (wg : ∀ x ∈ g, x.wf) (he : PM.EV w ev es) (we_ : ∀ x ∈ es, x.wf) :
    Calls Try.prog 4 #[v, u, ev] w fun e w' => e = .returned (.bool true) ∧ Below w.heap.size w w' := by
  clear wf wg we_
  have hBB := PM.hid (Below.refl w.heap.size w)
  obtain ⟨fa, fc, fe⟩ := hf.len
  subst fe
  obtain ⟨fN, fh⟩ : ∃ N, N = f.length := ⟨_, rfl⟩
  have fH := PM.hid fh
  rw [← fh] at hf ⊢
  clear fh
  obtain ⟨ga, gc, ge⟩ := hg.len
  subst ge
  obtain ⟨gN, gh⟩ : ∃ N, N = g.length := ⟨_, rfl⟩
  have gH := PM.hid gh
  rw [← gh] at hg ⊢
  clear gh
  go_enter Try.func4, Try.ntmps4
  go_wp2_with fail
  refine (awake7 _).mono ?_
  rintro e wn1 ⟨rfl, hBn⟩
  replace hf := hf.keep hBn
  replace hg := hg.keep hBn
  replace he := he.keep hBn
  replace hBB := PM.hid (PM.chain hBB.out hBn)
  clear hBn
  go_wp2_with fail
  refine (few7_any _ [f, g] _ (PM.FL.lit2 hf hg)).mono ?_
  rintro e wf ⟨hF, rfl⟩
  obtain ⟨wc2, hwc⟩ : ∃ W, W = wn1.alloc (.cells #[.slice fa fN fc, .slice ga gN gc] 23) := ⟨_, rfl⟩
  have hal : Below wn1.heap.size wn1 wc2 := by rw [hwc]; exact (Below.refl _ _).alloc (Nat.le_refl _) _
  rw [← hwc]
  replace hf := hf.keep hal
  replace hg := hg.keep hal
  replace he := he.keep hal
  replace hBB := PM.hid (PM.chain hBB.out hal)
  clear hwc hal
  rcases hF with ⟨rfl, hF⟩ | ⟨rfl, hF⟩
  case inr =>
    clear hf hg he hF
    go_wp2_with fail
    go_ret
    exact ⟨by first | rfl | simp, hBB.out⟩
  clear hF
  go_wp2_with fail
  refine (few_any ev es _ he).mono ?_
  rintro e wf ⟨hF, rfl⟩
  rcases hF with ⟨rfl, hF⟩ | ⟨rfl, hF⟩
  case inr =>
    clear hf hg he hF
    go_wp2_with fail
    go_ret
    exact ⟨by first | rfl | simp, hBB.out⟩
  clear hF
  go_wp2_with fail
  refine (may7_any _ [f, g] _ (PM.FL.lit2 hf hg)).mono ?_
  rintro e wc3 ⟨hF, hBn⟩
  have hal : Below wf.heap.size wf wc3 := PM.chain ((Below.refl _ wf).alloc (Nat.le_refl _) _) hBn
  replace hf := hf.keep hal
  replace hg := hg.keep hal
  replace he := he.keep hal
  replace hBB := PM.hid (PM.chain hBB.out hal)
  clear hal hBn
  rcases hF with ⟨rfl, hF⟩ | ⟨rfl, hF⟩
  case inr =>
    clear hf hg he hF
    go_wp2_with fail
    go_ret
    exact ⟨by first | rfl | simp, hBB.out⟩
  have hfg := PM.hid (And.intro (hF f (by simp)) (hF g (by simp)))
  clear hF
  by_cases hk : PM.chkP es
  case neg =>
    go_wp2_with fail
    refine (echeck_any ev es _ he).mono ?_
    rintro e wn4 ⟨rfl, hBn⟩
    rw [PM.chk_no hk]
    replace hf := hf.keep hBn
    replace hg := hg.keep hBn
    replace he := he.keep hBn
    replace hBB := PM.hid (PM.chain hBB.out hBn)
    clear hBn
    clear hf hg he hk
    go_wp2_with fail
    go_ret
    exact ⟨by first | rfl | simp, hBB.out⟩
  go_wp2_with fail
  refine (echeck_any ev es _ he).mono ?_
  rintro e wn5 ⟨rfl, hBn⟩
  rw [PM.chk_yes hk]
  replace hf := hf.keep hBn
  replace hg := hg.keep hBn
  replace he := he.keep hBn
  replace hBB := PM.hid (PM.chain hBB.out hBn)
  clear hBn
  have hkh := PM.hid hk
  clear hk
  cases q1 : PM.covB f g
  case false =>
    go_wp2_with fail
    refine (covers_any _ _ f g _ hf hg).mono ?_
    rintro e wn6 ⟨rfl, hBn⟩
    rw [q1]
    replace hf := hf.keep hBn
    replace hg := hg.keep hBn
    replace he := he.keep hBn
    replace hBB := PM.hid (PM.chain hBB.out hBn)
    clear hBn
    clear hf hg he q1
    go_wp2_with fail
    go_ret
    exact ⟨by first | rfl | simp, hBB.out⟩
  go_wp2_with fail
  refine (covers_any _ _ f g _ hf hg).mono ?_
  rintro e wn7 ⟨rfl, hBn⟩
  rw [q1]
  replace hf := hf.keep hBn
  replace hg := hg.keep hBn
  replace he := he.keep hBn
  replace hBB := PM.hid (PM.chain hBB.out hBn)
  clear hBn
  cases q2 : PM.matchB g es
  case false =>
    go_wp2_with fail
    refine (matches_any _ g ev es _ hg he).mono ?_
    rintro e wn8 ⟨rfl, hBn⟩
    rw [q2]
    replace hf := hf.keep hBn
    replace hg := hg.keep hBn
    replace he := he.keep hBn
    replace hBB := PM.hid (PM.chain hBB.out hBn)
    clear hBn
    clear hf hg he q1 q2
    go_wp2_with fail
    go_ret
    exact ⟨by first | rfl | simp, hBB.out⟩
  go_wp2_with fail
  refine (matches_any _ g ev es _ hg he).mono ?_
  rintro e wn9 ⟨rfl, hBn⟩
  rw [q2]
  replace hf := hf.keep hBn
  replace hg := hg.keep hBn
  replace he := he.keep hBn
  replace hBB := PM.hid (PM.chain hBB.out hBn)
  clear hBn
  have q3 := PM.covB_sound hfg.out.1 hfg.out.2 hkh.out q1 q2
  go_wp2_with fail
  refine (matches_any _ f ev es _ hf he).mono ?_
  rintro e wn10 ⟨rfl, hBn⟩
  rw [q3]
  replace hf := hf.keep hBn
  replace hg := hg.keep hBn
  replace he := he.keep hBn
  replace hBB := PM.hid (PM.chain hBB.out hBn)
  clear hBn
  clear hf hg he q1 q2 q3
  go_wp2_with fail
  go_ret
  exact ⟨by first | rfl | simp, hBB.out⟩
set_option maxRecDepth 100000 in
set_option maxHeartbeats 4000000 in
theorem coverTwice_walk (v : Value) (ls : List (List PM.Te)) (w : World) (hv : PM.FL w v ls) :
    Calls Try.prog 8 #[v] w fun e w' => e = .returned (.bool true) ∧ Below w.heap.size w w' := by
  have hBB := PM.hid (Below.refl w.heap.size w)
  obtain ⟨va, vc, ve⟩ := hv.len
  subst ve
  obtain ⟨vN, vh⟩ : ∃ N, N = ls.length := ⟨_, rfl⟩
  have vH := PM.hid vh
  rw [← vh] at hv ⊢
  clear vh
  go_enter Try.func8, Try.ntmps8
  go_wp2_with fail
  refine (awake7 _).mono ?_
  rintro e wn1 ⟨rfl, hBn⟩
  replace hv := hv.keep hBn
  replace hBB := PM.hid (PM.chain hBB.out hBn)
  clear hBn
  go_wp2_with fail
  refine (few7_any _ ls _ hv).mono ?_
  rintro e wf ⟨hF, rfl⟩
  rcases hF with ⟨rfl, hF⟩ | ⟨rfl, hF⟩
  case inr =>
    clear hv hF
    go_wp2_with fail
    go_ret
    exact ⟨by first | rfl | simp, hBB.out⟩
  have hFF := PM.hid hF
  clear hF
  go_wp2_with fail
  refine (may7_any _ ls _ hv).mono ?_
  rintro e wm ⟨hF, hBn⟩
  replace hv := hv.keep hBn
  replace hBB := PM.hid (PM.chain hBB.out hBn)
  clear hBn
  rcases hF with ⟨rfl, hF⟩ | ⟨rfl, hF⟩
  case inr =>
    clear hv hF
    go_wp2_with fail
    go_ret
    exact ⟨by first | rfl | simp, hBB.out⟩
  have hmy := PM.hid hF
  clear hF
  have hl12 := hFF.out.1
  rw [← vH.out] at hl12
  obtain ⟨w5, rfl⟩ : ∃ x : World, x = wm := ⟨_, rfl⟩
  have hal : ∀ (o : Obj), Below w5.heap.size w5 (w5.alloc o) := fun o => (Below.refl _ _).alloc (Nat.le_refl _) _
  have hO0 : ∀ E, PM.OR (PM.cR w5) 1 E w5.heap.size (w5.alloc (.cells #[] E)) (.slice (some ⟨w5.heap.size, 0, none⟩) 0 0) [] := fun E => ⟨[], PM.OM.made w5 #[] 0 (by decide) rfl (Nat.le_refl _), rfl, fun i cs x a _ => by simp at a⟩
  have s5 : ∀ (o : Obj), PM.RR (PM.cR w5) 1 (w5.alloc o) (.slice va vN vc) ls := fun o => PM.FL.toC (hal o) hv
  have hn1 : (([] : List (List PM.Te)).length + ls.length) * 24 ≤ 140737488355328 ∧ ([] : List (List PM.Te)).length + ls.length ≤ maxLen := by unfold maxLen; rw [← vH.out]; simp; omega
  have hn2 : (([] ++ ls : List (List PM.Te)).length + ls.length) * 24 ≤ 140737488355328 ∧ ([] ++ ls : List (List PM.Te)).length + ls.length ≤ maxLen := by unfold maxLen; rw [List.nil_append, ← vH.out]; omega
  go_upto_region 5 with (first
    | (at_builtin; refine PM.wpList_orm flTy (PM.cR_stays w5 _) w5.heap.size rfl _ _ rfl (.slice (some ⟨w5.heap.size, 0, none⟩) 0 0) (.slice va vN vc) [] ls rfl rfl (hO0 _) (s5 _) hn1.1 hn1.2 (by simp) ?_; intro v6 w6 t1 t2 t3; have hB6 := (hal _).trans t2; have sq := PM.FL.toC hB6 hv; have hsz6 := hB6.size; clear t2 t3)
    | (at_builtin; refine PM.wpList_orm flTy (PM.cR_stays w5 _) w5.heap.size rfl _ _ rfl v6 (.slice va vN vc) _ ls rfl rfl t1 sq hn2.1 hn2.2 hsz6 ?_; intro v7 w7 q1 q2 q3; have hB7 := hB6.trans q2; clear q2 q3))
  rw [List.nil_append] at q1
  have ht := PM.RR.toF hB7 q1.rr
  replace hBB := PM.hid (PM.chain hBB.out hB7)
  replace hv := PM.FL.keep hB7 hv
  have hl24 : (ls ++ ls).length ≤ 30 := by rw [List.length_append, ← vH.out]; omega
  clear hal hO0 s5 hn1 hn2 hB6 sq hsz6 t1 q1 hB7
  go_wp2_with fail
  refine (reduce_any _ (ls ++ ls) w7 ht hl24 (fun x hx => hFF.out.len (by simpa using hx))).mono ?_
  rintro e w8 ⟨u, rfl, hO, hB8⟩
  rw [PM.redL_twice hmy.out] at hO
  have hr := hO.rr.imp (R' := PM.fR) (fun _ _ h => PM.fO_fR h)
  replace hBB := PM.hid (PM.chain hBB.out hB8)
  replace hv := PM.FL.keep hB8 hv
  clear hO hB8 ht
  go_wp2_with fail
  refine (reduce_any _ ls w8 hv (by rw [← vH.out]; omega) (fun x hx => hFF.out.len hx)).mono ?_
  rintro e w9 ⟨u2, rfl, hO, hB9⟩
  have hr2 := hO.rr.imp (R' := PM.fR) (fun _ _ h => PM.fO_fR h)
  replace hBB := PM.hid (PM.chain hBB.out hB9)
  replace hr := PM.FL.keep hB9 hr
  clear hO hB9 hv
  go_wp2_with fail
  refine (same7_any _ _ _ _ w9 hr hr2).mono ?_
  rintro e w10 ⟨hsm, hBn⟩
  obtain rfl : e = .returned (.bool true) := by rcases hsm with ⟨h, _⟩ | ⟨_, h⟩; exact h; exact absurd rfl h
  replace hBB := PM.hid (PM.chain hBB.out hBn)
  clear hsm hBn hr hr2
  go_wp2_with fail
  go_ret
  exact ⟨by first | rfl | simp, hBB.out⟩
end Go.Proofs.Ytenfjgfpeheepaa
