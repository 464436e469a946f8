/-
  PLAIN FACTS ON NORMS, AND THE WALK OF NormSame.
-/
import Derived.Test.YtbpajgejfnjaeaaNm
namespace Go.Proofs.Ytbpajgejfnjaeaa
open Go.RowKit
set_option linter.unusedVariables false
set_option linter.unusedSimpArgs false
namespace PM
theorem nrmGo_st : ∀ (r st : List Te) (x : Te), x ∈ st → x ∈ nrmGo st r
  | [], st, x, h => h
  | t :: r, st, x, h => by
    rw [nrmGo]
    split
    · exact nrmGo_st r st x h
    · exact nrmGo_st r _ x (by simp [h])
theorem nrmGo_sub : ∀ (r st : List Te) (x : Te), x ∈ nrmGo st r → x ∈ st ∨ x ∈ r
  | [], st, x, h => .inl h
  | t :: r, st, x, h => by
    rw [nrmGo] at h
    split at h
    · rcases nrmGo_sub r st x h with h | h
      · exact .inl h
      · exact .inr (by simp [h])
    · rcases nrmGo_sub r _ x h with h | h
      · simp only [List.mem_append, List.mem_singleton] at h
        rcases h with h | rfl
        · exact .inl h
        · exact .inr (by simp)
      · exact .inr (by simp [h])
theorem nrmGo_len : ∀ (r st : List Te), (nrmGo st r).length ≤ st.length + r.length
  | [], st => by simp [nrmGo]
  | t :: r, st => by
    rw [nrmGo]
    split
    · have := nrmGo_len r st
      simp; omega
    · have := nrmGo_len r (st ++ [t])
      simp at this ⊢; omega
theorem nrmGo_all {H : Te → Prop} : ∀ (r st : List Te), (∀ x y, (x ∈ st ∨ x ∈ r) → (y ∈ st ∨ y ∈ r) → impB x y = true → H x → H y) → (∀ x ∈ nrmGo st r, H x) → ∀ x ∈ r, H x
  | [], _, _, _, x, hx => absurd hx (by simp)
  | t :: r, st, hi, h, x, hx => by
    rw [nrmGo] at h
    split at h
    · rename_i hc
      have ih := nrmGo_all r st (fun x y hx hy => hi x y (hx.imp id (by simp; exact .inr)) (hy.imp id (by simp; exact .inr))) h
      simp only [List.mem_cons] at hx
      rcases hx with rfl | hx
      · simp only [Bool.or_eq_true, List.any_eq_true] at hc
        rcases hc with ⟨y, hy, hc⟩ | ⟨y, hy, hc⟩
        · exact hi y x (.inl hy) (.inr (by simp)) hc (h y (nrmGo_st r st y hy))
        · exact hi y x (.inr (by simp [hy])) (.inr (by simp)) hc (ih y hy)
      · exact ih x hx
    · have ih := nrmGo_all r (st ++ [t]) (fun x y hx hy => hi x y (by simp only [List.mem_append, List.mem_singleton] at hx; rcases hx with (hx | rfl) | hx; exact .inl hx; exact .inr (by simp); exact .inr (by simp [hx])) (by simp only [List.mem_append, List.mem_singleton] at hy; rcases hy with (hy | rfl) | hy; exact .inl hy; exact .inr (by simp); exact .inr (by simp [hy]))) h
      simp only [List.mem_cons] at hx
      rcases hx with rfl | hx
      · exact h x (nrmGo_st r _ x (by simp))
      · exact ih x hx
theorem nrm_mem {l : List Te} {x : Te} (h : x ∈ nrm l) : x ∈ l := by
  rcases nrmGo_sub _ _ _ h with h | h
  · cases h
  · exact (srt_perm l).mem_iff.1 h
theorem nrm_len (l : List Te) : (nrm l).length ≤ l.length := by
  have := nrmGo_len (srt l) []
  rw [srt_len] at this
  simpa [nrm] using this
theorem nrm_fil {l : List Te} (h : filP l) : filP (nrm l) := ⟨Nat.le_trans (nrm_len l) h.1, fun x hx => h.2 x (nrm_mem hx)⟩
theorem nrm_match {l : List Te} {es : List At} (h : filP l) (he : chkP es) : matchB (nrm l) es = matchB l es := by
  unfold matchB
  rw [Bool.eq_iff_iff, List.all_eq_true, List.all_eq_true]
  constructor
  · intro hm x hx
    refine nrmGo_all (H := fun z => holdsB z es = true) (srt l) [] (fun x y hx hy hi hh => ?_) hm x ((srt_perm l).mem_iff.2 hx)
    have hx' : x ∈ l := (srt_perm l).mem_iff.1 (hx.resolve_left (by simp))
    have hy' : y ∈ l := (srt_perm l).mem_iff.1 (hy.resolve_left (by simp))
    exact impP_holds (h.2 x hx') (h.2 y hy') (fun z hz => chkP_may he hz) (of_decide_eq_true hi) hh
  · exact fun hm x hx => hm x (nrm_mem hx)
end PM
set_option maxRecDepth 100000 in
set_option maxHeartbeats 4000000 in
theorem normSame_walk (v : Value) (l : List PM.Te) (ev : Value) (es : List PM.At) (w : World) (hv : PM.TV w v l) (hw : ∀ x ∈ l, x.wf) (he : PM.EV w ev es) (hwe : ∀ x ∈ es, x.wf) :
    Calls Try.prog 4 #[v, ev] w fun e w' => e = .returned (.bool true) ∧ Below w.heap.size w w' := by
  clear hw hwe
  have hBB := PM.hid (Below.refl w.heap.size w)
  obtain ⟨va, vc, hve⟩ := hv.len
  subst hve
  obtain ⟨N, hN⟩ : ∃ N, N = l.length := ⟨_, rfl⟩
  have hNh := PM.hid hN
  rw [← hN] at hv ⊢
  clear hN
  go_enter Try.func4, Try.ntmps4
  go_wp2_with fail
  refine (awake6 _).mono ?_
  rintro e wn1 ⟨rfl, hBn⟩
  replace hv := hv.keep hBn
  replace he := he.keep hBn
  replace hBB := PM.hid (PM.chain hBB.out hBn)
  clear hBn
  go_wp2_with fail
  refine (ffew_any _ l _ hv).mono ?_
  rintro e wf ⟨hF, rfl⟩
  rcases hF with ⟨rfl, hF⟩ | ⟨rfl, hF⟩
  case inr =>
    clear hv he hF
    go_wp2_with fail
    go_ret
    exact ⟨by first | rfl | simp, hBB.out⟩
  have hl10 := hF.1
  clear hF
  go_wp2_with fail
  refine (few_any ev es _ he).mono ?_
  rintro e wf ⟨hF, rfl⟩
  rcases hF with ⟨rfl, hF⟩ | ⟨rfl, hF⟩
  case inr =>
    clear hv he hF
    go_wp2_with fail
    go_ret
    exact ⟨by first | rfl | simp, hBB.out⟩
  clear hF
  by_cases hc : PM.filP l
  case neg =>
    go_wp2_with fail
    refine (fcheck_any _ l _ hv).mono ?_
    rintro e wn2 ⟨rfl, hBn⟩
    rw [PM.filE_no hc]
    replace hv := hv.keep hBn
    replace he := he.keep hBn
    replace hBB := PM.hid (PM.chain hBB.out hBn)
    clear hBn
    clear hv he hc
    go_wp2_with fail
    go_ret
    exact ⟨by first | rfl | simp, hBB.out⟩
  go_wp2_with fail
  refine (fcheck_any _ l _ hv).mono ?_
  rintro e wn3 ⟨rfl, hBn⟩
  rw [PM.filE_yes hc]
  replace hv := hv.keep hBn
  replace he := he.keep hBn
  replace hBB := PM.hid (PM.chain hBB.out hBn)
  clear hBn
  by_cases hk : PM.chkP es
  case neg =>
    go_wp2_with fail
    refine (echeck_any ev es _ he).mono ?_
    rintro e wn4 ⟨rfl, hBn⟩
    rw [PM.chk_no hk]
    replace hv := hv.keep hBn
    replace he := he.keep hBn
    replace hBB := PM.hid (PM.chain hBB.out hBn)
    clear hBn
    clear hv he hk
    go_wp2_with fail
    go_ret
    exact ⟨by first | rfl | simp, hBB.out⟩
  go_wp2_with fail
  refine (echeck_any ev es _ he).mono ?_
  rintro e wn5 ⟨rfl, hBn⟩
  rw [PM.chk_yes hk]
  replace hv := hv.keep hBn
  replace he := he.keep hBn
  replace hBB := PM.hid (PM.chain hBB.out hBn)
  clear hBn
  go_wp2_with fail
  refine (norm_any _ l _ hv hl10).mono ?_
  rintro e wz ⟨u, rfl, hO, hBn⟩
  have hn := hO.em PM.teL_len
  obtain ⟨ua, uc, hue⟩ := hn.len
  subst hue
  clear hO
  replace hv := hv.keep hBn
  replace he := he.keep hBn
  replace hBB := PM.hid (PM.chain hBB.out hBn)
  have hm := PM.hid (PM.nrm_match hc hk)
  have hlen : (PM.nrm l).length ≤ N := by rw [hNh.out]; exact PM.nrm_len l
  have hfil := PM.hid (PM.nrm_fil hc)
  have hN10 : N ≤ 10 := by rw [hNh.out]; exact hl10
  obtain ⟨M, hM⟩ : ∃ M, M = (PM.nrm l).length := ⟨_, rfl⟩
  rw [← hM] at hn hlen ⊢
  clear hM hBn hl10 hc hk
  go_wp2_with fail
  refine (matches_any _ (PM.nrm l) ev es _ hn he).mono ?_
  rintro e wn6 ⟨rfl, hBn⟩
  rw [hm.out]
  replace hv := hv.keep hBn
  replace he := he.keep hBn
  replace hn := hn.keep hBn
  replace hBB := PM.hid (PM.chain hBB.out hBn)
  clear hBn
  go_wp2_with fail
  refine (matches_any _ l ev es _ hv he).mono ?_
  rintro e wn7 ⟨rfl, hBn⟩
  replace hv := hv.keep hBn
  replace he := he.keep hBn
  replace hn := hn.keep hBn
  replace hBB := PM.hid (PM.chain hBB.out hBn)
  clear hBn
  go_wp2_with fail
  refine (fcheck_any _ (PM.nrm l) _ hn).mono ?_
  rintro e wn8 ⟨rfl, hBn⟩
  rw [PM.filE_yes hfil.out]
  replace hv := hv.keep hBn
  replace he := he.keep hBn
  replace hn := hn.keep hBn
  replace hBB := PM.hid (PM.chain hBB.out hBn)
  clear hBn
  clear hv he hn
  go_wp2_with fail
  go_ret
  exact ⟨by first | rfl | simp, hBB.out⟩
end Go.Proofs.Ytbpajgejfnjaeaa
