/-
  THE WALK OF NormShort.
-/
import Derived.Test.YtbpajgejfnjaeaaNs
import Derived.Test.YtbpajgejfnjaeaaRx
import Derived.Test.YtbpajgejfnjaeaaGu
import Derived.Deep.Cut
import Derived.Deep.CutRange
namespace Go.Proofs.Ytbpajgejfnjaeaa
open Go.RowKit
set_option linter.unusedVariables false
set_option linter.unusedSimpArgs false
namespace PM
/-- no test of a list implies another one, and they stand in order -/
def Nst (l : List Te) : Prop := l.Pairwise fun x y => impB x y = false ∧ impB y x = false ∧ tord x y < 0
theorem nrmGo_strict : ∀ (r st : List Te), (∀ x ∈ r, impB x x = true) → Nst st → (∀ x ∈ st, ∀ y ∈ r, impB y x = false ∧ tord x y ≤ 0) → r.Pairwise (fun x y => tord x y ≤ 0) → Nst (nrmGo st r)
  | [], st, _, h, _, _ => h
  | t :: r, st, hs, h, hb, hr => by
    rw [nrmGo]
    rw [List.pairwise_cons] at hr
    split
    · exact nrmGo_strict r st (fun x hx => hs x (by simp [hx])) h (fun x hx y hy => hb x hx y (by simp [hy])) hr.2
    · rename_i hc
      simp only [Bool.or_eq_true, List.any_eq_true, not_or, not_exists, not_and, Bool.not_eq_true] at hc
      refine nrmGo_strict r _ (fun x hx => hs x (by simp [hx])) ?_ ?_ hr.2
      · unfold Nst at *
        rw [List.pairwise_append]
        refine ⟨h, by simp, fun x hx y hy => ?_⟩
        simp only [List.mem_singleton] at hy
        subst hy
        obtain ⟨h1, h2⟩ := hb x hx y (by simp)
        refine ⟨hc.1 x hx, h1, ?_⟩
        by_cases e : tord x y = 0
        · have := tord_zero e
          subst this
          have h3 := hs x (by simp)
          rw [hc.1 x hx] at h3
          cases h3
        · omega
      · intro x hx y hy
        simp only [List.mem_append, List.mem_singleton] at hx
        rcases hx with hx | rfl
        · exact hb x hx y (by simp [hy])
        · exact ⟨hc.2 y hy, hr.1 y hy⟩
theorem srt_sorted (l : List Te) : (srt l).Pairwise fun a b => tord a b ≤ 0 := by
  have := List.pairwise_mergeSort (le := fun x y => !tlt y x) (fun a b c h1 h2 => by
    simp only [Bool.not_eq_true'] at *
    exact swoT.ntrans _ _ _ h2 h1) (fun a b => by
    simp only [Bool.or_eq_true, Bool.not_eq_true']
    by_cases h : tlt b a = true
    · right
      have h' := of_decide_eq_true h
      have := tord_anti a b
      exact tlt_no (by omega)
    · left; simpa using h) l
  refine this.imp fun {a b} h => ?_
  have h' : tlt b a = false := by simpa using h
  have h'' := of_decide_eq_false h'
  have := tord_anti a b
  omega
theorem nrm_Nst {l : List Te} (h : filP l) : Nst (nrm l) :=
  nrmGo_strict _ _ (fun x hx => decide_eq_true (impP_self (h.2 x ((srt_perm l).mem_iff.1 hx)))) .nil (fun x hx => absurd hx (by simp)) (srt_sorted l)
theorem nrm_strict {l : List Te} (h : filP l) (a b : Nat) (x y : Te) (hab : a < b) (hx : (nrm l)[a]? = some x) (hy : (nrm l)[b]? = some y) : impB x y = false ∧ impB y x = false ∧ tord x y < 0 := by
  obtain ⟨ha, rfl⟩ := List.getElem?_eq_some_iff.1 hx
  obtain ⟨hb, rfl⟩ := List.getElem?_eq_some_iff.1 hy
  exact List.pairwise_iff_getElem.1 (nrm_Nst h) a b ha hb hab
theorem nrmGo_id : ∀ (r st : List Te), Nst (st ++ r) → nrmGo st r = st ++ r
  | [], st, _ => by simp [nrmGo]
  | t :: r, st, h => by
    have h0 := h
    unfold Nst at h
    rw [List.pairwise_append, List.pairwise_cons] at h
    rw [nrmGo_in (fun x hx => (h.2.2 x hx t (by simp)).1) (fun x hx => (h.2.1.1 x hx).2.1), nrmGo_id r _ (by simpa using h0)]
    simp
theorem nrm_nrm {l : List Te} (h : filP l) : nrm (nrm l) = nrm l := by
  have hs := nrm_Nst h
  have e : srt (nrm l) = nrm l := srt_eq (List.Perm.refl _) (hs.imp fun h => Int.le_of_lt h.2.2)
  rw [show nrm (nrm l) = nrmGo [] (srt (nrm l)) from rfl, e, nrmGo_id _ _ (by simpa using hs)]
  rfl
theorem nrm_turn (l : List Te) (A : Nat) : nrm (l.drop A ++ l.take A) = nrm l := by
  unfold nrm
  have hp : (l.drop A ++ l.take A).Perm l := by
    have := List.perm_append_comm (l₁ := l.drop A) (l₂ := l.take A)
    rwa [List.take_append_drop] at this
  rw [srt_eq ((srt_perm l).trans hp.symm) (srt_sorted l)]
end PM
theorem teTyS : PM.MTy Try.prog 30 25 5 56 := by
  refine ⟨Try.underlying30, by decide, ?_⟩
  obtain ⟨i, h1, h2, h3, h4⟩ := info_parts (P := Try.prog) (e := 25) (z := .agg #[.string ByteArray.empty, .int .i64 0, .int .i64 0, .int .i64 0, .string ByteArray.empty]) (size := 5) (bytes := 56) (by kernel_rfl)
  exact ⟨i, _, h1, h2, h3, h4, by kernel_rfl⟩
set_option maxRecDepth 100000 in
set_option maxHeartbeats 8000000 in
theorem normShort_walk (v : Value) (l : List PM.Te) (at_ : Int) (hat : (Lit.int .i64 at_).wf = true) (w : World) (hv : PM.TV w v l) (hw : ∀ x ∈ l, x.wf) :
    Calls Try.prog 5 #[v, .int .i64 at_] w fun e w' => e = .returned (.bool true) ∧ Below w.heap.size w w' := by
  clear hw
  obtain ⟨hat1, hat2⟩ := Go.bounds_i64 hat
  clear hat
  have hBB := PM.hid (Below.refl w.heap.size w)
  obtain ⟨va, vc, hve⟩ := hv.len
  subst hve
  go_enter Try.func5, Try.ntmps5
  go_wp2_with fail
  refine (awake6 _).mono ?_
  rintro e wn1 ⟨rfl, hBn⟩
  replace hv := hv.keep hBn
  replace hBB := PM.hid (PM.chain hBB.out hBn)
  clear hBn
  go_wp2_with fail
  refine (ffew_any _ l _ hv).mono ?_
  rintro e wf ⟨hF, rfl⟩
  rcases hF with ⟨rfl, hF⟩ | ⟨rfl, hF⟩
  case inr =>
    clear hv hF
    go_wp2_with fail
    go_ret
    exact ⟨by first | rfl | simp, hBB.out⟩
  have hl10 := hF.1
  clear hF
  by_cases hc : PM.filP l
  case neg =>
    go_wp2_with fail
    refine (fcheck_any _ l _ hv).mono ?_
    rintro e wn2 ⟨rfl, hBn⟩
    rw [PM.filE_no hc]
    replace hv := hv.keep hBn
    replace hBB := PM.hid (PM.chain hBB.out hBn)
    clear hBn
    clear hv hc
    go_wp2_with fail
    go_ret
    exact ⟨by first | rfl | simp, hBB.out⟩
  go_wp2_with fail
  refine (fcheck_any _ l _ hv).mono ?_
  rintro e wn3 ⟨rfl, hBn⟩
  rw [PM.filE_yes hc]
  replace hv := hv.keep hBn
  replace hBB := PM.hid (PM.chain hBB.out hBn)
  clear hBn
  obtain ⟨w5, rfl⟩ : ∃ x : World, x = wn3 := ⟨_, rfl⟩
  have hch := PM.hid hc
  clear hc
  have hl0 : (((l.length : Int) + 1) == 0) = false := by simp; omega
  go_upto_if 23 with fail
  go_cut [1] from 24 to 26 (fun s wx => w5 = wx ∧ ∃ A0 : Int, s = .int .i64 A0 ∧ 0 ≤ A0 ∧ A0 ≤ 9223372036854775807)
  case first =>
    go_wp2_with fail
    all_goals
      go_meet
      exact ⟨rfl, _, rfl, by omega, by omega⟩
  case rest =>
  obtain ⟨rfl, A0, rfl, hA0, hA1⟩ := hcut
  obtain ⟨A, hA⟩ : ∃ A : Nat, (A : Int) = A0 % ((l.length : Int) + 1) := ⟨(A0 % ((l.length : Int) + 1)).toNat, by have := Int.emod_nonneg A0 (show (l.length : Int) + 1 ≠ 0 by omega); omega⟩
  have hAL : A ≤ l.length := by
    have := Int.emod_lt_of_pos A0 (show (0 : Int) < (l.length : Int) + 1 by omega)
    omega
  obtain ⟨ta, tk, ht, hT⟩ := PM.run_takeM teTyN hv (K := A) hAL
  obtain ⟨sa, sk, hs, hS⟩ := PM.run_restM teTyN hv (K := A) hAL
  go_upto_region 7 with fail
  rw [← hA]
  have hAh := PM.hid hA
  clear hA
  go_cut [6] from 32 to 40 (fun s wx => PM.OM PM.teL 5 25 w5.heap.size wx s (l.drop A ++ l.take A) ∧ Below w5.heap.size w5 wx)
  case first =>
    refine wp_region_any (by kernel_rfl) ?_
    change wpAny _ _ _ _ _ _ _ (World.drew w5)
    obtain ⟨wd, hwd⟩ : ∃ x, x = World.drew w5 := ⟨_, rfl⟩
    have hBd : Below w5.heap.size w5 wd := by rw [hwd]; exact (Below.refl _ _).drew
    rw [← hwd]
    clear hwd
    refine wpAny_take (i := 1) (v := ?_) rfl (by kernel_rfl) (by kernel_rfl) (by kernel_rfl) (fun _ _ _ h => h) (Or.inl ⟨by rfl, ?_⟩) ?_
    rotate_left
    · intro W
      go_simp
      try with_reducible rfl
    refine wpAny_take (i := 2) (v := ?_) rfl (by kernel_rfl) (by kernel_rfl) (by kernel_rfl) (fun _ _ _ h => h) (Or.inl ⟨by rfl, ?_⟩) ?_
    rotate_left
    · intro W
      go_simp
      try with_reducible rfl
    refine wpAny_take (i := 3) (v := ?_) rfl (by kernel_rfl) (by kernel_rfl) (by kernel_rfl) (fun _ _ _ h => h) (Or.inl ⟨by rfl, ?_⟩) ?_
    rotate_left
    · intro W
      go_simp
      try with_reducible rfl
    refine wpAny_take (i := 5) (v := ?_) rfl (by kernel_rfl) (by kernel_rfl) (by kernel_rfl) (fun _ _ _ h => h) (Or.inl ⟨by rfl, ?_⟩) ?_
    rotate_left
    · intro W
      go_simp
      try with_reducible rfl
    refine wpAny_take (i := 6) (v := ?_) rfl (by kernel_rfl) (by kernel_rfl) (by kernel_rfl) (fun _ _ _ h => h) (Or.inl ⟨by rfl, ?_⟩) ?_
    rotate_left
    · intro W
      go_simp
      try with_reducible rfl
    refine wpAny_take (i := 7) (v := ?_) rfl (by kernel_rfl) (by kernel_rfl) (by kernel_rfl) (fun _ _ _ h => h) (Or.inl ⟨by rfl, ?_⟩) ?_
    rotate_left
    · intro W
      go_simp
      try with_reducible rfl
    refine wpAny_ready (rs := [0]) (by kernel_rfl) (by simp) ?_
    refine PM.ready1 rfl ?_ ?_
    · go_wp2_with fail
      obtain ⟨g2, hg2⟩ : ∃ g, g = wd.heap.size := ⟨_, rfl⟩
      obtain ⟨W1, hW1⟩ : ∃ x, x = wd.alloc (.cells #[] 25) := ⟨_, rfl⟩
      have hal4 : Below wd.heap.size wd W1 := by rw [hW1]; exact (Below.refl _ _).alloc (Nat.le_refl _) _
      have hO3 : PM.OM PM.teL 5 25 w5.heap.size W1 (.slice (some ⟨g2, 0, none⟩) 0 0) [] := by rw [hW1, hg2]; exact PM.OM.made wd #[] 0 (by decide) rfl hBd.size
      have hB5 := PM.chain hBd hal4
      rw [← hW1, ← hg2]
      clear hW1 hg2
      refine ⟨rfl, ?_⟩
      refine wpAny_ready (rs := [4]) (by kernel_rfl) (by simp) ?_
      refine PM.ready1 rfl ?_ ?_
      · have hs13 := hS.keep hB5
        have hz14 := hB5.size
        have hn15 : (([] : List PM.Te).length + (l.drop A : List PM.Te).length) * 56 ≤ 140737488355328 ∧ ([] : List PM.Te).length + (l.drop A : List PM.Te).length ≤ maxLen := by
          unfold maxLen
          simp
          omega
        refine PM.wpList_em2 (e := PM.teL) teTyS teTyN.sl PM.teL_len PM.teL_one w5.heap.size rfl _ _ rfl (.slice (some ⟨g2, 0, none⟩) 0 0) _ ([]) (l.drop A) rfl rfl hO3 hs13 hn15.1 hn15.2 hz14 ?_
        intro v6 W7 q8 q9 q10 q11
        go_wp2_with fail
        have hB12 := hB5.trans q9
        refine ⟨rfl, ?_⟩
        refine wpAny_ready (rs := [8]) (by kernel_rfl) (by simp) ?_
        refine PM.ready1 rfl ?_ ?_
        · have hs23 := hT.keep hB12
          have hz24 := hB12.size
          have hn25 : (([] ++ l.drop A : List PM.Te).length + (l.take A : List PM.Te).length) * 56 ≤ 140737488355328 ∧ ([] ++ l.drop A : List PM.Te).length + (l.take A : List PM.Te).length ≤ maxLen := by
            unfold maxLen
            simp
            omega
          refine PM.wpList_em2 (e := PM.teL) teTyS teTyN.sl PM.teL_len PM.teL_one w5.heap.size rfl _ _ rfl (v6) _ ([] ++ l.drop A) (l.take A) rfl rfl q8 hs23 hn25.1 hn25.2 hz24 ?_
          intro v16 W17 q18 q19 q20 q21
          go_wp2_with fail
          have hB22 := hB12.trans q19
          refine ⟨rfl, ?_⟩
          refine wpAny_ready (rs := [9]) (by kernel_rfl) (by simp) ?_
          refine PM.ready1 rfl ?_ ?_
          · go_wp2_with fail
            refine ⟨rfl, ?_⟩
            refine wpAny_done (by kernel_rfl) ?_ _
            go_wp2_with fail
            go_meet
            exact ⟨(by simpa using q18), hB22⟩
          exact AllReady.nil
        exact AllReady.nil
      exact AllReady.nil
    exact AllReady.nil

  case rest =>
  obtain ⟨hO6, hB6⟩ := hcut
  obtain ⟨w7, rfl⟩ : ∃ x, x = wc := ⟨_, rfl⟩
  have hR := hO6.em PM.teL_len
  replace hv := hv.keep hB6
  replace hBB := PM.hid (PM.chain hBB.out hB6)
  have hlR : (l.drop A ++ l.take A).length ≤ 10 := by rw [List.length_append, List.length_drop, List.length_take]; omega
  have hRn : Hid (PM.nrm (l.drop A ++ l.take A) = PM.nrm l) := PM.hid (PM.nrm_turn l A)
  clear ht hs hT hS hO6 hB6
  go_wp2_with fail
  refine (norm_any _ l _ hv hl10).mono ?_
  rintro e w8 ⟨u, rfl, hO, hBn⟩
  have hn := hO.em PM.teL_len
  clear hO
  replace hv := hv.keep hBn
  replace hR := hR.keep hBn
  replace hBB := PM.hid (PM.chain hBB.out hBn)
  clear hBn hv
  obtain ⟨ua, uc, hue⟩ := hn.len
  subst hue
  have hnl10 : (PM.nrm l).length ≤ 10 := Nat.le_trans (PM.nrm_len l) hl10
  have hnn : Hid (PM.nrm (PM.nrm l) = PM.nrm l) := PM.hid (PM.nrm_nrm hch.out)
  have hstr := PM.hid (PM.nrm_strict hch.out)
  generalize hs0 : PM.nrm l = s at *
  clear hs0
  obtain ⟨N, hN⟩ : ∃ N, N = s.length := ⟨_, rfl⟩
  have hNh := PM.hid hN
  have hnl := hnl10
  rw [← hN] at hn hnl10 ⊢
  clear hN
  go_wp2_with fail
  refine (norm_any _ s _ hn hnl).mono ?_
  rintro e w9 ⟨u2, rfl, hO, hBn⟩
  rw [hnn.out] at hO
  have hn2 := hO.em PM.teL_len
  clear hO
  replace hR := hR.keep hBn
  replace hn := hn.keep hBn
  replace hBB := PM.hid (PM.chain hBB.out hBn)
  clear hBn
  go_wp2_with fail
  refine (fsame_any _ _ s s _ hn2 hn).mono ?_
  rintro e w10 ⟨hsm, hBn⟩
  obtain rfl : e = .returned (.bool true) := by rcases hsm with ⟨h, _⟩ | ⟨_, h⟩; exact h; exact absurd rfl h
  clear hsm
  replace hR := hR.keep hBn
  replace hn := hn.keep hBn
  replace hn2 := hn2.keep hBn
  replace hBB := PM.hid (PM.chain hBB.out hBn)
  clear hBn
  clear hn2
  go_wp2_with fail
  refine (norm_any _ _ _ hR hlR).mono ?_
  rintro e w11 ⟨u3, rfl, hO, hBn⟩
  rw [hRn.out] at hO
  have hn2 := hO.em PM.teL_len
  clear hO
  replace hR := hR.keep hBn
  replace hn := hn.keep hBn
  replace hBB := PM.hid (PM.chain hBB.out hBn)
  clear hBn hR
  go_wp2_with fail
  refine (fsame_any _ _ s s _ hn2 hn).mono ?_
  rintro e w12 ⟨hsm, hBn⟩
  obtain rfl : e = .returned (.bool true) := by rcases hsm with ⟨h, _⟩ | ⟨_, h⟩; exact h; exact absurd rfl h
  clear hsm
  replace hn := hn.keep hBn
  replace hn2 := hn2.keep hBn
  replace hBB := PM.hid (PM.chain hBB.out hBn)
  clear hBn
  clear hn2 hRn hlR hnn
  obtain ⟨wz, rfl⟩ : ∃ zx : World, zx = w12 := ⟨_, rfl⟩
  have hnh := PM.hid hn
  obtain ⟨ad, cap, hve, hcap, hmax, hel⟩ := hn
  injection hve with e1 e2 e3
  subst e1
  have helh := PM.hid hel
  clear hel e2 e3 hcap hmax
  go_wp2_with fail
  go_loopw [10] (fun i wr => ∃ na : Nat, i = .int .i64 na ∧ na ≤ N ∧ Hid (Below wz.heap.size wz wr)) (fun i _ => N - (intOf i).toNat)
  case atStart => exact ⟨0, rfl, by omega, PM.hid (Below.refl _ _)⟩
  case round =>
    obtain ⟨na, rfl, ha, hB⟩ := hrel
    obtain ⟨wo, rfl⟩ : ∃ wo : World, wo = wr := ⟨_, rfl⟩
    by_cases hlt : na < N
    · go_wp2_with fail
      go_loopw [11] (fun i wr => ∃ nb : Nat, i = .int .i64 nb ∧ nb ≤ N ∧ Hid (Below wz.heap.size wz wr)) (fun i _ => N - (intOf i).toNat)
      case atStart => exact ⟨0, rfl, by omega, hB⟩
      case round =>
        obtain ⟨nb, rfl, hb, hB2⟩ := hrel
        by_cases hlb : nb < N
        · obtain ⟨zx, hx⟩ : ∃ zx, s[na]? = some zx := ⟨s[na]'(by rw [← hNh.out]; exact hlt), List.getElem?_eq_getElem _⟩
          obtain ⟨zy, hy⟩ : ∃ zy, s[nb]? = some zy := ⟨s[nb]'(by rw [← hNh.out]; exact hlb), List.getElem?_eq_getElem _⟩
          obtain ⟨g, off, rfl, hce⟩ := helh.out (by rw [← hNh.out]; omega)
          have hlx := hce na zx hx
          have hly := hce nb zy hy
          have hcx : Hid (PM.Cs wr g (off + na * 5) zx) := PM.hid ⟨by have := PM.cellA hB2.out (hlx 0 _ rfl); exact this, PM.cellA hB2.out (hlx 1 _ rfl), PM.cellA hB2.out (hlx 2 _ rfl), PM.cellA hB2.out (hlx 3 _ rfl), PM.cellA hB2.out (hlx 4 _ rfl)⟩
          have hcy : Hid (PM.Cs wr g (off + nb * 5) zy) := PM.hid ⟨by have := PM.cellA hB2.out (hly 0 _ rfl); exact this, PM.cellA hB2.out (hly 1 _ rfl), PM.cellA hB2.out (hly 2 _ rfl), PM.cellA hB2.out (hly 3 _ rfl), PM.cellA hB2.out (hly 4 _ rfl)⟩
          have hxy := PM.hid (And.intro hx hy)
          clear hlx hly hx hy hce
          rcases Nat.lt_trichotomy na nb with hab | hab | hab
          · obtain ⟨f1, f2, f3⟩ := hstr.out na nb zx zy hab hxy.out.1 hxy.out.2
            have ff := PM.hid (And.intro f1 f3)
            clear f1 f2 f3
            have q1 : ((na : Int) != (nb : Int)) = true := by simp; omega
            have q2 : decide ((na : Int) < (nb : Int)) = true := by simp; omega
            have q3 : decide (na < nb) = true := by simp; omega
            go_upto_region 17 with fail
            refine PM.wp_region_st [some 63, some 64, some 65, some 66, some 67, some 68, some 69, some 70, some 71, some 72, some 73, some 74, some 75, some 76, some 77, some 78, some 79, some 80, some 81, some 82, some 83, some 84, some 85, some 86, some 87, some 88, some 89, some 90, some 91, some 92, some 93] [fun x _ => x = .int .i64 (na : Int), fun x _ => x = .int .i64 (nb : Int), fun x _ => x = .bool true, fun x _ => x = .bool true, fun x _ => x = .slice (some ⟨g, off, none⟩) N uc, fun x _ => x = .int .i64 (na : Int), fun x _ => x = .pointer (some ⟨g, off + na * 5, none⟩), fun x _ => x = .agg #[.string zx.name, .int .i64 zx.op, .int .i64 zx.k, .int .i64 zx.n, .string zx.s], fun x _ => x = .slice (some ⟨g, off, none⟩) N uc, fun x _ => x = .int .i64 (nb : Int), fun x _ => x = .pointer (some ⟨g, off + nb * 5, none⟩), fun x _ => x = .agg #[.string zy.name, .int .i64 zy.op, .int .i64 zy.k, .int .i64 zy.n, .string zy.s], fun x _ => x = .bool false, fun x _ => x = .bool false, fun x _ => x = .bool false, fun x _ => x = .int .i64 (na : Int), fun x _ => x = .int .i64 (nb : Int), fun x _ => x = .bool true, fun x _ => x = .bool true, fun x _ => x = .slice (some ⟨g, off, none⟩) N uc, fun x _ => x = .int .i64 (na : Int), fun x _ => x = .pointer (some ⟨g, off + na * 5, none⟩), fun x _ => x = .agg #[.string zx.name, .int .i64 zx.op, .int .i64 zx.k, .int .i64 zx.n, .string zx.s], fun x _ => x = .slice (some ⟨g, off, none⟩) N uc, fun x _ => x = .int .i64 (nb : Int), fun x _ => x = .pointer (some ⟨g, off + nb * 5, none⟩), fun x _ => x = .agg #[.string zy.name, .int .i64 zy.op, .int .i64 zy.k, .int .i64 zy.n, .string zy.s], fun x _ => x = .int .i64 (PM.tord zx zy), fun x _ => x = .bool false, fun x _ => x = .bool false, fun x _ => x = .bool false] (by kernel_rfl) (by kernel_rfl) (by kernel_rfl) ?_ ?_ ?_
            · simp only [List.forall_mem_cons]
              refine ⟨?_, ?_, ?_, ?_, ?_, ?_, ?_, ?_, ?_, ?_, ?_, ?_, ?_, ?_, ?_, ?_, ?_, ?_, ?_, ?_, ?_, ?_, ?_, ?_, ?_, ?_, ?_, ?_, ?_, ?_, ?_, by simp⟩
              all_goals (intro x W W' h hb; first | exact h | exact PM.BS.keep hb h | exact PM.OW.keep hb h)
            · refine ⟨?_, ?_, ?_, ?_, ?_, ?_, ?_, ?_, ?_, ?_, ?_, ?_, ?_, ?_, ?_, ?_, ?_, ?_, ?_, ?_, ?_, ?_, ?_, ?_, ?_, ?_, ?_, ?_, ?_, ?_, ?_, trivial⟩
              all_goals
                intro a W hB hF hd
                have k7 := hF 7 rfl
                have k10 := hF 10 rfl
                have k11 := hF 11 rfl
                have c0 : W.cell? ⟨g, off + na * 5, none⟩ = some (.string zx.name) := (PM.cell_keep hB (hcx.out.c0))
                have c1 : W.cell? ⟨g, off + na * 5 + 1, none⟩ = some (.int .i64 zx.op) := (PM.cell_keep hB (hcx.out.c1))
                have c2 : W.cell? ⟨g, off + na * 5 + 2, none⟩ = some (.int .i64 zx.k) := (PM.cell_keep hB (hcx.out.c2))
                have c3 : W.cell? ⟨g, off + na * 5 + 3, none⟩ = some (.int .i64 zx.n) := (PM.cell_keep hB (hcx.out.c3))
                have c4 : W.cell? ⟨g, off + na * 5 + 4, none⟩ = some (.string zx.s) := (PM.cell_keep hB (hcx.out.c4))
                have d0 : W.cell? ⟨g, off + nb * 5, none⟩ = some (.string zy.name) := (PM.cell_keep hB (hcy.out.c0))
                have d1 : W.cell? ⟨g, off + nb * 5 + 1, none⟩ = some (.int .i64 zy.op) := (PM.cell_keep hB (hcy.out.c1))
                have d2 : W.cell? ⟨g, off + nb * 5 + 2, none⟩ = some (.int .i64 zy.k) := (PM.cell_keep hB (hcy.out.c2))
                have d3 : W.cell? ⟨g, off + nb * 5 + 3, none⟩ = some (.int .i64 zy.n) := (PM.cell_keep hB (hcy.out.c3))
                have d4 : W.cell? ⟨g, off + nb * 5 + 4, none⟩ = some (.string zy.s) := (PM.cell_keep hB (hcy.out.c4))
                have hq : decide ((0 : Int) ≤ PM.tord zx zy) = false := decide_eq_false (Int.not_le.2 ff.out.2)
                clear hF
                simp [PM.depsL, PM.spec, PM.sl, Region.binds] at hd k7 k10 k11
                simp only [PM.wantL, PM.spec]
                try simp only [PM.sl]
                go_simp
              all_goals try exact Below.refl _ _
              · refine (implies_any zx zy W).mono ?_
                rw [ff.out.1]
                rintro e w' ⟨rfl, hb⟩
                exact ⟨hb, rfl⟩
              · refine (torder_any zx zy W).mono ?_
                rintro e w' ⟨rfl, hb⟩
                exact ⟨hb, rfl⟩
            · intro G W hB hF hS
              have h93 : G 93 = .bool false := by simp [PM.allSp, PM.spec] at hS; simp [hS]
              have k0 := hF 0 rfl
              have k1 := hF 1 rfl
              have k2 := hF 2 rfl
              have k3 := hF 3 rfl
              have k4 := hF 4 rfl
              have k5 := hF 5 rfl
              have k6 := hF 6 rfl
              have k7 := hF 7 rfl
              have k8 := hF 8 rfl
              have k9 := hF 9 rfl
              have k10 := hF 10 rfl
              have k11 := hF 11 rfl
              have k12 := hF 12 rfl
              have k13 := hF 13 rfl
              have k14 := hF 14 rfl
              have k15 := hF 15 rfl
              have k16 := hF 16 rfl
              have k17 := hF 17 rfl
              have k18 := hF 18 rfl
              have k19 := hF 19 rfl
              have k20 := hF 20 rfl
              have k21 := hF 21 rfl
              have k22 := hF 22 rfl
              have k23 := hF 23 rfl
              have k24 := hF 24 rfl
              have k25 := hF 25 rfl
              have k26 := hF 26 rfl
              have k27 := hF 27 rfl
              have k28 := hF 28 rfl
              have k29 := hF 29 rfl
              have k30 := hF 30 rfl
              have k31 := hF 31 rfl
              have k32 := hF 32 rfl
              have k33 := hF 33 rfl
              have k34 := hF 34 rfl
              have k35 := hF 35 rfl
              have k36 := hF 36 rfl
              have k37 := hF 37 rfl
              have k38 := hF 38 rfl
              have k39 := hF 39 rfl
              have k40 := hF 40 rfl
              have k41 := hF 41 rfl
              have k42 := hF 42 rfl
              have k43 := hF 43 rfl
              have k44 := hF 44 rfl
              have k45 := hF 45 rfl
              have k46 := hF 46 rfl
              have k47 := hF 47 rfl
              have k48 := hF 48 rfl
              have k49 := hF 49 rfl
              have k50 := hF 50 rfl
              have k51 := hF 51 rfl
              have k52 := hF 52 rfl
              have k53 := hF 53 rfl
              have k54 := hF 54 rfl
              have k55 := hF 55 rfl
              have k56 := hF 56 rfl
              have k57 := hF 57 rfl
              have k58 := hF 58 rfl
              have k59 := hF 59 rfl
              have k60 := hF 60 rfl
              have k61 := hF 61 rfl
              have k62 := hF 62 rfl
              have k94 := hF 94 rfl
              have k95 := hF 95 rfl
              have k96 := hF 96 rfl
              have k97 := hF 97 rfl
              have k98 := hF 98 rfl
              have k99 := hF 99 rfl
              have k100 := hF 100 rfl
              simp [PM.sl] at k0 k1 k2 k3 k4 k5 k6 k7 k8 k9 k10 k11 k12 k13 k14 k15 k16 k17 k18 k19 k20 k21 k22 k23 k24 k25 k26 k27 k28 k29 k30 k31 k32 k33 k34 k35 k36 k37 k38 k39 k40 k41 k42 k43 k44 k45 k46 k47 k48 k49 k50 k51 k52 k53 k54 k55 k56 k57 k58 k59 k60 k61 k62 k94 k95 k96 k97 k98 k99 k100
              rw [show ((List.range (Array.size _)).map G).toArray = #[G 0, G 1, G 2, G 3, G 4, G 5, G 6, G 7, G 8, G 9, G 10, G 11, G 12, G 13, G 14, G 15, G 16, G 17, G 18, G 19, G 20, G 21, G 22, G 23, G 24, G 25, G 26, G 27, G 28, G 29, G 30, G 31, G 32, G 33, G 34, G 35, G 36, G 37, G 38, G 39, G 40, G 41, G 42, G 43, G 44, G 45, G 46, G 47, G 48, G 49, G 50, G 51, G 52, G 53, G 54, G 55, G 56, G 57, G 58, G 59, G 60, G 61, G 62, G 63, G 64, G 65, G 66, G 67, G 68, G 69, G 70, G 71, G 72, G 73, G 74, G 75, G 76, G 77, G 78, G 79, G 80, G 81, G 82, G 83, G 84, G 85, G 86, G 87, G 88, G 89, G 90, G 91, G 92, G 93, G 94, G 95, G 96, G 97, G 98, G 99, G 100] from rfl]
              clear hF hS
              rw [h93, k0, k1, k2, k3, k4, k5, k6, k7, k8, k9, k10, k11, k12, k13, k14, k15, k16, k17, k18, k19, k20, k21, k22, k23, k24, k25, k26, k27, k28, k29, k30, k31, k32, k33, k34, k35, k36, k37, k38, k39, k40, k41, k42, k43, k44, k45, k46, k47, k48, k49, k50, k51, k52, k53, k54, k55, k56, k57, k58, k59, k60, k61, k62, k94, k95, k96, k97, k98, k99, k100]
              clear h93 k0 k1 k2 k3 k4 k5 k6 k7 k8 k9 k10 k11 k12 k13 k14 k15 k16 k17 k18 k19 k20 k21 k22 k23 k24 k25 k26 k27 k28 k29 k30 k31 k32 k33 k34 k35 k36 k37 k38 k39 k40 k41 k42 k43 k44 k45 k46 k47 k48 k49 k50 k51 k52 k53 k54 k55 k56 k57 k58 k59 k60 k61 k62 k94 k95 k96 k97 k98 k99 k100
              have hB3 := PM.hid (PM.chain hB2.out hB)
              clear hB hB2 hcx hcy
              go_wp2_with fail
              exact ⟨⟨nb + 1, by go_num, by omega, hB3⟩, by simp only [intOf]; omega⟩
          · subst hab
            have q1 : ((na : Int) != (na : Int)) = false := by simp
            have q2 : decide ((na : Int) < (na : Int)) = false := by simp
            have q3 : decide (na < na) = false := by simp
            go_upto_region 17 with fail
            refine PM.wp_region_st [some 63, some 64, some 65, some 66, some 67, some 68, some 69, some 70, some 71, some 72, some 73, some 74, some 75, some 76, some 77, some 78, some 79, some 80, some 81, some 82, some 83, some 84, some 85, some 86, some 87, some 88, some 89, some 90, some 91, some 92, some 93] [fun x _ => x = .int .i64 (na : Int), fun x _ => x = .int .i64 (na : Int), fun x _ => x = .bool false, fun x _ => x = .bool false, fun _ _ => True, fun _ _ => True, fun _ _ => True, fun _ _ => True, fun _ _ => True, fun _ _ => True, fun _ _ => True, fun _ _ => True, fun _ _ => True, fun x _ => x = .bool false, fun x _ => x = .bool false, fun x _ => x = .int .i64 (na : Int), fun x _ => x = .int .i64 (na : Int), fun x _ => x = .bool false, fun x _ => x = .bool false, fun _ _ => True, fun _ _ => True, fun _ _ => True, fun _ _ => True, fun _ _ => True, fun _ _ => True, fun _ _ => True, fun _ _ => True, fun _ _ => True, fun _ _ => True, fun x _ => x = .bool false, fun x _ => x = .bool false] (by kernel_rfl) (by kernel_rfl) (by kernel_rfl) ?_ ?_ ?_
            · simp only [List.forall_mem_cons]
              refine ⟨?_, ?_, ?_, ?_, ?_, ?_, ?_, ?_, ?_, ?_, ?_, ?_, ?_, ?_, ?_, ?_, ?_, ?_, ?_, ?_, ?_, ?_, ?_, ?_, ?_, ?_, ?_, ?_, ?_, ?_, ?_, by simp⟩
              all_goals (intro x W W' h hb; first | exact h | exact PM.BS.keep hb h | exact PM.OW.keep hb h)
            · refine ⟨?_, ?_, ?_, ?_, ?_, ?_, ?_, ?_, ?_, ?_, ?_, ?_, ?_, ?_, ?_, ?_, ?_, ?_, ?_, ?_, ?_, ?_, ?_, ?_, ?_, ?_, ?_, ?_, ?_, ?_, ?_, trivial⟩
              all_goals
                intro a W hB hF hd
                have k7 := hF 7 rfl
                have k10 := hF 10 rfl
                have k11 := hF 11 rfl
                clear hF
                simp [PM.depsL, PM.spec, PM.sl, Region.binds] at hd k7 k10 k11
                simp only [PM.wantL, PM.spec]
                try simp only [PM.sl]
                go_simp
              all_goals try exact Below.refl _ _
            · intro G W hB hF hS
              have h93 : G 93 = .bool false := by simp [PM.allSp, PM.spec] at hS; simp [hS]
              have k0 := hF 0 rfl
              have k1 := hF 1 rfl
              have k2 := hF 2 rfl
              have k3 := hF 3 rfl
              have k4 := hF 4 rfl
              have k5 := hF 5 rfl
              have k6 := hF 6 rfl
              have k7 := hF 7 rfl
              have k8 := hF 8 rfl
              have k9 := hF 9 rfl
              have k10 := hF 10 rfl
              have k11 := hF 11 rfl
              have k12 := hF 12 rfl
              have k13 := hF 13 rfl
              have k14 := hF 14 rfl
              have k15 := hF 15 rfl
              have k16 := hF 16 rfl
              have k17 := hF 17 rfl
              have k18 := hF 18 rfl
              have k19 := hF 19 rfl
              have k20 := hF 20 rfl
              have k21 := hF 21 rfl
              have k22 := hF 22 rfl
              have k23 := hF 23 rfl
              have k24 := hF 24 rfl
              have k25 := hF 25 rfl
              have k26 := hF 26 rfl
              have k27 := hF 27 rfl
              have k28 := hF 28 rfl
              have k29 := hF 29 rfl
              have k30 := hF 30 rfl
              have k31 := hF 31 rfl
              have k32 := hF 32 rfl
              have k33 := hF 33 rfl
              have k34 := hF 34 rfl
              have k35 := hF 35 rfl
              have k36 := hF 36 rfl
              have k37 := hF 37 rfl
              have k38 := hF 38 rfl
              have k39 := hF 39 rfl
              have k40 := hF 40 rfl
              have k41 := hF 41 rfl
              have k42 := hF 42 rfl
              have k43 := hF 43 rfl
              have k44 := hF 44 rfl
              have k45 := hF 45 rfl
              have k46 := hF 46 rfl
              have k47 := hF 47 rfl
              have k48 := hF 48 rfl
              have k49 := hF 49 rfl
              have k50 := hF 50 rfl
              have k51 := hF 51 rfl
              have k52 := hF 52 rfl
              have k53 := hF 53 rfl
              have k54 := hF 54 rfl
              have k55 := hF 55 rfl
              have k56 := hF 56 rfl
              have k57 := hF 57 rfl
              have k58 := hF 58 rfl
              have k59 := hF 59 rfl
              have k60 := hF 60 rfl
              have k61 := hF 61 rfl
              have k62 := hF 62 rfl
              have k94 := hF 94 rfl
              have k95 := hF 95 rfl
              have k96 := hF 96 rfl
              have k97 := hF 97 rfl
              have k98 := hF 98 rfl
              have k99 := hF 99 rfl
              have k100 := hF 100 rfl
              simp [PM.sl] at k0 k1 k2 k3 k4 k5 k6 k7 k8 k9 k10 k11 k12 k13 k14 k15 k16 k17 k18 k19 k20 k21 k22 k23 k24 k25 k26 k27 k28 k29 k30 k31 k32 k33 k34 k35 k36 k37 k38 k39 k40 k41 k42 k43 k44 k45 k46 k47 k48 k49 k50 k51 k52 k53 k54 k55 k56 k57 k58 k59 k60 k61 k62 k94 k95 k96 k97 k98 k99 k100
              rw [show ((List.range (Array.size _)).map G).toArray = #[G 0, G 1, G 2, G 3, G 4, G 5, G 6, G 7, G 8, G 9, G 10, G 11, G 12, G 13, G 14, G 15, G 16, G 17, G 18, G 19, G 20, G 21, G 22, G 23, G 24, G 25, G 26, G 27, G 28, G 29, G 30, G 31, G 32, G 33, G 34, G 35, G 36, G 37, G 38, G 39, G 40, G 41, G 42, G 43, G 44, G 45, G 46, G 47, G 48, G 49, G 50, G 51, G 52, G 53, G 54, G 55, G 56, G 57, G 58, G 59, G 60, G 61, G 62, G 63, G 64, G 65, G 66, G 67, G 68, G 69, G 70, G 71, G 72, G 73, G 74, G 75, G 76, G 77, G 78, G 79, G 80, G 81, G 82, G 83, G 84, G 85, G 86, G 87, G 88, G 89, G 90, G 91, G 92, G 93, G 94, G 95, G 96, G 97, G 98, G 99, G 100] from rfl]
              clear hF hS
              rw [h93, k0, k1, k2, k3, k4, k5, k6, k7, k8, k9, k10, k11, k12, k13, k14, k15, k16, k17, k18, k19, k20, k21, k22, k23, k24, k25, k26, k27, k28, k29, k30, k31, k32, k33, k34, k35, k36, k37, k38, k39, k40, k41, k42, k43, k44, k45, k46, k47, k48, k49, k50, k51, k52, k53, k54, k55, k56, k57, k58, k59, k60, k61, k62, k94, k95, k96, k97, k98, k99, k100]
              clear h93 k0 k1 k2 k3 k4 k5 k6 k7 k8 k9 k10 k11 k12 k13 k14 k15 k16 k17 k18 k19 k20 k21 k22 k23 k24 k25 k26 k27 k28 k29 k30 k31 k32 k33 k34 k35 k36 k37 k38 k39 k40 k41 k42 k43 k44 k45 k46 k47 k48 k49 k50 k51 k52 k53 k54 k55 k56 k57 k58 k59 k60 k61 k62 k94 k95 k96 k97 k98 k99 k100
              have hB3 := PM.hid (PM.chain hB2.out hB)
              clear hB hB2 hcx hcy
              go_wp2_with fail
              exact ⟨⟨na + 1, by go_num, by omega, hB3⟩, by simp only [intOf]; omega⟩
          · obtain ⟨f1, f2, f3⟩ := hstr.out nb na zy zx hab hxy.out.2 hxy.out.1
            have ff := PM.hid f2
            clear f1 f2 f3
            have q1 : ((na : Int) != (nb : Int)) = true := by simp; omega
            have q2 : decide ((na : Int) < (nb : Int)) = false := by simp; omega
            have q3 : decide (na < nb) = false := by simp; omega
            go_upto_region 17 with fail
            refine PM.wp_region_st [some 63, some 64, some 65, some 66, some 67, some 68, some 69, some 70, some 71, some 72, some 73, some 74, some 75, some 76, some 77, some 78, some 79, some 80, some 81, some 82, some 83, some 84, some 85, some 86, some 87, some 88, some 89, some 90, some 91, some 92, some 93] [fun x _ => x = .int .i64 (na : Int), fun x _ => x = .int .i64 (nb : Int), fun x _ => x = .bool true, fun x _ => x = .bool true, fun x _ => x = .slice (some ⟨g, off, none⟩) N uc, fun x _ => x = .int .i64 (na : Int), fun x _ => x = .pointer (some ⟨g, off + na * 5, none⟩), fun x _ => x = .agg #[.string zx.name, .int .i64 zx.op, .int .i64 zx.k, .int .i64 zx.n, .string zx.s], fun x _ => x = .slice (some ⟨g, off, none⟩) N uc, fun x _ => x = .int .i64 (nb : Int), fun x _ => x = .pointer (some ⟨g, off + nb * 5, none⟩), fun x _ => x = .agg #[.string zy.name, .int .i64 zy.op, .int .i64 zy.k, .int .i64 zy.n, .string zy.s], fun x _ => x = .bool false, fun x _ => x = .bool false, fun x _ => x = .bool false, fun x _ => x = .int .i64 (na : Int), fun x _ => x = .int .i64 (nb : Int), fun x _ => x = .bool false, fun x _ => x = .bool false, fun _ _ => True, fun _ _ => True, fun _ _ => True, fun _ _ => True, fun _ _ => True, fun _ _ => True, fun _ _ => True, fun _ _ => True, fun _ _ => True, fun _ _ => True, fun x _ => x = .bool false, fun x _ => x = .bool false] (by kernel_rfl) (by kernel_rfl) (by kernel_rfl) ?_ ?_ ?_
            · simp only [List.forall_mem_cons]
              refine ⟨?_, ?_, ?_, ?_, ?_, ?_, ?_, ?_, ?_, ?_, ?_, ?_, ?_, ?_, ?_, ?_, ?_, ?_, ?_, ?_, ?_, ?_, ?_, ?_, ?_, ?_, ?_, ?_, ?_, ?_, ?_, by simp⟩
              all_goals (intro x W W' h hb; first | exact h | exact PM.BS.keep hb h | exact PM.OW.keep hb h)
            · refine ⟨?_, ?_, ?_, ?_, ?_, ?_, ?_, ?_, ?_, ?_, ?_, ?_, ?_, ?_, ?_, ?_, ?_, ?_, ?_, ?_, ?_, ?_, ?_, ?_, ?_, ?_, ?_, ?_, ?_, ?_, ?_, trivial⟩
              all_goals
                intro a W hB hF hd
                have k7 := hF 7 rfl
                have k10 := hF 10 rfl
                have k11 := hF 11 rfl
                have c0 : W.cell? ⟨g, off + na * 5, none⟩ = some (.string zx.name) := (PM.cell_keep hB (hcx.out.c0))
                have c1 : W.cell? ⟨g, off + na * 5 + 1, none⟩ = some (.int .i64 zx.op) := (PM.cell_keep hB (hcx.out.c1))
                have c2 : W.cell? ⟨g, off + na * 5 + 2, none⟩ = some (.int .i64 zx.k) := (PM.cell_keep hB (hcx.out.c2))
                have c3 : W.cell? ⟨g, off + na * 5 + 3, none⟩ = some (.int .i64 zx.n) := (PM.cell_keep hB (hcx.out.c3))
                have c4 : W.cell? ⟨g, off + na * 5 + 4, none⟩ = some (.string zx.s) := (PM.cell_keep hB (hcx.out.c4))
                have d0 : W.cell? ⟨g, off + nb * 5, none⟩ = some (.string zy.name) := (PM.cell_keep hB (hcy.out.c0))
                have d1 : W.cell? ⟨g, off + nb * 5 + 1, none⟩ = some (.int .i64 zy.op) := (PM.cell_keep hB (hcy.out.c1))
                have d2 : W.cell? ⟨g, off + nb * 5 + 2, none⟩ = some (.int .i64 zy.k) := (PM.cell_keep hB (hcy.out.c2))
                have d3 : W.cell? ⟨g, off + nb * 5 + 3, none⟩ = some (.int .i64 zy.n) := (PM.cell_keep hB (hcy.out.c3))
                have d4 : W.cell? ⟨g, off + nb * 5 + 4, none⟩ = some (.string zy.s) := (PM.cell_keep hB (hcy.out.c4))
                clear hF
                simp [PM.depsL, PM.spec, PM.sl, Region.binds] at hd k7 k10 k11
                simp only [PM.wantL, PM.spec]
                try simp only [PM.sl]
                go_simp
              all_goals try exact Below.refl _ _
              · refine (implies_any zx zy W).mono ?_
                rw [ff.out]
                rintro e w' ⟨rfl, hb⟩
                exact ⟨hb, rfl⟩
            · intro G W hB hF hS
              have h93 : G 93 = .bool false := by simp [PM.allSp, PM.spec] at hS; simp [hS]
              have k0 := hF 0 rfl
              have k1 := hF 1 rfl
              have k2 := hF 2 rfl
              have k3 := hF 3 rfl
              have k4 := hF 4 rfl
              have k5 := hF 5 rfl
              have k6 := hF 6 rfl
              have k7 := hF 7 rfl
              have k8 := hF 8 rfl
              have k9 := hF 9 rfl
              have k10 := hF 10 rfl
              have k11 := hF 11 rfl
              have k12 := hF 12 rfl
              have k13 := hF 13 rfl
              have k14 := hF 14 rfl
              have k15 := hF 15 rfl
              have k16 := hF 16 rfl
              have k17 := hF 17 rfl
              have k18 := hF 18 rfl
              have k19 := hF 19 rfl
              have k20 := hF 20 rfl
              have k21 := hF 21 rfl
              have k22 := hF 22 rfl
              have k23 := hF 23 rfl
              have k24 := hF 24 rfl
              have k25 := hF 25 rfl
              have k26 := hF 26 rfl
              have k27 := hF 27 rfl
              have k28 := hF 28 rfl
              have k29 := hF 29 rfl
              have k30 := hF 30 rfl
              have k31 := hF 31 rfl
              have k32 := hF 32 rfl
              have k33 := hF 33 rfl
              have k34 := hF 34 rfl
              have k35 := hF 35 rfl
              have k36 := hF 36 rfl
              have k37 := hF 37 rfl
              have k38 := hF 38 rfl
              have k39 := hF 39 rfl
              have k40 := hF 40 rfl
              have k41 := hF 41 rfl
              have k42 := hF 42 rfl
              have k43 := hF 43 rfl
              have k44 := hF 44 rfl
              have k45 := hF 45 rfl
              have k46 := hF 46 rfl
              have k47 := hF 47 rfl
              have k48 := hF 48 rfl
              have k49 := hF 49 rfl
              have k50 := hF 50 rfl
              have k51 := hF 51 rfl
              have k52 := hF 52 rfl
              have k53 := hF 53 rfl
              have k54 := hF 54 rfl
              have k55 := hF 55 rfl
              have k56 := hF 56 rfl
              have k57 := hF 57 rfl
              have k58 := hF 58 rfl
              have k59 := hF 59 rfl
              have k60 := hF 60 rfl
              have k61 := hF 61 rfl
              have k62 := hF 62 rfl
              have k94 := hF 94 rfl
              have k95 := hF 95 rfl
              have k96 := hF 96 rfl
              have k97 := hF 97 rfl
              have k98 := hF 98 rfl
              have k99 := hF 99 rfl
              have k100 := hF 100 rfl
              simp [PM.sl] at k0 k1 k2 k3 k4 k5 k6 k7 k8 k9 k10 k11 k12 k13 k14 k15 k16 k17 k18 k19 k20 k21 k22 k23 k24 k25 k26 k27 k28 k29 k30 k31 k32 k33 k34 k35 k36 k37 k38 k39 k40 k41 k42 k43 k44 k45 k46 k47 k48 k49 k50 k51 k52 k53 k54 k55 k56 k57 k58 k59 k60 k61 k62 k94 k95 k96 k97 k98 k99 k100
              rw [show ((List.range (Array.size _)).map G).toArray = #[G 0, G 1, G 2, G 3, G 4, G 5, G 6, G 7, G 8, G 9, G 10, G 11, G 12, G 13, G 14, G 15, G 16, G 17, G 18, G 19, G 20, G 21, G 22, G 23, G 24, G 25, G 26, G 27, G 28, G 29, G 30, G 31, G 32, G 33, G 34, G 35, G 36, G 37, G 38, G 39, G 40, G 41, G 42, G 43, G 44, G 45, G 46, G 47, G 48, G 49, G 50, G 51, G 52, G 53, G 54, G 55, G 56, G 57, G 58, G 59, G 60, G 61, G 62, G 63, G 64, G 65, G 66, G 67, G 68, G 69, G 70, G 71, G 72, G 73, G 74, G 75, G 76, G 77, G 78, G 79, G 80, G 81, G 82, G 83, G 84, G 85, G 86, G 87, G 88, G 89, G 90, G 91, G 92, G 93, G 94, G 95, G 96, G 97, G 98, G 99, G 100] from rfl]
              clear hF hS
              rw [h93, k0, k1, k2, k3, k4, k5, k6, k7, k8, k9, k10, k11, k12, k13, k14, k15, k16, k17, k18, k19, k20, k21, k22, k23, k24, k25, k26, k27, k28, k29, k30, k31, k32, k33, k34, k35, k36, k37, k38, k39, k40, k41, k42, k43, k44, k45, k46, k47, k48, k49, k50, k51, k52, k53, k54, k55, k56, k57, k58, k59, k60, k61, k62, k94, k95, k96, k97, k98, k99, k100]
              clear h93 k0 k1 k2 k3 k4 k5 k6 k7 k8 k9 k10 k11 k12 k13 k14 k15 k16 k17 k18 k19 k20 k21 k22 k23 k24 k25 k26 k27 k28 k29 k30 k31 k32 k33 k34 k35 k36 k37 k38 k39 k40 k41 k42 k43 k44 k45 k46 k47 k48 k49 k50 k51 k52 k53 k54 k55 k56 k57 k58 k59 k60 k61 k62 k94 k95 k96 k97 k98 k99 k100
              have hB3 := PM.hid (PM.chain hB2.out hB)
              clear hB hB2 hcx hcy
              go_wp2_with fail
              exact ⟨⟨nb + 1, by go_num, by omega, hB3⟩, by simp only [intOf]; omega⟩
        · obtain rfl : nb = N := by omega
          go_wp2_with fail
          exact ⟨⟨na + 1, by go_num, by omega, hB2⟩, by simp only [intOf]; omega⟩
    · obtain rfl : na = N := by omega
      go_wp2_with fail
      go_ret
      exact ⟨rfl, PM.chain hBB.out hB.out⟩
end Go.Proofs.Ytbpajgejfnjaeaa
