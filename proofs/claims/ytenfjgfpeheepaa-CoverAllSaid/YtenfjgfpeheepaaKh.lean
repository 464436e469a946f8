/-
  THE WALKS OF LAYER 7's STATEMENTS: all.
-/
import Derived.Test.YtenfjgfpeheepaaKe
import Derived.Test.YtenfjgfpeheepaaRx
import Derived.Deep.Cut
import Derived.Deep.CutRange
namespace Go.Proofs.Ytenfjgfpeheepaa
open Go.RowKit
set_option linter.unusedVariables false
set_option linter.unusedSimpArgs false
namespace PM
theorem RR.keptC {c : Nat} {w0 w w' : World} {v : Value} {l : List (List Te)} {row : Option Nat} (h : RR (cR w0) c w v l) (hg : w.grownBy w' row) (hr : ∀ k, v.ownBlock = some k → row ≠ some k) : RR (cR w0) c w' v l := by
  obtain ⟨css, h1, h2, h3⟩ := h
  exact ⟨css, h1.kept hg hr, h2, h3⟩
theorem OR.lt {α : Type} {R : World → List Value → α → Prop} {c : Nat} {E : TypeId} {B : Nat} {w : World} {v : Value} {l : List α} (h : OR R c E B w v l) : ∀ k, v.ownBlock = some k → B ≤ k ∧ k < w.heap.size := by
  obtain ⟨css, h1, _⟩ := h
  exact h1.lt
theorem nilLit (w0 W : World) (E : TypeId) : RR (cR w0) 1 (W.alloc (.cells #[.slice none 0 0] E)) (.slice (some ⟨W.heap.size, 0, none⟩) 1 1) [[]] := by
  refine RR.lits1 (cR_lasts w0) W E [.slice none 0 0] [[]] 1 _ rfl rfl rfl (by decide) (by intro v hv; simp at hv; subst hv; rfl) ?_
  intro i v x hi hx
  match i, hi, hx with
  | 0, hi, hx => simp at hi hx; subst hi hx; exact ⟨_, rfl, EM.nil _⟩
  | i + 1, hi, hx => simp at hi
section
variable {α : Type} {R : World → List Value → α → Prop} {c : Nat} {w : World} {E : TypeId} {P : Program} {ops : Array Oper} {rest : List Oper} {o : Oper} {a : Act} {Q : Exit → Act → World → Prop}
theorem wpList_orm4 {T : TypeId} {nb : Nat} (ET : MTy P T E c nb) (hS : Stays R E) (B : Nat) (hgd : o.guard = none) (s x : Operand)
    (ho : o.op = .call { callee := .builtin .append, args := #[s, x], argTypes := #[T, T] })
    (v xv : Value) (l m : List α) (hs : a.eval s = v) (hx : a.eval x = xv) (hown : OR R c E B w v l) (hsrc : RR R c w xv m) (hn : (l.length + m.length) * nb ≤ 140737488355328) (hn2 : l.length + m.length ≤ maxLen) (hB : B ≤ w.heap.size)
    (h : ∀ v' w', OR R c E B w' v' (l ++ m) → Below B w w' → w.grownBy w' v.ownBlock → Sep w v v' → wpList P ops Q rest (a.put o.dst v') w') : wpList P ops Q (o :: rest) a w := by
  obtain ⟨css, h1, h2, h3⟩ := hown
  obtain ⟨csm, h4, h5, h6⟩ := hsrc
  refine wpList_em ET ceL_len ceL_one B hgd s x ho v xv css csm hs hx h1 h4 (by rw [h2, h5]; exact hn) (by rw [h2, h5]; exact hn2) hB ?_
  intro v' w' g1 g2 g3 g4
  exact h v' w' (OR.app hS h1 h2 h3 h5 h6 g1 g3) g2 g3 g4
end
end PM
set_option maxRecDepth 100000 in
set_option maxHeartbeats 8000000 in
theorem coverAll_walk (v : Value) (ls : List (List PM.Te)) (u0 : Value) (f : List PM.Te) (at_ : Int) (hat : (Lit.int .i64 at_).wf = true) (w : World) (hv : PM.FL w v ls) (hf : PM.TV w u0 f) (wf : ∀ x ∈ f, x.wf) :
    Calls Try.prog 7 #[v, u0, .int .i64 at_] w fun e w' => e = .returned (.bool true) ∧ Below w.heap.size w w' := by
  clear wf
  obtain ⟨hat1, hat2⟩ := Go.bounds_i64 hat
  clear hat
  have hBB := PM.hid (Below.refl w.heap.size w)
  obtain ⟨va, vc, ve⟩ := hv.len
  subst ve
  obtain ⟨vN, vh⟩ : ∃ N, N = ls.length := ⟨_, rfl⟩
  have vH := PM.hid vh
  rw [← vh] at hv ⊢
  clear vh
  obtain ⟨fa, fc, fe⟩ := hf.len
  subst fe
  obtain ⟨fN, fh⟩ : ∃ N, N = f.length := ⟨_, rfl⟩
  have fH := PM.hid fh
  rw [← fh] at hf ⊢
  clear fh
  go_enter Try.func7, Try.ntmps7
  go_wp2_with fail
  refine (awake7 _).mono ?_
  rintro e wn1 ⟨rfl, hBn⟩
  replace hv := hv.keep hBn
  replace hf := hf.keep hBn
  replace hBB := PM.hid (PM.chain hBB.out hBn)
  clear hBn
  go_wp2_with fail
  refine (few7_any _ ls _ hv).mono ?_
  rintro e wf ⟨hF, rfl⟩
  rcases hF with ⟨rfl, hF⟩ | ⟨rfl, hF⟩
  case inr =>
    clear hv hf hF
    go_wp2_with fail
    go_ret
    exact ⟨by first | rfl | simp, hBB.out⟩
  have hFF := PM.hid hF
  clear hF
  go_wp2_with fail
  refine (few7_any _ [f] _ (PM.FL.lit1 hf)).mono ?_
  rintro e wf ⟨hF, rfl⟩
  obtain ⟨wc2, hwc⟩ : ∃ W, W = wf.alloc (.cells #[.slice fa fN fc] 23) := ⟨_, rfl⟩
  have hal : Below wf.heap.size wf wc2 := by rw [hwc]; exact (Below.refl _ _).alloc (Nat.le_refl _) _
  rw [← hwc]
  replace hv := hv.keep hal
  replace hf := hf.keep hal
  replace hBB := PM.hid (PM.chain hBB.out hal)
  clear hwc hal
  rcases hF with ⟨rfl, hF⟩ | ⟨rfl, hF⟩
  case inr =>
    clear hv hf hF
    go_wp2_with fail
    go_ret
    exact ⟨by first | rfl | simp, hBB.out⟩
  have hF1 := PM.hid hF
  clear hF
  go_wp2_with fail
  refine (may7_any _ ls _ hv).mono ?_
  rintro e wm ⟨hF, hBn⟩
  replace hv := hv.keep hBn
  replace hf := hf.keep hBn
  replace hBB := PM.hid (PM.chain hBB.out hBn)
  clear hBn
  rcases hF with ⟨rfl, hF⟩ | ⟨rfl, hF⟩
  case inr =>
    clear hv hf hF
    go_wp2_with fail
    go_ret
    exact ⟨by first | rfl | simp, hBB.out⟩
  clear hF
  by_cases hc : PM.filP f
  case neg =>
    go_wp2_with fail
    refine (fcheck_any _ f _ hf).mono ?_
    rintro e wn3 ⟨rfl, hBn⟩
    rw [PM.filE_no hc]
    replace hv := hv.keep hBn
    replace hf := hf.keep hBn
    replace hBB := PM.hid (PM.chain hBB.out hBn)
    clear hBn
    clear hv hf hc
    go_wp2_with fail
    go_ret
    exact ⟨by first | rfl | simp, hBB.out⟩
  go_wp2_with fail
  refine (fcheck_any _ f _ hf).mono ?_
  rintro e wn4 ⟨rfl, hBn⟩
  rw [PM.filE_yes hc]
  replace hv := hv.keep hBn
  replace hf := hf.keep hBn
  replace hBB := PM.hid (PM.chain hBB.out hBn)
  clear hBn
  clear hc
  obtain ⟨w5, rfl⟩ : ∃ x : World, x = wn4 := ⟨_, rfl⟩
  have hl12 := hFF.out.1
  rw [← vH.out] at hl12
  have hl0 : (((vN : Int) + 1) == 0) = false := by simp; omega
  go_upto_if 33 with fail
  go_cut [2] from 34 to 36 (fun s wx => w5 = wx ∧ ∃ A0 : Int, s = .int .i64 A0 ∧ 0 ≤ A0 ∧ A0 ≤ 9223372036854775807)
  case first =>
    go_wp2_with fail
    all_goals
      go_meet
      exact ⟨rfl, _, rfl, by omega, by omega⟩
  case rest =>
  obtain ⟨rfl, A0, rfl, hA0, hA1⟩ := hcut
  obtain ⟨A, hA⟩ : ∃ A : Nat, (A : Int) = A0 % ((vN : Int) + 1) := ⟨(A0 % ((vN : Int) + 1)).toNat, by have := Int.emod_nonneg A0 (show (vN : Int) + 1 ≠ 0 by omega); omega⟩
  have hAL : A ≤ vN := by
    have := Int.emod_lt_of_pos A0 (show (0 : Int) < (vN : Int) + 1 by omega)
    omega
  obtain ⟨ta, tk, ht, hT⟩ := PM.RR.take flTy hv (K := A) (by rw [← vH.out]; exact hAL)
  obtain ⟨sa, sk, hs, hS⟩ := PM.RR.rest flTy hv (K := A) (by rw [← vH.out]; exact hAL)
  rw [← vH.out] at hs hS
  have hls : ls.length ≤ 12 := by rw [← vH.out]; exact hl12
  go_upto_region 7 with fail
  rw [← hA]
  have hAh := PM.hid hA
  clear hA
  go_cut [8] from 42 to 52 (fun s wx => PM.OR (PM.cR w5) 1 23 w5.heap.size wx s (ls.take A ++ [[]] ++ ls.drop A) ∧ Below w5.heap.size w5 wx)
  case first =>
    refine wp_region_any (by kernel_rfl) ?_
    change wpAny _ _ _ _ _ _ _ (World.drew w5)
    obtain ⟨wd, hwd⟩ : ∃ x, x = World.drew w5 := ⟨_, rfl⟩
    have hBd : Below w5.heap.size w5 wd := by rw [hwd]; exact (Below.refl _ _).drew
    rw [← hwd]
    clear hwd
    refine wpAny_take (i := 1) (v := ?_) rfl (by kernel_rfl) (by kernel_rfl) (by kernel_rfl) (fun _ _ _ h => h) (Or.inl ⟨by rfl, ?_⟩) ?_
    rotate_left
    · intro W
      go_simp
      try with_reducible rfl
    refine wpAny_take (i := 2) (v := ?_) rfl (by kernel_rfl) (by kernel_rfl) (by kernel_rfl) (fun _ _ _ h => h) (Or.inl ⟨by rfl, ?_⟩) ?_
    rotate_left
    · intro W
      go_simp
      try with_reducible rfl
    refine wpAny_take (i := 3) (v := ?_) rfl (by kernel_rfl) (by kernel_rfl) (by kernel_rfl) (fun _ _ _ h => h) (Or.inl ⟨by rfl, ?_⟩) ?_
    rotate_left
    · intro W
      go_simp
      try with_reducible rfl
    refine wpAny_take (i := 7) (v := ?_) rfl (by kernel_rfl) (by kernel_rfl) (by kernel_rfl) (fun _ _ _ h => h) (Or.inl ⟨by rfl, ?_⟩) ?_
    rotate_left
    · intro W
      go_simp
      try with_reducible rfl
    refine wpAny_take (i := 8) (v := ?_) rfl (by kernel_rfl) (by kernel_rfl) (by kernel_rfl) (fun _ _ _ h => h) (Or.inl ⟨by rfl, ?_⟩) ?_
    rotate_left
    · intro W
      go_simp
      try with_reducible rfl
    refine wpAny_take (i := 9) (v := ?_) rfl (by kernel_rfl) (by kernel_rfl) (by kernel_rfl) (fun _ _ _ h => h) (Or.inl ⟨by rfl, ?_⟩) ?_
    rotate_left
    · intro W
      go_simp
      try with_reducible rfl
    refine wpAny_ready (rs := [0, 5]) (by kernel_rfl) (by simp) ?_
    refine PM.ready1 rfl ?_ ?_
    · go_wp2_with fail
      obtain ⟨g2, hg2⟩ : ∃ g, g = wd.heap.size := ⟨_, rfl⟩
      obtain ⟨W1, hW1⟩ : ∃ x, x = wd.alloc (.cells #[] 23) := ⟨_, rfl⟩
      have hal4 : Below wd.heap.size wd W1 := by rw [hW1]; exact (Below.refl _ _).alloc (Nat.le_refl _) _
      have hO3 : PM.OR (PM.cR w5) 1 23 w5.heap.size W1 (.slice (some ⟨g2, 0, none⟩) 0 0) [] := by rw [hW1, hg2]; exact ⟨[], PM.OM.made wd #[] 0 (by decide) rfl hBd.size, rfl, fun i cs x a _ => by simp at a⟩
      have hB5 := PM.chain hBd hal4
      rw [← hW1, ← hg2]
      clear hW1 hg2
      refine ⟨rfl, ?_⟩
      refine wpAny_ready (rs := [4, 5]) (by kernel_rfl) (by simp) ?_
      refine PM.ready1 rfl ?_ ?_
      · have hs13 := PM.FL.toC hB5 hT
        have hz14 := hB5.size
        have hn15 : (([] : List (List PM.Te)).length + (ls.take A : List (List PM.Te)).length) * 24 ≤ 140737488355328 ∧ ([] : List (List PM.Te)).length + (ls.take A : List (List PM.Te)).length ≤ maxLen := by
          unfold maxLen
          simp
          omega
        refine PM.wpList_orm4 flTy (PM.cR_stays w5 _) w5.heap.size rfl _ _ rfl (.slice (some ⟨g2, 0, none⟩) 0 0) _ ([]) (ls.take A) rfl rfl hO3 hs13 hn15.1 hn15.2 hz14 ?_
        intro v6 W7 q8 q9 q10 q11
        go_wp2_with fail
        have hB12 := hB5.trans q9
        refine ⟨rfl, ?_⟩
        refine wpAny_ready (rs := [5]) (by kernel_rfl) (by simp) ?_
        refine PM.ready1 rfl ?_ ?_
        · go_wp2_with fail
          obtain ⟨g17, hg17⟩ : ∃ g, g = W7.heap.size := ⟨_, rfl⟩
          obtain ⟨W16, hW16⟩ : ∃ x, x = W7.alloc (.cells #[.slice none 0 0] 23) := ⟨_, rfl⟩
          have hal19 : Below W7.heap.size W7 W16 := by rw [hW16]; exact (Below.refl _ _).alloc (Nat.le_refl _) _
          have hL18 : PM.RR (PM.cR w5) 1 W16 (.slice (some ⟨g17, 0, none⟩) 1 1) [[]] := by rw [hW16, hg17]; exact PM.nilLit w5 W7 23
          have hlt21 : g17 < W16.heap.size := by rw [hW16, hg17]; simp
          have hB20 := PM.chain hB12 hal19
          have hap23 : ∀ k, (v6 : Value).ownBlock = some k → k ≠ g17 := by intro k hk; have := (PM.OR.lt q8 k hk).2; omega
          have hO22 := PM.OR.keep (PM.cR_lasts w5) hal19 q8
          rw [← hW16, ← hg17]
          clear hW16 hg17
          refine ⟨rfl, ?_⟩
          refine wpAny_ready (rs := [6]) (by kernel_rfl) (by simp) ?_
          refine PM.ready1 rfl ?_ ?_
          · have hs31 := hL18
            have hz32 := hB20.size
            have hn33 : (([] ++ ls.take A : List (List PM.Te)).length + ([[]] : List (List PM.Te)).length) * 24 ≤ 140737488355328 ∧ ([] ++ ls.take A : List (List PM.Te)).length + ([[]] : List (List PM.Te)).length ≤ maxLen := by
              unfold maxLen
              simp
              omega
            refine PM.wpList_orm4 flTy (PM.cR_stays w5 _) w5.heap.size rfl _ _ rfl (v6) _ ([] ++ ls.take A) ([[]]) rfl rfl hO22 hs31 hn33.1 hn33.2 hz32 ?_
            intro v24 W25 q26 q27 q28 q29
            go_wp2_with fail
            have hB30 := hB20.trans q27
            refine ⟨rfl, ?_⟩
            refine wpAny_ready (rs := [10]) (by kernel_rfl) (by simp) ?_
            refine PM.ready1 rfl ?_ ?_
            · have hs41 := PM.FL.toC hB30 hS
              have hz42 := hB30.size
              have hn43 : (([] ++ ls.take A ++ [[]] : List (List PM.Te)).length + (ls.drop A : List (List PM.Te)).length) * 24 ≤ 140737488355328 ∧ ([] ++ ls.take A ++ [[]] : List (List PM.Te)).length + (ls.drop A : List (List PM.Te)).length ≤ maxLen := by
                unfold maxLen
                simp
                omega
              refine PM.wpList_orm4 flTy (PM.cR_stays w5 _) w5.heap.size rfl _ _ rfl (v24) _ ([] ++ ls.take A ++ [[]]) (ls.drop A) rfl rfl q26 hs41 hn43.1 hn43.2 hz42 ?_
              intro v34 W35 q36 q37 q38 q39
              go_wp2_with fail
              have hB40 := hB30.trans q37
              refine ⟨rfl, ?_⟩
              refine wpAny_ready (rs := [11]) (by kernel_rfl) (by simp) ?_
              refine PM.ready1 rfl ?_ ?_
              · go_wp2_with fail
                refine ⟨rfl, ?_⟩
                refine wpAny_done (by kernel_rfl) ?_ _
                go_wp2_with fail
                go_meet
                exact ⟨(by simpa using q36), hB40⟩
              exact AllReady.nil
            exact AllReady.nil
          exact AllReady.nil
        exact AllReady.nil
      refine PM.ready1 rfl ?_ ?_
      · go_wp2_with fail
        obtain ⟨g45, hg45⟩ : ∃ g, g = W1.heap.size := ⟨_, rfl⟩
        obtain ⟨W44, hW44⟩ : ∃ x, x = W1.alloc (.cells #[.slice none 0 0] 23) := ⟨_, rfl⟩
        have hal47 : Below W1.heap.size W1 W44 := by rw [hW44]; exact (Below.refl _ _).alloc (Nat.le_refl _) _
        have hL46 : PM.RR (PM.cR w5) 1 W44 (.slice (some ⟨g45, 0, none⟩) 1 1) [[]] := by rw [hW44, hg45]; exact PM.nilLit w5 W1 23
        have hlt49 : g45 < W44.heap.size := by rw [hW44, hg45]; simp
        have hB48 := PM.chain hB5 hal47
        have hap51 : ∀ k, (.slice (some ⟨g2, 0, none⟩) 0 0 : Value).ownBlock = some k → k ≠ g45 := by intro k hk; have := (PM.OR.lt hO3 k hk).2; omega
        have hO50 := PM.OR.keep (PM.cR_lasts w5) hal47 hO3
        rw [← hW44, ← hg45]
        clear hW44 hg45
        refine ⟨rfl, ?_⟩
        refine wpAny_ready (rs := [4]) (by kernel_rfl) (by simp) ?_
        refine PM.ready1 rfl ?_ ?_
        · have hs59 := PM.FL.toC hB48 hT
          have hz60 := hB48.size
          have hn61 : (([] : List (List PM.Te)).length + (ls.take A : List (List PM.Te)).length) * 24 ≤ 140737488355328 ∧ ([] : List (List PM.Te)).length + (ls.take A : List (List PM.Te)).length ≤ maxLen := by
            unfold maxLen
            simp
            omega
          refine PM.wpList_orm4 flTy (PM.cR_stays w5 _) w5.heap.size rfl _ _ rfl (.slice (some ⟨g2, 0, none⟩) 0 0) _ ([]) (ls.take A) rfl rfl hO50 hs59 hn61.1 hn61.2 hz60 ?_
          intro v52 W53 q54 q55 q56 q57
          go_wp2_with fail
          have hB58 := hB48.trans q55
          have hL62 := PM.RR.keptC hL46 q56 (by intro k hk he; simp [Value.ownBlock] at hk; exact hap51 k he hk.symm)
          have hap63 : ∀ k, (v52 : Value).ownBlock = some k → k ≠ g45 := by
            intro k hk
            rcases q57 with h | h
            · exact hap51 k (h ▸ hk)
            · have := h k hk; omega
          have hlt64 : g45 < W53.heap.size := Nat.lt_of_lt_of_le hlt49 q56.size
          refine ⟨rfl, ?_⟩
          refine wpAny_ready (rs := [6]) (by kernel_rfl) (by simp) ?_
          refine PM.ready1 rfl ?_ ?_
          · have hs72 := hL62
            have hz73 := hB58.size
            have hn74 : (([] ++ ls.take A : List (List PM.Te)).length + ([[]] : List (List PM.Te)).length) * 24 ≤ 140737488355328 ∧ ([] ++ ls.take A : List (List PM.Te)).length + ([[]] : List (List PM.Te)).length ≤ maxLen := by
              unfold maxLen
              simp
              omega
            refine PM.wpList_orm4 flTy (PM.cR_stays w5 _) w5.heap.size rfl _ _ rfl (v52) _ ([] ++ ls.take A) ([[]]) rfl rfl q54 hs72 hn74.1 hn74.2 hz73 ?_
            intro v65 W66 q67 q68 q69 q70
            go_wp2_with fail
            have hB71 := hB58.trans q68
            refine ⟨rfl, ?_⟩
            refine wpAny_ready (rs := [10]) (by kernel_rfl) (by simp) ?_
            refine PM.ready1 rfl ?_ ?_
            · have hs82 := PM.FL.toC hB71 hS
              have hz83 := hB71.size
              have hn84 : (([] ++ ls.take A ++ [[]] : List (List PM.Te)).length + (ls.drop A : List (List PM.Te)).length) * 24 ≤ 140737488355328 ∧ ([] ++ ls.take A ++ [[]] : List (List PM.Te)).length + (ls.drop A : List (List PM.Te)).length ≤ maxLen := by
                unfold maxLen
                simp
                omega
              refine PM.wpList_orm4 flTy (PM.cR_stays w5 _) w5.heap.size rfl _ _ rfl (v65) _ ([] ++ ls.take A ++ [[]]) (ls.drop A) rfl rfl q67 hs82 hn84.1 hn84.2 hz83 ?_
              intro v75 W76 q77 q78 q79 q80
              go_wp2_with fail
              have hB81 := hB71.trans q78
              refine ⟨rfl, ?_⟩
              refine wpAny_ready (rs := [11]) (by kernel_rfl) (by simp) ?_
              refine PM.ready1 rfl ?_ ?_
              · go_wp2_with fail
                refine ⟨rfl, ?_⟩
                refine wpAny_done (by kernel_rfl) ?_ _
                go_wp2_with fail
                go_meet
                exact ⟨(by simpa using q77), hB81⟩
              exact AllReady.nil
            exact AllReady.nil
          exact AllReady.nil
        exact AllReady.nil
      exact AllReady.nil
    refine PM.ready1 rfl ?_ ?_
    · go_wp2_with fail
      obtain ⟨g86, hg86⟩ : ∃ g, g = wd.heap.size := ⟨_, rfl⟩
      obtain ⟨W85, hW85⟩ : ∃ x, x = wd.alloc (.cells #[.slice none 0 0] 23) := ⟨_, rfl⟩
      have hal88 : Below wd.heap.size wd W85 := by rw [hW85]; exact (Below.refl _ _).alloc (Nat.le_refl _) _
      have hL87 : PM.RR (PM.cR w5) 1 W85 (.slice (some ⟨g86, 0, none⟩) 1 1) [[]] := by rw [hW85, hg86]; exact PM.nilLit w5 wd 23
      have hlt90 : g86 < W85.heap.size := by rw [hW85, hg86]; simp
      have hB89 := PM.chain hBd hal88
      rw [← hW85, ← hg86]
      clear hW85 hg86
      refine ⟨rfl, ?_⟩
      refine wpAny_ready (rs := [0]) (by kernel_rfl) (by simp) ?_
      refine PM.ready1 rfl ?_ ?_
      · go_wp2_with fail
        obtain ⟨g92, hg92⟩ : ∃ g, g = W85.heap.size := ⟨_, rfl⟩
        obtain ⟨W91, hW91⟩ : ∃ x, x = W85.alloc (.cells #[] 23) := ⟨_, rfl⟩
        have hal94 : Below W85.heap.size W85 W91 := by rw [hW91]; exact (Below.refl _ _).alloc (Nat.le_refl _) _
        have hO93 : PM.OR (PM.cR w5) 1 23 w5.heap.size W91 (.slice (some ⟨g92, 0, none⟩) 0 0) [] := by rw [hW91, hg92]; exact ⟨[], PM.OM.made W85 #[] 0 (by decide) rfl hB89.size, rfl, fun i cs x a _ => by simp at a⟩
        have hB95 := PM.chain hB89 hal94
        have hL96 := PM.RR.keep (PM.cR_lasts w5) hal94 hL87
        have hap97 : ∀ k, (.slice (some ⟨g92, 0, none⟩) 0 0 : Value).ownBlock = some k → k ≠ g86 := by intro k hk; simp [Value.ownBlock] at hk; omega
        have hlt98 : g86 < W91.heap.size := Nat.lt_of_lt_of_le hlt90 hal94.size
        rw [← hW91, ← hg92]
        clear hW91 hg92
        refine ⟨rfl, ?_⟩
        refine wpAny_ready (rs := [4]) (by kernel_rfl) (by simp) ?_
        refine PM.ready1 rfl ?_ ?_
        · have hs106 := PM.FL.toC hB95 hT
          have hz107 := hB95.size
          have hn108 : (([] : List (List PM.Te)).length + (ls.take A : List (List PM.Te)).length) * 24 ≤ 140737488355328 ∧ ([] : List (List PM.Te)).length + (ls.take A : List (List PM.Te)).length ≤ maxLen := by
            unfold maxLen
            simp
            omega
          refine PM.wpList_orm4 flTy (PM.cR_stays w5 _) w5.heap.size rfl _ _ rfl (.slice (some ⟨g92, 0, none⟩) 0 0) _ ([]) (ls.take A) rfl rfl hO93 hs106 hn108.1 hn108.2 hz107 ?_
          intro v99 W100 q101 q102 q103 q104
          go_wp2_with fail
          have hB105 := hB95.trans q102
          have hL109 := PM.RR.keptC hL96 q103 (by intro k hk he; simp [Value.ownBlock] at hk; exact hap97 k he hk.symm)
          have hap110 : ∀ k, (v99 : Value).ownBlock = some k → k ≠ g86 := by
            intro k hk
            rcases q104 with h | h
            · exact hap97 k (h ▸ hk)
            · have := h k hk; omega
          have hlt111 : g86 < W100.heap.size := Nat.lt_of_lt_of_le hlt98 q103.size
          refine ⟨rfl, ?_⟩
          refine wpAny_ready (rs := [6]) (by kernel_rfl) (by simp) ?_
          refine PM.ready1 rfl ?_ ?_
          · have hs119 := hL109
            have hz120 := hB105.size
            have hn121 : (([] ++ ls.take A : List (List PM.Te)).length + ([[]] : List (List PM.Te)).length) * 24 ≤ 140737488355328 ∧ ([] ++ ls.take A : List (List PM.Te)).length + ([[]] : List (List PM.Te)).length ≤ maxLen := by
              unfold maxLen
              simp
              omega
            refine PM.wpList_orm4 flTy (PM.cR_stays w5 _) w5.heap.size rfl _ _ rfl (v99) _ ([] ++ ls.take A) ([[]]) rfl rfl q101 hs119 hn121.1 hn121.2 hz120 ?_
            intro v112 W113 q114 q115 q116 q117
            go_wp2_with fail
            have hB118 := hB105.trans q115
            refine ⟨rfl, ?_⟩
            refine wpAny_ready (rs := [10]) (by kernel_rfl) (by simp) ?_
            refine PM.ready1 rfl ?_ ?_
            · have hs129 := PM.FL.toC hB118 hS
              have hz130 := hB118.size
              have hn131 : (([] ++ ls.take A ++ [[]] : List (List PM.Te)).length + (ls.drop A : List (List PM.Te)).length) * 24 ≤ 140737488355328 ∧ ([] ++ ls.take A ++ [[]] : List (List PM.Te)).length + (ls.drop A : List (List PM.Te)).length ≤ maxLen := by
                unfold maxLen
                simp
                omega
              refine PM.wpList_orm4 flTy (PM.cR_stays w5 _) w5.heap.size rfl _ _ rfl (v112) _ ([] ++ ls.take A ++ [[]]) (ls.drop A) rfl rfl q114 hs129 hn131.1 hn131.2 hz130 ?_
              intro v122 W123 q124 q125 q126 q127
              go_wp2_with fail
              have hB128 := hB118.trans q125
              refine ⟨rfl, ?_⟩
              refine wpAny_ready (rs := [11]) (by kernel_rfl) (by simp) ?_
              refine PM.ready1 rfl ?_ ?_
              · go_wp2_with fail
                refine ⟨rfl, ?_⟩
                refine wpAny_done (by kernel_rfl) ?_ _
                go_wp2_with fail
                go_meet
                exact ⟨(by simpa using q124), hB128⟩
              exact AllReady.nil
            exact AllReady.nil
          exact AllReady.nil
        exact AllReady.nil
      exact AllReady.nil
    exact AllReady.nil

  case rest =>
  obtain ⟨hO6, hB6⟩ := hcut
  obtain ⟨w7, rfl⟩ : ∃ x, x = wc := ⟨_, rfl⟩
  have hR := PM.RR.toF hB6 hO6.rr
  have hred : Hid (PM.redL (ls.take A ++ [[]] ++ ls.drop A) = [[]]) := PM.hid (PM.redL_empty (by simp))
  have hlR : (ls.take A ++ [[]] ++ ls.drop A).length ≤ 30 := by simp; omega
  have hsz : Hid (∀ x ∈ ls.take A ++ [[]] ++ ls.drop A, x.length ≤ 1000) := PM.hid (by
    intro x hx
    simp only [List.mem_append, List.mem_singleton] at hx
    rcases hx with (hx | rfl) | hx
    · exact hFF.out.len (List.mem_of_mem_take hx)
    · simp
    · exact hFF.out.len (List.mem_of_mem_drop hx))
  replace hf := hf.keep hB6
  replace hBB := PM.hid (PM.chain hBB.out hB6)
  clear ht hs hT hS hO6 hB6 hv hls
  go_wp2_with fail
  refine (reduce_any _ _ _ hR hlR hsz.out).mono ?_
  rintro e w8 ⟨u, rfl, hO, hBn⟩
  rw [hred.out] at hO
  have hr := hO.rr.imp (R' := PM.fR) (fun _ _ h => PM.fO_fR h)
  obtain ⟨ra, rc, hre⟩ := hr.len
  subst hre
  replace hf := hf.keep hBn
  replace hBB := PM.hid (PM.chain hBB.out hBn)
  clear hO hBn hR hlR
  go_wp2_with fail
  have hone := PM.hid (PM.redL_one f)
  refine (reduce_any _ [f] _ (PM.FL.lit1 hf) (by simp) (by intro x hx; simp at hx; subst hx; exact hF1.out.len (by simp))).mono ?_
  rw [hone.out]
  rintro e w9 ⟨u2, rfl, hO, hBn⟩
  have hr2 := hO.rr.imp (R' := PM.fR) (fun _ _ h => PM.fO_fR h)
  have hal : Below w8.heap.size w8 w9 := PM.chain ((Below.refl _ w8).alloc (Nat.le_refl _) _) hBn
  replace hf := hf.keep hal
  replace hr := PM.FL.keep hal hr
  replace hBB := PM.hid (PM.chain hBB.out hal)
  clear hO hBn hal hone
  have hal0 : Below w9.heap.size w9 (w9.alloc (.cells #[.slice fa fN fc] 23)) := (Below.refl _ _).alloc (Nat.le_refl _) _
  have hsame := PM.hid (same7_any _ _ _ _ _ (PM.FL.keep hal0 hr2) (PM.FL.lit1 (E := 23) hf))
  clear hr2
  go_wp2_with fail
  refine hsame.out.mono ?_
  rintro e w10 ⟨hsm, hBn⟩
  obtain rfl : e = .returned (.bool true) := by rcases hsm with ⟨h, _⟩ | ⟨_, h⟩; exact h; exact absurd rfl h
  have hal : Below w9.heap.size w9 w10 := PM.chain hal0 hBn
  replace hr := PM.FL.keep hal hr
  replace hBB := PM.hid (PM.chain hBB.out hal)
  clear hsm hBn hal hal0 hsame hf
  obtain ⟨g, off, rfl, hce⟩ := PM.RR.opn hr (by simp)
  obtain ⟨xv, hc, hxv⟩ := PM.fR_cell (hce 0 [] rfl)
  obtain ⟨xa, xc, rfl⟩ := hxv.len
  have c0 : w10.cell? ⟨g, off, none⟩ = some (.slice xa 0 xc) := hc
  clear hr hce hc hxv
  go_wp2_with fail
  go_ret
  exact ⟨by first | rfl | simp, hBB.out⟩
end Go.Proofs.Ytenfjgfpeheepaa
