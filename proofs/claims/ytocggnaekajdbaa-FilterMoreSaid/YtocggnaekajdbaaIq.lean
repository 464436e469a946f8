/-
  THE WALKS OF LAYER 5's STATEMENTS: more.
-/
import Derived.Test.YtocggnaekajdbaaIj
import Derived.Test.YtocggnaekajdbaaIh
import Derived.Test.YtocggnaekajdbaaIk
import Derived.Test.YtocggnaekajdbaaGu
import Derived.Test.YtocggnaekajdbaaGl
import Derived.Test.YtocggnaekajdbaaRx
import Derived.Deep.CutRange
namespace Go.Proofs.Ytocggnaekajdbaa
open Go.RowKit
set_option linter.unusedVariables false
namespace PM
theorem matchB_more (l : List Te) (z : Te) (es : List At) : matchB (l ++ [z]) es = (matchB l es && holdsB z es) := by simp [matchB]
theorem matchB_turn (l : List Te) (A : Nat) (es : List At) : matchB (l.drop A ++ l.take A) es = matchB l es := by
  unfold matchB
  rw [List.all_append, Bool.and_comm, ← List.all_append, List.take_append_drop]
theorem matchB_nil (es : List At) : matchB [] es = true := rfl
end PM
theorem teTy2 : PM.MTy Try.prog 23 30 5 56 := by
  refine ⟨Try.underlying23, by decide, ?_⟩
  obtain ⟨i, h1, h2, h3, h4⟩ := info_parts (P := Try.prog) (e := 30) (z := .agg #[.string ByteArray.empty, .int .i64 0, .int .i64 0, .int .i64 0, .string ByteArray.empty]) (size := 5) (bytes := 56) (by kernel_rfl)
  exact ⟨i, _, h1, h2, h3, h4, by kernel_rfl⟩
set_option maxRecDepth 100000 in
set_option maxHeartbeats 8000000 in
theorem filterMore_walk (v : Value) (l : List PM.Te) (z : PM.Te) (ev : Value) (es : List PM.At) (at_ : Int) (hz : z.wf) (hat : (Lit.int .i64 at_).wf = true) (w : World) (hv : PM.TV w v l) (hw : ∀ x ∈ l, x.wf) (he : PM.EV w ev es) (hwe : ∀ x ∈ es, x.wf) :
    Calls Try.prog 7 #[v, .agg #[.string z.name, .int .i64 z.op, .int .i64 z.k, .int .i64 z.n, .string z.s], ev, .int .i64 at_] w fun e w' => e = .returned (.bool true) ∧ Below w.heap.size w w' := by
  clear hw hwe hz
  obtain ⟨hat1, hat2⟩ := Go.bounds_i64 hat
  clear hat
  obtain ⟨va, vc, hve⟩ := hv.len
  subst hve
  obtain ⟨g6, hg6⟩ : ∃ g, g = w.heap.size := ⟨_, rfl⟩
  obtain ⟨wa, hwa⟩ : ∃ W, W = w.alloc (.cells #[.string z.name, .int .i64 z.op, .int .i64 z.k, .int .i64 z.n, .string z.s] 30) := ⟨_, rfl⟩
  have hBa : Below w.heap.size w wa := by rw [hwa]; exact (Below.refl _ _).alloc (Nat.le_refl _) _
  have hk6 : PM.BK wa g6 #[.string z.name, .int .i64 z.op, .int .i64 z.k, .int .i64 z.n, .string z.s] 30 := by rw [hwa, hg6]; exact PM.BK.new _ _ _
  replace hv := hv.keep hBa
  replace he := he.keep hBa
  go_enter Try.func7, Try.ntmps7
  go_upto_region 1 with fail
  rw [← hwa, ← hg6]
  clear hwa hg6
  go_wp2_with fail
  refine (awake5 _).mono ?_
  rintro e w1 ⟨rfl, hB1⟩
  replace hv := hv.keep hB1
  replace he := he.keep hB1
  replace hk6 := hk6.keep hB1
  have hBB := PM.hid (PM.chain hBa hB1)
  clear hB1 hBa
  go_wp2_with fail
  refine (ffew_any _ l w1 hv).mono ?_
  rintro e w2 ⟨hF, rfl⟩
  rcases hF with ⟨rfl, hF⟩ | ⟨rfl, hF⟩
  case inr =>
    clear hF hv he hk6
    go_wp2_with fail
    go_ret
    exact ⟨rfl, hBB.out⟩
  have hl10 := hF.1
  clear hF
  have c0 : w2.cell? ⟨g6, 0, none⟩ = some (.string z.name) := hk6.cell 0
  have c1 : w2.cell? ⟨g6, 1, none⟩ = some (.int .i64 z.op) := hk6.cell 1
  have c2 : w2.cell? ⟨g6, 2, none⟩ = some (.int .i64 z.k) := hk6.cell 2
  have c3 : w2.cell? ⟨g6, 3, none⟩ = some (.int .i64 z.n) := hk6.cell 3
  have c4 : w2.cell? ⟨g6, 4, none⟩ = some (.string z.s) := hk6.cell 4
  go_wp2_with fail
  obtain ⟨gl, hgl⟩ : ∃ g, g = w2.heap.size := ⟨_, rfl⟩
  obtain ⟨w3, hw3⟩ : ∃ W, W = w2.alloc (.cells #[.string z.name, .int .i64 z.op, .int .i64 z.k, .int .i64 z.n, .string z.s] 30) := ⟨_, rfl⟩
  have hal : Below w2.heap.size w2 w3 := by rw [hw3]; exact (Below.refl _ _).alloc (Nat.le_refl _) _
  have hlit : PM.TV w3 (.slice (some ⟨gl, 0, none⟩) 1 1) [z] := by rw [hw3, hgl]; exact PM.EM.lit PM.teL_len w2 30 z
  rw [← hw3, ← hgl]
  replace hv := hv.keep hal
  replace he := he.keep hal
  replace hk6 := hk6.keep hal
  replace hBB := PM.hid (PM.chain hBB.out hal)
  clear hw3 hgl hal c0 c1 c2 c3 c4
  refine (ffew_any _ [z] w3 hlit).mono ?_
  rintro e w4 ⟨hF, rfl⟩
  clear hlit
  rcases hF with ⟨rfl, hF⟩ | ⟨rfl, hF⟩
  case inr =>
    clear hF hv he hk6
    go_wp2_with fail
    go_ret
    exact ⟨rfl, hBB.out⟩
  clear hF
  go_wp2_with fail
  refine (few_any ev es w4 he).mono ?_
  rintro e w5 ⟨hF, rfl⟩
  rcases hF with ⟨rfl, hF⟩ | ⟨rfl, hF⟩
  case inr =>
    clear hF hv he hk6
    go_wp2_with fail
    go_ret
    exact ⟨rfl, hBB.out⟩
  clear hF
  have hl0 : (((l.length : Int) + 1) == 0) = false := by simp; omega
  go_upto_if 30 with fail
  go_cut [3] from 31 to 33 (fun s wx => w5 = wx ∧ ∃ A0 : Int, s = .int .i64 A0 ∧ 0 ≤ A0 ∧ A0 ≤ 9223372036854775807)
  case first =>
    go_wp2_with fail
    all_goals
      go_meet
      exact ⟨rfl, _, rfl, by omega, by omega⟩
  case rest =>
  obtain ⟨rfl, A0, rfl, hA0, hA1⟩ := hcut
  obtain ⟨A, hA⟩ : ∃ A : Nat, (A : Int) = A0 % ((l.length : Int) + 1) := ⟨(A0 % ((l.length : Int) + 1)).toNat, by have := Int.emod_nonneg A0 (show (l.length : Int) + 1 ≠ 0 by omega); omega⟩
  have hAL : A ≤ l.length := by
    have := Int.emod_lt_of_pos A0 (show (0 : Int) < (l.length : Int) + 1 by omega)
    omega
  obtain ⟨ta, tk, ht, hT⟩ := PM.run_takeM teTy hv (K := A) hAL
  obtain ⟨sa, sk, hs, hS⟩ := PM.run_restM teTy hv (K := A) hAL
  have hths := PM.hid (And.intro ht hs)
  have hvh := PM.hid (And.intro hv (And.intro hT hS))
  have e0 := PM.hid (hk6.cell 0)
  have e1 := PM.hid (hk6.cell 1)
  have e2 := PM.hid (hk6.cell 2)
  have e3 := PM.hid (hk6.cell 3)
  have e4 := PM.hid (hk6.cell 4)
  have hv5 := hv
  clear ht hs hT hS hv
  go_upto_region 7 with fail
  rw [← hA]
  have hAh := PM.hid hA
  clear hA
  go_cut [10] from 39 to 44 (fun s wx => PM.OM PM.teL 5 30 w5.heap.size wx s (l ++ [z]) ∧ Below w5.heap.size w5 wx)
  case first =>
    refine wp_region_any (by kernel_rfl) ?_
    change wpAny _ _ _ _ _ _ _ (World.drew w5)
    obtain ⟨wd, hwd⟩ : ∃ x, x = World.drew w5 := ⟨_, rfl⟩
    have hBd : Below w5.heap.size w5 wd := by rw [hwd]; exact (Below.refl _ _).drew
    rw [← hwd]
    clear hwd
    refine wpAny_take (i := 1) (v := ?_) rfl (by kernel_rfl) (by kernel_rfl) (by kernel_rfl) (fun _ _ _ h => h) (Or.inl ⟨by rfl, ?_⟩) ?_
    rotate_left
    · intro W
      go_simp
      try with_reducible rfl
    refine wpAny_ready (rs := [0, 3]) (by kernel_rfl) (by simp) ?_
    refine PM.ready1 rfl ?_ ?_
    · go_wp2_with fail
      obtain ⟨g2, hg2⟩ : ∃ g, g = wd.heap.size := ⟨_, rfl⟩
      obtain ⟨W1, hW1⟩ : ∃ x, x = wd.alloc (.cells #[] 30) := ⟨_, rfl⟩
      have hal4 : Below wd.heap.size wd W1 := by rw [hW1]; exact (Below.refl _ _).alloc (Nat.le_refl _) _
      have hO3 : PM.OM PM.teL 5 30 w5.heap.size W1 (.slice (some ⟨g2, 0, none⟩) 0 0) [] := by rw [hW1, hg2]; exact PM.OM.made wd #[] 0 (by decide) rfl hBd.size
      have hB5 := PM.chain hBd hal4
      rw [← hW1, ← hg2]
      clear hW1 hg2
      refine ⟨rfl, ?_⟩
      refine wpAny_ready (rs := [2, 3]) (by kernel_rfl) (by simp) ?_
      refine PM.ready1 rfl ?_ ?_
      · have hs13 := hv5.keep hB5
        have hz14 := hB5.size
        have hn15 : (([] : List PM.Te).length + (l : List PM.Te).length) * 56 ≤ 140737488355328 ∧ ([] : List PM.Te).length + (l : List PM.Te).length ≤ maxLen := by
          unfold maxLen
          simp
          omega
        refine PM.wpList_em2 (e := PM.teL) teTy2 teTy.sl PM.teL_len PM.teL_one w5.heap.size rfl _ _ rfl (.slice (some ⟨g2, 0, none⟩) 0 0) _ ([]) (l) rfl rfl hO3 hs13 hn15.1 hn15.2 hz14 ?_
        intro v6 W7 q8 q9 q10 q11
        go_wp2_with fail
        have hB12 := hB5.trans q9
        refine ⟨rfl, ?_⟩
        refine wpAny_ready (rs := [3]) (by kernel_rfl) (by simp) ?_
        refine PM.ready1 rfl ?_ ?_
        · have d0 := PM.cellA hB12 e0.out
          have d1 := PM.cellA hB12 e1.out
          have d2 := PM.cellA hB12 e2.out
          have d3 := PM.cellA hB12 e3.out
          have d4 := PM.cellA hB12 e4.out
          go_wp2_with fail
          clear d0 d1 d2 d3 d4
          refine ⟨rfl, ?_⟩
          refine wpAny_ready (rs := [4]) (by kernel_rfl) (by simp) ?_
          refine PM.ready1 rfl ?_ ?_
          · go_wp2_with fail
            obtain ⟨g17, hg17⟩ : ∃ g, g = W7.heap.size := ⟨_, rfl⟩
            obtain ⟨W16, hW16⟩ : ∃ x, x = W7.alloc (.cells #[.string z.name, .int .i64 z.op, .int .i64 z.k, .int .i64 z.n, .string z.s] 30) := ⟨_, rfl⟩
            have hal19 : Below W7.heap.size W7 W16 := by rw [hW16]; exact (Below.refl _ _).alloc (Nat.le_refl _) _
            have hL18 : PM.EM PM.teL 5 W16 (.slice (some ⟨g17, 0, none⟩) 1 1) [z] := by rw [hW16, hg17]; exact PM.EM.lit PM.teL_len W7 30 z
            have hlt21 : g17 < W16.heap.size := by rw [hW16, hg17]; simp
            have hB20 := PM.chain hB12 hal19
            have hap23 : ∀ k, (v6 : Value).ownBlock = some k → k ≠ g17 := by intro k hk; have := (q8.lt k hk).2; omega
            have hO22 := q8.keep hal19
            rw [← hW16, ← hg17]
            clear hW16 hg17
            refine ⟨rfl, ?_⟩
            refine wpAny_ready (rs := [5]) (by kernel_rfl) (by simp) ?_
            refine PM.ready1 rfl ?_ ?_
            · have hs31 := hL18
              have hz32 := hB20.size
              have hn33 : (([] ++ l : List PM.Te).length + ([z] : List PM.Te).length) * 56 ≤ 140737488355328 ∧ ([] ++ l : List PM.Te).length + ([z] : List PM.Te).length ≤ maxLen := by
                unfold maxLen
                simp
                omega
              refine PM.wpList_em (e := PM.teL) teTy2 PM.teL_len PM.teL_one w5.heap.size rfl _ _ rfl (v6) _ ([] ++ l) ([z]) rfl rfl hO22 hs31 hn33.1 hn33.2 hz32 ?_
              intro v24 W25 q26 q27 q28 q29
              go_wp2_with fail
              have hB30 := hB20.trans q27
              refine ⟨rfl, ?_⟩
              refine wpAny_ready (rs := [6]) (by kernel_rfl) (by simp) ?_
              refine PM.ready1 rfl ?_ ?_
              · go_wp2_with fail
                refine ⟨rfl, ?_⟩
                refine wpAny_done (by kernel_rfl) ?_ _
                go_wp2_with fail
                go_meet
                exact ⟨(by simpa using q26), hB30⟩
              exact AllReady.nil
            exact AllReady.nil
          exact AllReady.nil
        exact AllReady.nil
      refine PM.ready1 rfl ?_ ?_
      · have d0 := PM.cellA hB5 e0.out
        have d1 := PM.cellA hB5 e1.out
        have d2 := PM.cellA hB5 e2.out
        have d3 := PM.cellA hB5 e3.out
        have d4 := PM.cellA hB5 e4.out
        go_wp2_with fail
        clear d0 d1 d2 d3 d4
        refine ⟨rfl, ?_⟩
        refine wpAny_ready (rs := [2, 4]) (by kernel_rfl) (by simp) ?_
        refine PM.ready1 rfl ?_ ?_
        · have hs41 := hv5.keep hB5
          have hz42 := hB5.size
          have hn43 : (([] : List PM.Te).length + (l : List PM.Te).length) * 56 ≤ 140737488355328 ∧ ([] : List PM.Te).length + (l : List PM.Te).length ≤ maxLen := by
            unfold maxLen
            simp
            omega
          refine PM.wpList_em2 (e := PM.teL) teTy2 teTy.sl PM.teL_len PM.teL_one w5.heap.size rfl _ _ rfl (.slice (some ⟨g2, 0, none⟩) 0 0) _ ([]) (l) rfl rfl hO3 hs41 hn43.1 hn43.2 hz42 ?_
          intro v34 W35 q36 q37 q38 q39
          go_wp2_with fail
          have hB40 := hB5.trans q37
          refine ⟨rfl, ?_⟩
          refine wpAny_ready (rs := [4]) (by kernel_rfl) (by simp) ?_
          refine PM.ready1 rfl ?_ ?_
          · go_wp2_with fail
            obtain ⟨g45, hg45⟩ : ∃ g, g = W35.heap.size := ⟨_, rfl⟩
            obtain ⟨W44, hW44⟩ : ∃ x, x = W35.alloc (.cells #[.string z.name, .int .i64 z.op, .int .i64 z.k, .int .i64 z.n, .string z.s] 30) := ⟨_, rfl⟩
            have hal47 : Below W35.heap.size W35 W44 := by rw [hW44]; exact (Below.refl _ _).alloc (Nat.le_refl _) _
            have hL46 : PM.EM PM.teL 5 W44 (.slice (some ⟨g45, 0, none⟩) 1 1) [z] := by rw [hW44, hg45]; exact PM.EM.lit PM.teL_len W35 30 z
            have hlt49 : g45 < W44.heap.size := by rw [hW44, hg45]; simp
            have hB48 := PM.chain hB40 hal47
            have hap51 : ∀ k, (v34 : Value).ownBlock = some k → k ≠ g45 := by intro k hk; have := (q36.lt k hk).2; omega
            have hO50 := q36.keep hal47
            rw [← hW44, ← hg45]
            clear hW44 hg45
            refine ⟨rfl, ?_⟩
            refine wpAny_ready (rs := [5]) (by kernel_rfl) (by simp) ?_
            refine PM.ready1 rfl ?_ ?_
            · have hs59 := hL46
              have hz60 := hB48.size
              have hn61 : (([] ++ l : List PM.Te).length + ([z] : List PM.Te).length) * 56 ≤ 140737488355328 ∧ ([] ++ l : List PM.Te).length + ([z] : List PM.Te).length ≤ maxLen := by
                unfold maxLen
                simp
                omega
              refine PM.wpList_em (e := PM.teL) teTy2 PM.teL_len PM.teL_one w5.heap.size rfl _ _ rfl (v34) _ ([] ++ l) ([z]) rfl rfl hO50 hs59 hn61.1 hn61.2 hz60 ?_
              intro v52 W53 q54 q55 q56 q57
              go_wp2_with fail
              have hB58 := hB48.trans q55
              refine ⟨rfl, ?_⟩
              refine wpAny_ready (rs := [6]) (by kernel_rfl) (by simp) ?_
              refine PM.ready1 rfl ?_ ?_
              · go_wp2_with fail
                refine ⟨rfl, ?_⟩
                refine wpAny_done (by kernel_rfl) ?_ _
                go_wp2_with fail
                go_meet
                exact ⟨(by simpa using q54), hB58⟩
              exact AllReady.nil
            exact AllReady.nil
          exact AllReady.nil
        refine PM.ready1 rfl ?_ ?_
        · go_wp2_with fail
          obtain ⟨g63, hg63⟩ : ∃ g, g = W1.heap.size := ⟨_, rfl⟩
          obtain ⟨W62, hW62⟩ : ∃ x, x = W1.alloc (.cells #[.string z.name, .int .i64 z.op, .int .i64 z.k, .int .i64 z.n, .string z.s] 30) := ⟨_, rfl⟩
          have hal65 : Below W1.heap.size W1 W62 := by rw [hW62]; exact (Below.refl _ _).alloc (Nat.le_refl _) _
          have hL64 : PM.EM PM.teL 5 W62 (.slice (some ⟨g63, 0, none⟩) 1 1) [z] := by rw [hW62, hg63]; exact PM.EM.lit PM.teL_len W1 30 z
          have hlt67 : g63 < W62.heap.size := by rw [hW62, hg63]; simp
          have hB66 := PM.chain hB5 hal65
          have hap69 : ∀ k, (.slice (some ⟨g2, 0, none⟩) 0 0 : Value).ownBlock = some k → k ≠ g63 := by intro k hk; have := (hO3.lt k hk).2; omega
          have hO68 := hO3.keep hal65
          rw [← hW62, ← hg63]
          clear hW62 hg63
          refine ⟨rfl, ?_⟩
          refine wpAny_ready (rs := [2]) (by kernel_rfl) (by simp) ?_
          refine PM.ready1 rfl ?_ ?_
          · have hs77 := hv5.keep hB66
            have hz78 := hB66.size
            have hn79 : (([] : List PM.Te).length + (l : List PM.Te).length) * 56 ≤ 140737488355328 ∧ ([] : List PM.Te).length + (l : List PM.Te).length ≤ maxLen := by
              unfold maxLen
              simp
              omega
            refine PM.wpList_em2 (e := PM.teL) teTy2 teTy.sl PM.teL_len PM.teL_one w5.heap.size rfl _ _ rfl (.slice (some ⟨g2, 0, none⟩) 0 0) _ ([]) (l) rfl rfl hO68 hs77 hn79.1 hn79.2 hz78 ?_
            intro v70 W71 q72 q73 q74 q75
            go_wp2_with fail
            have hB76 := hB66.trans q73
            have hL80 := hL64.kept q74 (by intro k hk he; simp [Value.ownBlock] at hk; exact hap69 k he hk.symm)
            have hap81 : ∀ k, (v70 : Value).ownBlock = some k → k ≠ g63 := by
              intro k hk
              rcases q75 with h | h
              · exact hap69 k (h ▸ hk)
              · have := h k hk; omega
            have hlt82 : g63 < W71.heap.size := Nat.lt_of_lt_of_le hlt67 q74.size
            refine ⟨rfl, ?_⟩
            refine wpAny_ready (rs := [5]) (by kernel_rfl) (by simp) ?_
            refine PM.ready1 rfl ?_ ?_
            · have hs90 := hL80
              have hz91 := hB76.size
              have hn92 : (([] ++ l : List PM.Te).length + ([z] : List PM.Te).length) * 56 ≤ 140737488355328 ∧ ([] ++ l : List PM.Te).length + ([z] : List PM.Te).length ≤ maxLen := by
                unfold maxLen
                simp
                omega
              refine PM.wpList_em (e := PM.teL) teTy2 PM.teL_len PM.teL_one w5.heap.size rfl _ _ rfl (v70) _ ([] ++ l) ([z]) rfl rfl q72 hs90 hn92.1 hn92.2 hz91 ?_
              intro v83 W84 q85 q86 q87 q88
              go_wp2_with fail
              have hB89 := hB76.trans q86
              refine ⟨rfl, ?_⟩
              refine wpAny_ready (rs := [6]) (by kernel_rfl) (by simp) ?_
              refine PM.ready1 rfl ?_ ?_
              · go_wp2_with fail
                refine ⟨rfl, ?_⟩
                refine wpAny_done (by kernel_rfl) ?_ _
                go_wp2_with fail
                go_meet
                exact ⟨(by simpa using q85), hB89⟩
              exact AllReady.nil
            exact AllReady.nil
          exact AllReady.nil
        exact AllReady.nil
      exact AllReady.nil
    refine PM.ready1 rfl ?_ ?_
    · have d0 := PM.cellA hBd e0.out
      have d1 := PM.cellA hBd e1.out
      have d2 := PM.cellA hBd e2.out
      have d3 := PM.cellA hBd e3.out
      have d4 := PM.cellA hBd e4.out
      go_wp2_with fail
      clear d0 d1 d2 d3 d4
      refine ⟨rfl, ?_⟩
      refine wpAny_ready (rs := [0, 4]) (by kernel_rfl) (by simp) ?_
      refine PM.ready1 rfl ?_ ?_
      · go_wp2_with fail
        obtain ⟨g94, hg94⟩ : ∃ g, g = wd.heap.size := ⟨_, rfl⟩
        obtain ⟨W93, hW93⟩ : ∃ x, x = wd.alloc (.cells #[] 30) := ⟨_, rfl⟩
        have hal96 : Below wd.heap.size wd W93 := by rw [hW93]; exact (Below.refl _ _).alloc (Nat.le_refl _) _
        have hO95 : PM.OM PM.teL 5 30 w5.heap.size W93 (.slice (some ⟨g94, 0, none⟩) 0 0) [] := by rw [hW93, hg94]; exact PM.OM.made wd #[] 0 (by decide) rfl hBd.size
        have hB97 := PM.chain hBd hal96
        rw [← hW93, ← hg94]
        clear hW93 hg94
        refine ⟨rfl, ?_⟩
        refine wpAny_ready (rs := [2, 4]) (by kernel_rfl) (by simp) ?_
        refine PM.ready1 rfl ?_ ?_
        · have hs105 := hv5.keep hB97
          have hz106 := hB97.size
          have hn107 : (([] : List PM.Te).length + (l : List PM.Te).length) * 56 ≤ 140737488355328 ∧ ([] : List PM.Te).length + (l : List PM.Te).length ≤ maxLen := by
            unfold maxLen
            simp
            omega
          refine PM.wpList_em2 (e := PM.teL) teTy2 teTy.sl PM.teL_len PM.teL_one w5.heap.size rfl _ _ rfl (.slice (some ⟨g94, 0, none⟩) 0 0) _ ([]) (l) rfl rfl hO95 hs105 hn107.1 hn107.2 hz106 ?_
          intro v98 W99 q100 q101 q102 q103
          go_wp2_with fail
          have hB104 := hB97.trans q101
          refine ⟨rfl, ?_⟩
          refine wpAny_ready (rs := [4]) (by kernel_rfl) (by simp) ?_
          refine PM.ready1 rfl ?_ ?_
          · go_wp2_with fail
            obtain ⟨g109, hg109⟩ : ∃ g, g = W99.heap.size := ⟨_, rfl⟩
            obtain ⟨W108, hW108⟩ : ∃ x, x = W99.alloc (.cells #[.string z.name, .int .i64 z.op, .int .i64 z.k, .int .i64 z.n, .string z.s] 30) := ⟨_, rfl⟩
            have hal111 : Below W99.heap.size W99 W108 := by rw [hW108]; exact (Below.refl _ _).alloc (Nat.le_refl _) _
            have hL110 : PM.EM PM.teL 5 W108 (.slice (some ⟨g109, 0, none⟩) 1 1) [z] := by rw [hW108, hg109]; exact PM.EM.lit PM.teL_len W99 30 z
            have hlt113 : g109 < W108.heap.size := by rw [hW108, hg109]; simp
            have hB112 := PM.chain hB104 hal111
            have hap115 : ∀ k, (v98 : Value).ownBlock = some k → k ≠ g109 := by intro k hk; have := (q100.lt k hk).2; omega
            have hO114 := q100.keep hal111
            rw [← hW108, ← hg109]
            clear hW108 hg109
            refine ⟨rfl, ?_⟩
            refine wpAny_ready (rs := [5]) (by kernel_rfl) (by simp) ?_
            refine PM.ready1 rfl ?_ ?_
            · have hs123 := hL110
              have hz124 := hB112.size
              have hn125 : (([] ++ l : List PM.Te).length + ([z] : List PM.Te).length) * 56 ≤ 140737488355328 ∧ ([] ++ l : List PM.Te).length + ([z] : List PM.Te).length ≤ maxLen := by
                unfold maxLen
                simp
                omega
              refine PM.wpList_em (e := PM.teL) teTy2 PM.teL_len PM.teL_one w5.heap.size rfl _ _ rfl (v98) _ ([] ++ l) ([z]) rfl rfl hO114 hs123 hn125.1 hn125.2 hz124 ?_
              intro v116 W117 q118 q119 q120 q121
              go_wp2_with fail
              have hB122 := hB112.trans q119
              refine ⟨rfl, ?_⟩
              refine wpAny_ready (rs := [6]) (by kernel_rfl) (by simp) ?_
              refine PM.ready1 rfl ?_ ?_
              · go_wp2_with fail
                refine ⟨rfl, ?_⟩
                refine wpAny_done (by kernel_rfl) ?_ _
                go_wp2_with fail
                go_meet
                exact ⟨(by simpa using q118), hB122⟩
              exact AllReady.nil
            exact AllReady.nil
          exact AllReady.nil
        refine PM.ready1 rfl ?_ ?_
        · go_wp2_with fail
          obtain ⟨g127, hg127⟩ : ∃ g, g = W93.heap.size := ⟨_, rfl⟩
          obtain ⟨W126, hW126⟩ : ∃ x, x = W93.alloc (.cells #[.string z.name, .int .i64 z.op, .int .i64 z.k, .int .i64 z.n, .string z.s] 30) := ⟨_, rfl⟩
          have hal129 : Below W93.heap.size W93 W126 := by rw [hW126]; exact (Below.refl _ _).alloc (Nat.le_refl _) _
          have hL128 : PM.EM PM.teL 5 W126 (.slice (some ⟨g127, 0, none⟩) 1 1) [z] := by rw [hW126, hg127]; exact PM.EM.lit PM.teL_len W93 30 z
          have hlt131 : g127 < W126.heap.size := by rw [hW126, hg127]; simp
          have hB130 := PM.chain hB97 hal129
          have hap133 : ∀ k, (.slice (some ⟨g94, 0, none⟩) 0 0 : Value).ownBlock = some k → k ≠ g127 := by intro k hk; have := (hO95.lt k hk).2; omega
          have hO132 := hO95.keep hal129
          rw [← hW126, ← hg127]
          clear hW126 hg127
          refine ⟨rfl, ?_⟩
          refine wpAny_ready (rs := [2]) (by kernel_rfl) (by simp) ?_
          refine PM.ready1 rfl ?_ ?_
          · have hs141 := hv5.keep hB130
            have hz142 := hB130.size
            have hn143 : (([] : List PM.Te).length + (l : List PM.Te).length) * 56 ≤ 140737488355328 ∧ ([] : List PM.Te).length + (l : List PM.Te).length ≤ maxLen := by
              unfold maxLen
              simp
              omega
            refine PM.wpList_em2 (e := PM.teL) teTy2 teTy.sl PM.teL_len PM.teL_one w5.heap.size rfl _ _ rfl (.slice (some ⟨g94, 0, none⟩) 0 0) _ ([]) (l) rfl rfl hO132 hs141 hn143.1 hn143.2 hz142 ?_
            intro v134 W135 q136 q137 q138 q139
            go_wp2_with fail
            have hB140 := hB130.trans q137
            have hL144 := hL128.kept q138 (by intro k hk he; simp [Value.ownBlock] at hk; exact hap133 k he hk.symm)
            have hap145 : ∀ k, (v134 : Value).ownBlock = some k → k ≠ g127 := by
              intro k hk
              rcases q139 with h | h
              · exact hap133 k (h ▸ hk)
              · have := h k hk; omega
            have hlt146 : g127 < W135.heap.size := Nat.lt_of_lt_of_le hlt131 q138.size
            refine ⟨rfl, ?_⟩
            refine wpAny_ready (rs := [5]) (by kernel_rfl) (by simp) ?_
            refine PM.ready1 rfl ?_ ?_
            · have hs154 := hL144
              have hz155 := hB140.size
              have hn156 : (([] ++ l : List PM.Te).length + ([z] : List PM.Te).length) * 56 ≤ 140737488355328 ∧ ([] ++ l : List PM.Te).length + ([z] : List PM.Te).length ≤ maxLen := by
                unfold maxLen
                simp
                omega
              refine PM.wpList_em (e := PM.teL) teTy2 PM.teL_len PM.teL_one w5.heap.size rfl _ _ rfl (v134) _ ([] ++ l) ([z]) rfl rfl q136 hs154 hn156.1 hn156.2 hz155 ?_
              intro v147 W148 q149 q150 q151 q152
              go_wp2_with fail
              have hB153 := hB140.trans q150
              refine ⟨rfl, ?_⟩
              refine wpAny_ready (rs := [6]) (by kernel_rfl) (by simp) ?_
              refine PM.ready1 rfl ?_ ?_
              · go_wp2_with fail
                refine ⟨rfl, ?_⟩
                refine wpAny_done (by kernel_rfl) ?_ _
                go_wp2_with fail
                go_meet
                exact ⟨(by simpa using q149), hB153⟩
              exact AllReady.nil
            exact AllReady.nil
          exact AllReady.nil
        exact AllReady.nil
      refine PM.ready1 rfl ?_ ?_
      · go_wp2_with fail
        obtain ⟨g158, hg158⟩ : ∃ g, g = wd.heap.size := ⟨_, rfl⟩
        obtain ⟨W157, hW157⟩ : ∃ x, x = wd.alloc (.cells #[.string z.name, .int .i64 z.op, .int .i64 z.k, .int .i64 z.n, .string z.s] 30) := ⟨_, rfl⟩
        have hal160 : Below wd.heap.size wd W157 := by rw [hW157]; exact (Below.refl _ _).alloc (Nat.le_refl _) _
        have hL159 : PM.EM PM.teL 5 W157 (.slice (some ⟨g158, 0, none⟩) 1 1) [z] := by rw [hW157, hg158]; exact PM.EM.lit PM.teL_len wd 30 z
        have hlt162 : g158 < W157.heap.size := by rw [hW157, hg158]; simp
        have hB161 := PM.chain hBd hal160
        rw [← hW157, ← hg158]
        clear hW157 hg158
        refine ⟨rfl, ?_⟩
        refine wpAny_ready (rs := [0]) (by kernel_rfl) (by simp) ?_
        refine PM.ready1 rfl ?_ ?_
        · go_wp2_with fail
          obtain ⟨g164, hg164⟩ : ∃ g, g = W157.heap.size := ⟨_, rfl⟩
          obtain ⟨W163, hW163⟩ : ∃ x, x = W157.alloc (.cells #[] 30) := ⟨_, rfl⟩
          have hal166 : Below W157.heap.size W157 W163 := by rw [hW163]; exact (Below.refl _ _).alloc (Nat.le_refl _) _
          have hO165 : PM.OM PM.teL 5 30 w5.heap.size W163 (.slice (some ⟨g164, 0, none⟩) 0 0) [] := by rw [hW163, hg164]; exact PM.OM.made W157 #[] 0 (by decide) rfl hB161.size
          have hB167 := PM.chain hB161 hal166
          have hL168 := hL159.keep hal166
          have hap169 : ∀ k, (.slice (some ⟨g164, 0, none⟩) 0 0 : Value).ownBlock = some k → k ≠ g158 := by intro k hk; simp [Value.ownBlock] at hk; omega
          have hlt170 : g158 < W163.heap.size := Nat.lt_of_lt_of_le hlt162 hal166.size
          rw [← hW163, ← hg164]
          clear hW163 hg164
          refine ⟨rfl, ?_⟩
          refine wpAny_ready (rs := [2]) (by kernel_rfl) (by simp) ?_
          refine PM.ready1 rfl ?_ ?_
          · have hs178 := hv5.keep hB167
            have hz179 := hB167.size
            have hn180 : (([] : List PM.Te).length + (l : List PM.Te).length) * 56 ≤ 140737488355328 ∧ ([] : List PM.Te).length + (l : List PM.Te).length ≤ maxLen := by
              unfold maxLen
              simp
              omega
            refine PM.wpList_em2 (e := PM.teL) teTy2 teTy.sl PM.teL_len PM.teL_one w5.heap.size rfl _ _ rfl (.slice (some ⟨g164, 0, none⟩) 0 0) _ ([]) (l) rfl rfl hO165 hs178 hn180.1 hn180.2 hz179 ?_
            intro v171 W172 q173 q174 q175 q176
            go_wp2_with fail
            have hB177 := hB167.trans q174
            have hL181 := hL168.kept q175 (by intro k hk he; simp [Value.ownBlock] at hk; exact hap169 k he hk.symm)
            have hap182 : ∀ k, (v171 : Value).ownBlock = some k → k ≠ g158 := by
              intro k hk
              rcases q176 with h | h
              · exact hap169 k (h ▸ hk)
              · have := h k hk; omega
            have hlt183 : g158 < W172.heap.size := Nat.lt_of_lt_of_le hlt170 q175.size
            refine ⟨rfl, ?_⟩
            refine wpAny_ready (rs := [5]) (by kernel_rfl) (by simp) ?_
            refine PM.ready1 rfl ?_ ?_
            · have hs191 := hL181
              have hz192 := hB177.size
              have hn193 : (([] ++ l : List PM.Te).length + ([z] : List PM.Te).length) * 56 ≤ 140737488355328 ∧ ([] ++ l : List PM.Te).length + ([z] : List PM.Te).length ≤ maxLen := by
                unfold maxLen
                simp
                omega
              refine PM.wpList_em (e := PM.teL) teTy2 PM.teL_len PM.teL_one w5.heap.size rfl _ _ rfl (v171) _ ([] ++ l) ([z]) rfl rfl q173 hs191 hn193.1 hn193.2 hz192 ?_
              intro v184 W185 q186 q187 q188 q189
              go_wp2_with fail
              have hB190 := hB177.trans q187
              refine ⟨rfl, ?_⟩
              refine wpAny_ready (rs := [6]) (by kernel_rfl) (by simp) ?_
              refine PM.ready1 rfl ?_ ?_
              · go_wp2_with fail
                refine ⟨rfl, ?_⟩
                refine wpAny_done (by kernel_rfl) ?_ _
                go_wp2_with fail
                go_meet
                exact ⟨(by simpa using q186), hB190⟩
              exact AllReady.nil
            exact AllReady.nil
          exact AllReady.nil
        exact AllReady.nil
      exact AllReady.nil
    exact AllReady.nil
  case rest =>
  obtain ⟨hO6, hB6⟩ := hcut
  obtain ⟨w7, rfl⟩ : ∃ x, x = wc := ⟨_, rfl⟩
  have hM := PM.hid (hO6.em PM.teL_len)
  have hT := hvh.out.2.1.keep hB6
  have hS := hvh.out.2.2.keep hB6
  have hBB7 := PM.hid (PM.chain hBB.out hB6)
  have hv7 := PM.hid (hv5.keep hB6)
  have he7 := PM.hid (he.keep hB6)
  have hk7 := PM.hid (hk6.keep hB6)
  obtain ⟨ht, hs⟩ := hths.out
  clear hO6 hB6 hvh hths hv5 he hk6 e0 e1 e2 e3 e4 hBB
  go_upto_region 8 with fail
  go_cut [11] from 45 to 53 (fun s wx => PM.OM PM.teL 5 30 w7.heap.size wx s (l.drop A ++ l.take A) ∧ Below w7.heap.size w7 wx)
  case first =>
    refine wp_region_any (by kernel_rfl) ?_
    change wpAny _ _ _ _ _ _ _ (World.drew w7)
    obtain ⟨wd, hwd⟩ : ∃ x, x = World.drew w7 := ⟨_, rfl⟩
    have hBd : Below w7.heap.size w7 wd := by rw [hwd]; exact (Below.refl _ _).drew
    rw [← hwd]
    clear hwd
    refine wpAny_take (i := 1) (v := ?_) rfl (by kernel_rfl) (by kernel_rfl) (by kernel_rfl) (fun _ _ _ h => h) (Or.inl ⟨by rfl, ?_⟩) ?_
    rotate_left
    · intro W
      go_simp
      try with_reducible rfl
    refine wpAny_take (i := 2) (v := ?_) rfl (by kernel_rfl) (by kernel_rfl) (by kernel_rfl) (fun _ _ _ h => h) (Or.inl ⟨by rfl, ?_⟩) ?_
    rotate_left
    · intro W
      go_simp
      try with_reducible rfl
    refine wpAny_take (i := 3) (v := ?_) rfl (by kernel_rfl) (by kernel_rfl) (by kernel_rfl) (fun _ _ _ h => h) (Or.inl ⟨by rfl, ?_⟩) ?_
    rotate_left
    · intro W
      go_simp
      try with_reducible rfl
    refine wpAny_take (i := 5) (v := ?_) rfl (by kernel_rfl) (by kernel_rfl) (by kernel_rfl) (fun _ _ _ h => h) (Or.inl ⟨by rfl, ?_⟩) ?_
    rotate_left
    · intro W
      go_simp
      try with_reducible rfl
    refine wpAny_take (i := 6) (v := ?_) rfl (by kernel_rfl) (by kernel_rfl) (by kernel_rfl) (fun _ _ _ h => h) (Or.inl ⟨by rfl, ?_⟩) ?_
    rotate_left
    · intro W
      go_simp
      try with_reducible rfl
    refine wpAny_take (i := 7) (v := ?_) rfl (by kernel_rfl) (by kernel_rfl) (by kernel_rfl) (fun _ _ _ h => h) (Or.inl ⟨by rfl, ?_⟩) ?_
    rotate_left
    · intro W
      go_simp
      try with_reducible rfl
    refine wpAny_ready (rs := [0]) (by kernel_rfl) (by simp) ?_
    refine PM.ready1 rfl ?_ ?_
    · go_wp2_with fail
      obtain ⟨g195, hg195⟩ : ∃ g, g = wd.heap.size := ⟨_, rfl⟩
      obtain ⟨W194, hW194⟩ : ∃ x, x = wd.alloc (.cells #[] 30) := ⟨_, rfl⟩
      have hal197 : Below wd.heap.size wd W194 := by rw [hW194]; exact (Below.refl _ _).alloc (Nat.le_refl _) _
      have hO196 : PM.OM PM.teL 5 30 w7.heap.size W194 (.slice (some ⟨g195, 0, none⟩) 0 0) [] := by rw [hW194, hg195]; exact PM.OM.made wd #[] 0 (by decide) rfl hBd.size
      have hB198 := PM.chain hBd hal197
      rw [← hW194, ← hg195]
      clear hW194 hg195
      refine ⟨rfl, ?_⟩
      refine wpAny_ready (rs := [4]) (by kernel_rfl) (by simp) ?_
      refine PM.ready1 rfl ?_ ?_
      · have hs206 := hS.keep hB198
        have hz207 := hB198.size
        have hn208 : (([] : List PM.Te).length + (l.drop A : List PM.Te).length) * 56 ≤ 140737488355328 ∧ ([] : List PM.Te).length + (l.drop A : List PM.Te).length ≤ maxLen := by
          unfold maxLen
          simp
          omega
        refine PM.wpList_em2 (e := PM.teL) teTy2 teTy.sl PM.teL_len PM.teL_one w7.heap.size rfl _ _ rfl (.slice (some ⟨g195, 0, none⟩) 0 0) _ ([]) (l.drop A) rfl rfl hO196 hs206 hn208.1 hn208.2 hz207 ?_
        intro v199 W200 q201 q202 q203 q204
        go_wp2_with fail
        have hB205 := hB198.trans q202
        refine ⟨rfl, ?_⟩
        refine wpAny_ready (rs := [8]) (by kernel_rfl) (by simp) ?_
        refine PM.ready1 rfl ?_ ?_
        · have hs216 := hT.keep hB205
          have hz217 := hB205.size
          have hn218 : (([] ++ l.drop A : List PM.Te).length + (l.take A : List PM.Te).length) * 56 ≤ 140737488355328 ∧ ([] ++ l.drop A : List PM.Te).length + (l.take A : List PM.Te).length ≤ maxLen := by
            unfold maxLen
            simp
            omega
          refine PM.wpList_em2 (e := PM.teL) teTy2 teTy.sl PM.teL_len PM.teL_one w7.heap.size rfl _ _ rfl (v199) _ ([] ++ l.drop A) (l.take A) rfl rfl q201 hs216 hn218.1 hn218.2 hz217 ?_
          intro v209 W210 q211 q212 q213 q214
          go_wp2_with fail
          have hB215 := hB205.trans q212
          refine ⟨rfl, ?_⟩
          refine wpAny_ready (rs := [9]) (by kernel_rfl) (by simp) ?_
          refine PM.ready1 rfl ?_ ?_
          · go_wp2_with fail
            refine ⟨rfl, ?_⟩
            refine wpAny_done (by kernel_rfl) ?_ _
            go_wp2_with fail
            go_meet
            exact ⟨(by simpa using q211), hB215⟩
          exact AllReady.nil
        exact AllReady.nil
      exact AllReady.nil
    exact AllReady.nil
  case rest =>
  obtain ⟨hO8, hB8⟩ := hcut
  obtain ⟨w8, rfl⟩ : ∃ x, x = wc := ⟨_, rfl⟩
  have hR := hO8.em PM.teL_len
  have hN := hM.out.keep hB8
  have hv := hv7.out.keep hB8
  have he := he7.out.keep hB8
  have hk := hk7.out.keep hB8
  have hBB := PM.hid (PM.chain hBB7.out hB8)
  clear hO8 hB8 hM hv7 he7 hk7 hBB7 hT hS ht hs
  have f1 := PM.hid (PM.matchB_more l z es)
  have f2 := PM.hid (PM.matchB_turn l A es)
  have f3 := PM.hid (PM.matchB_nil es)
  go_wp2_with fail
  refine (matches_any _ l ev es _ hv he).mono ?_
  rintro e w9 ⟨rfl, hB9⟩
  replace hR := hR.keep hB9
  replace hN := hN.keep hB9
  replace he := he.keep hB9
  replace hk := hk.keep hB9
  replace hBB := PM.hid (PM.chain hBB.out hB9)
  clear hB9
  clear hv
  go_wp2_with fail
  refine (matches_any _ (l ++ [z]) ev es _ hN he).mono ?_
  rw [f1.out]
  rintro e w10 ⟨rfl, hB10⟩
  replace hR := hR.keep hB10
  replace he := he.keep hB10
  replace hk := hk.keep hB10
  replace hBB := PM.hid (PM.chain hBB.out hB10)
  clear hB10
  clear hN f1
  have d0 : w10.cell? ⟨g6, 0, none⟩ = some (.string z.name) := hk.cell 0
  have d1 : w10.cell? ⟨g6, 1, none⟩ = some (.int .i64 z.op) := hk.cell 1
  have d2 : w10.cell? ⟨g6, 2, none⟩ = some (.int .i64 z.k) := hk.cell 2
  have d3 : w10.cell? ⟨g6, 3, none⟩ = some (.int .i64 z.n) := hk.cell 3
  have d4 : w10.cell? ⟨g6, 4, none⟩ = some (.string z.s) := hk.cell 4
  generalize hM : PM.matchB l es = M at *
  clear hM
  cases M with
  | false =>
    have hHf := PM.hid (Bool.false_and (PM.holdsB z es))
    clear hk d0 d1 d2 d3 d4
    simp only [Bool.false_and]
    go_wp2_with fail
    refine (matches_any _ _ ev es _ hR he).mono ?_
    rw [f2.out]
    rintro e w11 ⟨rfl, hB11⟩
    replace he := he.keep hB11
    replace hBB := PM.hid (PM.chain hBB.out hB11)
    clear hB11
    go_wp2_with fail
    refine (matches_any _ [] ev es _ (PM.EM.nil _) he).mono ?_
    rw [f3.out]
    rintro e w12 ⟨rfl, hB12⟩
    replace hBB := PM.hid (PM.chain hBB.out hB12)
    clear hB12
    go_wp2_with fail
    go_ret
    exact ⟨by simp, hBB.out⟩
  | true =>
    simp only [Bool.true_and]
    go_wp2_with fail
    refine (holds_any z ev es _ he).mono ?_
    rintro e w11 ⟨rfl, hB11⟩
    replace hR := hR.keep hB11
    replace he := he.keep hB11
    replace hBB := PM.hid (PM.chain hBB.out hB11)
    clear hB11
    clear hk d0 d1 d2 d3 d4
    generalize PM.holdsB z es = H at *
    cases H <;> (
      go_wp2_with fail
      refine (matches_any _ _ ev es _ hR he).mono ?_
      rw [f2.out]
      rintro e w12 ⟨rfl, hB12⟩
      replace he := he.keep hB12
      replace hBB := PM.hid (PM.chain hBB.out hB12)
      clear hB12
      go_wp2_with fail
      refine (matches_any _ [] ev es _ (PM.EM.nil _) he).mono ?_
      rw [f3.out]
      rintro e w13 ⟨rfl, hB13⟩
      replace hBB := PM.hid (PM.chain hBB.out hB13)
      clear hB13
      go_wp2_with fail
      go_ret
      exact ⟨by simp, hBB.out⟩)
end Go.Proofs.Ytocggnaekajdbaa
