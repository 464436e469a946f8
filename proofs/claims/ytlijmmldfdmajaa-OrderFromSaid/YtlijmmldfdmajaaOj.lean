/-
  THE WALK OF OrderFrom.
-/
import Derived.Test.YtlijmmldfdmajaaOg
import Derived.Test.YtlijmmldfdmajaaOi
namespace Go.Proofs.Ytlijmmldfdmajaa
open Go.RowKit
set_option linter.unusedVariables false
set_option linter.unusedSimpArgs false
namespace PM
theorem EM.takeU {α : Type} {e : α → List Value} {c nb : Nat} {P : Program} {T E : TypeId} (MT : MTy P T E c nb) {w : World} {v : Value} {l : List α} (h : EM e c w v l) {K : Nat} (hK : K ≤ l.length) :
    ∃ a k, (∀ W : World, (Instr.slice T v none (some (.int .u64 (K : Int))) none).run P W = .ok (.slice a K k) W) ∧ EM e c w (.slice a K k) (l.take K) := by
  obtain ⟨hT, hs⟩ := MT.size
  obtain ⟨ad, cap, rfl, h1, h2, h3⟩ := h
  refine ⟨if cap = 0 then ad else ad.map (·.add (0 * c)), cap - 0, fun W => ?_, ?_⟩
  · rw [run_slice_h W T ad l.length cap hT .u64 K (by omega) (by omega), hs]
    simp [Result.andThen, sliced]
  · refine ⟨_, _, by rw [List.length_take_of_le hK], by rw [List.length_take_of_le hK]; omega, by omega, fun hp => ?_⟩
    rw [List.length_take_of_le hK] at hp
    obtain ⟨b, off, rfl, h4⟩ := h3 (by omega)
    refine ⟨b, off, ?_, fun i x hi => ?_⟩
    · rw [if_neg (by omega), Option.map_some]
      unfold Addr.add; split <;> simp_all
    · refine h4 i x ?_
      rw [List.getElem?_take] at hi
      split at hi
      · exact hi
      · cases hi
theorem RR.takeU {α : Type} {R : World → List Value → α → Prop} {c nb : Nat} {P : Program} {T E : TypeId} (MT : MTy P T E c nb) {w : World} {v : Value} {l : List α} (h : RR R c w v l) {K : Nat} (hK : K ≤ l.length) :
    ∃ a k, (∀ W : World, (Instr.slice T v none (some (.int .u64 (K : Int))) none).run P W = .ok (.slice a K k) W) ∧ RR R c w (.slice a K k) (l.take K) := by
  obtain ⟨css, h1, h2, h3⟩ := h
  obtain ⟨a, k, g1, g2⟩ := EM.takeU MT h1 (K := K) (by omega)
  refine ⟨a, k, g1, css.take K, g2, by simp [h2], fun i cs x hi hx => ?_⟩
  rw [List.getElem?_take] at hi hx
  split at hi
  · rename_i hlt
    rw [if_pos hlt] at hx
    exact h3 _ _ _ hi hx
  · cases hi
/-- entries of which some are read in a world before, some are one's own -/
def gR (TT TA TE : TypeId) (W0 : World) (B : Nat) (w : World) (cs : List Value) (x : En) : Prop := enR W0 cs x ∨ enO TT TA TE B w cs x
theorem gR_lasts {TT TA TE : TypeId} {W0 : World} {B : Nat} : Lasts (gR TT TA TE W0 B) := fun W w cs x hb h => h.elim .inl fun h => .inr (enO_lasts _ _ _ _ hb h)
theorem gR_stays {TT TA TE K : TypeId} {W0 : World} {B : Nat} (h1 : TT ≠ K) (h2 : TA ≠ K) (h3 : TE ≠ K) : Stays (gR TT TA TE W0 B) K := fun w w' cs x row hg ht h => h.elim .inl fun h => .inr (enO_stays h1 h2 h3 _ _ _ _ _ hg ht h)
theorem gR_enR {TT TA TE : TypeId} {W0 : World} {B : Nat} {w : World} (hb : Below W0.heap.size W0 w) (cs : List Value) (x : En) (h : gR TT TA TE W0 B w cs x) : enR w cs x := h.elim (fun h => enR_lasts _ _ _ _ hb h) fun h => enO_enR h
theorem OR.lit0 {α : Type} {R : World → List Value → α → Prop} {c : Nat} {E : TypeId} {B : Nat} (W : World) (hB : B ≤ W.heap.size) : OR R c E B (W.alloc (.cells #[] E)) (.slice (some ⟨W.heap.size, 0, none⟩) 0 0) ([] : List α) :=
  ⟨[], ⟨by simp, .inr ⟨W.heap.size, 0, #[], rfl, hB, heap_alloc_new W _, by simp, by decide, by simp, by simp⟩⟩, rfl, fun i cs x a b => by simp at a⟩
theorem from_step (l : List En) (q : Nat) : l.take q ++ fromL l q = l.take (q + 4) := by
  unfold fromL
  rw [List.take_add]
end PM
set_option maxRecDepth 100000 in
set_option maxHeartbeats 16000000 in
theorem orderFrom_walkA (a1 : Option Addr) (N c1 : Nat) (l : List PM.En) (H : Nat) (hH : H < 2 ^ 64) (w : World) (hN : N = l.length) (hv1 : PM.EnL w (.slice a1 N c1) l) (hwf : ∀ x ∈ l, x.wf) :
    Calls Try.prog 6 #[.slice a1 N c1, .int .u64 (H : Int)] w fun e w' => e = .returned (.bool true) ∧ Below w.heap.size w w' := by
  have hNh := PM.hid hN
  clear hN
  replace hv1 := PM.hid hv1
  replace hwf := PM.hid hwf
  go_enter Try.func6, Try.ntmps6
  go_wp2_with fail
  refine (awake19_any w).mono ?_
  rintro e w1 ⟨rfl, hBn⟩
  have hBB := PM.hid hBn
  clear hBn
  go_wp2_with fail
  refine (few19_any 0 a1 N c1 none 0 0 none 0 0 none 0 0 none 0 0 (.slice none 0 0) l [] [] [] w1 (PM.EnL.keep hv1.out hBB.out) (PM.RR.nil _) (PM.RR.nil _) (PM.RR.nil _)).mono ?_
  rintro e w2 ⟨hF, hBn⟩
  replace hBB := PM.hid (PM.chain hBB.out hBn)
  clear hBn
  rcases hF with ⟨rfl, -, hF1, -⟩ | rfl
  case inr =>
    go_wp2_with fail
    go_ret
    exact ⟨rfl, hBB.out⟩
  have hens := PM.hid hF1.ensS
  have hN20 : N ≤ 20 := by rw [hNh.out]; exact hF1.1
  clear hF1
  have hl2 := PM.hid (PM.EnL.keep hv1.out hBB.out)
  go_upto_region 4 with fail
  go_cut [6] from 16 to 20 (fun s wx => ∃ K : Nat, s = .int .u64 (K : Int) ∧ K ≤ N ∧ wx = w2)
  case first =>
    by_cases hHN : H ≤ N
    · have hm : min (H : Int) (N : Int) = (H : Int) := by omega
      go_wp2_with fail
      all_goals
        go_meet
        exact ⟨H, rfl, hHN, rfl⟩
    · have hm : min (H : Int) (N : Int) = (N : Int) := by omega
      go_wp2_with fail
      all_goals
        go_meet
        exact ⟨N, rfl, Nat.le_refl _, rfl⟩
  case rest =>
    obtain ⟨K, rfl, hKN, hwc⟩ := hcut
    obtain rfl : w2 = wc := hwc.symm
    obtain ⟨ta, tk, ht, hT⟩ := PM.RR.takeU tyEnO hl2.out (K := K) (by rw [← hNh.out]; exact hKN)
    have hTh := PM.hid hT
    clear hT
    obtain ⟨g3, hg3⟩ : ∃ g, g = w2.heap.size := ⟨_, rfl⟩
    obtain ⟨w3, hw3⟩ : ∃ W, W = w2.alloc (.cells #[] 38) := ⟨_, rfl⟩
    have hB3 : Below w2.heap.size w2 w3 := by rw [hw3]; exact (Below.refl _ _).alloc (Nat.le_refl _) _
    have hO3 : PM.OR (PM.gR 85 88 73 w2 w2.heap.size) 8 38 w2.heap.size w3 (.slice (some ⟨g3, 0, none⟩) 0 0) [] := by rw [hw3, hg3]; exact PM.OR.lit0 _ (Nat.le_refl _)
    have hT3 : PM.RR (PM.gR 85 88 73 w2 w2.heap.size) 8 w3 (.slice ta K tk) (l.take K) := by
      obtain ⟨css, h1, h2, h3⟩ := hTh.out
      exact ⟨css, h1.keep hB3, h2, fun i cs x a b => .inl (h3 i cs x a b)⟩
    have hl16 : ([] : List PM.En).length + (l.take K).length ≤ 20 := by rw [List.length_take]; simp; omega
    have hB3h := PM.hid hB3
    clear hB3
    go_wp2_with (at_builtin; rw [← hw3, ← hg3]; go_loud (refine PM.wpList_ormS tyEnO (PM.gR_stays (by decide) (by decide) (by decide)) w2.heap.size rfl _ _ rfl _ _ [] (l.take K) rfl rfl hO3 hT3 (by omega) (by unfold maxLen; omega) hB3h.out.size ?_); intro v' w4 t1 t2 t3 t4; have hE := PM.hid (And.intro t1 (hB3h.out.trans t2)); clear t1 t2 t3 t4 hO3 hT3)

    obtain ⟨ra, rc, hre⟩ := hE.out.1.rr.len
    rw [List.nil_append, List.length_take_of_le (by rw [← hNh.out]; exact hKN)] at hre
    rw [hre] at hE
    have hE2 : Hid (PM.OR (PM.gR 85 88 73 w2 w2.heap.size) 8 38 w2.heap.size w4 (.slice ra K rc) (l.take K) ∧ Below w2.heap.size w2 w4) := PM.hid (by simpa using hE.out)
    rw [hre]
    clear hE hre hB3h hw3 hg3 ht hTh hl16
    go_wp2_with fail
    go_loopw [7, 8] (fun s i wr => ∃ k q : Nat, ∃ a c, i = .int .i64 k ∧ s = .slice a q c ∧ k ≤ 25 ∧ q ≤ N ∧ (N ≤ q ∨ 4 * k ≤ q) ∧ Hid (PM.OR (PM.gR 85 88 73 w2 w2.heap.size) 8 38 w2.heap.size wr (.slice a q c) (l.take q) ∧ Below w2.heap.size w2 wr)) (fun _ i _ => 25 - (intOf i).toNat)
    case atStart => exact ⟨0, K, _, _, rfl, rfl, by omega, hKN, by omega, hE2⟩
    case round =>
      obtain ⟨k, Q, sa, sc, rfl, rfl, hk, hQ, hqk, hin⟩ := hrel
      by_cases hlt : k < 25
      · have hq64 : Q < 2 ^ 64 := by omega
        have hcf := from_any (.slice a1 N c1) l Q hq64 wr (PM.EnL.keep hl2.out hin.out.2) hens.out
        go_wp2_with fail
        refine hcf.mono ?_
        clear hcf
        rintro e w5 ⟨u, rfl, hu, hBn⟩
        have hrow := PM.OR.keep PM.gR_lasts hBn hin.out.1
        have hB5 : Below w2.heap.size w2 w5 := hin.out.2.trans (hBn.mono hin.out.2.size)
        obtain ⟨pa, pc, hpe⟩ := hu.rr.len
        have hsrc : PM.RR (PM.gR 85 88 73 w2 w2.heap.size) 8 w5 u (PM.fromL l Q) := hu.rr.imp fun cs x h => .inr (PM.enO_mono hin.out.2.size h)
        obtain ⟨P, hP⟩ : ∃ P, P = (PM.fromL l Q).length := ⟨_, rfl⟩
        rw [← hP] at hpe
        subst hpe
        have hP4 : P ≤ 4 := by rw [hP]; unfold PM.fromL; exact List.length_take_le _ _
        have hPd : P = min 4 (N - Q) := by rw [hP]; unfold PM.fromL; rw [List.length_take, List.length_drop, ← hNh.out]
        have hls : (l.take Q).length + (PM.fromL l Q).length ≤ 24 := by rw [← hP, List.length_take]; omega
        obtain ⟨M, hM⟩ : ∃ M, M = min (Q + 4) N := ⟨_, rfl⟩
        have hlM : l.take (Q + 4) = l.take M := by
          rw [hM]
          by_cases h : Q + 4 ≤ N
          · rw [Nat.min_eq_left h]
          · rw [Nat.min_eq_right (by omega), List.take_of_length_le (by rw [← hNh.out]; omega), List.take_of_length_le (by rw [← hNh.out]; omega)]
        have hML : (l.take M).length = M := by rw [List.length_take, ← hNh.out, hM, Nat.min_assoc, Nat.min_self]
        clear hP hu hBn hin
        have hMn : M ≤ N ∧ M ≤ Q + 4 ∧ (M = N ∨ M = Q + 4) := by rw [hM, Nat.min_def]; split <;> omega
        have hz : P = 0 → ¬ Q < N := by rw [hPd, Nat.min_def]; split <;> omega
        replace hlM := PM.hid hlM
        replace hML := PM.hid hML
        replace hMn := PM.hid hMn
        clear hM
        have hPz : Hid (P = 0 → ¬ Q < N) := PM.hid hz
        clear hz hPd
        have q4 : decide ((4 : Int) < (P : Int)) = false := by simp; omega
        have q4' : ¬ (4 : Int) < (P : Int) := by omega
        by_cases hP0 : P = 0
        · subst hP0
          have hz0 := hPz.out rfl
          have qn : decide ((Q : Int) < (N : Int)) = false := by simp; omega
          have qn' : ¬ (Q : Int) < (N : Int) := by omega
          clear hz0
          go_wp2_with (at_builtin; go_loud (refine PM.wpList_ormS tyEnO (PM.gR_stays (by decide) (by decide) (by decide)) w2.heap.size rfl _ _ rfl _ _ (l.take Q) (PM.fromL l Q) rfl rfl hrow hsrc (by omega) (by unfold maxLen; omega) hB5.size ?_); intro v' w6 t1 t2 t3 t4; rw [PM.from_step, hlM.out] at t1; have hE := PM.hid (And.intro t1 (hB5.trans t2)); obtain ⟨ya, yc, hre⟩ := t1.rr.len; rw [hML.out] at hre; rw [hre] at hE ⊢; clear t1 t2 t3 t4 hrow hsrc hre)
          have hMo := hMn.out
          exact ⟨⟨k + 1, M, ya, yc, by go_num, rfl, by omega, by omega, by omega, hE⟩, by simp only [intOf]; omega⟩
        · have q0 : ((P : Int) == 0) = false := by simp; omega
          go_wp2_with (at_builtin; go_loud (refine PM.wpList_ormS tyEnO (PM.gR_stays (by decide) (by decide) (by decide)) w2.heap.size rfl _ _ rfl _ _ (l.take Q) (PM.fromL l Q) rfl rfl hrow hsrc (by omega) (by unfold maxLen; omega) hB5.size ?_); intro v' w6 t1 t2 t3 t4; rw [PM.from_step, hlM.out] at t1; have hE := PM.hid (And.intro t1 (hB5.trans t2)); obtain ⟨ya, yc, hre⟩ := t1.rr.len; rw [hML.out] at hre; rw [hre] at hE ⊢; clear t1 t2 t3 t4 hrow hsrc hre)
          have hMo := hMn.out
          exact ⟨⟨k + 1, M, ya, yc, by go_num, rfl, by omega, by omega, by omega, hE⟩, by simp only [intOf]; omega⟩
      · have hk25 : k = 25 := by omega
        subst hk25
        have hQN : Q = N := by omega
        subst hQN
        have h9 : l.take Q = l := by rw [hNh.out]; exact List.take_length
        rw [h9] at hin
        clear h9
        have hsm := sameEns_any (.slice sa Q sc) (.slice a1 Q c1) l l wr (hin.out.1.rr.imp fun cs x h => PM.gR_enR hin.out.2 cs x h) (PM.EnL.keep hl2.out hin.out.2) hwf.out hwf.out
        go_wp2_with fail
        refine hsm.mono ?_
        clear hsm
        rintro e w5 ⟨h, hb⟩
        have hBe := PM.hid (PM.chain hBB.out (hin.out.2.trans (hb.mono hin.out.2.size)))
        clear hb hin
        rcases h with ⟨rfl, -⟩ | ⟨-, h⟩
        · go_wp2_with fail
          go_ret
          exact ⟨by simp, hBe.out⟩
        · first | exact absurd rfl h | exact absurd trivial h
theorem orderFrom_walk (v0 : Value) (l : List PM.En) (n : Int) (hn : (Lit.int .u64 n).wf = true) (w : World) (hv0 : PM.EnL w v0 l) (hwf : ∀ x ∈ l, x.wf) :
    Calls Try.prog 6 #[v0, .int .u64 n] w fun e w' => e = .returned (.bool true) ∧ Below w.heap.size w w' := by
  obtain ⟨H, rfl, hH⟩ := PM.nat_u64 hn
  obtain ⟨a1, c1, rfl⟩ := hv0.len
  exact orderFrom_walkA a1 _ c1 l H hH w rfl hv0 hwf
end Go.Proofs.Ytlijmmldfdmajaa
