/-
  THE WALK OF OrderOnce.
-/
import Derived.Test.YtlijmmldfdmajaaOg
import Derived.Test.YtlijmmldfdmajaaOi
namespace Go.Proofs.Ytlijmmldfdmajaa
open Go.RowKit
set_option linter.unusedVariables false
set_option linter.unusedSimpArgs false
namespace PM
theorem hasE_no {l : List En} {i : Id} (h : hasE l i = false) : ∀ y ∈ l, y.id ≠ i := by
  intro y hy e
  have : hasE l i = true := by
    unfold hasE
    rw [List.any_eq_true]
    exact ⟨y, hy, by simp [isId, e]⟩
  rw [this] at h
  cases h
theorem snoc_inv {Q : En → Prop} {n : Nat} {l : List En} {x : En} (h : ∀ (i : Nat) (z : En), n ≤ i → l[i]? = some z → Q z ∧ ∀ (j : Nat) (y : En), j < i → l[j]? = some y → y.id ≠ z.id) (hx : Q x) (hno : hasE l x.id = false) :
    ∀ (i : Nat) (z : En), n ≤ i → (l ++ [x])[i]? = some z → Q z ∧ ∀ (j : Nat) (y : En), j < i → (l ++ [x])[j]? = some y → y.id ≠ z.id := by
  intro i z hi hz
  by_cases hl : i < l.length
  · rw [List.getElem?_append_left hl] at hz
    obtain ⟨h1, h2⟩ := h i z hi hz
    refine ⟨h1, fun j y hj hy => ?_⟩
    rw [List.getElem?_append_left (by omega)] at hy
    exact h2 j y hj hy
  · rw [List.getElem?_append_right (by omega)] at hz
    have hi0 : i = l.length := by
      have := (List.getElem?_eq_some_iff.1 hz).1
      simp at this
      omega
    subst hi0
    simp at hz
    subst hz
    refine ⟨hx, fun j y hj hy => ?_⟩
    rw [List.getElem?_append_left hj] at hy
    exact hasE_no hno y (List.mem_of_getElem? hy)
def AdmI (k : Id → Bool) (op : List En) (st : List En × List En) : Prop := (∃ ext, st.1 = op ++ ext) ∧
  (∀ (i : Nat) (z : En), op.length ≤ i → st.1[i]? = some z → (z.kind = 1 ∧ k z.id = false) ∧ ∀ (j : Nat) (y : En), j < i → st.1[j]? = some y → y.id ≠ z.id) ∧
  (∀ (i : Nat) (z : En), 0 ≤ i → st.2[i]? = some z → (z.kind ≠ 1 ∧ k z.id = false) ∧ ∀ (j : Nat) (y : En), j < i → st.2[j]? = some y → y.id ≠ z.id) ∧ (st.1.length ≤ op.length ∨ st.1.length ≤ 4)
theorem adm1_I {k : Id → Bool} {op : List En} {st : List En × List En} (h : AdmI k op st) (x : En) : AdmI k op (adm1 k st x) := by
  obtain ⟨⟨ext, h0⟩, h1, h2, h3⟩ := h
  obtain ⟨p, q⟩ := st
  simp only at h0 h1 h2 h3
  unfold adm1
  simp only
  by_cases hs : (hasE p x.id || hasE q x.id || k x.id) = true
  · rw [if_pos hs]
    exact ⟨⟨ext, h0⟩, h1, h2, h3⟩
  · rw [if_neg hs]
    simp only [Bool.or_eq_true, not_or, Bool.not_eq_true] at hs
    obtain ⟨⟨hp, hq⟩, hk⟩ := hs
    by_cases h4 : x.kind = 1
    · rw [if_neg (fun h => h h4)]
      by_cases h5 : p.length < 4
      · rw [if_pos h5]
        exact ⟨⟨ext ++ [x], by simp [h0]⟩, snoc_inv h1 ⟨h4, hk⟩ hp, h2, .inr (by simp; omega)⟩
      · rw [if_neg h5]
        exact ⟨⟨ext, h0⟩, h1, h2, h3⟩
    · rw [if_pos h4]
      exact ⟨⟨ext, h0⟩, h1, snoc_inv h2 ⟨h4, hk⟩ hq, h3⟩
theorem adm_I (k : Id → Bool) (op l : List En) : AdmI k op (adm k op l) := by
  unfold adm
  have : ∀ (l : List En) (st : List En × List En), AdmI k op st → AdmI k op (l.foldl (adm1 k) st) := by
    intro l
    induction l with
    | nil => exact fun st h => h
    | cons x l ih => exact fun st h => ih _ (adm1_I h x)
  refine this l _ ⟨⟨[], by simp⟩, fun i z hi hz => ?_, fun i z _ hz => by simp at hz, .inl (Nat.le_refl _)⟩
  have := (List.getElem?_eq_some_iff.1 hz).1
  simp only at this
  omega
end PM
set_option maxRecDepth 100000 in
set_option maxHeartbeats 16000000 in
theorem orderOnce_walkA (lf : Nat) (a0 : Option Addr) (n0 c0 : Nat) (a1 : Option Addr) (n1 c1 : Nat) (a2 : Option Addr) (n2 c2 : Nat) (b1 : Option Addr) (O d1 : Nat) (b2 : Option Addr) (N d2 : Nat) (ls ps op l : List PM.En) (ab : List PM.Id) (w : World) (hO : O = op.length) (hs0 : PM.StR w (.slice a0 n0 c0) (.slice a1 n1 c1) (.slice a2 n2 c2) ls ps ab) (hv1 : PM.EnL w (.slice b1 O d1) op) (hwf : ∀ x ∈ op, x.wf) (hv2 : PM.EnL w (.slice b2 N d2) l) :
    Calls Try.prog 4 #[.agg #[.int .u64 (lf : Int), .slice a0 n0 c0, .slice a1 n1 c1, .slice a2 n2 c2], .slice b1 O d1, .slice b2 N d2] w fun e w' => e = .returned (.bool true) ∧ Below w.heap.size w w' := by
  have hOh := PM.hid hO
  clear hO
  obtain ⟨g, hg⟩ : ∃ g, g = w.heap.size := ⟨_, rfl⟩
  obtain ⟨w1, hw1⟩ : ∃ W, W = w.alloc (.cells #[.int .u64 (lf : Int), .slice a0 n0 c0, .slice a1 n1 c1, .slice a2 n2 c2] 27) := ⟨_, rfl⟩
  have hal : Below w.heap.size w w1 := by rw [hw1]; exact (Below.refl _ _).alloc (Nat.le_refl _) _
  have kg : PM.BK w1 g #[.int .u64 (lf : Int), .slice a0 n0 c0, .slice a1 n1 c1, .slice a2 n2 c2] 27 := by rw [hw1, hg]; exact PM.BK.new _ _ _
  replace hs0 := PM.hid hs0
  replace hv1 := PM.hid hv1
  replace hv2 := PM.hid hv2
  replace hwf := PM.hid hwf
  have hBB := PM.hid hal
  clear hal
  go_enter Try.func4, Try.ntmps4
  go_upto_region 1 with fail
  rw [← hw1, ← hg]
  clear hw1 hg
  go_wp2_with fail
  refine (awake19_any w1).mono ?_
  rintro e w2 ⟨rfl, hBn⟩
  replace kg := kg.keep hBn
  replace hBB := PM.hid (PM.chain hBB.out hBn)
  clear hBn
  have s0 : w2.cell? ⟨g, 0, none⟩ = some (.int .u64 (lf : Int)) := kg.cell 0
  have s1 : w2.cell? ⟨g, 1, none⟩ = some (.slice a0 n0 c0) := kg.cell 1
  have s2 : w2.cell? ⟨g, 2, none⟩ = some (.slice a1 n1 c1) := kg.cell 2
  have s3 : w2.cell? ⟨g, 3, none⟩ = some (.slice a2 n2 c2) := kg.cell 3
  have hfm := few19_any lf a0 n0 c0 a1 n1 c1 a2 n2 c2 b1 O d1 b2 N d2 (.slice none 0 0) ls op l [] w2 (PM.EnL.keep hs0.out.1 hBB.out) (PM.EnL.keep hv1.out hBB.out) (PM.EnL.keep hv2.out hBB.out) (PM.RR.nil _)
  go_wp2_with fail
  refine hfm.mono ?_
  clear hfm s0 s1 s2 s3
  rintro e w3 ⟨hF, hBn⟩
  replace kg := kg.keep hBn
  replace hBB := PM.hid (PM.chain hBB.out hBn)
  clear hBn
  rcases hF with ⟨rfl, hF1, hF2, hF3, -⟩ | rfl
  case inr =>
    clear kg
    go_wp2_with fail
    go_ret
    exact ⟨rfl, hBB.out⟩
  have hO20 : O ≤ 20 := by rw [hOh.out]; exact hF1.1
  have s0 : w3.cell? ⟨g, 0, none⟩ = some (.int .u64 (lf : Int)) := kg.cell 0
  have s1 : w3.cell? ⟨g, 1, none⟩ = some (.slice a0 n0 c0) := kg.cell 1
  have s2 : w3.cell? ⟨g, 2, none⟩ = some (.slice a1 n1 c1) := kg.cell 2
  have s3 : w3.cell? ⟨g, 3, none⟩ = some (.slice a2 n2 c2) := kg.cell 3
  have hst3 : PM.StR w3 (.slice a0 n0 c0) (.slice a1 n1 c1) (.slice a2 n2 c2) ls ps ab := ⟨PM.EnL.keep hs0.out.1 hBB.out, PM.EnL.keep hs0.out.2.1 hBB.out, hs0.out.2.2.keep hBB.out⟩
  have hfm := admit_any lf a0 n0 c0 a1 n1 c1 a2 n2 c2 (.slice b1 O d1) (.slice b2 N d2) ls ps op l ab w3 hst3 (PM.EnL.keep hv1.out hBB.out) (PM.EnL.keep hv2.out hBB.out) hF1.ensS hF3.ensS
  have hadl := PM.adm_len (fun i => PM.hasE ls i || PM.hasI ab i) op l
  have hlN : l.length ≤ 20 := hF3.1
  clear hF1 hF2 hF3 hst3
  go_wp2_with fail
  refine hfm.mono ?_
  clear hfm s0 s1 s2 s3
  rintro e w5 ⟨u, r, rfl, hu, hr, hBn⟩
  have hB5 := PM.chain hBB.out hBn
  have kg := PM.hid (kg.keep hBn)
  have hsh := PM.hid (And.intro (PM.EnL.keep hs0.out.1 hB5) (And.intro (PM.EnL.keep hs0.out.2.1 hB5) (hs0.out.2.2.keep hB5)))
  replace hv1 := PM.hid (PM.EnL.keep hv1.out hB5)
  replace hBB := PM.hid hB5
  clear hBn hB5 hs0 hv2
  have hI := PM.hid (PM.adm_I (fun i => PM.hasE ls i || PM.hasI ab i) op l)
  obtain ⟨st, hst⟩ : ∃ st, st = PM.adm (fun i => PM.hasE ls i || PM.hasI ab i) op l := ⟨_, rfl⟩
  rw [← hst] at hu hr hI hadl
  clear hst
  obtain ⟨p, q⟩ := st
  simp only at hu hr hI hadl
  have hp := hu.rr
  have hq := hr.rr
  clear hu hr
  obtain ⟨pa, pc, rfl⟩ := hp.len
  obtain ⟨qa, qc, rfl⟩ := hq.len
  obtain ⟨P, hP⟩ : ∃ t, t = p.length := ⟨_, rfl⟩
  obtain ⟨Q, hQ⟩ : ∃ t, t = q.length := ⟨_, rfl⟩
  rw [← hP] at hp hadl ⊢
  rw [← hQ] at hq hadl ⊢
  have hOP : O ≤ P ∧ (P ≤ O ∨ P ≤ 4) ∧ p.take O = op := by
    obtain ⟨⟨ext, h1⟩, -, -, h4⟩ := hI.out
    simp only at h1 h4
    rw [← hP, ← hOh.out] at h4
    refine ⟨by rw [hP, h1, hOh.out]; simp, h4, ?_⟩
    rw [h1, hOh.out]
    simp
  obtain ⟨hOP1, hOP2, hOP3⟩ := hOP
  have hPh := PM.hid hP
  have hQh := PM.hid hQ
  obtain ⟨ta, tk, ht, hT⟩ := PM.RR.take tyEnO hp (K := O) (by rw [← hP]; exact hOP1)
  rw [hOP3] at hT
  replace hT := PM.hid hT
  replace hp := PM.hid hp
  replace hq := PM.hid hq
  have hsm := sameEns_any (.slice ta O tk) (.slice b1 O d1) op op w5 (hT.out.imp fun cs x h => PM.enO_enR h) hv1.out hwf.out hwf.out
  rw [← hOh.out] at hadl
  clear hP hQ hOP3
  go_upto_region 5 with fail
  go_cut [41] from 29 to 41 (fun s wx => w5 = wx ∧ s = .bool false)
  case first =>
    have e1 : decide ((P : Int) < (O : Int)) = false := by simp; omega
    have e1' : ¬ (P : Int) < (O : Int) := by omega
    by_cases h4 : O ≤ 4
    · have hm : max (O : Int) 4 = 4 := by omega
      have e2 : decide ((4 : Int) < (P : Int)) = false := by simp; omega
      have e2' : ¬ (4 : Int) < (P : Int) := by omega
      go_wp2_with fail
      all_goals
        go_meet
        first | exact ⟨rfl, rfl⟩ | exact ⟨rfl, by congr 1; simp; omega⟩
    · have hm : max (O : Int) 4 = (O : Int) := by omega
      have e2 : decide ((O : Int) < (P : Int)) = false := by simp; omega
      have e2' : ¬ (O : Int) < (P : Int) := by omega
      go_wp2_with fail
      all_goals
        go_meet
        first | exact ⟨rfl, rfl⟩ | exact ⟨rfl, by congr 1; simp; omega⟩
  case rest =>
    obtain ⟨rfl, rfl⟩ := hcut
    go_wp2_with fail
    refine hsm.mono ?_
    clear hsm
    rintro e w6 ⟨h, hb⟩
    have hin5 := PM.hid hb
    clear hb
    rcases h with ⟨rfl, -⟩ | ⟨-, h⟩
    case inr => first | exact absurd rfl h | exact absurd trivial h
    go_wp2_with fail
    go_loopw [11] (fun i wr => ∃ k : Nat, i = .int .i64 k ∧ k ≤ P ∧ O ≤ k ∧ Hid (Below w5.heap.size w5 wr)) (fun i _ => P - (intOf i).toNat)
    case atStart => exact ⟨O, rfl, by omega, Nat.le_refl _, hin5⟩
    case round =>
      obtain ⟨k, rfl, hk, hOk, hin⟩ := hrel
      by_cases hlt : k < P
      · obtain ⟨zz, hzz⟩ : ∃ z, p[k]? = some z := ⟨p[k]'(by rw [← hPh.out]; omega), List.getElem?_eq_getElem _⟩
        obtain ⟨zb, zo, ze, hce⟩ := PM.RR.opn hp.out (by rw [← hPh.out]; omega)
        subst ze
        obtain ⟨cs, hl0, hR⟩ := hce k zz hzz
        obtain ⟨_, _, _, _, hcs, -, -⟩ := PM.enR_open (PM.enO_enR hR)
        rw [hcs] at hl0
        have zl := PM.hid hl0
        clear hce hl0 hR hcs cs
        have hat := hI.out.2.1 k zz (by rw [← hOh.out]; exact hOk) hzz
        have hkd : Hid (((zz.kind : Int) != 1) = false) := PM.hid (by simp [hat.1.1])
        have hkn : Hid (PM.hasE ls zz.id = false ∧ PM.hasI ab zz.id = false) := PM.hid (by simpa using hat.1.2)
        have hdis := PM.hid hat.2
        clear hat hzz
        go_upto_region 11 with fail
        refine PM.wp_region_st [some 56, some 57, some 58, some 59, some 60, some 61, some 62, some 63, some 64, some 65, some 66, some 67, some 68, some 69, some 70, some 71, some 72, some 73, some 74, some 75, some 76, some 77, some 78, some 79] [fun x _ => x = .slice (some ⟨zb, zo, none⟩) P pc, fun x _ => x = .int .i64 (k : Int), fun x _ => x = .pointer (some ⟨zb, zo + k * 8, none⟩), fun x _ => x = .pointer (some ⟨zb, zo + k * 8, none⟩), fun x _ => x = .int .i64 zz.kind, fun x _ => x = .bool false, fun x _ => x = .bool false, fun x _ => x = .agg #[.int .u64 (lf : Int), .slice a0 n0 c0, .slice a1 n1 c1, .slice a2 n2 c2], fun x _ => x = .slice (some ⟨zb, zo, none⟩) P pc, fun x _ => x = .int .i64 (k : Int), fun x _ => x = .pointer (some ⟨zb, zo + k * 8, none⟩), fun x _ => x = .pointer (some ⟨zb, zo + k * 8 + 1, none⟩), fun x _ => x = .agg #[.int .i64 zz.id.br, .int .u64 (zz.id.life : Int), .int .u64 (zz.id.ser : Int)], fun x _ => x = .bool false, fun x _ => x = .bool false, fun x _ => x = .bool false, fun x _ => x = .agg #[.int .u64 (lf : Int), .slice a0 n0 c0, .slice a1 n1 c1, .slice a2 n2 c2], fun x _ => x = .slice (some ⟨zb, zo, none⟩) P pc, fun x _ => x = .int .i64 (k : Int), fun x _ => x = .pointer (some ⟨zb, zo + k * 8, none⟩), fun x _ => x = .pointer (some ⟨zb, zo + k * 8 + 1, none⟩), fun x _ => x = .agg #[.int .i64 zz.id.br, .int .u64 (zz.id.life : Int), .int .u64 (zz.id.ser : Int)], fun x _ => x = .bool false, fun x _ => x = .bool false] (by kernel_rfl) (by kernel_rfl) (by kernel_rfl) ?_ ?_ ?_
        · simp only [List.forall_mem_cons]
          refine ⟨?_, ?_, ?_, ?_, ?_, ?_, ?_, ?_, ?_, ?_, ?_, ?_, ?_, ?_, ?_, ?_, ?_, ?_, ?_, ?_, ?_, ?_, ?_, ?_, by simp⟩
          all_goals (intro x W W' h hb; first | exact h | exact PM.BS.keep hb h | exact PM.OW.keep hb h)
        · refine ⟨?_, ?_, ?_, ?_, ?_, ?_, ?_, ?_, ?_, ?_, ?_, ?_, ?_, ?_, ?_, ?_, ?_, ?_, ?_, ?_, ?_, ?_, ?_, ?_, trivial⟩
          all_goals
            intro a W hB hF hd
            have k3 := hF 3 rfl
            have k8 := hF 8 rfl
            have k11 := hF 11 rfl
            have hBW := PM.chain hin.out hB
            have qk := hkd.out
            have s0 : W.cell? ⟨g, 0, none⟩ = some (.int .u64 (lf : Int)) := (kg.out.keep hBW).cell 0
            have s1 : W.cell? ⟨g, 1, none⟩ = some (.slice a0 n0 c0) := (kg.out.keep hBW).cell 1
            have s2 : W.cell? ⟨g, 2, none⟩ = some (.slice a1 n1 c1) := (kg.out.keep hBW).cell 2
            have s3 : W.cell? ⟨g, 3, none⟩ = some (.slice a2 n2 c2) := (kg.out.keep hBW).cell 3
            have z0 : W.cell? ⟨zb, zo + k * 8, none⟩ = some (.int .i64 zz.kind) := PM.cellA hBW (zl.out 0 _ rfl)
            have z1 : W.cell? ⟨zb, zo + k * 8 + 1, none⟩ = some (.int .i64 zz.id.br) := PM.cellA hBW (zl.out 1 _ rfl)
            have z2 : W.cell? ⟨zb, zo + k * 8 + 2, none⟩ = some (.int .u64 (zz.id.life : Int)) := PM.cellA hBW (zl.out 2 _ rfl)
            have z3 : W.cell? ⟨zb, zo + k * 8 + 3, none⟩ = some (.int .u64 (zz.id.ser : Int)) := PM.cellA hBW (zl.out 3 _ rfl)
            clear hF
            simp [PM.depsL, PM.spec, PM.sl, Region.binds] at hd k3 k8 k11
            simp only [PM.wantL, PM.spec]
            try simp only [PM.sl]
            go_simp
          all_goals try exact Below.refl _ _
          · refine (hasS_any lf a0 n0 c0 a1 n1 c1 a2 n2 c2 zz.id ls W (PM.EnL.keep hsh.out.1 hBW)).mono ?_
            rw [hkn.out.1]
            rintro e w' ⟨rfl, hb⟩
            first | exact ⟨hb, rfl⟩ | exact ⟨hb, _, rfl, rfl⟩
          · refine (abortS_any lf a0 n0 c0 a1 n1 c1 a2 n2 c2 zz.id ab W (hsh.out.2.2.keep hBW)).mono ?_
            rw [hkn.out.2]
            rintro e w' ⟨rfl, hb⟩
            first | exact ⟨hb, rfl⟩ | exact ⟨hb, _, rfl, rfl⟩
        · intro G W hB hF hS
          have h79 : G 79 = .bool false := by simp [PM.allSp, PM.spec] at hS; simp [hS]
          have k0 := hF 0 rfl
          have k1 := hF 1 rfl
          have k2 := hF 2 rfl
          have k3 := hF 3 rfl
          have k4 := hF 4 rfl
          have k5 := hF 5 rfl
          have k6 := hF 6 rfl
          have k7 := hF 7 rfl
          have k8 := hF 8 rfl
          have k9 := hF 9 rfl
          have k10 := hF 10 rfl
          have k11 := hF 11 rfl
          have k12 := hF 12 rfl
          have k13 := hF 13 rfl
          have k14 := hF 14 rfl
          have k15 := hF 15 rfl
          have k16 := hF 16 rfl
          have k17 := hF 17 rfl
          have k18 := hF 18 rfl
          have k19 := hF 19 rfl
          have k20 := hF 20 rfl
          have k21 := hF 21 rfl
          have k22 := hF 22 rfl
          have k23 := hF 23 rfl
          have k24 := hF 24 rfl
          have k25 := hF 25 rfl
          have k26 := hF 26 rfl
          have k27 := hF 27 rfl
          have k28 := hF 28 rfl
          have k29 := hF 29 rfl
          have k30 := hF 30 rfl
          have k31 := hF 31 rfl
          have k32 := hF 32 rfl
          have k33 := hF 33 rfl
          have k34 := hF 34 rfl
          have k35 := hF 35 rfl
          have k36 := hF 36 rfl
          have k37 := hF 37 rfl
          have k38 := hF 38 rfl
          have k39 := hF 39 rfl
          have k40 := hF 40 rfl
          have k41 := hF 41 rfl
          have k42 := hF 42 rfl
          have k43 := hF 43 rfl
          have k44 := hF 44 rfl
          have k45 := hF 45 rfl
          have k46 := hF 46 rfl
          have k47 := hF 47 rfl
          have k48 := hF 48 rfl
          have k49 := hF 49 rfl
          have k50 := hF 50 rfl
          have k51 := hF 51 rfl
          have k52 := hF 52 rfl
          have k53 := hF 53 rfl
          have k54 := hF 54 rfl
          have k55 := hF 55 rfl
          have k80 := hF 80 rfl
          have k81 := hF 81 rfl
          have k82 := hF 82 rfl
          have k83 := hF 83 rfl
          have k84 := hF 84 rfl
          have k85 := hF 85 rfl
          have k86 := hF 86 rfl
          have k87 := hF 87 rfl
          have k88 := hF 88 rfl
          have k89 := hF 89 rfl
          have k90 := hF 90 rfl
          have k91 := hF 91 rfl
          have k92 := hF 92 rfl
          have k93 := hF 93 rfl
          have k94 := hF 94 rfl
          have k95 := hF 95 rfl
          have k96 := hF 96 rfl
          have k97 := hF 97 rfl
          have k98 := hF 98 rfl
          have k99 := hF 99 rfl
          have k100 := hF 100 rfl
          have k101 := hF 101 rfl
          have k102 := hF 102 rfl
          have k103 := hF 103 rfl
          have k104 := hF 104 rfl
          have k105 := hF 105 rfl
          have k106 := hF 106 rfl
          have k107 := hF 107 rfl
          have k108 := hF 108 rfl
          have k109 := hF 109 rfl
          have k110 := hF 110 rfl
          have k111 := hF 111 rfl
          have k112 := hF 112 rfl
          have k113 := hF 113 rfl
          have k114 := hF 114 rfl
          have k115 := hF 115 rfl
          have k116 := hF 116 rfl
          have k117 := hF 117 rfl
          have k118 := hF 118 rfl
          have k119 := hF 119 rfl
          have k120 := hF 120 rfl
          have k121 := hF 121 rfl
          have k122 := hF 122 rfl
          have k123 := hF 123 rfl
          have k124 := hF 124 rfl
          have k125 := hF 125 rfl
          have k126 := hF 126 rfl
          have k127 := hF 127 rfl
          have k128 := hF 128 rfl
          have k129 := hF 129 rfl
          have k130 := hF 130 rfl
          have k131 := hF 131 rfl
          have k132 := hF 132 rfl
          have k133 := hF 133 rfl
          have k134 := hF 134 rfl
          have k135 := hF 135 rfl
          have k136 := hF 136 rfl
          have k137 := hF 137 rfl
          have k138 := hF 138 rfl
          have k139 := hF 139 rfl
          have k140 := hF 140 rfl
          have k141 := hF 141 rfl
          have k142 := hF 142 rfl
          have k143 := hF 143 rfl
          have k144 := hF 144 rfl
          have k145 := hF 145 rfl
          simp [PM.sl] at k0 k1 k2 k3 k4 k5 k6 k7 k8 k9 k10 k11 k12 k13 k14 k15 k16 k17 k18 k19 k20 k21 k22 k23 k24 k25 k26 k27 k28 k29 k30 k31 k32 k33 k34 k35 k36 k37 k38 k39 k40 k41 k42 k43 k44 k45 k46 k47 k48 k49 k50 k51 k52 k53 k54 k55 k80 k81 k82 k83 k84 k85 k86 k87 k88 k89 k90 k91 k92 k93 k94 k95 k96 k97 k98 k99 k100 k101 k102 k103 k104 k105 k106 k107 k108 k109 k110 k111 k112 k113 k114 k115 k116 k117 k118 k119 k120 k121 k122 k123 k124 k125 k126 k127 k128 k129 k130 k131 k132 k133 k134 k135 k136 k137 k138 k139 k140 k141 k142 k143 k144 k145
          rw [show ((List.range (Array.size _)).map G).toArray = #[G 0, G 1, G 2, G 3, G 4, G 5, G 6, G 7, G 8, G 9, G 10, G 11, G 12, G 13, G 14, G 15, G 16, G 17, G 18, G 19, G 20, G 21, G 22, G 23, G 24, G 25, G 26, G 27, G 28, G 29, G 30, G 31, G 32, G 33, G 34, G 35, G 36, G 37, G 38, G 39, G 40, G 41, G 42, G 43, G 44, G 45, G 46, G 47, G 48, G 49, G 50, G 51, G 52, G 53, G 54, G 55, G 56, G 57, G 58, G 59, G 60, G 61, G 62, G 63, G 64, G 65, G 66, G 67, G 68, G 69, G 70, G 71, G 72, G 73, G 74, G 75, G 76, G 77, G 78, G 79, G 80, G 81, G 82, G 83, G 84, G 85, G 86, G 87, G 88, G 89, G 90, G 91, G 92, G 93, G 94, G 95, G 96, G 97, G 98, G 99, G 100, G 101, G 102, G 103, G 104, G 105, G 106, G 107, G 108, G 109, G 110, G 111, G 112, G 113, G 114, G 115, G 116, G 117, G 118, G 119, G 120, G 121, G 122, G 123, G 124, G 125, G 126, G 127, G 128, G 129, G 130, G 131, G 132, G 133, G 134, G 135, G 136, G 137, G 138, G 139, G 140, G 141, G 142, G 143, G 144, G 145] from rfl]
          clear hF hS
          rw [h79, k0, k1, k2, k3, k4, k5, k6, k7, k8, k9, k10, k11, k12, k13, k14, k15, k16, k17, k18, k19, k20, k21, k22, k23, k24, k25, k26, k27, k28, k29, k30, k31, k32, k33, k34, k35, k36, k37, k38, k39, k40, k41, k42, k43, k44, k45, k46, k47, k48, k49, k50, k51, k52, k53, k54, k55, k80, k81, k82, k83, k84, k85, k86, k87, k88, k89, k90, k91, k92, k93, k94, k95, k96, k97, k98, k99, k100, k101, k102, k103, k104, k105, k106, k107, k108, k109, k110, k111, k112, k113, k114, k115, k116, k117, k118, k119, k120, k121, k122, k123, k124, k125, k126, k127, k128, k129, k130, k131, k132, k133, k134, k135, k136, k137, k138, k139, k140, k141, k142, k143, k144, k145]
          clear h79 k0 k1 k2 k3 k4 k5 k6 k7 k8 k9 k10 k11 k12 k13 k14 k15 k16 k17 k18 k19 k20 k21 k22 k23 k24 k25 k26 k27 k28 k29 k30 k31 k32 k33 k34 k35 k36 k37 k38 k39 k40 k41 k42 k43 k44 k45 k46 k47 k48 k49 k50 k51 k52 k53 k54 k55 k80 k81 k82 k83 k84 k85 k86 k87 k88 k89 k90 k91 k92 k93 k94 k95 k96 k97 k98 k99 k100 k101 k102 k103 k104 k105 k106 k107 k108 k109 k110 k111 k112 k113 k114 k115 k116 k117 k118 k119 k120 k121 k122 k123 k124 k125 k126 k127 k128 k129 k130 k131 k132 k133 k134 k135 k136 k137 k138 k139 k140 k141 k142 k143 k144 k145
          have hBW := PM.hid (PM.chain hin.out hB)
          clear hB hin
          go_wp2_with fail
          go_loopw [12] (fun i wr => ∃ J : Nat, i = .int .i64 J ∧ J ≤ k ∧ Hid (Below w5.heap.size w5 wr)) (fun i _ => k - (intOf i).toNat)
          case atStart => exact ⟨0, rfl, by omega, hBW⟩
          case round =>
            obtain ⟨J, rfl, hJ, hin⟩ := hrel
            by_cases hJt : J < k
            · obtain ⟨yy, hyy⟩ : ∃ z, p[J]? = some z := ⟨p[J]'(by rw [← hPh.out]; omega), List.getElem?_eq_getElem _⟩
              obtain ⟨yb, yo, ye, hce⟩ := PM.RR.opn hp.out (by rw [← hPh.out]; omega)
              injection ye with ye
              injection ye with ye1 ye2 ye3
              subst ye1 ye2
              obtain ⟨cs, hl0, hR⟩ := hce J yy hyy
              obtain ⟨_, _, _, _, hcs, -, -⟩ := PM.enR_open (PM.enO_enR hR)
              rw [hcs] at hl0
              have hq := ideq_run yy.id zz.id
              rw [decide_eq_false (hdis.out J yy hJt hyy)] at hq
              have y1 : wr.cell? ⟨zb, zo + J * 8 + 1, none⟩ = some (.int .i64 yy.id.br) := PM.cellA hin.out (hl0 1 _ rfl)
              have y2 : wr.cell? ⟨zb, zo + J * 8 + 2, none⟩ = some (.int .u64 (yy.id.life : Int)) := PM.cellA hin.out (hl0 2 _ rfl)
              have y3 : wr.cell? ⟨zb, zo + J * 8 + 3, none⟩ = some (.int .u64 (yy.id.ser : Int)) := PM.cellA hin.out (hl0 3 _ rfl)
              have z1 : wr.cell? ⟨zb, zo + k * 8 + 1, none⟩ = some (.int .i64 zz.id.br) := PM.cellA hin.out (zl.out 1 _ rfl)
              have z2 : wr.cell? ⟨zb, zo + k * 8 + 2, none⟩ = some (.int .u64 (zz.id.life : Int)) := PM.cellA hin.out (zl.out 2 _ rfl)
              have z3 : wr.cell? ⟨zb, zo + k * 8 + 3, none⟩ = some (.int .u64 (zz.id.ser : Int)) := PM.cellA hin.out (zl.out 3 _ rfl)
              clear hce hl0 hR hcs cs hyy ye3
              go_wp2_with fail
              go_region
              all_goals (try go_wp2_with fail)
              all_goals exact ⟨⟨J + 1, by go_num, by omega, PM.hid hin.out.drew⟩, by simp only [intOf]; omega⟩
            · obtain rfl : J = k := by omega
              go_wp2_with fail
              exact ⟨⟨J + 1, by go_num, by omega, by omega, hin⟩, by simp only [intOf]; omega⟩
      · obtain rfl : k = P := by omega
        go_wp2_with fail
        go_loopw [13] (fun i wr => ∃ k : Nat, i = .int .i64 k ∧ k ≤ Q ∧ Hid (Below w5.heap.size w5 wr)) (fun i _ => Q - (intOf i).toNat)
        case atStart => exact ⟨0, rfl, by omega, hin⟩
        case round =>
          obtain ⟨k, rfl, hk, hin⟩ := hrel
          by_cases hlt : k < Q
          · obtain ⟨zz, hzz⟩ : ∃ z, q[k]? = some z := ⟨q[k]'(by rw [← hQh.out]; omega), List.getElem?_eq_getElem _⟩
            obtain ⟨zb, zo, ze, hce⟩ := PM.RR.opn hq.out (by rw [← hQh.out]; omega)
            subst ze
            obtain ⟨cs, hl0, hR⟩ := hce k zz hzz
            obtain ⟨_, _, _, _, hcs, -, -⟩ := PM.enR_open (PM.enO_enR hR)
            rw [hcs] at hl0
            have zl := PM.hid hl0
            clear hce hl0 hR hcs cs
            have hat := hI.out.2.2.1 k zz (Nat.zero_le _) hzz
            have hkd : Hid (((zz.kind : Int) == 1) = false) := PM.hid (by simpa using hat.1.1)
            have hkn : Hid (PM.hasE ls zz.id = false ∧ PM.hasI ab zz.id = false) := PM.hid (by simpa using hat.1.2)
            have hdis := PM.hid hat.2
            clear hat hzz
            go_upto_region 21 with fail
            refine PM.wp_region_st [some 102, some 103, some 104, some 105, some 106, some 107, some 108, some 109, some 110, some 111, some 112, some 113, some 114, some 115, some 116, some 117, some 118, some 119, some 120, some 121, some 122, some 123, some 124, some 125] [fun x _ => x = .slice (some ⟨zb, zo, none⟩) Q qc, fun x _ => x = .int .i64 (k : Int), fun x _ => x = .pointer (some ⟨zb, zo + k * 8, none⟩), fun x _ => x = .pointer (some ⟨zb, zo + k * 8, none⟩), fun x _ => x = .int .i64 zz.kind, fun x _ => x = .bool false, fun x _ => x = .bool false, fun x _ => x = .agg #[.int .u64 (lf : Int), .slice a0 n0 c0, .slice a1 n1 c1, .slice a2 n2 c2], fun x _ => x = .slice (some ⟨zb, zo, none⟩) Q qc, fun x _ => x = .int .i64 (k : Int), fun x _ => x = .pointer (some ⟨zb, zo + k * 8, none⟩), fun x _ => x = .pointer (some ⟨zb, zo + k * 8 + 1, none⟩), fun x _ => x = .agg #[.int .i64 zz.id.br, .int .u64 (zz.id.life : Int), .int .u64 (zz.id.ser : Int)], fun x _ => x = .bool false, fun x _ => x = .bool false, fun x _ => x = .bool false, fun x _ => x = .agg #[.int .u64 (lf : Int), .slice a0 n0 c0, .slice a1 n1 c1, .slice a2 n2 c2], fun x _ => x = .slice (some ⟨zb, zo, none⟩) Q qc, fun x _ => x = .int .i64 (k : Int), fun x _ => x = .pointer (some ⟨zb, zo + k * 8, none⟩), fun x _ => x = .pointer (some ⟨zb, zo + k * 8 + 1, none⟩), fun x _ => x = .agg #[.int .i64 zz.id.br, .int .u64 (zz.id.life : Int), .int .u64 (zz.id.ser : Int)], fun x _ => x = .bool false, fun x _ => x = .bool false] (by kernel_rfl) (by kernel_rfl) (by kernel_rfl) ?_ ?_ ?_
            · simp only [List.forall_mem_cons]
              refine ⟨?_, ?_, ?_, ?_, ?_, ?_, ?_, ?_, ?_, ?_, ?_, ?_, ?_, ?_, ?_, ?_, ?_, ?_, ?_, ?_, ?_, ?_, ?_, ?_, by simp⟩
              all_goals (intro x W W' h hb; first | exact h | exact PM.BS.keep hb h | exact PM.OW.keep hb h)
            · refine ⟨?_, ?_, ?_, ?_, ?_, ?_, ?_, ?_, ?_, ?_, ?_, ?_, ?_, ?_, ?_, ?_, ?_, ?_, ?_, ?_, ?_, ?_, ?_, ?_, trivial⟩
              all_goals
                intro a W hB hF hd
                have k3 := hF 3 rfl
                have k9 := hF 9 rfl
                have k13 := hF 13 rfl
                have hBW := PM.chain hin.out hB
                have qk := hkd.out
                have s0 : W.cell? ⟨g, 0, none⟩ = some (.int .u64 (lf : Int)) := (kg.out.keep hBW).cell 0
                have s1 : W.cell? ⟨g, 1, none⟩ = some (.slice a0 n0 c0) := (kg.out.keep hBW).cell 1
                have s2 : W.cell? ⟨g, 2, none⟩ = some (.slice a1 n1 c1) := (kg.out.keep hBW).cell 2
                have s3 : W.cell? ⟨g, 3, none⟩ = some (.slice a2 n2 c2) := (kg.out.keep hBW).cell 3
                have z0 : W.cell? ⟨zb, zo + k * 8, none⟩ = some (.int .i64 zz.kind) := PM.cellA hBW (zl.out 0 _ rfl)
                have z1 : W.cell? ⟨zb, zo + k * 8 + 1, none⟩ = some (.int .i64 zz.id.br) := PM.cellA hBW (zl.out 1 _ rfl)
                have z2 : W.cell? ⟨zb, zo + k * 8 + 2, none⟩ = some (.int .u64 (zz.id.life : Int)) := PM.cellA hBW (zl.out 2 _ rfl)
                have z3 : W.cell? ⟨zb, zo + k * 8 + 3, none⟩ = some (.int .u64 (zz.id.ser : Int)) := PM.cellA hBW (zl.out 3 _ rfl)
                clear hF
                simp [PM.depsL, PM.spec, PM.sl, Region.binds] at hd k3 k9 k13
                simp only [PM.wantL, PM.spec]
                try simp only [PM.sl]
                go_simp
              all_goals try exact Below.refl _ _
              · refine (hasS_any lf a0 n0 c0 a1 n1 c1 a2 n2 c2 zz.id ls W (PM.EnL.keep hsh.out.1 hBW)).mono ?_
                rw [hkn.out.1]
                rintro e w' ⟨rfl, hb⟩
                first | exact ⟨hb, rfl⟩ | exact ⟨hb, _, rfl, rfl⟩
              · refine (abortS_any lf a0 n0 c0 a1 n1 c1 a2 n2 c2 zz.id ab W (hsh.out.2.2.keep hBW)).mono ?_
                rw [hkn.out.2]
                rintro e w' ⟨rfl, hb⟩
                first | exact ⟨hb, rfl⟩ | exact ⟨hb, _, rfl, rfl⟩
            · intro G W hB hF hS
              have h79 : G 125 = .bool false := by simp [PM.allSp, PM.spec] at hS; simp [hS]
              have k0 := hF 0 rfl
              have k1 := hF 1 rfl
              have k2 := hF 2 rfl
              have k3 := hF 3 rfl
              have k4 := hF 4 rfl
              have k5 := hF 5 rfl
              have k6 := hF 6 rfl
              have k7 := hF 7 rfl
              have k8 := hF 8 rfl
              have k9 := hF 9 rfl
              have k10 := hF 10 rfl
              have k11 := hF 11 rfl
              have k12 := hF 12 rfl
              have k13 := hF 13 rfl
              have k14 := hF 14 rfl
              have k15 := hF 15 rfl
              have k16 := hF 16 rfl
              have k17 := hF 17 rfl
              have k18 := hF 18 rfl
              have k19 := hF 19 rfl
              have k20 := hF 20 rfl
              have k21 := hF 21 rfl
              have k22 := hF 22 rfl
              have k23 := hF 23 rfl
              have k24 := hF 24 rfl
              have k25 := hF 25 rfl
              have k26 := hF 26 rfl
              have k27 := hF 27 rfl
              have k28 := hF 28 rfl
              have k29 := hF 29 rfl
              have k30 := hF 30 rfl
              have k31 := hF 31 rfl
              have k32 := hF 32 rfl
              have k33 := hF 33 rfl
              have k34 := hF 34 rfl
              have k35 := hF 35 rfl
              have k36 := hF 36 rfl
              have k37 := hF 37 rfl
              have k38 := hF 38 rfl
              have k39 := hF 39 rfl
              have k40 := hF 40 rfl
              have k41 := hF 41 rfl
              have k42 := hF 42 rfl
              have k43 := hF 43 rfl
              have k44 := hF 44 rfl
              have k45 := hF 45 rfl
              have k46 := hF 46 rfl
              have k47 := hF 47 rfl
              have k48 := hF 48 rfl
              have k49 := hF 49 rfl
              have k50 := hF 50 rfl
              have k51 := hF 51 rfl
              have k52 := hF 52 rfl
              have k53 := hF 53 rfl
              have k54 := hF 54 rfl
              have k55 := hF 55 rfl
              have k56 := hF 56 rfl
              have k57 := hF 57 rfl
              have k58 := hF 58 rfl
              have k59 := hF 59 rfl
              have k60 := hF 60 rfl
              have k61 := hF 61 rfl
              have k62 := hF 62 rfl
              have k63 := hF 63 rfl
              have k64 := hF 64 rfl
              have k65 := hF 65 rfl
              have k66 := hF 66 rfl
              have k67 := hF 67 rfl
              have k68 := hF 68 rfl
              have k69 := hF 69 rfl
              have k70 := hF 70 rfl
              have k71 := hF 71 rfl
              have k72 := hF 72 rfl
              have k73 := hF 73 rfl
              have k74 := hF 74 rfl
              have k75 := hF 75 rfl
              have k76 := hF 76 rfl
              have k77 := hF 77 rfl
              have k78 := hF 78 rfl
              have k79 := hF 79 rfl
              have k80 := hF 80 rfl
              have k81 := hF 81 rfl
              have k82 := hF 82 rfl
              have k83 := hF 83 rfl
              have k84 := hF 84 rfl
              have k85 := hF 85 rfl
              have k86 := hF 86 rfl
              have k87 := hF 87 rfl
              have k88 := hF 88 rfl
              have k89 := hF 89 rfl
              have k90 := hF 90 rfl
              have k91 := hF 91 rfl
              have k92 := hF 92 rfl
              have k93 := hF 93 rfl
              have k94 := hF 94 rfl
              have k95 := hF 95 rfl
              have k96 := hF 96 rfl
              have k97 := hF 97 rfl
              have k98 := hF 98 rfl
              have k99 := hF 99 rfl
              have k100 := hF 100 rfl
              have k101 := hF 101 rfl
              have k126 := hF 126 rfl
              have k127 := hF 127 rfl
              have k128 := hF 128 rfl
              have k129 := hF 129 rfl
              have k130 := hF 130 rfl
              have k131 := hF 131 rfl
              have k132 := hF 132 rfl
              have k133 := hF 133 rfl
              have k134 := hF 134 rfl
              have k135 := hF 135 rfl
              have k136 := hF 136 rfl
              have k137 := hF 137 rfl
              have k138 := hF 138 rfl
              have k139 := hF 139 rfl
              have k140 := hF 140 rfl
              have k141 := hF 141 rfl
              have k142 := hF 142 rfl
              have k143 := hF 143 rfl
              have k144 := hF 144 rfl
              have k145 := hF 145 rfl
              simp [PM.sl] at k0 k1 k2 k3 k4 k5 k6 k7 k8 k9 k10 k11 k12 k13 k14 k15 k16 k17 k18 k19 k20 k21 k22 k23 k24 k25 k26 k27 k28 k29 k30 k31 k32 k33 k34 k35 k36 k37 k38 k39 k40 k41 k42 k43 k44 k45 k46 k47 k48 k49 k50 k51 k52 k53 k54 k55 k56 k57 k58 k59 k60 k61 k62 k63 k64 k65 k66 k67 k68 k69 k70 k71 k72 k73 k74 k75 k76 k77 k78 k79 k80 k81 k82 k83 k84 k85 k86 k87 k88 k89 k90 k91 k92 k93 k94 k95 k96 k97 k98 k99 k100 k101 k126 k127 k128 k129 k130 k131 k132 k133 k134 k135 k136 k137 k138 k139 k140 k141 k142 k143 k144 k145
              rw [show ((List.range (Array.size _)).map G).toArray = #[G 0, G 1, G 2, G 3, G 4, G 5, G 6, G 7, G 8, G 9, G 10, G 11, G 12, G 13, G 14, G 15, G 16, G 17, G 18, G 19, G 20, G 21, G 22, G 23, G 24, G 25, G 26, G 27, G 28, G 29, G 30, G 31, G 32, G 33, G 34, G 35, G 36, G 37, G 38, G 39, G 40, G 41, G 42, G 43, G 44, G 45, G 46, G 47, G 48, G 49, G 50, G 51, G 52, G 53, G 54, G 55, G 56, G 57, G 58, G 59, G 60, G 61, G 62, G 63, G 64, G 65, G 66, G 67, G 68, G 69, G 70, G 71, G 72, G 73, G 74, G 75, G 76, G 77, G 78, G 79, G 80, G 81, G 82, G 83, G 84, G 85, G 86, G 87, G 88, G 89, G 90, G 91, G 92, G 93, G 94, G 95, G 96, G 97, G 98, G 99, G 100, G 101, G 102, G 103, G 104, G 105, G 106, G 107, G 108, G 109, G 110, G 111, G 112, G 113, G 114, G 115, G 116, G 117, G 118, G 119, G 120, G 121, G 122, G 123, G 124, G 125, G 126, G 127, G 128, G 129, G 130, G 131, G 132, G 133, G 134, G 135, G 136, G 137, G 138, G 139, G 140, G 141, G 142, G 143, G 144, G 145] from rfl]
              clear hF hS
              rw [h79, k0, k1, k2, k3, k4, k5, k6, k7, k8, k9, k10, k11, k12, k13, k14, k15, k16, k17, k18, k19, k20, k21, k22, k23, k24, k25, k26, k27, k28, k29, k30, k31, k32, k33, k34, k35, k36, k37, k38, k39, k40, k41, k42, k43, k44, k45, k46, k47, k48, k49, k50, k51, k52, k53, k54, k55, k56, k57, k58, k59, k60, k61, k62, k63, k64, k65, k66, k67, k68, k69, k70, k71, k72, k73, k74, k75, k76, k77, k78, k79, k80, k81, k82, k83, k84, k85, k86, k87, k88, k89, k90, k91, k92, k93, k94, k95, k96, k97, k98, k99, k100, k101, k126, k127, k128, k129, k130, k131, k132, k133, k134, k135, k136, k137, k138, k139, k140, k141, k142, k143, k144, k145]
              clear h79 k0 k1 k2 k3 k4 k5 k6 k7 k8 k9 k10 k11 k12 k13 k14 k15 k16 k17 k18 k19 k20 k21 k22 k23 k24 k25 k26 k27 k28 k29 k30 k31 k32 k33 k34 k35 k36 k37 k38 k39 k40 k41 k42 k43 k44 k45 k46 k47 k48 k49 k50 k51 k52 k53 k54 k55 k56 k57 k58 k59 k60 k61 k62 k63 k64 k65 k66 k67 k68 k69 k70 k71 k72 k73 k74 k75 k76 k77 k78 k79 k80 k81 k82 k83 k84 k85 k86 k87 k88 k89 k90 k91 k92 k93 k94 k95 k96 k97 k98 k99 k100 k101 k126 k127 k128 k129 k130 k131 k132 k133 k134 k135 k136 k137 k138 k139 k140 k141 k142 k143 k144 k145
              have hBW := PM.hid (PM.chain hin.out hB)
              clear hB hin
              go_wp2_with fail
              go_loopw [14] (fun i wr => ∃ J : Nat, i = .int .i64 J ∧ J ≤ k ∧ Hid (Below w5.heap.size w5 wr)) (fun i _ => k - (intOf i).toNat)
              case atStart => exact ⟨0, rfl, by omega, hBW⟩
              case round =>
                obtain ⟨J, rfl, hJ, hin⟩ := hrel
                by_cases hJt : J < k
                · obtain ⟨yy, hyy⟩ : ∃ z, q[J]? = some z := ⟨q[J]'(by rw [← hQh.out]; omega), List.getElem?_eq_getElem _⟩
                  obtain ⟨yb, yo, ye, hce⟩ := PM.RR.opn hq.out (by rw [← hQh.out]; omega)
                  injection ye with ye
                  injection ye with ye1 ye2 ye3
                  subst ye1 ye2
                  obtain ⟨cs, hl0, hR⟩ := hce J yy hyy
                  obtain ⟨_, _, _, _, hcs, -, -⟩ := PM.enR_open (PM.enO_enR hR)
                  rw [hcs] at hl0
                  have hq := ideq_run yy.id zz.id
                  rw [decide_eq_false (hdis.out J yy hJt hyy)] at hq
                  have y1 : wr.cell? ⟨zb, zo + J * 8 + 1, none⟩ = some (.int .i64 yy.id.br) := PM.cellA hin.out (hl0 1 _ rfl)
                  have y2 : wr.cell? ⟨zb, zo + J * 8 + 2, none⟩ = some (.int .u64 (yy.id.life : Int)) := PM.cellA hin.out (hl0 2 _ rfl)
                  have y3 : wr.cell? ⟨zb, zo + J * 8 + 3, none⟩ = some (.int .u64 (yy.id.ser : Int)) := PM.cellA hin.out (hl0 3 _ rfl)
                  have z1 : wr.cell? ⟨zb, zo + k * 8 + 1, none⟩ = some (.int .i64 zz.id.br) := PM.cellA hin.out (zl.out 1 _ rfl)
                  have z2 : wr.cell? ⟨zb, zo + k * 8 + 2, none⟩ = some (.int .u64 (zz.id.life : Int)) := PM.cellA hin.out (zl.out 2 _ rfl)
                  have z3 : wr.cell? ⟨zb, zo + k * 8 + 3, none⟩ = some (.int .u64 (zz.id.ser : Int)) := PM.cellA hin.out (zl.out 3 _ rfl)
                  clear hce hl0 hR hcs cs hyy ye3
                  go_wp2_with fail
                  go_region
                  all_goals (try go_wp2_with fail)
                  all_goals exact ⟨⟨J + 1, by go_num, by omega, PM.hid hin.out.drew⟩, by simp only [intOf]; omega⟩
                · obtain rfl : J = k := by omega
                  go_wp2_with fail
                  exact ⟨⟨J + 1, by go_num, by omega, hin⟩, by simp only [intOf]; omega⟩
          · obtain rfl : k = Q := by omega
            go_wp2_with fail
            go_ret
            exact ⟨by simp, PM.chain hBB.out hin.out⟩
theorem orderOnce_walk (lf : Nat) (v0 v1 v2 : Value) (ls ps : List PM.En) (ab : List PM.Id) (v : Value) (op : List PM.En) (u : Value) (l : List PM.En) (w : World) (hs : PM.StR w v0 v1 v2 ls ps ab) (hv : PM.EnL w v op) (hwf : ∀ x ∈ op, x.wf) (hu : PM.EnL w u l) :
    Calls Try.prog 4 #[.agg #[.int .u64 (lf : Int), v0, v1, v2], v, u] w fun e w' => e = .returned (.bool true) ∧ Below w.heap.size w w' := by
  obtain ⟨a0, c0, rfl⟩ := hs.1.len
  obtain ⟨a1, c1, rfl⟩ := hs.2.1.len
  obtain ⟨a2, c2, rfl⟩ := hs.2.2.len
  obtain ⟨va, vc, rfl⟩ := hv.len
  obtain ⟨ua, uc, rfl⟩ := hu.len
  exact orderOnce_walkA lf a0 _ c0 a1 _ c1 a2 _ c2 va _ vc ua _ uc ls ps op l ab w rfl hs hv hwf hu
end Go.Proofs.Ytlijmmldfdmajaa
