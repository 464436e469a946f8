/-
  CONTRACT OF postilionref04.Decode.
-/
import Derived.Test.YtfanfkocmdkllaaPj
import Derived.Test.YtfanfkocmdkllaaPf
import Derived.Test.YtfanfkocmdkllaaPz
import Derived.Test.YtfanfkocmdkllaaQe
import Derived.Test.YtfanfkocmdkllaaEd
import Derived.Deep.Cut
namespace Go.Proofs.Ytfanfkocmdkllaa
open Go.RowKit
set_option linter.unusedVariables false
namespace PM
theorem stepsE_prev {k : Nat} {l : List UInt8} {wr : Bool} (h : (stepsE (k + 1) l wr).2.2 = false) : (stepsE k l wr).2.2 = false :=
  stepB_false (stepV_wr' (show (stepV (stepB (stepsE k l wr).2.1 (stepsE k l wr).2.2 16).2.1 (stepB (stepsE k l wr).2.1 (stepsE k l wr).2.2 16).2.2).2.2 = false from h))
theorem stepsE_down {k : Nat} {l : List UInt8} {wr : Bool} : ∀ d, (stepsE (k + d) l wr).2.2 = false → (stepsE k l wr).2.2 = false
  | 0, h => h
  | d + 1, h => stepsE_down d (stepsE_prev h)
theorem decF_fail {n k : Nat} {l : List UInt8} {wr : Bool} (h16 : ¬ 16 < n) (hk : k ≤ n) (h : (stepsE k l wr).2.2 = true) : decF n l wr = none := by
  refine decF_no h16 fun hh => ?_
  have h1 := hh.1
  rw [show n = k + (n - k) by omega] at h1
  have := stepsE_down _ h1
  rw [h] at this
  cases this
theorem getV_le (l : List UInt8) : (getV l).2 ≤ l.length := by
  obtain ⟨n1, k1, g1⟩ : ∃ n k, getK l = (n, k) := ⟨_, _, rfl⟩
  obtain ⟨n2, k2, g2⟩ : ∃ n k, getK (l.drop k1) = (n, k) := ⟨_, _, rfl⟩
  obtain ⟨s3, k3, g3⟩ : ∃ s k, getB (l.drop (k1 + k2)) 40 = (s, k) := ⟨_, _, rfl⟩
  have hv := getV_eq l s3 n1 k1 n2 k2 k3 g1 g2 g3
  have h2 := getK_lt l
  have h3 := getK_lt (l.drop k1)
  have h4 := getB_lt (l.drop (k1 + k2)) 40
  rw [g1] at h2
  rw [g2] at h3
  rw [g3] at h4
  rw [List.length_drop] at h3 h4
  simp only at h2 h3 h4
  rw [hv]
  split
  · simp
  · split
    · simp only; omega
    · simp
end PM
set_option maxHeartbeats 4000000 in
theorem rdecode_any (v : Value) (l : List UInt8) (w : World) (hv : PM.BS w v l) (hl : l.length ≤ 70368744177664) :
    Calls Try.prog 21 #[v] w (RetD 43 w l) := by
  have hg := rget_any v l w hv hl
  have hsn := PM.stepN_getK l
  have hkl := PM.getK_lt l
  have hDE : PM.decE l = PM.decF (PM.stepN l false).1 (PM.stepN l false).2.1 (PM.stepN l false).2.2 := rfl
  rw [hsn] at hDE
  generalize PM.getK l = K at *
  obtain ⟨n0, K0⟩ := K
  simp only at hDE hg hkl hsn
  obtain ⟨hn64, hK0⟩ := hkl
  obtain ⟨va, vc, hve⟩ := hv.len
  obtain ⟨N, hN⟩ : ∃ N, N = l.length := ⟨_, rfl⟩
  have hNh := PM.hid hN
  subst hve
  have hrest := PM.run_rest' bty hv hK0
  rw [← hN] at hv hl hK0 hg hrest ⊢
  clear hN hsn
  by_cases hk0 : K0 = 0
  · subst hk0
    have hDn : PM.decE l = none := by
      rw [hDE, if_pos rfl]
      exact PM.decF_no (by simp) (by simp [PM.stepsE])
    have hDh := PM.hid hDn
    clear hDn hDE hrest
    go_enter Try.func21, Try.ntmps21
    go_wp2_with fail
    refine hg.mono ?_
    rintro e w1 ⟨rfl, hB1⟩
    have hB := PM.hid hB1
    clear hB1 hg hv
    go_wp2_with fail
    go_ret2
    refine ⟨.slice none 0 0, by unfold PM.decN; rw [hDh.out]; rfl, ?_⟩
    exact ⟨fun es h => (by rw [hDh.out] at h; cases h), fun _ => rfl, hB.out⟩
  rw [if_neg hk0] at hDE
  have hk0' : ((K0 : Int) == 0) = false := by simp; omega
  by_cases h16 : 16 < n0
  · have hg16 : decide ((16 : Int) < (n0 : Int)) = true := by simp; omega
    have hDn : PM.decE l = none := by rw [hDE]; exact PM.decF_big h16
    have hDh := PM.hid hDn
    clear hDn hDE hrest
    go_enter Try.func21, Try.ntmps21
    go_wp2_with fail
    refine hg.mono ?_
    rintro e w1 ⟨rfl, hB1⟩
    have hB := PM.hid hB1
    clear hB1 hg hv
    go_wp2_with fail
    go_ret2
    refine ⟨.slice none 0 0, by unfold PM.decN; rw [hDh.out]; rfl, ?_⟩
    exact ⟨fun es h => (by rw [hDh.out] at h; cases h), fun _ => rfl, hB.out⟩
  have hg16 : decide ((16 : Int) < (n0 : Int)) = false := by simp; omega
  obtain ⟨ra, rc, hrun, hrs⟩ := hrest
  have hD := PM.hid hDE
  have hl0 : (l.drop K0).length ≤ 70368744177664 := by rw [List.length_drop, ← hNh.out]; omega
  have hrl : (l.drop K0).length = N - K0 := by rw [List.length_drop, ← hNh.out]
  have hrsh := PM.hid hrs
  clear hDE hrs
  generalize l.drop K0 = l0 at *
  go_enter Try.func21, Try.ntmps21
  go_wp2_with fail
  refine hg.mono ?_
  rintro e w1 ⟨rfl, hB1⟩
  have hB := PM.hid hB1
  have hr1 := hrun w1
  clear hB1 hg hv hrun
  go_wp2_with fail
  clear hr1
  go_loopw [0, 6, 7] (fun bb o i wr => ∃ k : Nat, i = .int .u64 k ∧ k ≤ n0 ∧ (PM.stepsE k l0 false).2.2 = false ∧ PM.BS w bb (PM.stepsE k l0 false).2.1 ∧ PM.OM PM.attL 4 43 w.heap.size wr o (PM.stepsE k l0 false).1 ∧ Below w.heap.size w wr) (fun _ _ i _ => n0 - (intOf i).toNat)
  case atStart => exact ⟨0, rfl, by omega, rfl, hrsh.out, PM.OM.nilrow _, hB.out⟩
  case round =>
    obtain ⟨k, rfl, hk, hwf, hbb, hO, hBr⟩ := hrel
    have hlE := PM.stepsE_lt k l0 false
    have hlen := PM.stepsE_len k l0 false
    have hSS : Hid (PM.stepsE (k + 1) l0 false = ((PM.stepsE k l0 false).1 ++ [PM.attR (PM.stepB (PM.stepsE k l0 false).2.1 (PM.stepsE k l0 false).2.2 16).1 (PM.stepV (PM.stepB (PM.stepsE k l0 false).2.1 (PM.stepsE k l0 false).2.2 16).2.1 (PM.stepB (PM.stepsE k l0 false).2.1 (PM.stepsE k l0 false).2.2 16).2.2).1], (PM.stepV (PM.stepB (PM.stepsE k l0 false).2.1 (PM.stepsE k l0 false).2.2 16).2.1 (PM.stepB (PM.stepsE k l0 false).2.1 (PM.stepsE k l0 false).2.2 16).2.2).2.1, (PM.stepV (PM.stepB (PM.stepsE k l0 false).2.1 (PM.stepsE k l0 false).2.2 16).2.1 (PM.stepB (PM.stepsE k l0 false).2.1 (PM.stepsE k l0 false).2.2 16).2.2).2.2)) := PM.hid rfl
    by_cases hlt : k < n0
    · have hc : decide ((k : Int) < (n0 : Int)) = true := by simp; omega
      generalize PM.stepsE k l0 false = R at *
      obtain ⟨es, l1, wr1⟩ := R
      simp only at hwf hbb hO hlE hlen hSS
      subst hwf
      have hbw := hbb.keep hBr
      obtain ⟨ba, bc, hbe⟩ := hbb.len
      subst hbe
      have hgB := rgetB_any _ l1 16 wr hbw (by omega) (by omega) (by omega)
      have hgl := PM.getB_lt l1 16
      rw [PM.stepB_getB l1 16] at hSS
      have hin := PM.hid (And.intro hbb (And.intro hO hBr))
      have hre := PM.run_rest' bty hbb hgl.1
      clear hbb hO hBr hbw
      generalize hGB : PM.getB l1 16 = GB at *
      obtain ⟨nm, c1⟩ := GB
      simp only at hgB hgl hSS hre
      by_cases hc1 : c1 = 0
      · subst hc1
        have hDh : Hid (PM.decE l = none) := PM.hid (by rw [hD.out]; exact PM.decF_fail (k := k + 1) h16 (by omega) (by rw [hSS.out, if_pos rfl]; cases h : (PM.stepV [] true).2.2 with | true => rfl | false => exact absurd (PM.stepV_wr' h) (by simp)))
        clear hre hSS
        go_wp2_with fail
        refine hgB.mono ?_
        rintro e w2 ⟨x2, rfl, _, hB2⟩
        have hB3 := PM.hid (PM.chain hin.out.2.2 hB2)
        clear hB2 hgB
        go_wp2_with fail
        go_ret2
        refine ⟨.slice none 0 0, by unfold PM.decN; rw [hDh.out]; rfl, ?_⟩
        exact ⟨fun es h => (by rw [hDh.out] at h; cases h), fun _ => rfl, hB3.out⟩
      have hc1' : ((c1 : Int) == 0) = false := by simp; omega
      rw [if_neg hc1] at hSS
      simp only at hSS
      obtain ⟨ra2, rc2, hrun2, hrs2⟩ := hre
      have hl2 : (l1.drop c1).length = l1.length - c1 := by rw [List.length_drop]
      have hVl := PM.getV_le (l1.drop c1)
      rw [PM.stepV_getV (l1.drop c1)] at hSS
      have hre3 := fun (c2 : Nat) (h : c2 ≤ (l1.drop c1).length) => PM.run_rest' bty hin.out.1 (K := c1 + c2) (by rw [hl2] at h; omega)
      go_wp2_with fail
      refine hgB.mono ?_
      rintro e w2 ⟨x2, rfl, hx2, hB2⟩
      have hin2 := PM.hid (PM.chain hin.out.2.2 hB2)
      have hr2 := hrun2 w2
      have hgV := rgetV_any _ (l1.drop c1) w2 (hrs2.keep hin2.out) (by omega)
      have hO2 := PM.hid (hin.out.2.1.keep hB2)
      clear hgB hB2 hrun2 hrs2
      generalize hGV : PM.getV (l1.drop c1) = GV at *
      obtain ⟨⟨vk, vn, vs⟩, c2⟩ := GV
      simp only at hgV hVl hSS
      by_cases hc2 : c2 = 0
      · subst hc2
        have hDh : Hid (PM.decE l = none) := PM.hid (by rw [hD.out]; exact PM.decF_fail (k := k + 1) h16 (by omega) (by rw [hSS.out, if_pos rfl]))
        clear hSS hre3
        go_wp2_with fail
        refine hgV.mono ?_
        rintro e w3 ⟨rfl, hB3⟩
        have hB4 := PM.hid (PM.chain hin2.out hB3)
        clear hB3 hgV hr2 hx2
        go_wp2_with fail
        go_ret2
        refine ⟨.slice none 0 0, by unfold PM.decN; rw [hDh.out]; rfl, ?_⟩
        exact ⟨fun es h => (by rw [hDh.out] at h; cases h), fun _ => rfl, hB4.out.alloc hB4.out.size _⟩
      have hc2' : ((c2 : Int) == 0) = false := by simp; omega
      rw [if_neg hc2] at hSS
      simp only at hSS
      obtain ⟨ra3, rc3, hrun3, hrs3⟩ := hre3 c2 hVl
      rw [← List.drop_drop] at hrs3
      clear hre3
      go_wp2_with fail
      refine hgV.mono ?_
      rintro e w3 ⟨rfl, hB3⟩
      go_upto_region 15 with fail
      obtain ⟨g4, hg4⟩ : ∃ g, g = w3.heap.size := ⟨_, rfl⟩
      obtain ⟨w4, hw4⟩ : ∃ W, W = w3.alloc (.cells #[.int .i64 vk, .int .i64 vn, .string ⟨vs.toArray⟩] 31) := ⟨_, rfl⟩
      have hal : Below w3.heap.size w3 w4 := by rw [hw4]; exact (Below.refl _ _).alloc (Nat.le_refl _) _
      have hv4 : PM.BK w4 g4 #[.int .i64 vk, .int .i64 vn, .string ⟨vs.toArray⟩] 31 := by rw [hw4, hg4]; exact PM.BK.new _ _ _
      have hB34 := PM.chain hB3 hal
      have kc := PM.run_str bty Try.underlying9 (hx2.keep hB34)
      have hO4 := hO2.out.keep hB34
      have hin4 := PM.hid (PM.chain hin2.out hB34)
      have hz4 := hin4.out.size
      have q0 := hv4.cell 0
      have q1 := hv4.cell 1
      have q2 := hv4.cell 2
      replace q0 : w4.cell? ⟨g4, 0, none⟩ = some (.int .i64 vk) := q0
      replace q1 : w4.cell? ⟨g4, 1, none⟩ = some (.int .i64 vn) := q1
      replace q2 : w4.cell? ⟨g4, 2, none⟩ = some (.string ⟨vs.toArray⟩) := q2
      have hrs3h := PM.hid hrs3
      have hlen16 : (es.length + 1) * 48 ≤ 140737488355328 := by omega
      have hlen17 : es.length + 1 ≤ maxLen := by unfold maxLen; omega
      clear hgV hx2 hO2 hr2 hv4 hB34 hB3 hrs3 hal
      rw [← hw4, ← hg4]
      clear hw4 hg4
      go_wp2_with (first
        | (at_builtin; refine PM.wpList_em1 (e := PM.attL) attTy PM.attL_len PM.attL_one w.heap.size w4 rfl _ _ rfl _ es (PM.attR nm (vk, vn, vs)) _ rfl rfl ?_ rfl hO4 hlen16 hlen17 hz4 ?_; rfl; intro v' w' t1 t2 t3 t4; have hE := PM.hid (And.intro t1 (hin4.out.trans t2)); have hr3 := hrun3 w'; rw [Int.natCast_add] at hr3; clear t1 t2 t3 t4 kc hO4 q0 q1 q2 hz4))
      refine ⟨⟨k + 1, by go_num, by omega, by rw [hSS.out], by rw [hSS.out]; exact hrs3h.out, by rw [hSS.out]; exact hE.out.1, hE.out.2⟩, by simp only [intOf]; omega⟩
    · have hkn : k = n0 := by omega
      subst hkn
      have hc : decide ((k : Int) < (k : Int)) = false := by simp
      clear hSS
      generalize hR : PM.stepsE k l0 false = R at *
      obtain ⟨es, l1, wr1⟩ := R
      simp only at hwf hbb hO hlE hlen
      subst hwf
      have hck := recheck_any _ es wr (PM.OM.em PM.attL_len hO).ev (by have := PM.stepsE_wf k l0 false; rw [hR] at this; exact this)
      obtain ⟨oa, oc, hoe⟩ := (PM.OM.em PM.attL_len hO).len
      obtain ⟨ba, bc, hbe⟩ := hbb.len
      subst hbe
      subst hoe
      rw [hlen] at hck hO ⊢
      have hin := PM.hid (And.intro hO hBr)
      clear hO hBr hbb
      by_cases hch : PM.chkP es
      · rw [PM.chk_yes hch] at hck
        by_cases hl1 : l1 = []
        · subst hl1
          have hDy : Hid (PM.decE l = some es) := PM.hid (by rw [hD.out, PM.decF_yes (by omega) (by rw [hR]) (by rw [hR]) (by rw [hR]; exact hch), hR])
          clear hch hlen
          go_wp2_with fail
          refine hck.mono ?_
          clear hck
          rintro e we ⟨rfl, hBe⟩
          have hBh := PM.hid hBe
          clear hBe
          go_wp2_with fail
          go_ret2
          refine ⟨.slice oa k oc, by unfold PM.decN; rw [hDy.out]; rfl, ?_⟩
          exact ⟨fun es' h => (by rw [hDy.out] at h; injection h with h; subst h; exact hin.out.1.keep hBh.out), fun h => (by rw [hDy.out] at h; cases h), PM.chain hin.out.2 hBh.out⟩
        · have hDn : Hid (PM.decE l = none) := PM.hid (by rw [hD.out, PM.decF_no (by omega) (by rw [hR]; simp [hl1])])
          have hp : 0 < l1.length := List.length_pos_iff.2 hl1
          have hp2 : decide (0 < l1.length) = true := by simpa using hp
          clear hch hl1 hlen
          go_wp2_with fail
          refine hck.mono ?_
          clear hck
          rintro e we ⟨rfl, hBe⟩
          have hBh := PM.hid hBe
          clear hBe
          go_wp2_with fail
          go_ret2
          refine ⟨.slice none 0 0, by unfold PM.decN; rw [hDn.out]; rfl, ?_⟩
          exact ⟨fun es h => (by rw [hDn.out] at h; cases h), fun _ => rfl, PM.chain hin.out.2 hBh.out⟩
      · rw [PM.chk_no hch] at hck
        have hDn : Hid (PM.decE l = none) := PM.hid (by rw [hD.out, PM.decF_no (by omega) (by rw [hR]; simp [hch])])
        clear hch hlen
        go_wp2_with fail
        refine hck.mono ?_
        clear hck
        rintro e we ⟨rfl, hBe⟩
        have hBh := PM.hid hBe
        clear hBe
        go_wp2_with fail
        go_ret2
        refine ⟨.slice none 0 0, by unfold PM.decN; rw [hDn.out]; rfl, ?_⟩
        exact ⟨fun es h => (by rw [hDn.out] at h; cases h), fun _ => rfl, PM.chain hin.out.2 hBh.out⟩
end Go.Proofs.Ytfanfkocmdkllaa
