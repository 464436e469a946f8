/-
  CONTRACT OF postilionref05.Get.
-/
import Derived.Test.YtocggnaekajdbaaIn
import Derived.Test.YtocggnaekajdbaaIh
import Derived.Test.YtocggnaekajdbaaIl
import Derived.Deep.Cut
namespace Go.Proofs.Ytocggnaekajdbaa
open Go.RowKit
set_option linter.unusedVariables false
/-- the filter that is read, m bytes of l -/
def PM.GotF (E : TypeId) (B : Nat) (w : World) (o : Value) (l : List UInt8) (m : Nat) : Prop :=
  (m = 0 ∧ PM.getF l = none ∧ o = .slice none 0 0) ∨ (m ≠ 0 ∧ m ≤ l.length ∧ ∃ es, PM.getF l = some (es, l.drop m) ∧ PM.OM PM.teL 5 E B w o es)
def RetFG (E : TypeId) (W : World) (l : List UInt8) (e : Ending) (w' : World) : Prop :=
  ∃ o m, e = .returned (.tuple #[o, .int .i64 ((m : Nat) : Int)]) ∧ PM.GotF E W.heap.size w' o l m ∧ Below W.heap.size W w'
set_option maxRecDepth 100000 in
set_option maxHeartbeats 4000000 in
theorem rfget_any (v : Value) (l : List UInt8) (w : World) (hv : PM.BS w v l) (hl : l.length ≤ 70368744177664) :
    Calls Try.prog 49 #[v] w (RetFG 30 w l) := by
  have hg := rget_any v l w hv hl
  have hkl := PM.getK_lt l
  obtain ⟨n0, K0, hK⟩ : ∃ n k, PM.getK l = (n, k) := ⟨_, _, rfl⟩
  rw [hK] at hg hkl
  simp only at hg hkl
  obtain ⟨hn64, hK0⟩ := hkl
  have HK := PM.hid hK
  clear hK
  obtain ⟨va, vc, hve⟩ := hv.len
  subst hve
  obtain ⟨N, hN⟩ : ∃ N, N = l.length := ⟨_, rfl⟩
  have hNh := PM.hid hN
  rw [← hN] at hv hl hK0 hg ⊢
  have hvh := PM.hid hv
  clear hN hv
  by_cases hk0 : K0 = 0
  · subst hk0
    have HN := PM.hid (PM.getF_none HK.out (Or.inl rfl))
    go_enter Try.func49, Try.ntmps49
    go_wp2_with fail
    refine hg.mono ?_
    rintro e w1 ⟨rfl, hB1⟩
    have hB := PM.hid hB1
    clear hB1 hg
    go_wp2_with fail
    go_ret2
    exact ⟨.slice none 0 0, 0, rfl, Or.inl ⟨rfl, HN.out, rfl⟩, hB.out⟩
  have hk0' : ((K0 : Int) == 0) = false := by simp; omega
  by_cases h8 : 8 < n0
  · have hg8 : decide ((8 : Int) < (n0 : Int)) = true := by simp; omega
    have HN := PM.hid (PM.getF_none HK.out (Or.inr h8))
    go_enter Try.func49, Try.ntmps49
    go_wp2_with fail
    refine hg.mono ?_
    rintro e w1 ⟨rfl, hB1⟩
    have hB := PM.hid hB1
    clear hB1 hg
    go_wp2_with fail
    go_ret2
    exact ⟨.slice none 0 0, 0, rfl, Or.inl ⟨rfl, HN.out, rfl⟩, hB.out⟩
  have hg8 : decide ((8 : Int) < (n0 : Int)) = false := by simp; omega
  have hl0 : (l.drop K0).length ≤ N := by rw [List.length_drop, ← hNh.out]; omega
  go_enter Try.func49, Try.ntmps49
  go_wp2_with fail
  refine hg.mono ?_
  rintro e w1 ⟨rfl, hB1⟩
  have hB := PM.hid hB1
  clear hB1 hg
  go_wp2_with fail
  go_loopw [6, 7, 8] (fun o a i wr => ∃ (k p : Nat), i = .int .u64 k ∧ k ≤ n0 ∧ a = .int .i64 (p : Nat) ∧ K0 ≤ p ∧ p ≤ N ∧ l.drop p = (PM.stepsT k (l.drop K0) false).2.1 ∧ (PM.stepsT k (l.drop K0) false).2.2 = false ∧ PM.OM PM.teL 5 30 w.heap.size wr o (PM.stepsT k (l.drop K0) false).1 ∧ Below w.heap.size w wr) (fun _ _ i _ => n0 - (intOf i).toNat)
  case atStart => exact ⟨0, K0, rfl, by omega, rfl, Nat.le_refl _, hK0, rfl, rfl, PM.OM.nilrow _, hB.out⟩
  case round =>
    clear hB
    obtain ⟨k, p, rfl, hk, rfl, hp1, hp2, hdr, hwf, hO, hBr⟩ := hrel
    have hlen := PM.stepsT_len k (l.drop K0) false
    by_cases hlt : k < n0
    · have hc : decide ((k : Int) < (n0 : Int)) = true := by simp; omega
      have hNo := fun h => PM.getF_no HK.out (PM.stepsT_fail hlt hwf h)
      have hYes := PM.stepsT_next hwf
      rw [← hdr] at hNo hYes
      have hgl := PM.getT_le (l.drop p)
      rw [List.length_drop, ← hNh.out] at hgl
      obtain ⟨ra, rc, hrun, hrs⟩ := PM.run_rest' bty hvh.out (K := p) (by rw [← hNh.out]; exact hp2)
      rw [← hNh.out] at hrun hrs
      have hrw := hrs.keep hBr
      have hr1 := hrun wr
      have hct := rtest_any _ (l.drop p) wr hrw (by rw [List.length_drop, ← hNh.out]; omega)
      have hin := PM.hid (And.intro hO (And.intro hBr (And.intro hdr hwf)))
      have hNoh := PM.hid hNo
      have hYesh := PM.hid hYes
      clear hNo hYes hO hBr hdr hwf hrun hrs hrw
      unfold RetTG at hct
      generalize hGT : PM.getT (l.drop p) = GT at *
      obtain ⟨z, c⟩ := GT
      simp only at hct hgl
      clear hGT
      go_wp2_with fail
      refine hct.mono ?_
      clear hct
      rintro e w2 ⟨rfl, hB2⟩
      go_upto_region 10 with fail
      obtain ⟨g4, hg4⟩ : ∃ g, g = w2.heap.size := ⟨_, rfl⟩
      obtain ⟨w4, hw4⟩ : ∃ W, W = w2.alloc (.cells #[.string z.name, .int .i64 z.op, .int .i64 z.k, .int .i64 z.n, .string z.s] 30) := ⟨_, rfl⟩
      have hal : Below w2.heap.size w2 w4 := by rw [hw4]; exact (Below.refl _ _).alloc (Nat.le_refl _) _
      have hv4 : PM.BK w4 g4 #[.string z.name, .int .i64 z.op, .int .i64 z.k, .int .i64 z.n, .string z.s] 30 := by rw [hw4, hg4]; exact PM.BK.new _ _ _
      have hB24 := PM.chain hB2 hal
      have hO4 := hin.out.1.keep hB24
      have hin4 := PM.hid (PM.chain hin.out.2.1 hB24)
      have hz4 := hin4.out.size
      rw [← hw4, ← hg4]
      clear hw4 hg4 hal hB2 hB24 hr1
      by_cases hc0 : c = 0
      · subst hc0
        have HN := PM.hid (hNoh.out rfl)
        clear hO4 hv4
        go_wp2_with fail
        go_ret2
        exact ⟨.slice none 0 0, 0, rfl, Or.inl ⟨rfl, HN.out, rfl⟩, hin4.out⟩
      have hc0' : ((c : Int) == 0) = false := by simp; omega
      have HY := PM.hid (hYesh.out hc0)
      generalize PM.stepsT k (l.drop K0) false = R at *
      obtain ⟨es, l1, wr1⟩ := R
      simp only at hlen hO4 HY hin
      have q0 := hv4.cell 0
      have q1 := hv4.cell 1
      have q2 := hv4.cell 2
      have q3 := hv4.cell 3
      have q4 := hv4.cell 4
      replace q0 : w4.cell? ⟨g4, 0, none⟩ = some (.string z.name) := q0
      replace q1 : w4.cell? ⟨g4, 1, none⟩ = some (.int .i64 z.op) := q1
      replace q2 : w4.cell? ⟨g4, 2, none⟩ = some (.int .i64 z.k) := q2
      replace q3 : w4.cell? ⟨g4, 3, none⟩ = some (.int .i64 z.n) := q3
      replace q4 : w4.cell? ⟨g4, 4, none⟩ = some (.string z.s) := q4
      have hlen16 : (es.length + 1) * 56 ≤ 140737488355328 := by omega
      have hlen17 : es.length + 1 ≤ maxLen := by unfold maxLen; omega
      clear hv4 hlen
      go_wp2_with (first
        | (at_builtin; refine PM.wpList_em1 (e := PM.teL) teTy PM.teL_len PM.teL_one w.heap.size w4 rfl _ _ rfl _ es z _ rfl rfl ?_ rfl hO4 hlen16 hlen17 hz4 ?_; rfl; intro v' w' t1 t2 t3 t4; have hE := PM.hid (And.intro t1 (hin4.out.trans t2)); clear t1 t2 t3 t4 hO4 q0 q1 q2 q3 q4 hz4))
      refine ⟨⟨k + 1, p + c, by go_num, by omega, by rw [Int.natCast_add], by omega, by omega, ?_, by rw [HY.out], by rw [HY.out]; exact hE.out.1, hE.out.2⟩, by simp only [intOf]; omega⟩
      rw [HY.out]; simp only [List.drop_drop]
    · have hkn : k = n0 := by omega
      subst hkn
      have hc : decide ((k : Int) < (k : Int)) = false := by simp
      have hYes := PM.hid (fun h => PM.getF_yes HK.out (by omega) hwf h)
      have hNo := PM.hid (fun (h : ¬ PM.filP (PM.stepsT k (l.drop K0) false).1) => PM.getF_no HK.out (n := k) (k := K0) (fun hh => h hh.2))
      have hsw := PM.stepsT_wf k (l.drop K0) false
      generalize PM.stepsT k (l.drop K0) false = R at *
      obtain ⟨es, l1, wr1⟩ := R
      simp only at hO hYes hNo hlen hdr hsw
      have hck := rfcheck_any _ es wr (hO.em PM.teL_len) (fun x hx => (hsw x hx).1)
      obtain ⟨oa, oc, hoe⟩ := (hO.em PM.teL_len).len
      subst hoe
      rw [hlen] at hck hO ⊢
      have hin := PM.hid (And.intro hO (And.intro hBr hdr))
      clear hO hBr hdr hwf hsw hlen
      by_cases hch : PM.filP es
      · rw [PM.filE_yes hch] at hck
        have HY := PM.hid (hYes.out hch)
        clear hch hYes hNo
        go_wp2_with fail
        refine hck.mono ?_
        clear hck
        rintro e we ⟨rfl, hBe⟩
        have hBh := PM.hid hBe
        clear hBe
        go_wp2_with fail
        go_ret2
        refine ⟨_, p, rfl, Or.inr ⟨by omega, by rw [← hNh.out]; exact hp2, es, by rw [HY.out, hin.out.2.2], hin.out.1.keep hBh.out⟩, PM.chain hin.out.2.1 hBh.out⟩
      · rw [PM.filE_no hch] at hck
        have HN := PM.hid (hNo.out hch)
        clear hch hYes hNo
        go_wp2_with fail
        refine hck.mono ?_
        clear hck
        rintro e we ⟨rfl, hBe⟩
        have hBh := PM.hid hBe
        clear hBe
        go_wp2_with fail
        go_ret2
        exact ⟨.slice none 0 0, 0, rfl, Or.inl ⟨rfl, HN.out, rfl⟩, PM.chain hin.out.2.1 hBh.out⟩
set_option maxHeartbeats 4000000 in
theorem rfdecode_any (v : Value) (l : List UInt8) (w : World) (hv : PM.BS w v l) (hl : l.length ≤ 70368744177664) :
    Calls Try.prog 26 #[v] w (RetFD 30 w l) := by
  have hg := rfget_any v l w hv hl
  have HD := PM.hid (PM.decT_getF l)
  obtain ⟨va, vc, hve⟩ := hv.len
  subst hve
  clear hv
  obtain ⟨N, hN⟩ : ∃ N, N = l.length := ⟨_, rfl⟩
  have hNh := PM.hid hN
  rw [← hN] at hg hl ⊢
  clear hN
  go_enter Try.func26, Try.ntmps26
  go_wp2_with fail
  refine hg.mono ?_
  clear hg
  rintro e w1 ⟨o, m, rfl, hG, hB1⟩
  have hB := PM.hid hB1
  clear hB1
  rcases hG with ⟨rfl, hF, rfl⟩ | ⟨hm, hml, es, hF, hO⟩
  · have hDn : Hid (PM.decT l = none) := PM.hid (by rw [HD.out, hF]; rfl)
    clear hF
    go_wp2_with fail
    go_ret2
    exact ⟨.slice none 0 0, by rw [PM.decTN_none hDn.out]; rfl, fun es h => (by rw [hDn.out] at h; cases h), fun _ => rfl, hB.out⟩
  have hm' : ((m : Int) == 0) = false := by simp; omega
  rw [← hNh.out] at hml
  by_cases hmN : m = N
  · have hd : ((m : Int) != (N : Int)) = false := by simp; omega
    have hDy : Hid (PM.decT l = some es) := PM.hid (by rw [HD.out, hF]; simp only [Option.bind_some]; rw [if_pos (by rw [List.drop_eq_nil_iff, ← hNh.out]; omega)])
    have hOh := PM.hid hO
    clear hF hO hmN
    go_wp2_with fail
    go_ret2
    refine ⟨o, by rw [PM.decTN_some hDy.out]; rfl, ?_⟩
    exact ⟨fun es' h => (by rw [hDy.out] at h; injection h with h; subst h; exact hOh.out), fun h => (by rw [hDy.out] at h; cases h), hB.out⟩
  · have hd : ((m : Int) != (N : Int)) = true := by simp; omega
    have hDn : Hid (PM.decT l = none) := PM.hid (by rw [HD.out, hF]; simp only [Option.bind_some]; rw [if_neg (by rw [List.drop_eq_nil_iff, ← hNh.out]; omega)])
    clear hF hO hmN
    go_wp2_with fail
    go_ret2
    exact ⟨.slice none 0 0, by rw [PM.decTN_none hDn.out]; rfl, fun es h => (by rw [hDn.out] at h; cases h), fun _ => rfl, hB.out⟩
end Go.Proofs.Ytocggnaekajdbaa
