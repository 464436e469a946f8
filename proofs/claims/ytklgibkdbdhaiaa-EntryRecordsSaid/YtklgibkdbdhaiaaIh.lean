/-
  CONTRACT OF filter.Decode.
-/
import Derived.Test.YtklgibkdbdhaiaaIg
import Derived.Test.YtklgibkdbdhaiaaIc
import Derived.Test.YtklgibkdbdhaiaaGv
namespace Go.Proofs.Ytklgibkdbdhaiaa
open Go.RowKit
set_option linter.unusedVariables false
theorem PM.teL_nob (x : PM.Te) : ∀ u ∈ PM.teL x, PM.NoB u := by intro u hu y; simp [PM.teL] at hu; rcases hu with rfl | rfl | rfl | rfl | rfl <;> simp [PM.bv]
theorem teTy : PM.MTy Try.prog 27 81 5 56 := by
  refine ⟨Try.underlying27, by decide, ?_⟩
  obtain ⟨i, h1, h2, h3, h4⟩ := info_parts (P := Try.prog) (e := 81) (z := .agg #[.string ByteArray.empty, .int .i64 0, .int .i64 0, .int .i64 0, .string ByteArray.empty]) (size := 5) (bytes := 56) (by kernel_rfl)
  exact ⟨i, _, h1, h2, h3, h4, by kernel_rfl⟩
theorem teZ : ∀ i z, Try.prog.info? 81 = some i → i.zero = some z → ∀ x ∈ z.cells.toList, PM.NoB x := by
  intro i z hi hz x hx y
  have h0 : (Try.prog.info? 81).bind (·.zero) = some (.agg #[.string ByteArray.empty, .int .i64 0, .int .i64 0, .int .i64 0, .string ByteArray.empty]) := by kernel_rfl
  rw [hi] at h0
  simp only [Option.bind_some, hz, Option.some.injEq] at h0
  subst h0
  simp [Value.cells] at hx
  rcases hx with rfl | rfl | rfl | rfl | rfl <;> simp [PM.bv]
def RetFD (E : TypeId) (W : World) (l : List UInt8) (e : Ending) (w' : World) : Prop :=
  ∃ o, e = .returned (.tuple #[o, .int .i64 (PM.decTN l)]) ∧ (∀ es, PM.decT l = some es → PM.OM PM.teL 5 E W.heap.size w' o es) ∧ (PM.decT l = none → o = .slice none 0 0) ∧ Below W.heap.size W w'
set_option maxRecDepth 100000 in
set_option maxHeartbeats 4000000 in
theorem fdecode_any (v : Value) (l : List UInt8) (w : World) (hv : PM.BS w v l) (hl : l.length ≤ 70368744177664) :
    Calls Try.prog 31 #[v] w (RetFD 81 w l) := by
  obtain ⟨n0, hn0⟩ : ∃ x, x = (PM.stepN l false).1 := ⟨_, rfl⟩
  obtain ⟨l0, hl0⟩ : ∃ x, x = (PM.stepN l false).2.1 := ⟨_, rfl⟩
  obtain ⟨wr0, hwr0⟩ : ∃ x, x = (PM.stepN l false).2.2 := ⟨_, rfl⟩
  have hD : Hid (PM.decT l = PM.decF' n0 l0 wr0) := PM.hid (by rw [hn0, hl0, hwr0]; rfl)
  have hlt := PM.stepN_lt l false
  rw [← hn0, ← hl0] at hlt
  obtain ⟨hn64, hl0l⟩ := hlt
  have e0 := PM.hid hn0
  have e1 := PM.hid hl0
  have e2 := PM.hid hwr0
  clear hn0 hl0 hwr0
  go_enter Try.func31, Try.ntmps31
  go_wp2_with fail
  refine (new_any v l w hv hl).mono ?_
  rintro e w1 ⟨b, rfl, hb1, hr1, hB1⟩
  go_wp2_with fail
  refine (rnumber_any b l false w1 hr1).mono ?_
  rw [← e0.out, ← e1.out, ← e2.out]
  rintro e w2 ⟨rfl, hr2, hx2⟩
  have hB2 := PM.hid (hx2.below hB1 hb1 hB1.size)
  clear hx2 hr1 hB1
  by_cases h8 : 8 < n0
  · have hg : decide ((8 : Int) < (n0 : Int)) = true := by simp; omega
    have hDn : Hid (PM.decT l = none) := PM.hid (by rw [hD.out, PM.decF'_big h8])
    clear hr2
    go_wp2_with fail
    go_ret2
    refine ⟨.slice none 0 0, by rw [PM.decTN_none hDn.out]; rfl, ?_⟩
    refine ⟨fun es h => (by rw [hDn.out] at h; cases h), fun _ => rfl, hB2.out⟩
  have hg : decide ((8 : Int) < (n0 : Int)) = false := by simp; omega
  have h8' : n0 ≤ 8 := by omega
  have hin := PM.hid (And.intro hr2 hB2.out)
  clear hr2 h8 hB2
  go_wp2_with fail
  go_loopw [6, 14] (fun o i wr => ∃ k : Nat, i = .int .u64 k ∧ k ≤ n0 ∧ PM.OM PM.teL 5 81 w.heap.size wr o (PM.stepsT k l0 wr0).1 ∧ PM.NBv wr o ∧ PM.RD 88 wr b (PM.stepsT k l0 wr0).2.1 (PM.stepsT k l0 wr0).2.2 ∧ Below w.heap.size w wr) (fun _ i _ => n0 - (intOf i).toNat)
  case atStart => exact ⟨0, rfl, by omega, PM.OM.nilrow _, PM.NBv.nil _, hin.out.1, hin.out.2⟩
  case round =>
    clear hin
    obtain ⟨k, rfl, hk, hO, hN, hr, hB⟩ := hrel
    have hlE := PM.stepsT_le k l0 wr0
    have hlen := PM.stepsT_len k l0 wr0
    have hSS : Hid (PM.stepsT (k + 1) l0 wr0 = ((PM.stepsT k l0 wr0).1 ++ [(PM.readT (PM.stepsT k l0 wr0).2.1 (PM.stepsT k l0 wr0).2.2).1], (PM.readT (PM.stepsT k l0 wr0).2.1 (PM.stepsT k l0 wr0).2.2).2.1, (PM.readT (PM.stepsT k l0 wr0).2.1 (PM.stepsT k l0 wr0).2.2).2.2)) := PM.hid rfl
    by_cases hlt : k < n0
    · have hc : decide ((k : Int) < (n0 : Int)) = true := by simp; omega
      have hct := test_any b (PM.stepsT k l0 wr0).2.1 (PM.stepsT k l0 wr0).2.2 wr hr (by omega)
      generalize PM.stepsT k l0 wr0 = R at *
      obtain ⟨es, l1, wr1⟩ := R
      simp only at hO hr hlE hSS hlen hct
      generalize PM.readT l1 wr1 = S at *
      obtain ⟨z, l2, wr2⟩ := S
      simp only at hSS hct
      obtain ⟨cs, hbk⟩ : ∃ cs, PM.BK wr b cs 88 := ⟨_, hr.choose_spec.1⟩
      have hin := PM.hid (And.intro hO (And.intro hN (And.intro hB hbk)))
      clear hO hN hB hr hbk
      go_wp2_with fail
      refine hct.mono ?_
      clear hct
      rintro e wb ⟨rfl, hrb, hxx⟩
      obtain ⟨hO, hN, hB, hbk⟩ := hin.out
      have hTE : 88 ≠ 81 := by decide
      have hne := hO.nev hbk hTE
      have hOb := hO.keepx hxx hbk hTE
      have hNb := hN.keepx hxx (fun g hg => (hO.lt g hg).2) hne
      have hBb := hxx.below hB hb1 hB.size
      have hszb := hBb.size
      have hl16 : (es.length + 1) * 56 ≤ 140737488355328 := by omega
      have hl17 : es.length + 1 ≤ maxLen := by unfold maxLen; omega
      clear hO hN hB hbk hin hxx
      go_wp2_with (at_builtin; refine PM.wpList_em1v (e := PM.teL) teTy teZ PM.teL_len PM.teL_one PM.teL_nob w.heap.size wb rfl _ _ rfl _ es z _ rfl rfl rfl rfl hOb hNb hl16 hl17 hszb ?_; intro v' w' t1 t2 t3 t4; have hE := PM.hid (And.intro t1 (And.intro t2 (And.intro t3 t4))); clear t1 t2 t3 t4)
      refine ⟨⟨k + 1, by simp, by omega, ?_, hE.out.2.1, ?_, hBb.trans hE.out.2.2.1⟩, by simp only [intOf]; omega⟩
      · rw [hSS.out]; exact hE.out.1
      · rw [hSS.out]; exact hrb.keptv hE.out.2.2.2 hNb hne
    · have hkn : k = n0 := by omega
      subst hkn
      have hc : decide ((k : Int) < (k : Int)) = false := by simp
      clear hSS
      generalize hR : PM.stepsT k l0 wr0 = R at *
      obtain ⟨es, l1, wr1⟩ := R
      simp only at hO hr hlE hlen
      have hdn := done_any b l1 wr1 wr hr
      obtain ⟨oa, oc, hoe⟩ := (hO.em PM.teL_len).len
      have hck := fcheck_any _ es wr (hO.em PM.teL_len)
      have hin := PM.hid (And.intro hO (And.intro hr hB))
      have hlh := PM.hid hlen
      clear hO hr hB hlen hN
      by_cases hdone : wr1 = false ∧ l1 = []
      · obtain ⟨rfl, rfl⟩ := hdone
        have hdn' : Calls Try.prog 33 #[.pointer (some ⟨b, 0, none⟩)] wr fun e w' => e = .returned (.bool true) ∧ wr = w' := hdn
        clear hdn
        by_cases hch : PM.filP es
        · have hDy : Hid (PM.decT l = some es) := PM.hid (by rw [hD.out, PM.decF'_yes (by omega) (by rw [hR]) (by rw [hR]) (by rw [hR]; exact hch), hR])
          rw [PM.filE_yes hch] at hck
          clear hch hoe
          go_wp2_with fail
          refine hdn'.mono ?_
          clear hdn'
          rintro e wd ⟨rfl, rfl⟩
          go_wp2_with fail
          refine hck.mono ?_
          clear hck
          rintro e we ⟨rfl, hBe⟩
          have hBh := PM.hid hBe
          clear hBe
          go_wp2_with fail
          go_ret2
          refine ⟨u6, by rw [PM.decTN_some hDy.out]; rfl, ?_⟩
          exact ⟨fun es' h => (by rw [hDy.out] at h; injection h with h; subst h; exact hin.out.1.keep hBh.out), fun h => (by rw [hDy.out] at h; cases h), PM.chain hin.out.2.2 hBh.out⟩
        · have hDn : Hid (PM.decT l = none) := PM.hid (by rw [hD.out, PM.decF'_no (by omega) (by rw [hR]; simp [hch])])
          rw [PM.filE_no hch] at hck
          clear hch hoe
          go_wp2_with fail
          refine hdn'.mono ?_
          clear hdn'
          rintro e wd ⟨rfl, rfl⟩
          go_wp2_with fail
          refine hck.mono ?_
          clear hck
          rintro e we ⟨rfl, hBe⟩
          have hBh := PM.hid hBe
          clear hBe
          go_wp2_with fail
          go_ret2
          refine ⟨.slice none 0 0, by rw [PM.decTN_none hDn.out]; rfl, ?_⟩
          exact ⟨fun es h => (by rw [hDn.out] at h; cases h), fun _ => rfl, PM.chain hin.out.2.2 hBh.out⟩
      · have hDn : Hid (PM.decT l = none) := PM.hid (by rw [hD.out, PM.decF'_no (by omega) (by rw [hR]; intro h; exact hdone ⟨h.1, h.2.1⟩)])
        have hdf : (!wr1 && decide (l1 = [])) = false := by
          cases wr1 <;> simp at hdone ⊢
          exact hdone
        rw [hdf] at hdn
        clear hdone hoe
        go_wp2_with fail
        refine hdn.mono ?_
        clear hdn hck
        rintro e wd ⟨rfl, rfl⟩
        go_wp2_with fail
        go_ret2
        refine ⟨.slice none 0 0, by rw [PM.decTN_none hDn.out]; rfl, ?_⟩
        exact ⟨fun es h => (by rw [hDn.out] at h; cases h), fun _ => rfl, hin.out.2.2⟩
end Go.Proofs.Ytklgibkdbdhaiaa
