/-
  THE WALKS OF LAYER 5's STATEMENTS: names, unlike filters, there and back.
-/
import Derived.Test.YtocggnaekajdbaaIj
namespace Go.Proofs.Ytocggnaekajdbaa
open Go.RowKit
set_option linter.unusedVariables false
theorem filterNames_walk (w : World) :
    Calls Try.prog 3 #[] w fun e w' => e = .returned (.bool true) ∧ Below w.heap.size w w' := by
  go_enter Try.func3, Try.ntmps3
  go_wp2_with (go_at_call 10; refine (awake5 _).mono ?_; rintro e w1 ⟨rfl, hb⟩)
  go_ret
  exact ⟨rfl, hb⟩
set_option maxHeartbeats 2000000 in
theorem filterUnlike_walk (v : Value) (es : List PM.Te) (u : Value) (fs : List PM.Te) (w : World) (hv : PM.TV w v es) (hw : ∀ x ∈ es, x.wf) (hu : PM.TV w u fs) (hwu : ∀ x ∈ fs, x.wf) :
    Calls Try.prog 9 #[v, u] w fun e w' => e = .returned (.bool true) ∧ Below w.heap.size w w' := by
  have hwh := PM.hid (And.intro hw hwu)
  clear hw hwu
  go_enter Try.func9, Try.ntmps9
  go_wp2_with fail
  refine (awake5 _).mono ?_
  rintro e w1 ⟨rfl, hB1⟩
  replace hv := hv.keep hB1
  replace hu := hu.keep hB1
  have hB := PM.hid hB1
  clear hB1
  go_wp2_with fail
  refine (ffew_any _ es w1 hv).mono ?_
  rintro e w2 ⟨hF, rfl⟩
  rcases hF with ⟨rfl, hF⟩ | ⟨rfl, hF⟩
  case inr =>
    clear hF hv hu
    go_wp2_with fail
    go_ret
    exact ⟨rfl, hB.out⟩
  clear hF
  go_wp2_with fail
  refine (ffew_any _ fs w2 hu).mono ?_
  rintro e w3 ⟨hF, rfl⟩
  rcases hF with ⟨rfl, hF⟩ | ⟨rfl, hF⟩
  case inr =>
    clear hF hv hu
    go_wp2_with fail
    go_ret
    exact ⟨rfl, hB.out⟩
  clear hF
  go_wp2_with fail
  refine (fencode_any _ es w3 hv hwh.out.1).mono ?_
  rintro e w4 ⟨o4, rfl, ho4, hn4, hB4⟩
  replace hv := hv.keep hB4
  replace hu := hu.keep hB4
  replace hB := PM.hid (PM.chain hB.out hB4)
  have h4 := PM.hid (And.intro ho4 hn4)
  clear hB4 ho4 hn4
  go_wp2_with fail
  refine (fencode_any _ fs w4 hu hwh.out.2).mono ?_
  rintro e w5 ⟨o5, rfl, ho5, hn5, hB5⟩
  replace hv := hv.keep hB5
  replace hu := hu.keep hB5
  replace hB := PM.hid (PM.chain hB.out hB5)
  by_cases hc : PM.filP es
  case neg =>
    rw [PM.filE_no hc]
    clear ho5 hn5 hB5 hc h4 hv hu
    go_wp2_with fail
    go_ret
    exact ⟨rfl, hB.out⟩
  by_cases hd : PM.filP fs
  case neg =>
    rw [PM.filE_yes hc, PM.filE_no hd]
    clear ho5 hn5 hB5 hc h4 hd hv hu
    go_wp2_with fail
    go_ret
    exact ⟨rfl, hB.out⟩
  rw [PM.filE_yes hc, PM.filE_yes hd]
  have b4 := (h4.out.1 hc).bs.keep hB5
  have b5 := (ho5 hd).bs
  have hch := PM.hid (And.intro hc hd)
  clear ho5 hn5 hB5 hc h4 hd
  go_wp2_with fail
  refine (fsame_any _ _ es fs w5 hv hu).mono ?_
  rintro e w6 ⟨hsm, hB6⟩
  have k4 := PM.run_str bty Try.underlying9 (b4.keep hB6)
  have k5 := PM.run_str bty Try.underlying9 (b5.keep hB6)
  replace hB := PM.hid (PM.chain hB.out hB6)
  clear hB6 b4 b5 hv hu
  rcases hsm with ⟨rfl, he⟩ | ⟨rfl, he⟩
  · subst he
    go_wp2_with fail
    go_ret
    exact ⟨rfl, hB.out⟩
  · have hne : (PM.filB es == PM.filB fs) = false := by simpa using fun h => he (PM.filB_inj hch.out.1 hch.out.2 hwh.out.1 hwh.out.2 h)
    have heh := PM.hid he
    clear he
    go_wp2_with fail
    go_ret
    exact ⟨by simp, hB.out⟩
set_option maxHeartbeats 4000000 in
theorem filterBack_walk (v : Value) (es : List PM.Te) (u : Value) (lb : List UInt8) (w : World) (hv : PM.TV w v es) (hw : ∀ x ∈ es, x.wf) (hu : PM.BS w u lb) :
    Calls Try.prog 6 #[v, u] w fun e w' => e = .returned (.bool true) ∧ Below w.heap.size w w' := by
  have hwh := PM.hid hw
  obtain ⟨ub, uc, hue⟩ := hu.len
  obtain ⟨N, hN⟩ : ∃ N, N = lb.length := ⟨_, rfl⟩
  have hNh := PM.hid hN
  subst hue
  rw [← hN] at hu ⊢
  clear hw hN
  go_enter Try.func6, Try.ntmps6
  go_wp2_with fail
  refine (awake5 _).mono ?_
  rintro e w1 ⟨rfl, hB1⟩
  replace hv := hv.keep hB1
  replace hu := hu.keep hB1
  have hB := PM.hid hB1
  clear hB1
  go_wp2_with fail
  refine (ffew_any _ es w1 hv).mono ?_
  rintro e w2 ⟨hF, rfl⟩
  rcases hF with ⟨rfl, hF⟩ | ⟨rfl, hF⟩
  case inr =>
    clear hF hv hu
    go_wp2_with fail
    go_ret
    exact ⟨rfl, hB.out⟩
  clear hF
  by_cases h2000 : 1000 < N
  case pos =>
    have hd : decide ((1000 : Int) < (N : Int)) = true := by simp; omega
    clear hv hu
    go_wp2_with fail
    go_ret
    exact ⟨rfl, hB.out⟩
  have hd : decide ((1000 : Int) < (N : Int)) = false := by simp; omega
  go_wp2_with fail
  refine (fencode_any _ es w2 hv hwh.out).mono ?_
  rintro e w4 ⟨o4, rfl, ho4, hn4, hB4⟩
  replace hv := hv.keep hB4
  replace hu := hu.keep hB4
  replace hB := PM.hid (PM.chain hB.out hB4)
  clear hB4
  have hdec := fun (W : World) (h : PM.BS W (.slice ub N uc) lb) => fdecode_any _ lb W h (by rw [← hNh.out]; omega)
  by_cases hc : PM.filP es
  · rw [PM.filE_yes hc]
    have b4 := (ho4 hc).bs
    have hl4 : (PM.filB es).length ≤ 4000 := by
      have h1 := PM.frow_le hc hwh.out es.length (Nat.le_refl _)
      rw [List.take_length] at h1
      have h2 := PM.wid_le es.length (by have := hc.1; omega)
      have h3 := hc.1
      unfold PM.filB
      rw [List.length_append, PM.numB_length]
      omega
    have D0 := PM.hid (PM.decT_enc hc hwh.out)
    clear ho4 hn4 hc
    generalize PM.filB es = X at *
    go_wp2_with fail
    refine (fdecode_any _ X w4 b4 (by omega)).mono ?_
    rintro e w5 ⟨o5, rfl, ho5, hn5, hB5⟩
    have hy := (ho5 _ D0.out).em PM.teL_len
    rw [PM.decTN_some D0.out]
    replace hv := hv.keep hB5
    replace hu := hu.keep hB5
    replace hB := PM.hid (PM.chain hB.out hB5)
    clear hB5 ho5 hn5 b4
    go_wp2_with fail
    refine (fsame_any _ _ es es w5 hv hy).mono ?_
    rintro e w6 ⟨hsm, hB6⟩
    have hsm' : e = .returned (.bool true) := by
      rcases hsm with ⟨h, _⟩ | ⟨_, h⟩
      · exact h
      · exact absurd rfl h
    subst hsm'
    replace hu := hu.keep hB6
    replace hB := PM.hid (PM.chain hB.out hB6)
    clear hB6 hsm hy hv
    go_wp2_with fail
    refine (hdec w6 hu).mono ?_
    rintro e wd ⟨od, rfl, hod, hnd, hBd⟩
    have hud := hu.keep hBd
    have hBf := PM.hid (PM.chain hB.out hBd)
    clear hBd hu hB hdec
    cases hdl : PM.decT lb with
    | none =>
      rw [PM.decTN_none hdl]
      have hn := hnd hdl
      subst hn
      clear hdl hnd hod hud
      go_wp2_with fail
      go_ret
      exact ⟨rfl, hBf.out⟩
    | some ys =>
      rw [PM.decTN_some hdl]
      obtain ⟨hbk, hck, hwy⟩ := PM.decT_back hdl
      have hev := (hod _ hdl).em PM.teL_len
      have hh := PM.hid (And.intro hbk (And.intro hck hwy))
      clear hdl hnd hod hbk hck hwy
      go_wp2_with fail
      refine (fencode_any _ ys wd hev hh.out.2.2).mono ?_
      rintro e we ⟨oe, rfl, hoe, _, hBe⟩
      rw [PM.filE_yes hh.out.2.1]
      have k1 := PM.run_str bty Try.underlying9 (hoe hh.out.2.1).bs
      rw [hh.out.1] at k1
      have k2 := PM.run_str bty Try.underlying9 (hud.keep hBe)
      replace hBf := PM.hid (PM.chain hBf.out hBe)
      clear hoe hBe hud hev
      go_wp2_with fail
      go_ret
      exact ⟨rfl, hBf.out⟩
  · rw [PM.filE_no hc]
    clear ho4 hn4 hc hv
    go_wp2_with fail
    refine (hdec w4 hu).mono ?_
    rintro e wd ⟨od, rfl, hod, hnd, hBd⟩
    have hud := hu.keep hBd
    have hBf := PM.hid (PM.chain hB.out hBd)
    clear hBd hu hB hdec
    cases hdl : PM.decT lb with
    | none =>
      rw [PM.decTN_none hdl]
      have hn := hnd hdl
      subst hn
      clear hdl hnd hod hud
      go_wp2_with fail
      go_ret
      exact ⟨rfl, hBf.out⟩
    | some ys =>
      rw [PM.decTN_some hdl]
      obtain ⟨hbk, hck, hwy⟩ := PM.decT_back hdl
      have hev := (hod _ hdl).em PM.teL_len
      have hh := PM.hid (And.intro hbk (And.intro hck hwy))
      clear hdl hnd hod hbk hck hwy
      go_wp2_with fail
      refine (fencode_any _ ys wd hev hh.out.2.2).mono ?_
      rintro e we ⟨oe, rfl, hoe, _, hBe⟩
      rw [PM.filE_yes hh.out.2.1]
      have k1 := PM.run_str bty Try.underlying9 (hoe hh.out.2.1).bs
      rw [hh.out.1] at k1
      have k2 := PM.run_str bty Try.underlying9 (hud.keep hBe)
      replace hBf := PM.hid (PM.chain hBf.out hBe)
      clear hoe hBe hud hev
      go_wp2_with fail
      go_ret
      exact ⟨rfl, hBf.out⟩
end Go.Proofs.Ytocggnaekajdbaa
