/-
  THE WALKS OF LAYER 4's STATEMENTS: there and back.
-/
import Derived.Test.YtfanfkocmdkllaaEy
namespace Go.Proofs.Ytfanfkocmdkllaa
open Go.RowKit
set_option linter.unusedVariables false
theorem PM.encB_pos (es : List PM.At) : 0 < (PM.encB es).length := by
  unfold PM.encB
  rw [List.length_append, PM.numB_length]
  omega
theorem PM.encB_len {es : List PM.At} (h : PM.chkP es) (hw : ∀ x ∈ es, x.wf) : (PM.encB es).length ≤ 4000 := by
  have h1 := PM.row_le h hw es.length (Nat.le_refl _)
  rw [List.take_length] at h1
  have h2 := PM.wid_le es.length (by have := h.2.1; omega)
  have h3 := h.2.1
  unfold PM.encB
  rw [List.length_append, PM.numB_length]
  omega
theorem PM.decN_none {l : List UInt8} (h : PM.decE l = none) : PM.decN l = 40 := by unfold PM.decN; rw [h]; rfl
theorem PM.decN_some {l : List UInt8} {es : List PM.At} (h : PM.decE l = some es) : PM.decN l = 0 := by unfold PM.decN; rw [h]; rfl
theorem PM.OW.lit0 (E : TypeId) (W : World) (B : Nat) (hB : B ≤ W.heap.size) : PM.OW E B (W.alloc (.cells #[] E)) (.slice (some ⟨W.heap.size, 0, none⟩) 0 0) [] :=
  World.ownsRow_made W #[] 0 hB (by decide) rfl
set_option maxHeartbeats 4000000 in
theorem eventBack_walk (v : Value) (es : List PM.At) (u : Value) (lb : List UInt8) (by_ : Int) (hby : (Lit.int .u8 by_).wf = true) (w : World) (hv : PM.EV w v es) (hw : ∀ x ∈ es, x.wf) (hu : PM.BS w u lb) :
    Calls Try.prog 6 #[v, u, .int .u8 by_] w fun e w' => e = .returned (.bool true) ∧ Below w.heap.size w w' := by
  obtain ⟨yb, hyb⟩ : ∃ y : UInt8, by_ = (y.toNat : Int) := by
    have hb := Go.bounds_u8 hby
    exact ⟨UInt8.ofNat by_.toNat, by simp; omega⟩
  subst hyb
  have hwh := PM.hid hw
  obtain ⟨ub, uc, hue⟩ := hu.len
  obtain ⟨N, hN⟩ : ∃ N, N = lb.length := ⟨_, rfl⟩
  have hNh := PM.hid hN
  subst hue
  rw [← hN] at hu ⊢
  clear hw hN
  go_enter Try.func6, Try.ntmps6
  go_wp2_with fail
  refine (awake4 _).mono ?_
  rintro e w1 ⟨rfl, hB1⟩
  replace hv := hv.keep hB1
  replace hu := hu.keep hB1
  have hB := PM.hid hB1
  clear hB1
  go_wp2_with fail
  refine (few_any _ es w1 hv).mono ?_
  rintro e w2 ⟨hF, rfl⟩
  rcases hF with ⟨rfl, hF⟩ | ⟨rfl, hF⟩
  case inr =>
    clear hF hv hu
    go_wp2_with fail
    go_ret
    exact ⟨rfl, hB.out⟩
  clear hF
  by_cases h2000 : 2000 < N
  case pos =>
    have hd : decide ((2000 : Int) < (N : Int)) = true := by simp; omega
    clear hv hu
    go_wp2_with fail
    go_ret
    exact ⟨rfl, hB.out⟩
  have hd : decide ((2000 : Int) < (N : Int)) = false := by simp; omega
  go_wp2_with fail
  refine (encode_any _ es w2 hv hwh.out).mono ?_
  rintro e w4 ⟨o4, rfl, ho4, hn4, hB4⟩
  replace hv := hv.keep hB4
  replace hu := hu.keep hB4
  replace hB := PM.hid (PM.chain hB.out hB4)
  clear hB4
  have hdec := fun (W : World) (h : PM.BS W (.slice ub N uc) lb) => decode_any _ lb W h (by rw [← hNh.out]; omega)
  by_cases hc : PM.chkP es
  · rw [PM.chk_yes hc]
    have b4 := (ho4 hc).bs
    have hl4 := PM.encB_len hc hwh.out
    have hp4 := PM.encB_pos es
    obtain ⟨a4, c4, he4⟩ := b4.len
    subst he4
    have D0 := PM.hid (PM.decE_enc hc hwh.out)
    have D1 := PM.hid (PM.decE_tail hc hwh.out [yb] (by simp))
    have D2 := PM.hid (PM.decE_cut hc hwh.out ((PM.encB es).drop ((PM.encB es).length - 1)) ((PM.encB es).take ((PM.encB es).length - 1)) (by intro h; have := congrArg List.length h; simp at this; omega) (List.take_append_drop _ _).symm)
    clear ho4 hn4 hc
    generalize PM.encB es = X at *
    obtain ⟨M, hM⟩ : ∃ M, M = X.length := ⟨_, rfl⟩
    have hMh := PM.hid hM
    rw [← hM] at b4 hl4 hp4 D2 ⊢
    clear hM
    go_wp2_with fail
    refine (decode_any _ X w4 b4 (by rw [← hMh.out]; omega)).mono ?_
    rintro e w5 ⟨o5, rfl, ho5, hn5, hB5⟩
    have hy := (PM.OM.em PM.attL_len (ho5 _ D0.out)).ev
    rw [PM.decN_some D0.out]
    replace hv := hv.keep hB5
    replace hu := hu.keep hB5
    replace b4 := b4.keep hB5
    replace hB := PM.hid (PM.chain hB.out hB5)
    clear hB5 ho5 hn5
    go_wp2_with fail
    refine (esame_any _ _ es es w5 hv hy).mono ?_
    rintro e w6 ⟨hsm, hB6⟩
    have hsm' : e = .returned (.bool true) := by
      rcases hsm with ⟨h, _⟩ | ⟨_, h⟩
      · exact h
      · exact absurd rfl h
    subst hsm'
    replace hu := hu.keep hB6
    replace b4 := b4.keep hB6
    replace hB := PM.hid (PM.chain hB.out hB6)
    clear hB6 hsm hy hv
    obtain ⟨b, off, rfl, hcap4, hmax4, hcell4⟩ : ∃ b off, a4 = some ⟨b, off, none⟩ ∧ X.length ≤ c4 ∧ c4 ≤ maxLen ∧ ∀ i x, X[i]? = some x → w6.cell? ⟨b, off + i, none⟩ = some (PM.bv x) := by
      rcases b4 with ⟨h, _⟩ | ⟨b, off, cap, h, h1, h2, h3⟩ | ⟨x, cap, h, h1, _⟩
      · simp at h; omega
      · simp at h; obtain ⟨rfl, _, rfl⟩ := h; exact ⟨b, off, rfl, h1, h2, h3⟩
      · rw [h1] at hMh; have := hMh.out; simp at this; omega
    have hcut := PM.hid (PM.BS.take (k := M - 1) hcap4 hmax4 hcell4 (by rw [← hMh.out]; omega))
    rw [← hMh.out] at hcap4
    clear hcell4
    have om := PM.OW.lit0 5 w6 w6.heap.size (Nat.le_refl _)
    have hal : Below w6.heap.size w6 (w6.alloc (.cells #[] 5)) := (Below.refl _ _).alloc (Nat.le_refl _) _
    have hs := b4.keep hal
    have hz := hal.size
    have hB6 := PM.hid (And.intro hB.out (And.intro b4 hu))
    clear hB b4 hu
    go_wp2_with (at_builtin; refine PM.wpList_app bty w6.heap.size rfl _ _ rfl _ _ [] X rfl rfl om hs ?_ hz ?_; (rw [← hMh.out]; simp; omega); intro v7 w7 q1 q2 _; have hz7 : w6.heap.size ≤ w7.heap.size := (Nat.le_trans hz q2.size); have hq := PM.hid (hal.trans q2); have hlX : ([] ++ X).length + 1 ≤ 140737488355328 := (by have := hMh.out; simp; omega); clear om hs hz hal q2; go_wp2_with (at_builtin; refine PM.wpList_app1 bty w6.heap.size w7 rfl _ _ rfl v7 ([] ++ X) _ yb rfl rfl rfl rfl q1 hlX hz7 ?_; intro v8 w8 q3 q4; have hq8 := PM.hid (hq.out.trans q4); have hs8 := q3.bs; clear q1 hz7 hlX hq q3 q4))
    refine (decode_any _ _ w8 hs8 (by have := hMh.out; simp; omega)).mono ?_
    rintro e w9 ⟨o9, rfl, _, _, hB9⟩
    rw [show PM.decN ([] ++ X ++ [yb]) = 40 from PM.decN_none (by simpa using D1.out)]
    obtain ⟨hB', b4', hu'⟩ := hB6.out
    have hu := (hu'.keep hq8.out).keep hB9
    have hcut' := PM.hid ((hcut.out.keep hq8.out).keep hB9)
    have hB := PM.hid (PM.chain (PM.chain hB' hq8.out) hB9)
    clear hB' b4' hu' hB6 hs8 hB9 hq8 hcut
    have g1 : (M : Int) - 1 = ((M - 1 : Nat) : Int) := by omega
    go_wp2_with fail
    refine (decode_any _ _ w9 hcut'.out (by rw [List.length_take, ← hMh.out]; omega)).mono ?_
    rintro e wc ⟨oc, rfl, _, _, hBc⟩
    rw [PM.decN_none D2.out]
    replace hu := hu.keep hBc
    replace hB := PM.hid (PM.chain hB.out hBc)
    clear hBc hcut' g1
    go_wp2_with fail
    refine (hdec wc hu).mono ?_
    rintro e wd ⟨od, rfl, hod, hnd, hBd⟩
    have hud := hu.keep hBd
    have hBf := PM.hid (PM.chain hB.out hBd)
    clear hBd hu hB hdec
    cases hdl : PM.decE lb with
    | none =>
      rw [PM.decN_none hdl]
      have hn := hnd hdl
      subst hn
      clear hdl hnd hod hud
      go_wp2_with fail
      go_ret
      exact ⟨rfl, hBf.out⟩
    | some ys =>
      rw [PM.decN_some hdl]
      obtain ⟨hbk, hck, hwy⟩ := PM.decE_back hdl
      have hev := (PM.OM.em PM.attL_len (hod _ hdl)).ev
      have hh := PM.hid (And.intro hbk (And.intro hck hwy))
      clear hdl hnd hod hbk hck hwy
      go_wp2_with fail
      refine (encode_any _ ys wd hev hh.out.2.2).mono ?_
      rintro e we ⟨oe, rfl, hoe, _, hBe⟩
      rw [PM.chk_yes hh.out.2.1]
      have k1 := PM.run_str bty Try.underlying9 (hoe hh.out.2.1).bs
      rw [hh.out.1] at k1
      have k2 := PM.run_str bty Try.underlying9 (hud.keep hBe)
      have hev2 := hev.keep hBe
      replace hBf := PM.hid (PM.chain hBf.out hBe)
      clear hoe hBe hud hev
      go_wp2_with fail
      refine (echeck_any _ ys we hev2).mono ?_
      rw [PM.chk_yes hh.out.2.1]
      rintro e wg ⟨rfl, hBg⟩
      replace hBf := PM.hid (PM.chain hBf.out hBg)
      clear hBg hev2
      go_wp2_with fail
      go_ret
      exact ⟨rfl, hBf.out⟩
  · rw [PM.chk_no hc]
    clear ho4 hn4 hc hv
    go_wp2_with fail
    refine (hdec w4 hu).mono ?_
    rintro e wd ⟨od, rfl, hod, hnd, hBd⟩
    have hud := hu.keep hBd
    have hBf := PM.hid (PM.chain hB.out hBd)
    clear hBd hu hB hdec
    cases hdl : PM.decE lb with
    | none =>
      rw [PM.decN_none hdl]
      have hn := hnd hdl
      subst hn
      clear hdl hnd hod hud
      go_wp2_with fail
      go_ret
      exact ⟨rfl, hBf.out⟩
    | some ys =>
      rw [PM.decN_some hdl]
      obtain ⟨hbk, hck, hwy⟩ := PM.decE_back hdl
      have hev := (PM.OM.em PM.attL_len (hod _ hdl)).ev
      have hh := PM.hid (And.intro hbk (And.intro hck hwy))
      clear hdl hnd hod hbk hck hwy
      go_wp2_with fail
      refine (encode_any _ ys wd hev hh.out.2.2).mono ?_
      rintro e we ⟨oe, rfl, hoe, _, hBe⟩
      rw [PM.chk_yes hh.out.2.1]
      have k1 := PM.run_str bty Try.underlying9 (hoe hh.out.2.1).bs
      rw [hh.out.1] at k1
      have k2 := PM.run_str bty Try.underlying9 (hud.keep hBe)
      have hev2 := hev.keep hBe
      replace hBf := PM.hid (PM.chain hBf.out hBe)
      clear hoe hBe hud hev
      go_wp2_with fail
      refine (echeck_any _ ys we hev2).mono ?_
      rw [PM.chk_yes hh.out.2.1]
      rintro e wg ⟨rfl, hBg⟩
      replace hBf := PM.hid (PM.chain hBf.out hBg)
      clear hBg hev2
      go_wp2_with fail
      go_ret
      exact ⟨rfl, hBf.out⟩
end Go.Proofs.Ytfanfkocmdkllaa
