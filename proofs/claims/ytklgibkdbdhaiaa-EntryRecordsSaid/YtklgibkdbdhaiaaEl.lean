/-
  CONTRACT OF event.Decode.
-/
import Derived.Test.YtklgibkdbdhaiaaPx
import Derived.Test.YtklgibkdbdhaiaaGn
import Derived.Test.YtklgibkdbdhaiaaEc
import Derived.Test.YtklgibkdbdhaiaaRt
namespace Go.Proofs.Ytklgibkdbdhaiaa
open Go.RowKit
set_option linter.unusedVariables false
namespace PM
open Classical
/-- an attribute's cells -/
def attL (x : At) : List Value := [.string x.name, .int .i64 x.k, .int .i64 x.n, .string x.s]
theorem attL_len (x : At) : (attL x).length = 4 := rfl
theorem attL_one (x : At) : ∀ u ∈ attL x, u.oneCell' = true := by intro u hu; simp [attL] at hu; rcases hu with rfl | rfl | rfl | rfl <;> rfl
theorem attL_nob (x : At) : ∀ u ∈ attL x, NoB u := by intro u hu y; simp [attL] at hu; rcases hu with rfl | rfl | rfl | rfl <;> simp [bv]
theorem EV.em {w : World} {v : Value} {es : List At} (h : EV w v es) : EM attL 4 w v es := by
  obtain ⟨ad, cap, hv, h1, h2, h3⟩ := h
  refine ⟨ad, cap, hv, h1, h2, fun hp => ?_⟩
  obtain ⟨b, off, ha, h4⟩ := h3 hp
  refine ⟨b, off, ha, fun i x hi j u hu => ?_⟩
  obtain ⟨d0, d1, d2, d3⟩ := h4 i x hi
  match j, hu with
  | 0, hu => simp [attL] at hu; subst hu; exact d0
  | 1, hu => simp [attL] at hu; subst hu; exact d1
  | 2, hu => simp [attL] at hu; subst hu; exact d2
  | 3, hu => simp [attL] at hu; subst hu; exact d3
  | j + 4, hu => simp [attL] at hu
theorem EM.ev {w : World} {v : Value} {es : List At} (h : EM attL 4 w v es) : EV w v es := by
  obtain ⟨ad, cap, hv, h1, h2, h3⟩ := h
  refine ⟨ad, cap, hv, h1, h2, fun hp => ?_⟩
  obtain ⟨b, off, ha, h4⟩ := h3 hp
  exact ⟨b, off, ha, fun i x hi => ⟨h4 i x hi 0 _ rfl, h4 i x hi 1 _ rfl, h4 i x hi 2 _ rfl, h4 i x hi 3 _ rfl⟩⟩
/-- an attribute that is read -/
def attR (a : List UInt8) (c : Int × Int × List UInt8) : At := ⟨⟨a.toArray⟩, c.1, c.2.1, ⟨c.2.2.toArray⟩⟩
/-- attributes that are read one after another: they, what is left, and whether something is wrong -/
def stepsE : Nat → List UInt8 → Bool → List At × List UInt8 × Bool
  | 0, l, wr => ([], l, wr)
  | k + 1, l, wr =>
    let r := stepsE k l wr
    let a := stepB r.2.1 r.2.2 16
    let c := stepV a.2.1 a.2.2
    (r.1 ++ [attR a.1 c.1], c.2.1, c.2.2)
theorem stepsE_len : ∀ k l wr, (stepsE k l wr).1.length = k
  | 0, _, _ => rfl
  | k + 1, l, wr => by simp [stepsE, stepsE_len k]
theorem stepB_le (l : List UInt8) (wr : Bool) (m : Int) : (stepB l wr m).2.1.length ≤ l.length := by
  have h := (stepN_lt l wr).2
  unfold stepB
  split
  · simp
  · simp; omega
theorem stepV_le (l : List UInt8) (wr : Bool) : (stepV l wr).2.1.length ≤ l.length := by
  have h1 := (stepN_lt l wr).2
  have h2 := (stepN_lt (stepN l wr).2.1 (stepN l wr).2.2).2
  have h3 := stepB_le (stepN (stepN l wr).2.1 (stepN l wr).2.2).2.1 (stepN (stepN l wr).2.1 (stepN l wr).2.2).2.2 40
  unfold stepV
  simp only
  repeat' split
  all_goals first | omega | (simp; done) | (simp; omega)
theorem stepsE_lt : ∀ k l wr, (stepsE k l wr).2.1.length ≤ l.length
  | 0, _, _ => Nat.le_refl _
  | k + 1, l, wr => by
    have h1 := stepsE_lt k l wr
    have h2 := stepB_le (stepsE k l wr).2.1 (stepsE k l wr).2.2 16
    have h3 := stepV_le (stepB (stepsE k l wr).2.1 (stepsE k l wr).2.2 16).2.1 (stepB (stepsE k l wr).2.1 (stepsE k l wr).2.2 16).2.2
    simp only [stepsE]
    omega
/-- the event that bytes are -/
noncomputable def decF (n : Nat) (l : List UInt8) (wr : Bool) : Option (List At) :=
  if 16 < n then none else
  if (stepsE n l wr).2.2 = false ∧ (stepsE n l wr).2.1 = [] ∧ chkP (stepsE n l wr).1 then some (stepsE n l wr).1 else none
noncomputable def decE (l : List UInt8) : Option (List At) := decF (stepN l false).1 (stepN l false).2.1 (stepN l false).2.2
theorem decF_big {n : Nat} {l : List UInt8} {wr : Bool} (h : 16 < n) : decF n l wr = none := by unfold decF; rw [if_pos h]
theorem decF_yes {n : Nat} {l : List UInt8} {wr : Bool} (h : ¬ 16 < n) (h1 : (stepsE n l wr).2.2 = false) (h2 : (stepsE n l wr).2.1 = []) (h3 : chkP (stepsE n l wr).1) : decF n l wr = some (stepsE n l wr).1 := by
  unfold decF; rw [if_neg h, if_pos ⟨h1, h2, h3⟩]
theorem decF_no {n : Nat} {l : List UInt8} {wr : Bool} (h : ¬ 16 < n) (h1 : ¬ ((stepsE n l wr).2.2 = false ∧ (stepsE n l wr).2.1 = [] ∧ chkP (stepsE n l wr).1)) : decF n l wr = none := by
  unfold decF; rw [if_neg h, if_neg h1]
noncomputable def decN (l : List UInt8) : Int := if (decE l).isSome then 0 else 40
end PM
theorem attTy : PM.MTy Try.prog 53 79 4 48 := by
  refine ⟨Try.underlying53, by decide, ?_⟩
  obtain ⟨i, h1, h2, h3, h4⟩ := info_parts (P := Try.prog) (e := 79) (z := .agg #[.string ByteArray.empty, .int .i64 0, .int .i64 0, .string ByteArray.empty]) (size := 4) (bytes := 48) (by kernel_rfl)
  exact ⟨i, _, h1, h2, h3, h4, by kernel_rfl⟩
theorem attZ : ∀ i z, Try.prog.info? 79 = some i → i.zero = some z → ∀ x ∈ z.cells.toList, PM.NoB x := by
  intro i z hi hz x hx y
  have h0 : (Try.prog.info? 79).bind (·.zero) = some (.agg #[.string ByteArray.empty, .int .i64 0, .int .i64 0, .string ByteArray.empty]) := by kernel_rfl
  rw [hi] at h0
  simp only [Option.bind_some, hz, Option.some.injEq] at h0
  subst h0
  simp [Value.cells] at hx
  rcases hx with rfl | rfl | rfl | rfl <;> simp [PM.bv]
def RetD (E : TypeId) (W : World) (l : List UInt8) (e : Ending) (w' : World) : Prop :=
  ∃ o, e = .returned (.tuple #[o, .int .i64 (PM.decN l)]) ∧ (∀ es, PM.decE l = some es → PM.OM PM.attL 4 E W.heap.size w' o es) ∧ (PM.decE l = none → o = .slice none 0 0) ∧ Below W.heap.size W w'
set_option maxHeartbeats 4000000 in
theorem decode_any (v : Value) (l : List UInt8) (w : World) (hv : PM.BS w v l) (hl : l.length ≤ 70368744177664) :
    Calls Try.prog 46 #[v] w (RetD 79 w l) := by
  obtain ⟨n0, hn0⟩ : ∃ x, x = (PM.stepN l false).1 := ⟨_, rfl⟩
  obtain ⟨l0, hl0⟩ : ∃ x, x = (PM.stepN l false).2.1 := ⟨_, rfl⟩
  obtain ⟨wr0, hwr0⟩ : ∃ x, x = (PM.stepN l false).2.2 := ⟨_, rfl⟩
  have hD : Hid (PM.decE l = PM.decF n0 l0 wr0) := PM.hid (by rw [hn0, hl0, hwr0]; rfl)
  have hlt := PM.stepN_lt l false
  rw [← hn0, ← hl0] at hlt
  obtain ⟨hn64, hl0l⟩ := hlt
  have e0 := PM.hid hn0
  have e1 := PM.hid hl0
  have e2 := PM.hid hwr0
  clear hn0 hl0 hwr0
  go_enter Try.func46, Try.ntmps46
  go_wp2_with fail
  refine (new_any v l w hv hl).mono ?_
  rintro e w1 ⟨b, rfl, hb1, hr1, hB1⟩
  go_wp2_with fail
  refine (rnumber_any b l false w1 hr1).mono ?_
  rw [← e0.out, ← e1.out, ← e2.out]
  rintro e w2 ⟨rfl, hr2, hx2⟩
  have hbw2 := hr2.lt
  have hB2 := PM.hid (hx2.below hB1 hb1 hB1.size)
  clear hx2 hr1 hB1
  by_cases h16 : 16 < n0
  · have hg : decide ((16 : Int) < (n0 : Int)) = true := by simp; omega
    have hDn : Hid (PM.decE l = none) := PM.hid (by rw [hD.out, PM.decF_big h16])
    clear hr2
    go_wp2_with fail
    go_ret2
    refine ⟨.slice none 0 0, by unfold PM.decN; rw [hDn.out]; rfl, ?_⟩
    refine ⟨fun es h => (by rw [hDn.out] at h; cases h), fun _ => rfl, hB2.out⟩
  · have hg : decide ((16 : Int) < (n0 : Int)) = false := by simp; omega
    obtain ⟨g, w3, hmk, hO3, hN3, hg3, hB3⟩ := PM.run_mkm (e := PM.attL) attTy attZ w2 w.heap.size .i64 .u64 n0 (by omega) (by unfold maxLen; omega) hB2.out.size
    have hr3 := hr2.keep hB3
    have hC3 := PM.chain hB2.out hB3
    have h16' : n0 ≤ 16 := by omega
    have hin := PM.hid (And.intro hO3 (And.intro hN3 (And.intro hr3 hC3)))
    clear hr2 hO3 hN3 hg3 hB3 hr3 hC3 h16 hbw2 hB2
    go_wp2_with fail
    clear hmk
    go_loopw [6, 17] (fun o i wr => ∃ k : Nat, i = .int .u64 k ∧ k ≤ n0 ∧ ∃ g cap, o = .slice (some ⟨g, 0, none⟩) k cap ∧ PM.OM PM.attL 4 79 w.heap.size wr o (PM.stepsE k l0 wr0).1 ∧ PM.NB wr g ∧ PM.RD 88 wr b (PM.stepsE k l0 wr0).2.1 (PM.stepsE k l0 wr0).2.2 ∧ Below w.heap.size w wr) (fun _ i _ => n0 - (intOf i).toNat)
    case atStart => exact ⟨0, rfl, by omega, _, _, rfl, hin.out.1, hin.out.2.1, hin.out.2.2.1, hin.out.2.2.2⟩
    case round =>
      clear hin
      obtain ⟨k, rfl, hk, g, cap, rfl, hO, hN, hr, hB⟩ := hrel
      have hlE := PM.stepsE_lt k l0 wr0
      have hSS : Hid (PM.stepsE (k + 1) l0 wr0 = ((PM.stepsE k l0 wr0).1 ++ [PM.attR (PM.stepB (PM.stepsE k l0 wr0).2.1 (PM.stepsE k l0 wr0).2.2 16).1 (PM.stepV (PM.stepB (PM.stepsE k l0 wr0).2.1 (PM.stepsE k l0 wr0).2.2 16).2.1 (PM.stepB (PM.stepsE k l0 wr0).2.1 (PM.stepsE k l0 wr0).2.2 16).2.2).1], (PM.stepV (PM.stepB (PM.stepsE k l0 wr0).2.1 (PM.stepsE k l0 wr0).2.2 16).2.1 (PM.stepB (PM.stepsE k l0 wr0).2.1 (PM.stepsE k l0 wr0).2.2 16).2.2).2.1, (PM.stepV (PM.stepB (PM.stepsE k l0 wr0).2.1 (PM.stepsE k l0 wr0).2.2 16).2.1 (PM.stepB (PM.stepsE k l0 wr0).2.1 (PM.stepsE k l0 wr0).2.2 16).2.2).2.2)) := PM.hid rfl
      have hlen := PM.stepsE_len k l0 wr0
      by_cases hlt : k < n0
      · have hc : decide ((k : Int) < (n0 : Int)) = true := by simp; omega
        have hlB := PM.stepB_le (PM.stepsE k l0 wr0).2.1 (PM.stepsE k l0 wr0).2.2 16
        have hct := rbytes_any b (PM.stepsE k l0 wr0).2.1 (PM.stepsE k l0 wr0).2.2 16 wr hr (by omega) (by omega) (by omega)
        generalize PM.stepsE k l0 wr0 = R at *
        obtain ⟨es, l1, wr1⟩ := R
        simp only at hO hr hlE hlB hSS hlen hct
        subst hlen
        generalize PM.stepB l1 wr1 16 = S at *
        obtain ⟨nm, l2, wr2⟩ := S
        simp only at hlB hSS hct
        have hbk : ∃ cs, PM.BK wr b cs 88 := ⟨_, hr.choose_spec.1⟩
        obtain ⟨cs, hbk⟩ := hbk
        have hin := PM.hid (And.intro hO (And.intro hN (And.intro hB hbk)))
        clear hO hN hB hr hbk
        go_wp2_with fail
        refine hct.mono ?_
        clear hct
        rintro e wa ⟨vb, rfl, ho, hra, hxa⟩
        have hbs := ho.bs
        have kc := PM.run_str bty Try.underlying9 hbs
        have hct := rvalue_any b l2 wr2 wa hra (by omega)
        have hin2 := PM.hid (And.intro hin.out hxa)
        clear ho hbs hra hxa hin
        go_wp2_with fail
        refine hct.mono ?_
        clear hct
        rintro e wb ⟨rfl, hrb, hxb⟩
        have hxx := hin2.out.2.trans hxb
        obtain ⟨⟨hO, hN, hB, hbk⟩, _⟩ := hin2.out
        have hTE : 88 ≠ 79 := by decide
        have hgl := (hO.lt g rfl).2
        have hOb := hO.keepx hxx hbk hTE
        have hne := PM.OM.ne hO hbk hTE
        have hNb := hN.keepx hxx hgl hne.symm
        have hBb := hxx.below hB hb1 hB.size
        have hsz := hB.size
        have hszb := hBb.size
        have h16'' := hk
        clear hO hN hB hbk hin2 hxx hxb
        go_wp2_with (at_builtin; refine PM.wpList_em1n (e := PM.attL) attTy attZ PM.attL_len PM.attL_one PM.attL_nob w.heap.size wb rfl _ _ rfl g es.length cap es (PM.attR nm (PM.stepV l2 wr2).1) _ rfl rfl rfl rfl hOb hNb ?_ ?_ hszb ?_; omega; (simp only [maxLen]; omega); intro g' cap' w' t1 t2 t3 t4; have hE := PM.hid (And.intro t1 (And.intro t2 (And.intro t3 t4))); clear t1 t2 t3 t4)
        refine ⟨⟨es.length + 1, by simp, by omega, g', cap', rfl, ?_, hE.out.2.1, ?_, hBb.trans hE.out.2.2.1⟩, by simp only [intOf]; omega⟩
        · rw [hSS.out]; exact hE.out.1
        · rw [hSS.out]; exact hrb.kept hE.out.2.2.2 hNb hne
      · have hkn : k = n0 := by omega
        subst hkn
        have hc : decide ((k : Int) < (k : Int)) = false := by simp
        clear hSS
        generalize hR : PM.stepsE k l0 wr0 = R at *
        obtain ⟨es, l1, wr1⟩ := R
        simp only at hO hr hlE hlen
        have hdn := done_any b l1 wr1 wr hr
        have hck := echeck_any _ es wr (PM.OM.em PM.attL_len hO).ev
        have hin := PM.hid (And.intro hO (And.intro hr hB))
        have hlh := PM.hid hlen
        clear hO hr hB hlen hN
        by_cases hdone : wr1 = false ∧ l1 = []
        · obtain ⟨rfl, rfl⟩ := hdone
          have hdn' := hdn
          replace hdn' : Calls Try.prog 33 #[.pointer (some ⟨b, 0, none⟩)] wr fun e w' => e = .returned (.bool true) ∧ wr = w' := hdn
          clear hdn
          by_cases hch : PM.chkP es
          · have hDy : Hid (PM.decE l = some es) := PM.hid (by rw [hD.out, PM.decF_yes (by omega) (by rw [hR]) (by rw [hR]) (by rw [hR]; exact hch), hR])
            rw [PM.chk_yes hch] at hck
            clear hch
            go_wp2_with fail
            refine hdn'.mono ?_
            clear hdn'
            rintro e wd ⟨rfl, rfl⟩
            go_wp2_with fail
            refine hck.mono ?_
            clear hck
            rintro e we ⟨rfl, hBe⟩
            have hBh := PM.hid hBe
            clear hBe
            go_wp2_with fail
            go_ret2
            refine ⟨.slice (some ⟨g, 0, none⟩) k cap, by unfold PM.decN; rw [hDy.out]; rfl, ?_⟩
            exact ⟨fun es' h => (by rw [hDy.out] at h; injection h with h; subst h; exact hin.out.1.keep hBh.out), fun h => (by rw [hDy.out] at h; cases h), PM.chain hin.out.2.2 hBh.out⟩
          · have hDn : Hid (PM.decE l = none) := PM.hid (by rw [hD.out, PM.decF_no (by omega) (by rw [hR]; simp [hch])])
            rw [PM.chk_no hch] at hck
            clear hch
            go_wp2_with fail
            refine hdn'.mono ?_
            clear hdn'
            rintro e wd ⟨rfl, rfl⟩
            go_wp2_with fail
            refine hck.mono ?_
            clear hck
            rintro e we ⟨rfl, hBe⟩
            have hBh := PM.hid hBe
            clear hBe
            go_wp2_with fail
            go_ret2
            refine ⟨.slice none 0 0, by unfold PM.decN; rw [hDn.out]; rfl, ?_⟩
            exact ⟨fun es h => (by rw [hDn.out] at h; cases h), fun _ => rfl, PM.chain hin.out.2.2 hBh.out⟩
        · have hDn : Hid (PM.decE l = none) := PM.hid (by rw [hD.out, PM.decF_no (by omega) (by rw [hR]; intro h; exact hdone ⟨h.1, h.2.1⟩)])
          have hdf : (!wr1 && decide (l1 = [])) = false := by
            cases wr1 <;> simp at hdone ⊢
            exact hdone
          rw [hdf] at hdn
          go_wp2_with fail
          refine hdn.mono ?_
          clear hdn hck
          rintro e wd ⟨rfl, rfl⟩
          go_wp2_with fail
          go_ret2
          refine ⟨.slice none 0 0, by unfold PM.decN; rw [hDn.out]; rfl, ?_⟩
          exact ⟨fun es h => (by rw [hDn.out] at h; cases h), fun _ => rfl, hin.out.2.2⟩
end Go.Proofs.Ytklgibkdbdhaiaa
