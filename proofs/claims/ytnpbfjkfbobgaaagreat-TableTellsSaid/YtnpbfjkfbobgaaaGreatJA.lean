import Derived.Test.YtnpbfjkfbobgaaaGreatG0
import Derived.Test.YtnpbfjkfbobgaaaGreatIA
import Derived.Test.YtnpbfjkfbobgaaaGreatEB
import Derived.Test.YtnpbfjkfbobgaaaGreatEA
import Derived.Test.YtnpbfjkfbobgaaaGreatIB
import Derived.Laws.StructEq
/-
  ENTRIES: as they lie in memory, whether one may be, and their bytes: plain. Over any program.
-/
namespace Go.Proofs.YtnpbfjkfbobgaaaGreat
namespace PM
open Go.RowKit
set_option linter.unusedVariables false
set_option linter.unusedSimpArgs false
/-- an ID -/
structure Id where
  br : Int
  life : Nat
  ser : Nat
  deriving DecidableEq
def Id.wf (x : Id) : Prop := (Lit.int .i64 x.br).wf = true ∧ x.life < 2 ^ 64 ∧ x.ser < 2 ^ 64
def idL (x : Id) : List Value := [.int .i64 x.br, .int .u64 (x.life : Int), .int .u64 (x.ser : Int)]
theorem idL_len (x : Id) : (idL x).length = 3 := rfl
theorem idL_one (x : Id) : ∀ u ∈ idL x, u.oneCell' = true := by intro u hu; simp [idL] at hu; rcases hu with rfl | rfl | rfl <;> rfl
/-- an entry -/
structure En where
  kind : Int
  id : Id
  client : Int
  sub : Nat
  fil : List Te
  evs : List (List At)
def En.wf (x : En) : Prop := (Lit.int .i64 x.kind).wf = true ∧ x.id.wf ∧ (Lit.int .i64 x.client).wf = true ∧ x.sub < 2 ^ 64 ∧ (∀ t ∈ x.fil, t.wf) ∧ ∀ e ∈ x.evs, ∀ y ∈ e, y.wf
/-- an event in a cell -/
def evR (w : World) (cs : List Value) (e : List At) : Prop := ∃ v, cs = [v] ∧ EV w v e
abbrev EVL (w : World) (v : Value) (ls : List (List At)) : Prop := RR evR 1 w v ls
theorem evR_lasts : Lasts evR := fun W w cs x hb ⟨v, h1, h2⟩ => ⟨v, h1, h2.keep hb⟩
theorem EVL.keep {W w : World} {v : Value} {ls : List (List At)} (hb : Below W.heap.size W w) (h : EVL W v ls) : EVL w v ls := RR.keep evR_lasts hb h
/-- an entry's cells, its slices apart -/
def enC (x : En) (fv ev : Value) : List Value := [.int .i64 x.kind, .int .i64 x.id.br, .int .u64 (x.id.life : Int), .int .u64 (x.id.ser : Int), .int .i64 x.client, .int .u64 (x.sub : Int), fv, ev]
/-- what eight cells read as -/
def enR (w : World) (cs : List Value) (x : En) : Prop := ∃ fv ev, cs = enC x fv ev ∧ TV w fv x.fil ∧ EVL w ev x.evs
theorem enR_lasts : Lasts enR := fun W w cs x hb ⟨fv, ev, h1, h2, h3⟩ => ⟨fv, ev, h1, h2.keep hb, h3.keep hb⟩
abbrev EnL (w : World) (v : Value) (ls : List En) : Prop := RR enR 8 w v ls
/-- whether an entry may be -/
def enOk (x : En) : Prop := (0 ≤ x.id.br ∧ x.id.br < 16) ∧ (0 ≤ x.client ∧ x.client < 32) ∧
  ((x.kind = 1 ∧ x.sub = 0 ∧ x.fil = [] ∧ x.evs.length ≤ 8 ∧ ∀ e ∈ x.evs, chkP e) ∨ (x.kind = 3 ∧ x.fil = [] ∧ x.evs = []) ∨ (x.kind = 2 ∧ x.evs = [] ∧ filP x.fil))
open Classical in
noncomputable def enE (x : En) : Int := if enOk x then 0 else 110
theorem enE_yes {x : En} (h : enOk x) : enE x = 0 := by unfold enE; rw [if_pos h]
theorem enE_no {x : En} (h : ¬ enOk x) : enE x = 110 := by unfold enE; rw [if_neg h]
/-- which of two IDs comes first -/
def idLt (a b : Id) : Bool := if a.br ≠ b.br then decide (a.br < b.br) else if a.life ≠ b.life then decide (a.life < b.life) else decide (a.ser < b.ser)
theorem idLt_not {a b : Id} (h1 : idLt a b = true) (h2 : idLt b a = true) : False := by
  unfold idLt at h1 h2
  (repeat' split at h1) <;> (repeat' split at h2) <;> simp only [decide_eq_true_eq] at h1 h2 <;> omega
theorem idLt_tot {a b : Id} : (idLt a b || idLt b a) = decide (a ≠ b) := by
  have e : a = b ↔ a.br = b.br ∧ a.life = b.life ∧ a.ser = b.ser := ⟨fun h => by rw [h]; exact ⟨rfl, rfl, rfl⟩, fun ⟨h1, h2, h3⟩ => by cases a; cases b; simp only at h1 h2 h3; subst h1 h2 h3; rfl⟩
  rw [Bool.eq_iff_iff, Bool.or_eq_true, decide_eq_true_iff, ne_eq, e]
  unfold idLt
  by_cases h1 : a.br = b.br
  · by_cases h2 : a.life = b.life
    · simp [h1, h2]; omega
    · have : ¬ b.life = a.life := fun h => h2 h.symm
      simp [h1, h2, this]; omega
  · have : ¬ b.br = a.br := fun h => h1 h.symm
    simp [h1, this]; omega
theorem idLt_trans {a b c : Id} (h1 : idLt a b = true) (h2 : idLt b c = true) : idLt a c = true := by
  unfold idLt at *
  (repeat' split at h1) <;> (repeat' split at h2) <;> (repeat' split) <;> simp only [decide_eq_true_eq] at * <;> omega
/-- an ID's bytes -/
def idB (x : Id) : List UInt8 := numB (u64 x.br) ++ numB x.life ++ numB x.ser
/-- events' bytes, each behind its length -/
def evsB (l : List (List At)) : List UInt8 := (l.map fun e => bytesB (encB e)).flatten
/-- an entry's bytes -/
def enB (x : En) : List UInt8 := numB (u64 x.kind) ++ idB x.id ++ numB (u64 x.client) ++ numB x.sub ++
  (if x.kind = 1 then numB x.evs.length ++ evsB x.evs else if x.kind = 2 then bytesB (filB x.fil) else [])
end PM
end Go.Proofs.YtnpbfjkfbobgaaaGreat

/-
  CONTRACTS OF package entry: the order of IDs, and whether an ID's broker may be.
-/
namespace Go.Proofs.YtnpbfjkfbobgaaaGreat
open Go.RowKit
set_option linter.unusedVariables false
theorem broker_any (a : PM.Id) (ha : a.wf) (w : World) :
    Calls Tryz.prog 22 #[.agg (PM.idL a).toArray] w fun e w' => e = .returned (.bool (decide (0 ≤ a.br ∧ a.br < 16))) ∧ Below w.heap.size w w' := by
  obtain ⟨a1, a2, a3⟩ := a
  obtain ⟨p1, p2, p3⟩ := ha
  unfold PM.idL
  simp only at p1 p2 p3 ⊢
  by_cases e1 : a1 < 0
  · have hv : decide (0 ≤ a1 ∧ a1 < 16) = false := by simp; omega
    rw [hv]
    clear hv
    have e2 : ¬ 0 ≤ a1 := by omega
    go_enter Tryz.func22, Tryz.ntmps22
    go_wp2_with fail
    go_ret
    exact ⟨rfl, by go_grown⟩
  · have e2 : 0 ≤ a1 := by omega
    have hv : decide (0 ≤ a1 ∧ a1 < 16) = decide (a1 < 16) := by simp [e2]
    rw [hv]
    clear hv
    go_enter Tryz.func22, Tryz.ntmps22
    go_wp2_with fail
    go_ret
    exact ⟨rfl, by go_grown⟩
end Go.Proofs.YtnpbfjkfbobgaaaGreat

/-
  CONTRACTS OF package entry: allMay, fits, Check.
-/
namespace Go.Proofs.YtnpbfjkfbobgaaaGreat
open Go.RowKit
set_option linter.unusedVariables false
set_option linter.unusedSimpArgs false
set_option maxHeartbeats 2000000 in
theorem allMay_any (v : Value) (ls : List (List PM.At)) (w : World) (hv : PM.EVL w v ls) :
    Calls Tryz.prog 40 #[v] w fun e w' => (e = .returned (.bool true) ∧ (∀ x ∈ ls, PM.chkP x) ∨ e = .returned (.bool false) ∧ ¬ (∀ x ∈ ls, PM.chkP x)) ∧ Below w.heap.size w w' := by
  obtain ⟨ad, cap, hve⟩ := hv.len
  subst hve
  have hbd := hv.bound
  unfold maxLen at hbd
  obtain ⟨L, hL⟩ : ∃ L, L = ls.length := ⟨_, rfl⟩
  have hLh := PM.hid hL
  rw [← hL] at hbd hv ⊢
  have hvh := PM.hid hv
  clear hL hv
  go_enter Tryz.func40, Tryz.ntmps40
  go_wp2_with fail
  go_loopw [7] (fun i wr => ∃ k : Nat, i = .int .i64 k ∧ k ≤ L ∧ Hid (Below w.heap.size w wr ∧ ∀ (j : Nat) x, j < k → ls[j]? = some x → PM.chkP x)) (fun i _ => L - (intOf i).toNat)
  case atStart => exact ⟨0, rfl, by omega, PM.hid ⟨Below.refl _ _, fun j z hj => absurd hj (by omega)⟩⟩
  case round =>
    obtain ⟨k, rfl, hk, hin⟩ := hrel
    by_cases hlt : k < L
    · obtain ⟨x, hx⟩ : ∃ x, ls[k]? = some x := ⟨ls[k]'(by rw [← hLh.out]; exact hlt), List.getElem?_eq_getElem _⟩
      obtain ⟨b, off, rfl, hce⟩ := PM.RR.opn hvh.out (by rw [← hLh.out]; omega)
      obtain ⟨cs, hl, xv, hcs, hxv⟩ := hce k x hx
      have c0 := PM.cellA hin.out.1 (hl 0 xv (by rw [hcs]; rfl))
      rw [Nat.mul_one, Nat.add_zero] at c0
      have hxh := PM.hid hx
      have hf := echeck_any xv x wr (hxv.keep hin.out.1)
      clear hx hce hl hcs hxv cs
      by_cases hch : PM.chkP x
      · have hchh := PM.hid hch
        rw [PM.chk_yes hch] at hf
        clear hch
        go_wp2_with fail
        refine hf.mono ?_
        clear hf c0
        rintro e W5 ⟨rfl, hB5⟩
        have hB5h := PM.hid (PM.chain hin.out.1 hB5)
        clear hB5
        go_wp2_with fail
        refine ⟨⟨k + 1, by go_num, by omega, PM.hid ⟨hB5h.out, fun i z hi hz => ?_⟩⟩, by simp only [intOf]; omega⟩
        by_cases hij : i < k
        · exact hin.out.2 i z hij hz
        · obtain rfl : i = k := by omega
          rw [hxh.out] at hz
          injection hz with hz
          subst hz
          exact hchh.out
      · have hchh := PM.hid hch
        rw [PM.chk_no hch] at hf
        clear hch
        go_wp2_with fail
        refine hf.mono ?_
        clear hf c0
        rintro e W5 ⟨rfl, hB5⟩
        have hB5h := PM.hid (PM.chain hin.out.1 hB5)
        clear hB5
        go_wp2_with fail
        go_ret
        exact ⟨.inr ⟨rfl, fun h => hchh.out (h x (List.mem_of_getElem? hxh.out))⟩, hB5h.out⟩
    · obtain rfl : k = L := by omega
      go_wp2_with fail
      go_ret
      refine ⟨.inl ⟨rfl, fun x hx => ?_⟩, hin.out.1⟩
      obtain ⟨j, hj⟩ := List.mem_iff_getElem?.1 hx
      exact hin.out.2 j x (by rw [hLh.out]; exact (List.getElem?_eq_some_iff.1 hj).1) hj
namespace PM
/-- does an entry have what its kind has? -/
def fitsP (x : En) : Prop := (x.kind = 1 ∧ x.sub = 0 ∧ x.fil = [] ∧ x.evs.length ≤ 8 ∧ ∀ e ∈ x.evs, chkP e) ∨ (x.kind = 3 ∧ x.fil = [] ∧ x.evs = []) ∨ (x.kind = 2 ∧ x.evs = [] ∧ filP x.fil)
end PM
set_option maxHeartbeats 2000000 in
theorem fits_any (x : PM.En) (fv ev : Value) (w : World) (hx : (Lit.int .i64 x.kind).wf = true) (hs : x.sub < 2 ^ 64) (hf : PM.TV w fv x.fil) (he : PM.EVL w ev x.evs) :
    Calls Tryz.prog 23 #[.agg (PM.enC x fv ev).toArray] w fun e w' => (e = .returned (.bool true) ∧ PM.fitsP x ∨ e = .returned (.bool false) ∧ ¬ PM.fitsP x) ∧ Below w.heap.size w w' := by
  suffices h : ∀ FP : Prop, Hid (FP ↔ PM.fitsP x) → Calls Tryz.prog 23 #[.agg (PM.enC x fv ev).toArray] w fun e w' => (e = .returned (.bool true) ∧ FP ∨ e = .returned (.bool false) ∧ ¬ FP) ∧ Below w.heap.size w w' from h _ (Lib.hid Iff.rfl)
  intro FP hFP
  obtain ⟨kd, idd, cl, sub, fil, evs⟩ := x
  unfold PM.enC
  unfold PM.fitsP at hFP
  simp only at hx hs hf he hFP ⊢
  obtain ⟨fa, fc, hfe⟩ := hf.len
  obtain ⟨ea, ec, hee⟩ := he.len
  subst hfe hee
  have hbf := hf.bound
  have hbe := he.bound
  unfold maxLen at hbf hbe
  obtain ⟨F, hF⟩ : ∃ F, F = fil.length := ⟨_, rfl⟩
  obtain ⟨L, hL⟩ : ∃ L, L = evs.length := ⟨_, rfl⟩
  rw [← hF] at hbf hf ⊢
  rw [← hL] at hbe he ⊢
  have hFh := PM.hid hF
  have hLh := PM.hid hL
  obtain ⟨g, hg⟩ : ∃ g, g = w.heap.size := ⟨_, rfl⟩
  obtain ⟨w1, hw1⟩ : ∃ W, W = w.alloc (.cells #[.int .i64 kd, .int .i64 idd.br, .int .u64 (idd.life : Int), .int .u64 (idd.ser : Int), .int .i64 cl, .int .u64 (sub : Int), .slice fa F fc, .slice ea L ec] 31) := ⟨_, rfl⟩
  have hal : Below w.heap.size w w1 := by rw [hw1]; exact (Below.refl _ _).alloc (Nat.le_refl _) _
  have kg : PM.BK w1 g #[.int .i64 kd, .int .i64 idd.br, .int .u64 (idd.life : Int), .int .u64 (idd.ser : Int), .int .i64 cl, .int .u64 (sub : Int), .slice fa F fc, .slice ea L ec] 31 := by rw [hw1, hg]; exact PM.BK.new _ _ _
  replace hf := PM.hid (hf.keep hal)
  replace he := PM.hid (he.keep hal)
  have hB := PM.hid hal
  clear hal hF hL
  go_enter Tryz.func23, Tryz.ntmps23
  go_upto_region 1 with fail
  rw [← hw1, ← hg]
  clear hw1 hg
  have c0 : w1.cell? ⟨g, 0, none⟩ = some (.int .i64 kd) := kg.cell 0
  have c1 : w1.cell? ⟨g, 1, none⟩ = some (.int .i64 idd.br) := kg.cell 1
  have c2 : w1.cell? ⟨g, 2, none⟩ = some (.int .u64 (idd.life : Int)) := kg.cell 2
  have c3 : w1.cell? ⟨g, 3, none⟩ = some (.int .u64 (idd.ser : Int)) := kg.cell 3
  have c4 : w1.cell? ⟨g, 4, none⟩ = some (.int .i64 cl) := kg.cell 4
  have c5 : w1.cell? ⟨g, 5, none⟩ = some (.int .u64 (sub : Int)) := kg.cell 5
  have c6 : w1.cell? ⟨g, 6, none⟩ = some (.slice fa F fc) := kg.cell 6
  have c7 : w1.cell? ⟨g, 7, none⟩ = some (.slice ea L ec) := kg.cell 7
  clear kg
  have f0 : F = 0 ↔ fil = [] := by rw [hFh.out]; exact List.length_eq_zero_iff
  have l0 : L = 0 ↔ evs = [] := by rw [hLh.out]; exact List.length_eq_zero_iff
  replace f0 := PM.hid f0
  replace l0 := PM.hid l0
  by_cases k1 : kd = 1
  · subst k1
    by_cases hs0 : sub = 0
    · subst hs0
      by_cases hf0 : F = 0
      · have hfn := PM.hid (f0.out.1 hf0)
        subst hf0
        by_cases h8 : L ≤ 8
        · have h8h := PM.hid (hLh.out ▸ h8)
          go_wp2_with fail
          refine (allMay_any _ _ w1 he.out).mono ?_
          rintro e w2 ⟨hr, hB2⟩
          have hB2h := PM.hid (PM.chain hB.out hB2)
          clear hB2 c0 c1 c2 c3 c4 c5 c6 c7
          rcases hr with ⟨rfl, hr⟩ | ⟨rfl, hr⟩
          all_goals (have hrh := PM.hid hr; clear hr; go_wp2_with fail; go_ret)
          · exact ⟨.inl ⟨rfl, hFP.out.2 (.inl ⟨by trivial, by trivial, hfn.out, h8h.out, hrh.out⟩)⟩, hB2h.out⟩
          · exact ⟨.inr ⟨rfl, fun hh => by rcases hFP.out.1 hh with ⟨_, _, _, _, h⟩ | ⟨h, _⟩ | ⟨h, _⟩ <;> first | exact hrh.out h | exact absurd h (by decide)⟩, hB2h.out⟩
        · have h8n : ¬ evs.length ≤ 8 := hLh.out ▸ h8
          replace h8n := PM.hid h8n
          go_wp2_with fail
          go_ret
          exact ⟨.inr ⟨rfl, fun hh => by rcases hFP.out.1 hh with ⟨_, _, _, h, _⟩ | ⟨h, _⟩ | ⟨h, _⟩ <;> first | exact h8n.out h | exact absurd h (by decide)⟩, hB.out⟩
      · have hfn : ¬ fil = [] := fun h => hf0 (f0.out.2 h)
        replace hfn := PM.hid hfn
        go_wp2_with fail
        go_ret
        exact ⟨.inr ⟨rfl, fun hh => by rcases hFP.out.1 hh with ⟨_, _, h, _⟩ | ⟨h, _⟩ | ⟨h, _⟩ <;> first | exact hfn.out h | exact absurd h (by decide)⟩, hB.out⟩
    · go_wp2_with fail
      go_ret
      exact ⟨.inr ⟨rfl, fun hh => by rcases hFP.out.1 hh with ⟨_, h, _⟩ | ⟨h, _⟩ | ⟨h, _⟩ <;> first | exact hs0 h | exact absurd h (by decide)⟩, hB.out⟩
  by_cases k3 : kd = 3
  · subst k3
    by_cases hf0 : F = 0
    · have hfn := PM.hid (f0.out.1 hf0)
      subst hf0
      by_cases hl0 : L = 0
      · have hln := PM.hid (l0.out.1 hl0)
        subst hl0
        go_wp2_with fail
        have hck := fcheck_any _ _ w1 hf.out
        rw [PM.filE_yes (by rw [hfn.out]; exact ⟨by simp, by simp⟩)] at hck
        refine hck.mono ?_
        clear hck
        rintro e w2 ⟨rfl, hB2⟩
        have hB2h := PM.hid (PM.chain hB.out hB2)
        clear hB2 c0 c1 c2 c3 c4 c5 c6 c7
        go_wp2_with fail
        go_ret
        exact ⟨.inl ⟨rfl, hFP.out.2 (.inr (.inl ⟨by trivial, hfn.out, hln.out⟩))⟩, hB2h.out⟩
      · have hln : ¬ evs = [] := fun h => hl0 (l0.out.2 h)
        replace hln := PM.hid hln
        go_wp2_with fail
        go_ret
        exact ⟨.inr ⟨rfl, fun hh => by rcases hFP.out.1 hh with ⟨h, _⟩ | ⟨_, _, h⟩ | ⟨h, _⟩ <;> first | exact absurd h (by decide) | exact hln.out h⟩, hB.out⟩
    · have hfn : ¬ fil = [] := fun h => hf0 (f0.out.2 h)
      replace hfn := PM.hid hfn
      go_wp2_with fail
      go_ret
      exact ⟨.inr ⟨rfl, fun hh => by rcases hFP.out.1 hh with ⟨h, _⟩ | ⟨_, h, _⟩ | ⟨h, _⟩ <;> first | exact absurd h (by decide) | exact hfn.out h⟩, hB.out⟩
  by_cases k2 : kd = 2
  · subst k2
    by_cases hl0 : L = 0
    · have hln := PM.hid (l0.out.1 hl0)
      subst hl0
      by_cases hp : PM.filP fil
      all_goals
        have hph := PM.hid hp
        go_wp2_with fail
        have hck := fcheck_any _ _ w1 hf.out
        first | rw [PM.filE_yes hph.out] at hck | rw [PM.filE_no hph.out] at hck
        refine hck.mono ?_
        clear hck hp
        rintro e w2 ⟨rfl, hB2⟩
        have hB2h := PM.hid (PM.chain hB.out hB2)
        clear hB2 c0 c1 c2 c3 c4 c5 c6 c7
        go_wp2_with fail
        go_ret
      · exact ⟨.inl ⟨rfl, hFP.out.2 (.inr (.inr ⟨by trivial, hln.out, hph.out⟩))⟩, hB2h.out⟩
      · exact ⟨.inr ⟨rfl, fun hh => by rcases hFP.out.1 hh with ⟨h, _⟩ | ⟨h, _⟩ | ⟨_, _, h⟩ <;> first | exact absurd h (by decide) | exact hph.out h⟩, hB2h.out⟩
    · have hln : ¬ evs = [] := fun h => hl0 (l0.out.2 h)
      replace hln := PM.hid hln
      go_wp2_with fail
      go_ret
      exact ⟨.inr ⟨rfl, fun hh => by rcases hFP.out.1 hh with ⟨h, _⟩ | ⟨h, _⟩ | ⟨_, h, _⟩ <;> first | exact absurd h (by decide) | exact hln.out h⟩, hB.out⟩
  go_wp2_with fail
  go_ret
  exact ⟨.inr ⟨rfl, fun hh => by rcases hFP.out.1 hh with ⟨h, _⟩ | ⟨h, _⟩ | ⟨h, _⟩ <;> first | exact k1 h | exact k3 h | exact k2 h⟩, hB.out⟩
set_option maxHeartbeats 2000000 in
theorem encheck_any (x : PM.En) (fv ev : Value) (w : World) (hx : x.wf) (hf : PM.TV w fv x.fil) (he : PM.EVL w ev x.evs) :
    Calls Tryz.prog 6 #[.agg (PM.enC x fv ev).toArray] w fun e w' => e = .returned (.int .i64 (PM.enE x)) ∧ Below w.heap.size w w' := by
  suffices h : ∀ z : Int, Hid (z = PM.enE x) → Calls Tryz.prog 6 #[.agg (PM.enC x fv ev).toArray] w fun e w' => e = .returned (.int .i64 z) ∧ Below w.heap.size w w' from h _ (Lib.hid rfl)
  intro z hz
  obtain ⟨hx1, hx2, hx3, hx4, -, -⟩ := hx
  have hfit : ∀ W : World, Below w.heap.size w W → Calls Tryz.prog 23 #[.agg (PM.enC x fv ev).toArray] W fun e w' => (e = .returned (.bool true) ∧ PM.fitsP x ∨ e = .returned (.bool false) ∧ ¬ PM.fitsP x) ∧ Below W.heap.size W w' := fun W hb => fits_any x fv ev W hx1 hx4 (hf.keep hb) (he.keep hb)
  have hbr := broker_any x.id hx2
  have hgood : Hid ((0 ≤ x.id.br ∧ x.id.br < 16) → (0 ≤ x.client ∧ x.client < 32) → PM.fitsP x → z = 0) := Lib.hid fun a b c => by rw [hz.out]; exact PM.enE_yes ⟨a, b, c⟩
  have hbad : Hid (¬ ((0 ≤ x.id.br ∧ x.id.br < 16) ∧ (0 ≤ x.client ∧ x.client < 32) ∧ PM.fitsP x) → z = 110) := Lib.hid fun a => by rw [hz.out]; exact PM.enE_no a
  obtain ⟨FP, hFP⟩ : ∃ p, p = PM.fitsP x := ⟨_, rfl⟩
  rw [← hFP] at hfit hgood hbad
  obtain ⟨fa, fc, hfe⟩ := hf.len
  obtain ⟨ea, ec, hee⟩ := he.len
  subst hfe hee
  generalize x.fil.length = F at *
  generalize x.evs.length = L at *
  clear hFP hz hf he
  obtain ⟨kd, ⟨ib, il, is⟩, cl, sub, fil, evs⟩ := x
  unfold PM.enC at hfit ⊢
  unfold PM.idL at hbr
  simp only at hx1 hx2 hx3 hx4 hfit hgood hbad hbr ⊢
  obtain ⟨hi1, hi2, hi3⟩ := hx2
  simp only at hi1 hi2 hi3
  obtain ⟨g, hg⟩ : ∃ g, g = w.heap.size := ⟨_, rfl⟩
  obtain ⟨w1, hw1⟩ : ∃ W, W = w.alloc (.cells #[.int .i64 kd, .int .i64 ib, .int .u64 (il : Int), .int .u64 (is : Int), .int .i64 cl, .int .u64 (sub : Int), .slice fa F fc, .slice ea L ec] 31) := ⟨_, rfl⟩
  have hal : Below w.heap.size w w1 := by rw [hw1]; exact (Below.refl _ _).alloc (Nat.le_refl _) _
  have kg : PM.BK w1 g #[.int .i64 kd, .int .i64 ib, .int .u64 (il : Int), .int .u64 (is : Int), .int .i64 cl, .int .u64 (sub : Int), .slice fa F fc, .slice ea L ec] 31 := by rw [hw1, hg]; exact PM.BK.new _ _ _
  have hB := PM.hid hal
  have hfith := PM.hid hfit
  clear hal hfit
  go_enter Tryz.func6, Tryz.ntmps6
  go_upto_region 1 with fail
  rw [← hw1, ← hg]
  clear hw1 hg
  have c0 : w1.cell? ⟨g, 0, none⟩ = some (.int .i64 kd) := kg.cell 0
  have c1 : w1.cell? ⟨g, 1, none⟩ = some (.int .i64 ib) := kg.cell 1
  have c2 : w1.cell? ⟨g, 2, none⟩ = some (.int .u64 (il : Int)) := kg.cell 2
  have c3 : w1.cell? ⟨g, 3, none⟩ = some (.int .u64 (is : Int)) := kg.cell 3
  have c4 : w1.cell? ⟨g, 4, none⟩ = some (.int .i64 cl) := kg.cell 4
  have c5 : w1.cell? ⟨g, 5, none⟩ = some (.int .u64 (sub : Int)) := kg.cell 5
  have c6 : w1.cell? ⟨g, 6, none⟩ = some (.slice fa F fc) := kg.cell 6
  have c7 : w1.cell? ⟨g, 7, none⟩ = some (.slice ea L ec) := kg.cell 7
  go_wp2_with fail
  refine (hbr w1).mono ?_
  rintro e w2 ⟨rfl, hB2⟩
  replace kg := kg.keep hB2
  have hB' := PM.hid (PM.chain hB.out hB2)
  clear hB2 c0 c1 c2 c3 c4 c5 c6 c7 hB hbr
  have c0 : w2.cell? ⟨g, 0, none⟩ = some (.int .i64 kd) := kg.cell 0
  have c1 : w2.cell? ⟨g, 1, none⟩ = some (.int .i64 ib) := kg.cell 1
  have c2 : w2.cell? ⟨g, 2, none⟩ = some (.int .u64 (il : Int)) := kg.cell 2
  have c3 : w2.cell? ⟨g, 3, none⟩ = some (.int .u64 (is : Int)) := kg.cell 3
  have c4 : w2.cell? ⟨g, 4, none⟩ = some (.int .i64 cl) := kg.cell 4
  have c5 : w2.cell? ⟨g, 5, none⟩ = some (.int .u64 (sub : Int)) := kg.cell 5
  have c6 : w2.cell? ⟨g, 6, none⟩ = some (.slice fa F fc) := kg.cell 6
  have c7 : w2.cell? ⟨g, 7, none⟩ = some (.slice ea L ec) := kg.cell 7
  clear kg
  by_cases k1 : 0 ≤ ib ∧ ib < 16
  · have k1' : decide (0 ≤ ib ∧ ib < 16) = true := by simp [k1]
    rw [k1']
    have k1h := PM.hid k1
    clear k1 k1'
    by_cases k2 : cl < 0
    · obtain rfl : z = 110 := hbad.out fun h => by have := h.2.1.1; omega
      go_wp2_with fail
      go_ret
      exact ⟨rfl, hB'.out⟩
    · by_cases k3 : 32 ≤ cl
      · obtain rfl : z = 110 := hbad.out fun h => by have := h.2.1.2; omega
        go_wp2_with fail
        go_ret
        exact ⟨rfl, hB'.out⟩
      · have k2h : Hid (0 ≤ cl ∧ cl < 32) := PM.hid ⟨by omega, by omega⟩
        go_wp2_with fail
        refine (hfith.out w2 hB'.out).mono ?_
        rintro e w3 ⟨hr, hB3⟩
        have hB'' := PM.hid (PM.chain hB'.out hB3)
        clear hB3 c0 c1 c2 c3 c4 c5 c6 c7
        rcases hr with ⟨rfl, hr⟩ | ⟨rfl, hr⟩
        · obtain rfl : z = 0 := hgood.out k1h.out k2h.out hr
          clear hr
          go_wp2_with fail
          go_ret
          exact ⟨rfl, hB''.out⟩
        · obtain rfl : z = 110 := hbad.out fun h => hr h.2.2
          clear hr
          go_wp2_with fail
          go_ret
          exact ⟨rfl, hB''.out⟩
  · have k1' : decide (0 ≤ ib ∧ ib < 16) = false := by simpa using k1
    rw [k1']
    obtain rfl : z = 110 := hbad.out fun h => k1 h.1
    clear k1 k1'
    go_wp2_with fail
    go_ret
    exact ⟨rfl, hB'.out⟩
end Go.Proofs.YtnpbfjkfbobgaaaGreat

/-
  CONTRACTS OF package entry: empty, record.
-/
namespace Go.Proofs.YtnpbfjkfbobgaaaGreat
open Go.RowKit
set_option linter.unusedVariables false
set_option linter.unusedSimpArgs false
namespace PM
def Id0 : Id := ⟨0, 0, 0⟩
/-- an entry that has nothing -/
def enNil (x : En) : Prop := x.kind = 0 ∧ x.id = Id0 ∧ x.client = 0 ∧ x.sub = 0 ∧ x.fil = [] ∧ x.evs = []
end PM
set_option maxRecDepth 100000 in
set_option maxHeartbeats 400000 in
theorem ideq_run (a b : PM.Id) : ∀ w : World, Sem.run Tryz.prog (binOp .eql 26 (.agg #[.int .i64 a.br, .int .u64 (a.life : Int), .int .u64 (a.ser : Int)]) (.agg #[.int .i64 b.br, .int .u64 (b.life : Int), .int .u64 (b.ser : Int)])) w = .ok (.bool (decide (a = b))) w := by
  intro w
  rw [run_eql_struct, show (10000 : Nat) = 9999 + 1 from rfl, run_equalIn_agg w 9999 26 _ _ (by kernel_rfl) (by kernel_rfl)]
  simp only [Program.fieldsOf, Tryz.underlying26]
  go_simp
  obtain ⟨a1, a2, a3⟩ := a
  obtain ⟨b1, b2, b3⟩ := b
  simp only [PM.Id.mk.injEq]
  by_cases e1 : a1 = b1 <;> by_cases e2 : a2 = b2 <;> by_cases e3 : a3 = b3 <;> simp [e1, e2, e3] <;> omega
theorem id0_run (a : PM.Id) : ∀ w : World, Sem.run Tryz.prog (binOp .eql 26 (.agg #[.int .i64 a.br, .int .u64 (a.life : Int), .int .u64 (a.ser : Int)]) (.agg #[.int .i64 0, .int .u64 0, .int .u64 0])) w = .ok (.bool (decide (a = PM.Id0))) w := by
  have h := ideq_run a PM.Id0
  unfold PM.Id0 at h ⊢
  exact h
namespace PM
/-- a record -/
structure Rc where
  kind : Int
  n : Nat
  en : En
  id : Id
def Rc.wf (x : Rc) : Prop := (Lit.int .i64 x.kind).wf = true ∧ x.n < 2 ^ 64 ∧ x.en.wf ∧ x.id.wf
def rcC (x : Rc) (fv ev : Value) : List Value := [.int .i64 x.kind, .int .u64 (x.n : Int)] ++ enC x.en fv ev ++ idL x.id
def rcP (x : Rc) : Prop := ((x.kind = 3 ∧ x.n = 0 ∨ x.kind = 2) ∧ x.id = Id0 ∧ enOk x.en) ∨ ((x.kind = 4 ∨ x.kind = 5) ∧ x.n = 0 ∧ (0 ≤ x.id.br ∧ x.id.br < 16) ∧ enNil x.en) ∨ (x.kind = 1 ∧ x.id = Id0 ∧ enNil x.en)
end PM
end Go.Proofs.YtnpbfjkfbobgaaaGreat
