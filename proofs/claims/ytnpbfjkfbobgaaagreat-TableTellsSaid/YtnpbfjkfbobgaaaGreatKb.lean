/-
  SLICES OF FILTERS, AND CONTRACTS OF package cover: some (of filters), Any, Reduce.
-/
import Derived.Test.YtnpbfjkfbobgaaaGreatKa
import Derived.Test.YtnpbfjkfbobgaaaGreatIe
import Derived.Test.YtnpbfjkfbobgaaaGreatAm
namespace Go.Proofs.YtnpbfjkfbobgaaaGreat
open Go.RowKit
set_option linter.unusedVariables false
set_option linter.unusedSimpArgs false
namespace PM
/-- a filter in a cell -/
def fR (w : World) (cs : List Value) (f : List Te) : Prop := ∃ v, cs = [v] ∧ TV w v f
/-- slices of filters -/
abbrev FL (w : World) (v : Value) (ls : List (List Te)) : Prop := RR fR 1 w v ls
theorem fR_lasts : Lasts fR := fun W w cs x hb ⟨v, h1, h2⟩ => ⟨v, h1, h2.keep hb⟩
theorem FL.keep {W w : World} {v : Value} {ls : List (List Te)} (hb : Below W.heap.size W w) (h : FL W v ls) : FL w v ls := RR.keep fR_lasts hb h
theorem fR_cell {w : World} {b o i : Nat} {x : List Te} (h : ∃ cs : Ce 1, Lies w b (o + i * 1) cs.1 ∧ fR w cs.1 x) : ∃ v, w.cell? ⟨b, o + i, none⟩ = some v ∧ TV w v x := by
  obtain ⟨cs, h1, v, hv, h2⟩ := h
  refine ⟨v, ?_, h2⟩
  have := h1 0 v (by rw [hv]; rfl)
  rwa [Nat.mul_one, Nat.add_zero] at this
theorem cell_keepK {W w : World} {a : Addr} {v : Value} (hb : Below W.heap.size W w) (h : W.cell? a = some v) : w.cell? a = some v := by
  rw [hb.cell (World.block_lt_of_cell? W _ h)]; exact h
/-- of a list, those that no one that stayed, nor one behind, does away with -/
def sv {α : Type} (imp : α → α → Bool) (st : List α) : List α → List α
  | [] => st
  | t :: r => if st.any (fun x => imp x t) || r.any (fun x => imp x t) then sv imp st r else sv imp (st ++ [t]) r
theorem sv_out {α : Type} {imp : α → α → Bool} {st r : List α} {t : α} (h : (st.any fun x => imp x t) = true ∨ (r.any fun x => imp x t) = true) : sv imp st (t :: r) = sv imp st r := by
  rw [sv, if_pos (by rw [Bool.or_eq_true]; exact h)]
theorem sv_in {α : Type} {imp : α → α → Bool} {st r : List α} {t : α} (h1 : (st.any fun x => imp x t) = false) (h2 : (r.any fun x => imp x t) = false) : sv imp st (t :: r) = sv imp (st ++ [t]) r := by
  rw [sv, if_neg (by rw [h1, h2]; simp)]
/-- reduced filters -/
def redL (l : List (List Te)) : List (List Te) := sv covB [] l
/-- a filter of the call's own in a cell -/
def fO (T : TypeId) (B : Nat) (w : World) (cs : List Value) (f : List Te) : Prop := ∃ v, cs = [v] ∧ OM teL 5 T B w v f
theorem fO_lasts {T : TypeId} {B : Nat} : Lasts (fO T B) := fun W w cs x hb ⟨v, h1, h2⟩ => ⟨v, h1, h2.keep hb⟩
theorem fO_stays {T E : TypeId} {B : Nat} (hne : T ≠ E) : Stays (fO T B) E := fun w w' cs x row hg ht ⟨v, h1, h2⟩ => ⟨v, h1, OM.stays hne h2 hg ht⟩
theorem fO_fR {T : TypeId} {B : Nat} {w : World} {cs : List Value} {f : List Te} (h : fO T B w cs f) : fR w cs f := by
  obtain ⟨v, h1, h2⟩ := h
  exact ⟨v, h1, h2.em teL_len⟩
theorem drop_atK {α : Type} {s : List α} {k : Nat} {z : α} (h : s[k]? = some z) : s.drop k = z :: s.drop (k + 1) := by
  obtain ⟨hk, rfl⟩ := List.getElem?_eq_some_iff.1 h
  exact List.drop_eq_getElem_cons hk
end PM
theorem flTy : PM.MTy Tryz.prog 40 28 1 24 := by
  refine ⟨Tryz.underlying40, by decide, ?_⟩
  obtain ⟨i, h1, h2, h3, h4⟩ := info_parts (P := Tryz.prog) (e := 28) (z := .slice none 0 0) (size := 1) (bytes := 24) (by kernel_rfl)
  exact ⟨i, _, h1, h2, h3, h4, by kernel_rfl⟩
theorem red1_any (u fv : Value) (x f : List PM.Te) (g : Nat) (w : World) (hu : PM.TV w u x) (hk : PM.BK w g #[fv] 28) (hf : PM.TV w fv f) :
    Calls Tryz.prog 46 #[u, .pointer (some ⟨g, 0, none⟩)] w fun e w' => e = .returned (.bool (PM.covB x f)) ∧ Below w.heap.size w w' := by
  have c0 : w.cell? ⟨g, 0, none⟩ = some fv := hk.cell 0
  have hh := PM.hid (And.intro hu hf)
  obtain ⟨fa, fc, rfl⟩ := hf.len
  clear hu hk hf
  go_enter Tryz.func46, Tryz.ntmps46
  go_wp2_with fail
  refine (covers_any _ _ x f w hh.out.1 hh.out.2).mono ?_
  rintro e w2 ⟨rfl, hB2⟩
  have hB := PM.hid hB2
  clear hB2 c0
  go_wp2_with fail
  go_ret
  exact ⟨rfl, hB.out⟩
theorem any1_any (u ev : Value) (x : List PM.Te) (es : List PM.At) (g : Nat) (w : World) (hu : PM.TV w u x) (hk : PM.BK w g #[ev] 55) (he : PM.EV w ev es) :
    Calls Tryz.prog 68 #[u, .pointer (some ⟨g, 0, none⟩)] w fun e w' => e = .returned (.bool (PM.matchB x es)) ∧ Below w.heap.size w w' := by
  have c0 : w.cell? ⟨g, 0, none⟩ = some ev := hk.cell 0
  have hh := PM.hid (And.intro hu he)
  obtain ⟨fa, fc, rfl⟩ := (PM.EV.em he).len
  clear hu hk he
  go_enter Tryz.func68, Tryz.ntmps68
  go_wp2_with fail
  refine (matches_any _ x _ es w hh.out.1 hh.out.2).mono ?_
  rintro e w2 ⟨rfl, hB2⟩
  have hB := PM.hid hB2
  clear hB2 c0
  go_wp2_with fail
  go_ret
  exact ⟨rfl, hB.out⟩
set_option maxHeartbeats 2000000 in
theorem someC_any (v : Value) (ls : List (List PM.Te)) (fv : Value) (f : List PM.Te) (g : Nat) (w : World) (hv : PM.FL w v ls) (hk : PM.BK w g #[fv] 28) (hf : PM.TV w fv f) :
    Calls Tryz.prog 48 #[v, .func (.func 46) #[] #[.pointer (some ⟨g, 0, none⟩)]] w fun e w' => e = .returned (.bool (ls.any fun x => PM.covB x f)) ∧ Below w.heap.size w w' := by
  obtain ⟨ad, cap, hve⟩ := hv.len
  subst hve
  have hbd := hv.bound
  unfold maxLen at hbd
  obtain ⟨L, hL⟩ : ∃ L, L = ls.length := ⟨_, rfl⟩
  have hLh := PM.hid hL
  rw [← hL] at hbd hv ⊢
  have hvh := PM.hid hv
  have hkh := PM.hid (And.intro hk hf)
  clear hL hv hk hf
  go_enter Tryz.func48, Tryz.ntmps48
  go_wp2_with fail
  go_loopw [9] (fun i wr => ∃ k : Nat, i = .int .i64 k ∧ k ≤ L ∧ Hid (Below w.heap.size w wr ∧ ∀ (j : Nat) x, j < k → ls[j]? = some x → PM.covB x f = false)) (fun i _ => L - (intOf i).toNat)
  case atStart => exact ⟨0, rfl, by omega, PM.hid ⟨Below.refl _ _, fun j z hj => absurd hj (by omega)⟩⟩
  case round =>
    obtain ⟨k, rfl, hk, hin⟩ := hrel
    by_cases hlt : k < L
    · obtain ⟨x, hx⟩ : ∃ x, ls[k]? = some x := ⟨ls[k]'(by rw [← hLh.out]; exact hlt), List.getElem?_eq_getElem _⟩
      obtain ⟨b, off, rfl, hce⟩ := PM.RR.opn hvh.out (by rw [← hLh.out]; omega)
      obtain ⟨xv, hc, hxv⟩ := PM.fR_cell (hce k x hx)
      have c0 := PM.cell_keepK hin.out.1 hc
      have hxh := PM.hid (And.intro hx (hxv.keep hin.out.1))
      clear hx hce hc hxv
      go_wp2_with fail
      refine (red1_any xv fv x f g wr hxh.out.2 (hkh.out.1.keep hin.out.1) (hkh.out.2.keep hin.out.1)).mono ?_
      rintro e W5 ⟨rfl, hB5⟩
      have hB5h := PM.hid (PM.chain hin.out.1 hB5)
      clear hB5 c0
      cases hi : PM.covB x f
      · have hin' := PM.hid hi
        clear hi
        go_wp2_with fail
        refine ⟨⟨k + 1, by go_num, by omega, PM.hid ⟨hB5h.out, fun i z hi hz => ?_⟩⟩, by simp only [intOf]; omega⟩
        by_cases hij : i < k
        · exact hin.out.2 i z hij hz
        · obtain rfl : i = k := by omega
          rw [hxh.out.1] at hz
          injection hz with hz
          subst hz
          exact hin'.out
      · have ht : Hid ((ls.any fun x => PM.covB x f) = true) := PM.hid (List.any_eq_true.2 ⟨x, List.mem_of_getElem? hxh.out.1, hi⟩)
        clear hi
        go_wp2_with fail
        go_ret
        exact ⟨by rw [ht.out]; rfl, hB5h.out⟩
    · obtain rfl : k = L := by omega
      have ht : Hid ((ls.any fun x => PM.covB x f) = false) := PM.hid (by
        rw [List.any_eq_false]
        intro x hx
        obtain ⟨j, hj⟩ := List.mem_iff_getElem?.1 hx
        rw [hin.out.2 j x (by rw [hLh.out]; exact (List.getElem?_eq_some_iff.1 hj).1) hj]
        simp)
      go_wp2_with fail
      go_ret
      exact ⟨by rw [ht.out]; rfl, hin.out.1⟩
set_option maxHeartbeats 2000000 in
theorem someM_any (v : Value) (ls : List (List PM.Te)) (ev : Value) (es : List PM.At) (g : Nat) (w : World) (hv : PM.FL w v ls) (hk : PM.BK w g #[ev] 55) (he : PM.EV w ev es) :
    Calls Tryz.prog 48 #[v, .func (.func 68) #[] #[.pointer (some ⟨g, 0, none⟩)]] w fun e w' => e = .returned (.bool (ls.any fun x => PM.matchB x es)) ∧ Below w.heap.size w w' := by
  obtain ⟨ad, cap, hve⟩ := hv.len
  subst hve
  have hbd := hv.bound
  unfold maxLen at hbd
  obtain ⟨L, hL⟩ : ∃ L, L = ls.length := ⟨_, rfl⟩
  have hLh := PM.hid hL
  rw [← hL] at hbd hv ⊢
  have hvh := PM.hid hv
  have hkh := PM.hid (And.intro hk he)
  clear hL hv hk he
  go_enter Tryz.func48, Tryz.ntmps48
  go_wp2_with fail
  go_loopw [9] (fun i wr => ∃ k : Nat, i = .int .i64 k ∧ k ≤ L ∧ Hid (Below w.heap.size w wr ∧ ∀ (j : Nat) x, j < k → ls[j]? = some x → PM.matchB x es = false)) (fun i _ => L - (intOf i).toNat)
  case atStart => exact ⟨0, rfl, by omega, PM.hid ⟨Below.refl _ _, fun j z hj => absurd hj (by omega)⟩⟩
  case round =>
    obtain ⟨k, rfl, hk, hin⟩ := hrel
    by_cases hlt : k < L
    · obtain ⟨x, hx⟩ : ∃ x, ls[k]? = some x := ⟨ls[k]'(by rw [← hLh.out]; exact hlt), List.getElem?_eq_getElem _⟩
      obtain ⟨b, off, rfl, hce⟩ := PM.RR.opn hvh.out (by rw [← hLh.out]; omega)
      obtain ⟨xv, hc, hxv⟩ := PM.fR_cell (hce k x hx)
      have c0 := PM.cell_keepK hin.out.1 hc
      have hxh := PM.hid (And.intro hx (hxv.keep hin.out.1))
      clear hx hce hc hxv
      go_wp2_with fail
      refine (any1_any xv ev x es g wr hxh.out.2 (hkh.out.1.keep hin.out.1) (hkh.out.2.keep hin.out.1)).mono ?_
      rintro e W5 ⟨rfl, hB5⟩
      have hB5h := PM.hid (PM.chain hin.out.1 hB5)
      clear hB5 c0
      cases hi : PM.matchB x es
      · have hin' := PM.hid hi
        clear hi
        go_wp2_with fail
        refine ⟨⟨k + 1, by go_num, by omega, PM.hid ⟨hB5h.out, fun i z hi hz => ?_⟩⟩, by simp only [intOf]; omega⟩
        by_cases hij : i < k
        · exact hin.out.2 i z hij hz
        · obtain rfl : i = k := by omega
          rw [hxh.out.1] at hz
          injection hz with hz
          subst hz
          exact hin'.out
      · have ht : Hid ((ls.any fun x => PM.matchB x es) = true) := PM.hid (List.any_eq_true.2 ⟨x, List.mem_of_getElem? hxh.out.1, hi⟩)
        clear hi
        go_wp2_with fail
        go_ret
        exact ⟨by rw [ht.out]; rfl, hB5h.out⟩
    · obtain rfl : k = L := by omega
      have ht : Hid ((ls.any fun x => PM.matchB x es) = false) := PM.hid (by
        rw [List.any_eq_false]
        intro x hx
        obtain ⟨j, hj⟩ := List.mem_iff_getElem?.1 hx
        rw [hin.out.2 j x (by rw [hLh.out]; exact (List.getElem?_eq_some_iff.1 hj).1) hj]
        simp)
      go_wp2_with fail
      go_ret
      exact ⟨by rw [ht.out]; rfl, hin.out.1⟩
theorem cany_any (v ev : Value) (ls : List (List PM.Te)) (es : List PM.At) (w : World) (hv : PM.FL w v ls) (he : PM.EV w ev es) :
    Calls Tryz.prog 56 #[v, ev] w fun e w' => e = .returned (.bool (ls.any fun x => PM.matchB x es)) ∧ Below w.heap.size w w' := by
  obtain ⟨ea, ec, hee⟩ := (PM.EV.em he).len
  subst hee
  go_enter Tryz.func56, Tryz.ntmps56
  go_upto_region 1 with fail
  obtain ⟨ge, hge⟩ : ∃ g, g = w.heap.size := ⟨_, rfl⟩
  obtain ⟨w1, hw1⟩ : ∃ W, W = w.alloc (.cells #[.slice ea es.length ec] 55) := ⟨_, rfl⟩
  have hal : Below w.heap.size w w1 := by rw [hw1]; exact (Below.refl _ _).alloc (Nat.le_refl _) _
  have kge : PM.BK w1 ge #[.slice ea es.length ec] 55 := by rw [hw1, hge]; exact PM.BK.new _ _ _
  rw [← hw1, ← hge]
  clear hw1 hge
  have hvh := PM.hid (And.intro (hv.keep hal) (he.keep hal))
  have hB := PM.hid hal
  clear hv he hal
  go_wp2_with fail
  refine (someM_any _ ls _ es ge w1 hvh.out.1 kge hvh.out.2).mono ?_
  rintro e w2 ⟨rfl, hB2⟩
  have hB' := PM.hid (PM.chain hB.out hB2)
  clear hB2 kge
  go_wp2_with fail
  go_ret
  exact ⟨rfl, hB'.out⟩
set_option maxRecDepth 100000 in
set_option maxHeartbeats 4000000 in
theorem reduce_any (v : Value) (ls : List (List PM.Te)) (w : World) (hv : PM.FL w v ls) (hl : ls.length ≤ 30) (hs : ∀ x ∈ ls, x.length ≤ 1000) :
    Calls Tryz.prog 32 #[v] w fun e w' => ∃ u, e = .returned u ∧ PM.OR (PM.fO 50 w.heap.size) 1 28 w.heap.size w' u (PM.redL ls) ∧ Below w.heap.size w w' := by
  obtain ⟨ad, cap, hve⟩ := hv.len
  subst hve
  have hbd := hv.bound
  unfold maxLen at hbd
  obtain ⟨N, hN⟩ : ∃ N, N = ls.length := ⟨_, rfl⟩
  have hNh := PM.hid hN
  rw [← hN] at hbd hl hv ⊢
  have hvh := PM.hid hv
  have hsh := PM.hid hs
  clear hN hv hs
  go_enter Tryz.func32, Tryz.ntmps32
  go_wp2_with fail
  go_step3
  go_wp2_with fail
  go_step3
  go_wp2_with fail
  go_loopw [3, 9] (fun v3 i wr => ∃ (k : Nat) (st : List (List PM.Te)), i = .int .i64 k ∧ k ≤ N ∧ st.length ≤ k ∧ Hid (PM.OR (PM.fO 50 w.heap.size) 1 28 w.heap.size wr v3 st ∧ Below w.heap.size w wr ∧ PM.sv PM.covB st (ls.drop k) = PM.redL ls)) (fun _ i _ => N - (intOf i).toNat)
  case atStart => exact ⟨0, [], rfl, by omega, by simp, PM.hid ⟨PM.OR.nilrow _, Below.refl _ _, by simp [PM.redL]⟩⟩
  case round =>
    obtain ⟨k, st, rfl, hk, hstk, hin⟩ := hrel
    obtain ⟨wo, rfl⟩ : ∃ wo : World, wo = wr := ⟨_, rfl⟩
    by_cases hlt : k < N
    · obtain ⟨x, hx⟩ : ∃ x, ls[k]? = some x := ⟨ls[k]'(by rw [← hNh.out]; exact hlt), List.getElem?_eq_getElem _⟩
      obtain ⟨b, off, rfl, hce⟩ := PM.RR.opn hvh.out (by rw [← hNh.out]; omega)
      obtain ⟨xv, hc, hxv⟩ := PM.fR_cell (hce k x hx)
      obtain ⟨xa, xc, rfl⟩ := hxv.len
      obtain ⟨X, hX⟩ : ∃ X, X = x.length := ⟨_, rfl⟩
      have hXh := PM.hid hX
      rw [← hX] at hc hxv
      clear hX
      have c0 := PM.cell_keepK hin.out.2.1 hc
      have hxh := PM.hid (And.intro hx (hxv.keep hin.out.2.1))
      obtain ⟨sa, sc, rfl⟩ := hin.out.1.rr.len
      clear hx hce hc hxv
      go_upto_region 5 with fail
      obtain ⟨g5, hg5⟩ : ∃ g, g = wo.heap.size := ⟨_, rfl⟩
      obtain ⟨w5, hw5⟩ : ∃ W, W = wo.alloc (.cells #[.slice xa X xc] 28) := ⟨_, rfl⟩
      have hal : Below wo.heap.size wo w5 := by rw [hw5]; exact (Below.refl _ _).alloc (Nat.le_refl _) _
      have kg5 : PM.BK w5 g5 #[.slice xa X xc] 28 := by rw [hw5, hg5]; exact PM.BK.new _ _ _
      rw [← hw5, ← hg5]
      clear hw5 hg5
      have hB5 := PM.hid (PM.chain hin.out.2.1 hal)
      have hO5 := PM.hid (PM.OR.keep PM.fO_lasts hal hin.out.1)
      have hx5 := PM.hid (hxh.out.2.keep hal)
      have hk5 := PM.hid kg5
      have hst := PM.hid hstk
      obtain ⟨M, hM⟩ : ∃ M, M = st.length := ⟨_, rfl⟩
      have hMh := PM.hid hM
      rw [← hM] at hO5 hstk ⊢
      clear hal c0 kg5 hM
      go_wp2_with fail
      refine (someC_any _ st _ x g5 w5 (hO5.out.rr.imp fun _ _ h => PM.fO_fR h) hk5.out hx5.out).mono ?_
      rintro e w6 ⟨rfl, hB6⟩
      have hB6h := PM.hid (PM.chain hB5.out hB6)
      have hO6 := PM.hid (PM.OR.keep PM.fO_lasts hB6 hO5.out)
      have hx6 := PM.hid (hx5.out.keep hB6)
      have hk6 := PM.hid (hk5.out.keep hB6)
      clear hB6 hB5 hO5 hx5 hk5
      cases hA : st.any fun y => PM.covB y x
      case true =>
        have hAh := PM.hid hA
        clear hA
        go_wp2_with fail
        refine ⟨⟨k + 1, st, by go_num, by omega, by have := hst.out; omega, PM.hid ⟨hO6.out, hB6h.out, ?_⟩⟩, by simp only [intOf]; omega⟩
        rw [← hin.out.2.2, PM.drop_atK hxh.out.1]
        exact (PM.sv_out (Or.inl hAh.out)).symm
      have hAh := PM.hid hA
      clear hA
      obtain ⟨ra, rc, hrun, hrs⟩ := PM.RR.rest flTy (hvh.out.keep hB6h.out) (K := k + 1) (by rw [← hNh.out]; omega)
      obtain ⟨J, hjd⟩ : ∃ J, J = N - (k + 1) := ⟨_, rfl⟩
      rw [← hNh.out, ← hjd] at hrun hrs
      replace hrun : ∀ W : World, (Instr.slice 40 (.slice (some ⟨b, off, none⟩) N cap) (some (.int .i64 ((k : Int) + 1))) none none).run Tryz.prog W = .ok (.slice ra J rc) W := hrun
      have hrsh := PM.hid hrs
      clear hrs hjd
      go_wp2_with fail
      refine (someC_any _ (ls.drop (k + 1)) _ x g5 w6 hrsh.out hk6.out hx6.out).mono ?_
      rintro e w7 ⟨rfl, hB7⟩
      have hB7h := PM.hid (PM.chain hB6h.out hB7)
      have hO7 := PM.hid (PM.OR.keep PM.fO_lasts hB7 hO6.out)
      have hx7 := PM.hid (hx6.out.keep hB7)
      have c0 : w7.cell? ⟨g5, 0, none⟩ = some (.slice xa X xc) := (hk6.out.keep hB7).cell 0
      clear hB7 hB6h hO6 hx6 hk6 hrun hrsh
      cases hA2 : (ls.drop (k + 1)).any fun y => PM.covB y x
      case true =>
        have hAh2 := PM.hid hA2
        clear hA2 c0
        go_wp2_with fail
        refine ⟨⟨k + 1, st, by go_num, by omega, by have := hst.out; omega, PM.hid ⟨hO7.out, hB7h.out, ?_⟩⟩, by simp only [intOf]; omega⟩
        rw [← hin.out.2.2, PM.drop_atK hxh.out.1]
        exact (PM.sv_out (Or.inr hAh2.out)).symm
      have hAh2 := PM.hid hA2
      clear hA2
      go_wp2_with fail
      refine (ownFK_any _ x w7 hx7.out (hsh.out x (List.mem_of_getElem? hxh.out.1))).mono ?_
      rintro e w8 ⟨u, rfl, hu, hB8⟩
      have hu8 := hu.mono (B' := w.heap.size) hB7h.out.size
      obtain ⟨ua, uc, rfl⟩ := (hu.em PM.teL_len).len
      have hO8 := PM.OR.keep PM.fO_lasts hB8 hO7.out
      have hB8h := PM.hid (PM.chain hB7h.out hB8)
      have hst' := hst.out
      have hl16 : (st.length + 1) * 24 ≤ 140737488355328 := by omega
      have hl17 : st.length + 1 ≤ maxLen := by unfold maxLen; omega
      have hsz := hB8h.out.size
      have hRy : PM.fO 50 w.heap.size w8 [.slice ua x.length uc] x := ⟨_, rfl, hu8⟩
      clear hu hu8 hB8 hst' hB7h hO7 hx7 c0
      go_wp2_with (first
        | (at_builtin; go_loud (refine PM.wpList_or1 flTy (PM.fO_stays (by decide)) PM.fO_lasts w.heap.size w8 rfl _ _ rfl _ st x (PM.ce1 (.slice ua x.length uc) rfl) _ rfl rfl rfl rfl hRy hO8 hl16 hl17 hsz ?_); intro v' w' t1 t2 t3; have hE := PM.hid (And.intro t1 (hB8h.out.trans t2)); clear t1 t2 t3 hO8 hRy hsz))
      refine ⟨⟨k + 1, st ++ [x], by go_num, by omega, by have := hst.out; simp; omega, PM.hid ⟨hE.out.1, hE.out.2, ?_⟩⟩, by simp only [intOf]; omega⟩
      rw [← hin.out.2.2, PM.drop_atK hxh.out.1]
      exact (PM.sv_in hAh.out hAh2.out).symm
    · obtain rfl : k = N := by omega
      have he : Hid (st = PM.redL ls) := PM.hid (by
        have := hin.out.2.2
        rw [hNh.out, List.drop_length] at this
        exact this)
      go_wp2_with fail
      rw [Exit.noGoto_ret]
      go_ret
      exact ⟨_, rfl, by rw [← he.out]; exact hin.out.1, hin.out.2.1⟩
end Go.Proofs.YtnpbfjkfbobgaaaGreat
