/-
  CALLS OF LAYER 17 THAT COME IN; CONTRACTS of postilionlaw17.small, next. (Written by tools/mk_xm.py.)
-/
import Derived.Test.YtnjcociidipogaaYg
import Derived.Test.YtnjcociidipogaaJT
import Derived.Test.YtnjcociidipogaaWt
import Derived.Test.YtnjcociidipogaaWd
namespace Go.Proofs.Ytnjcociidipogaa
open Go.RowKit
set_option linter.unusedVariables false
set_option linter.unusedSimpArgs false
namespace PM
/-- a call -/
structure Cl where
  kind : Int
  id : Id
  client : Int
  e : List At
  x : En
def Cl.wf (c : Cl) : Prop := (Lit.int .i64 c.kind).wf = true ∧ c.id.wf ∧ (Lit.int .i64 c.client).wf = true ∧ (∀ y ∈ c.e, y.wf) ∧ c.x.wf
def clC (c : Cl) (ev fv xv : Value) : List Value := [.int .i64 c.kind] ++ idL c.id ++ [.int .i64 c.client, ev] ++ enC c.x fv xv
def clR (w : World) (cs : List Value) (c : Cl) : Prop := ∃ ev fv xv, cs = clC c ev fv xv ∧ EV w ev c.e ∧ TV w fv c.x.fil ∧ EVL w xv c.x.evs
theorem clR_lasts : Lasts clR := fun W w cs x hb ⟨ev, fv, xv, h1, h2, h3, h4⟩ => ⟨ev, fv, xv, h1, h2.keep hb, h3.keep hb, h4.keep hb⟩
abbrev ClL (w : World) (v : Value) (l : List Cl) : Prop := RR clR 14 w v l
def FewC (c : Cl) : Prop := Few c.e ∧ FewEn c.x
def clCe (c : Cl) (a : Option Addr) (n d : Nat) (a1 : Option Addr) (n1 d1 : Nat) (a2 : Option Addr) (n2 d2 : Nat) : Ce 14 := ⟨clC c (.slice a n d) (.slice a1 n1 d1) (.slice a2 n2 d2), rfl, by
  intro u hu
  simp only [clC, enC, idL, List.cons_append, List.nil_append, List.mem_cons, List.not_mem_nil, or_false] at hu
  rcases hu with rfl | rfl | rfl | rfl | rfl | rfl | rfl | rfl | rfl | rfl | rfl | rfl | rfl | rfl <;> rfl⟩
section
variable {H : Type} {enc : TypeId × Value → H} {P : Program} {w : World} {base : Nat} {held : Bool}
theorem cl_trod {e : TypeId} {f0 f1 f2 f3 f4 : Field} (he : P.underlying e = some (.struct #[f0, f1, f2, f3, f4])) (ce : P.cellsOf e = 14)
    (o0 : f0.offset = 0) (o1 : f1.offset = 1) (o2 : f2.offset = 4) (o3 : f3.offset = 5) (o4 : f4.offset = 6) (c0 : P.cellsOf f0.type = 1) (c1 : P.cellsOf f1.type = 3) (c2 : P.cellsOf f2.type = 1) (c3 : P.cellsOf f3.type = 1) (c4 : P.cellsOf f4.type = 8)
    (t0 : P.underlying f0.type = some (.int .i64)) (t2 : P.underlying f2.type = some (.int .i64))
    (ri : ∀ n cs x, DataW.trod enc P w base (fun _ => true) held n f1.type cs = some x → ∃ y, Id.wf y ∧ cs = idL y)
    (rv : ∀ n V x, DataW.trod enc P w base (fun _ => true) held n f3.type [V] = some x → ∃ es, EV w V es ∧ ∀ y ∈ es, At.wf y)
    (re : ∀ n cs x, DataW.trod enc P w base (fun _ => true) held n f4.type cs = some x → ∃ y fv ev, En.wf y ∧ cs = enC y fv ev ∧ TV w fv y.fil ∧ EVL w ev y.evs) :
    ∀ n cs x, DataW.trod enc P w base (fun _ => true) held n e cs = some x → ∃ y ev fv xv, Cl.wf y ∧ cs = clC y ev fv xv ∧ EV w ev y.e ∧ TV w fv y.x.fil ∧ EVL w xv y.x.evs := by
  intro n cs x h
  obtain ⟨xs, k, hk, hxy, hlen, hxl, hf⟩ := DataW.trod_struct he h
  rw [ce] at hlen
  match xs, hxl, cs, hlen with
  | [y0, y1, y2, y3, y4], _, [v0, v1, v2, v3, v4, v5, v6, v7, v8, v9, v10, v11, v12, v13], _ =>
    have q0 := hf 0 f0 rfl
    have q1 := hf 1 f1 rfl
    have q2 := hf 2 f2 rfl
    have q3 := hf 3 f3 rfl
    have q4 := hf 4 f4 rfl
    simp [o0, o1, o2, o3, o4, c0, c1, c2, c3, c4] at q0 q1 q2 q3 q4
    obtain ⟨k0, n0, _, w0⟩ := DataW.trod_int t0 q0
    obtain ⟨k2, n2, _, w2⟩ := DataW.trod_int t2 q2
    obtain ⟨i, wi, hi⟩ := ri _ _ _ q1
    obtain ⟨es, hes, wes⟩ := rv _ _ _ q3
    obtain ⟨y, fv, xv, wy, hy, hl, hx⟩ := re _ _ _ q4
    refine ⟨⟨k0, i, k2, es, y⟩, v5, fv, xv, ⟨w0, wi, w2, wes, wy⟩, ?_, hes, hl, hx⟩
    have e0 : [v0] = [_] := n0
    have e2 : [v4] = [_] := n2
    simp only [List.cons.injEq, and_true] at e0 e2
    subst e0 e2
    show _ = [_] ++ idL i ++ [_, v5] ++ enC y fv xv
    rw [← hy, ← hi]
    rfl
end
/-- the list behind a call -/
noncomputable def nextT (l : List Tx) (c : Cl) : List Tx × Int :=
  if c.kind = 1 then begT l c.id c.client else if c.kind = 2 then pubT c.id l c.e else if c.kind = 3 then cmtT c.id l else if c.kind = 4 then abtT c.id l else if c.kind = 5 then addT l c.x true else if c.kind = 6 then (setT c.id l, 0) else (l, 0)
/-- few transactions, of little loads -/
def Gw (l : List Tx) : Prop := l.length ≤ 8 ∧ ∀ x ∈ l, EnS x.en ∧ x.en.wf
theorem Gw.txs {l : List Tx} (h : Gw l) : TxsS l := ⟨by have := h.1; omega, h.2⟩
theorem addE_len {l : List Tx} {z : En} (h : addE l z = 0) : l.length < 8 ∧ posT z.id l < 0 ∧ enE z = 0 ∧ smlT z = true := by
  unfold addE at h
  by_cases h1 : ¬ posT z.id l < 0
  · rw [if_pos h1] at h; exact absurd h (by decide)
  rw [if_neg h1] at h
  by_cases h2 : ¬ enE z = 0
  · rw [if_pos h2] at h; exact absurd h h2
  rw [if_neg h2] at h
  by_cases h3 : ¬ l.length < 8
  · rw [if_pos h3] at h; exact absurd h (by decide)
  rw [if_neg h3] at h
  by_cases h4 : ¬ smlT z = true
  · rw [if_pos h4] at h; exact absurd h (by decide)
  exact ⟨Classical.not_not.1 h3, Classical.not_not.1 h1, Classical.not_not.1 h2, Classical.not_not.1 h4⟩
theorem Gw.add {l : List Tx} (h : Gw l) {z : En} (q : Bool) (hz : EnS z) (hw : z.wf) : Gw (addT l z q).1 := by
  unfold addT
  split
  · rename_i hc
    have := (addE_len hc).1
    refine ⟨by simp only [List.length_append, List.length_singleton]; omega, fun x hx => ?_⟩
    rcases List.mem_append.1 hx with hx | hx
    · exact h.2 x hx
    · simp at hx; subst hx; exact ⟨hz, hw⟩
  · exact h
theorem rem_mem {k : Nat} {l : List Tx} {x : Tx} (h : x ∈ remT k l) : x ∈ l := by
  rcases List.mem_append.1 h with h | h
  · exact List.mem_of_mem_take h
  · exact List.mem_of_mem_drop h
theorem rem_len (k : Nat) (l : List Tx) : (remT k l).length ≤ l.length := by
  unfold remT
  rw [List.length_append, List.length_take, List.length_drop]
  omega
theorem Gw.set {l : List Tx} (h : Gw l) (i : Id) : Gw (setT i l) := by
  unfold setT
  split
  · exact h
  · exact ⟨Nat.le_trans (rem_len _ _) h.1, fun x hx => h.2 x (rem_mem hx)⟩
theorem first4_0 {cd : Nat → Int} (h : first4 cd = 0) : cd 0 = 0 ∧ cd 1 = 0 ∧ cd 2 = 0 ∧ cd 3 = 0 := by
  unfold first4 at h
  by_cases h1 : ¬ cd 0 = 0
  · rw [if_pos h1] at h; exact absurd h h1
  rw [if_neg h1] at h
  by_cases h2 : ¬ cd 1 = 0
  · rw [if_pos h2] at h; exact absurd h h2
  rw [if_neg h2] at h
  by_cases h3 : ¬ cd 2 = 0
  · rw [if_pos h3] at h; exact absurd h h3
  rw [if_neg h3] at h
  exact ⟨Classical.not_not.1 h1, Classical.not_not.1 h2, Classical.not_not.1 h3, h⟩
/-- what holds where an event may be laid in -/
theorem pub_ok {i : Id} {l : List Tx} {e : List At} (h : pubE i l e = 0) : ∃ (k : Nat) (x : Tx), openT i l = (k : Int) ∧ l[k]? = some x ∧ x.ask = false ∧ posT i l = (k : Int) ∧ chk e = 0 ∧ x.en.evs.length < 8 ∧ smlT (growE x.en e) = true ∧ pubT i l e = (l.set k ⟨growE x.en e, x.ask⟩, 0) := by
  obtain ⟨h0, h1, h2, h3⟩ := first4_0 h
  rcases openT_cases i l with ho | ⟨k, x, ho, hx, hq, hp⟩
  · rw [ho] at h0
    exact absurd h0 (by simp [pubCd, unls])
  · rw [ho] at h2 h3
    have e2 : pubCd l (k : Int) e 2 = unls (decide (x.en.evs.length < 8)) 171 := by unfold pubCd; simp [hx]
    have e3 : pubCd l (k : Int) e 3 = unls (smlT (growE x.en e)) 172 := by unfold pubCd; simp [hx]
    rw [e2] at h2
    rw [e3] at h3
    refine ⟨k, x, ho, hx, hq, hp, h1, ?_, ?_, ?_⟩
    · unfold unls at h2
      split at h2
      · rename_i hd; simpa using hd
      · exact absurd h2 (by decide)
    · unfold unls at h3
      split at h3
      · assumption
      · exact absurd h3 (by decide)
    · unfold pubT
      rw [if_pos h, ho]
      simp [hx]
theorem Gw.pub {l : List Tx} (h : Gw l) (i : Id) {e : List At} (he : e.length ≤ 1000) (hw : ∀ y ∈ e, y.wf) : Gw (pubT i l e).1 := by
  by_cases hc : pubE i l e = 0
  · obtain ⟨k, x, ho, hx, hq, hp, h1, h2, h3, h4⟩ := pub_ok hc
    rw [h4]
    have hxx := h.2 x (List.mem_of_getElem? hx)
    refine ⟨by rw [List.length_set]; exact h.1, fun y hy => ?_⟩
    rcases List.mem_or_eq_of_mem_set hy with hy | rfl
    · exact h.2 y hy
    · refine ⟨⟨hxx.1.1, by show (x.en.evs ++ [e]).length ≤ 1000; rw [List.length_append, List.length_singleton]; omega, fun d hd => ?_⟩, growE_wf hxx.2 hw⟩
      rcases List.mem_append.1 hd with hd | hd
      · exact hxx.1.2.2 d hd
      · simp at hd; subst hd; exact he
  · unfold pubT
    rw [if_neg hc]
    exact h
theorem Gw.cmt {l : List Tx} (h : Gw l) (i : Id) : Gw (cmtT i l).1 := by
  rcases openT_cases i l with ho | ⟨k, x, ho, hx, hq, hp⟩
  · unfold cmtT
    rw [ho, if_pos (by decide)]
    exact h
  · unfold cmtT
    rw [ho, if_neg (by omega)]
    simp only [Int.toNat_natCast, hx]
    refine ⟨by rw [List.length_set]; exact h.1, fun y hy => ?_⟩
    rcases List.mem_or_eq_of_mem_set hy with hy | rfl
    · exact h.2 y hy
    · exact h.2 x (List.mem_of_getElem? hx)
theorem Gw.abt {l : List Tx} (h : Gw l) (i : Id) : Gw (abtT i l).1 := by
  unfold abtT
  split
  · exact h
  · exact h.set i
theorem Gw.next {l : List Tx} (h : Gw l) {c : Cl} (hw : c.wf) (hf : FewC c) : Gw (nextT l c).1 := by
  obtain ⟨w1, w2, w3, w4, w5⟩ := hw
  unfold nextT
  split
  · exact h.add false ⟨by simp, by simp, by simp⟩ ⟨show (Lit.int .i64 1).wf = true from by decide, w2, w3, show (0 : Nat) < 2 ^ 64 from by decide, by simp, by simp⟩
  split
  · exact h.pub c.id (by have := hf.1.1; omega) w4
  split
  · exact h.cmt c.id
  split
  · exact h.abt c.id
  split
  · exact h.add true hf.2.enS w5
  split
  · exact h.set c.id
  · exact h
end PM
section
variable {H : Type} {enc : TypeId × Value → H} {w : World} {base : Nat} {held : Bool}
theorem ev_open : ∀ n V x, DataW.trod enc Try.prog w base (fun _ => true) held n 29 [V] = some x → ∃ es, PM.EV w V es ∧ ∀ y ∈ es, PM.At.wf y := fun n V x h =>
  PM.EV.of_trod Try.underlying29 Try.underlying64 Try.underlying61 (by kernel_rfl) rfl rfl (by kernel_rfl) (by kernel_rfl) rfl rfl rfl (by kernel_rfl) (by kernel_rfl) (by kernel_rfl) Try.underlying9 Try.underlying3 Try.underlying2 Try.underlying9 h
theorem cl_open : ∀ n cs x, DataW.trod enc Try.prog w base (fun _ => true) held n 36 cs = some x → ∃ y ev fv xv, PM.Cl.wf y ∧ cs = PM.clC y ev fv xv ∧ PM.EV w ev y.e ∧ PM.TV w fv y.x.fil ∧ PM.EVL w xv y.x.evs :=
  PM.cl_trod Try.underlying36 (by kernel_rfl) rfl rfl rfl rfl rfl (by kernel_rfl) (by kernel_rfl) (by kernel_rfl) (by kernel_rfl) (by kernel_rfl) Try.underlying3 Try.underlying3 id_open ev_open en_open
theorem cls_open : ∀ n V x, DataW.trod enc Try.prog w base (fun _ => true) held n 23 [V] = some x → ∃ l, PM.ClL w V l ∧ ∀ y ∈ l, PM.Cl.wf y := fun n V x h =>
  PM.RR.of_trodc (R := PM.clR) (Pw := PM.Cl.wf) (PM.clCe ⟨0, ⟨0, 0, 0⟩, 0, [], ⟨0, ⟨0, 0, 0⟩, 0, 0, [], []⟩⟩ none 0 0 none 0 0 none 0 0) Try.underlying23 (by kernel_rfl) (by decide) (fun n cs x h => by
    obtain ⟨y, ev, fv, xv, hw, hcs, h1, h2, h3⟩ := cl_open n cs x h
    obtain ⟨va, vc, rfl⟩ := h1.em.len
    obtain ⟨fa, fc, rfl⟩ := h2.len
    obtain ⟨ea, ec, rfl⟩ := h3.len
    refine ⟨by rw [hcs]; rfl, ?_, y, hw, _, _, _, hcs, h1, h2, h3⟩
    rw [hcs]
    exact (PM.clCe y va y.e.length vc fa y.x.fil.length fc ea y.x.evs.length ec).2.2) h
end
set_option maxRecDepth 100000 in
set_option maxHeartbeats 4000000 in
theorem small17l_any (kd : Int) (i : PM.Id) (cl : Int) (xa : Option Addr) (xn xc : Nat) (e : List PM.At) (z : PM.En) (fa : Option Addr) (zF fc : Nat) (ea : Option Addr) (zE ec : Nat) (w : World) (hev : PM.EV w (.slice xa xn xc) e) (hzF : zF = z.fil.length) (hzE : zE = z.evs.length) (hf : PM.TV w (.slice fa zF fc) z.fil) (he : PM.EVL w (.slice ea zE ec) z.evs) :
    Calls Try.prog 9 #[.agg #[.int .i64 kd, .int .i64 i.br, .int .u64 (i.life : Int), .int .u64 (i.ser : Int), .int .i64 cl, .slice xa xn xc, .int .i64 z.kind, .int .i64 z.id.br, .int .u64 (z.id.life : Int), .int .u64 (z.id.ser : Int), .int .i64 z.client, .int .u64 (z.sub : Int), .slice fa zF fc, .slice ea zE ec]] w fun d w' => (d = .returned (.bool true) ∧ PM.FewC ⟨kd, i, cl, e, z⟩ ∨ d = .returned (.bool false)) ∧ Below w.heap.size w w' := by
  obtain ⟨g, hg⟩ : ∃ g, g = w.heap.size := ⟨_, rfl⟩
  obtain ⟨w1, hw1⟩ : ∃ W, W = w.alloc (.cells #[.int .i64 kd, .int .i64 i.br, .int .u64 (i.life : Int), .int .u64 (i.ser : Int), .int .i64 cl, .slice xa xn xc, .int .i64 z.kind, .int .i64 z.id.br, .int .u64 (z.id.life : Int), .int .u64 (z.id.ser : Int), .int .i64 z.client, .int .u64 (z.sub : Int), .slice fa zF fc, .slice ea zE ec] 36) := ⟨_, rfl⟩
  have hbw1 : Below w.heap.size w w1 := by rw [hw1]; exact (Below.refl _ _).alloc (Nat.le_refl _) _
  have k1 : PM.BK w1 g #[.int .i64 kd, .int .i64 i.br, .int .u64 (i.life : Int), .int .u64 (i.ser : Int), .int .i64 cl, .slice xa xn xc, .int .i64 z.kind, .int .i64 z.id.br, .int .u64 (z.id.life : Int), .int .u64 (z.id.ser : Int), .int .i64 z.client, .int .u64 (z.sub : Int), .slice fa zF fc, .slice ea zE ec] 36 := by rw [hw1, hg]; exact PM.BK.new _ _ _
  have ht := few_any (.slice xa xn xc) e w1 (hev.keep hbw1)
  have hfe := fun (W : World) (hb : Below w.heap.size w W) => few11s_any z (.slice fa zF fc) (.slice ea zE ec) W (hf.keep hb) (PM.EVL.keepO hb he)
  unfold PM.enC at hfe
  have hBB := PM.hid hbw1
  replace hfe := PM.hid hfe
  have x0 : w1.cell? ⟨g, 0, none⟩ = some (.int .i64 kd) := k1.cell 0
  have x1 : w1.cell? ⟨g, 1, none⟩ = some (.int .i64 i.br) := k1.cell 1
  have x2 : w1.cell? ⟨g, 2, none⟩ = some (.int .u64 (i.life : Int)) := k1.cell 2
  have x3 : w1.cell? ⟨g, 3, none⟩ = some (.int .u64 (i.ser : Int)) := k1.cell 3
  have x4 : w1.cell? ⟨g, 4, none⟩ = some (.int .i64 cl) := k1.cell 4
  have x5 : w1.cell? ⟨g, 5, none⟩ = some (.slice xa xn xc) := k1.cell 5
  have x6 : w1.cell? ⟨g, 6, none⟩ = some (.int .i64 z.kind) := k1.cell 6
  have x7 : w1.cell? ⟨g, 7, none⟩ = some (.int .i64 z.id.br) := k1.cell 7
  have x8 : w1.cell? ⟨g, 8, none⟩ = some (.int .u64 (z.id.life : Int)) := k1.cell 8
  have x9 : w1.cell? ⟨g, 9, none⟩ = some (.int .u64 (z.id.ser : Int)) := k1.cell 9
  have x10 : w1.cell? ⟨g, 10, none⟩ = some (.int .i64 z.client) := k1.cell 10
  have x11 : w1.cell? ⟨g, 11, none⟩ = some (.int .u64 (z.sub : Int)) := k1.cell 11
  have x12 : w1.cell? ⟨g, 12, none⟩ = some (.slice fa zF fc) := k1.cell 12
  have x13 : w1.cell? ⟨g, 13, none⟩ = some (.slice ea zE ec) := k1.cell 13
  clear hev hzF hzE hf he hbw1
  go_enter Try.func9, Try.ntmps9
  go_upto_region 1 with fail
  rw [← hw1, ← hg]
  clear hw1 hg
  go_wp2_with fail
  refine ht.mono ?_
  rintro d w2 ⟨hh, rfl⟩
  have ht2 := hfe.out w2 hBB.out
  clear ht hfe
  rcases hh with ⟨rfl, h4⟩ | ⟨rfl, -⟩
  all_goals
    go_wp2_with fail
    refine ht2.mono ?_
    rintro d w3 ⟨hh2, hb3⟩
    have hB3 := PM.hid (PM.chain hBB.out hb3)
    clear ht2 hb3 k1 x0 x1 x2 x3 x4 x5 x6 x7 x8 x9 x10 x11 x12 x13
    rcases hh2 with ⟨rfl, h11⟩ | rfl
    all_goals
      go_wp2_with fail
      go_ret
      first | exact ⟨.inl ⟨rfl, h4, h11⟩, hB3.out⟩ | exact ⟨.inr rfl, hB3.out⟩
set_option maxRecDepth 100000 in
set_option maxHeartbeats 8000000 in
theorem next_any (la : Option Addr) (ln lc : Nat) (kd : Int) (i : PM.Id) (cl : Int) (xa : Option Addr) (xn xc : Nat) (e : List PM.At) (z : PM.En) (fa : Option Addr) (zF fc : Nat) (ea : Option Addr) (zE ec : Nat) (l : List PM.Tx) (w : World) (hv : PM.TxL w (.slice la ln lc) l) (hg0 : PM.Gw l) (hwf : (⟨kd, i, cl, e, z⟩ : PM.Cl).wf) (hfw : PM.FewC ⟨kd, i, cl, e, z⟩) (hev : PM.EV w (.slice xa xn xc) e) (hzF : zF = z.fil.length) (hzE : zE = z.evs.length) (hf : PM.TV w (.slice fa zF fc) z.fil) (he : PM.EVL w (.slice ea zE ec) z.evs) :
    Calls Try.prog 11 #[.slice la ln lc, .agg #[.int .i64 kd, .int .i64 i.br, .int .u64 (i.life : Int), .int .u64 (i.ser : Int), .int .i64 cl, .slice xa xn xc, .int .i64 z.kind, .int .i64 z.id.br, .int .u64 (z.id.life : Int), .int .u64 (z.id.ser : Int), .int .i64 z.client, .int .u64 (z.sub : Int), .slice fa zF fc, .slice ea zE ec]] w fun d w' => ∃ u, d = .returned (.tuple #[u, .int .i64 (PM.nextT l ⟨kd, i, cl, e, z⟩).2]) ∧ PM.TxL w' u (PM.nextT l ⟨kd, i, cl, e, z⟩).1 ∧ Below w.heap.size w w' := by
  obtain ⟨g, hg⟩ : ∃ g, g = w.heap.size := ⟨_, rfl⟩
  obtain ⟨w1, hw1⟩ : ∃ W, W = w.alloc (.cells #[.int .i64 kd, .int .i64 i.br, .int .u64 (i.life : Int), .int .u64 (i.ser : Int), .int .i64 cl, .slice xa xn xc, .int .i64 z.kind, .int .i64 z.id.br, .int .u64 (z.id.life : Int), .int .u64 (z.id.ser : Int), .int .i64 z.client, .int .u64 (z.sub : Int), .slice fa zF fc, .slice ea zE ec] 36) := ⟨_, rfl⟩
  have hbw1 : Below w.heap.size w w1 := by rw [hw1]; exact (Below.refl _ _).alloc (Nat.le_refl _) _
  have k1 : PM.BK w1 g #[.int .i64 kd, .int .i64 i.br, .int .u64 (i.life : Int), .int .u64 (i.ser : Int), .int .i64 cl, .slice xa xn xc, .int .i64 z.kind, .int .i64 z.id.br, .int .u64 (z.id.life : Int), .int .u64 (z.id.ser : Int), .int .i64 z.client, .int .u64 (z.sub : Int), .slice fa zF fc, .slice ea zE ec] 36 := by rw [hw1, hg]; exact PM.BK.new _ _ _
  have hv1 := PM.TxL.keep hbw1 hv
  unfold PM.nextT
  simp only
  by_cases h1 : kd = 1
  case pos =>
    subst h1
    rw [if_pos rfl]
    have ht := begin_any la ln lc i cl l w1 hv1 hg0.txs hwf.2.1 hwf.2.2.1
    obtain ⟨R, hR⟩ : ∃ R, R = PM.begT l i cl := ⟨_, rfl⟩
    rw [← hR] at ht ⊢
    have x0 : w1.cell? ⟨g, 0, none⟩ = some (.int .i64 1) := k1.cell 0
    have x1 : w1.cell? ⟨g, 1, none⟩ = some (.int .i64 i.br) := k1.cell 1
    have x2 : w1.cell? ⟨g, 2, none⟩ = some (.int .u64 (i.life : Int)) := k1.cell 2
    have x3 : w1.cell? ⟨g, 3, none⟩ = some (.int .u64 (i.ser : Int)) := k1.cell 3
    have x4 : w1.cell? ⟨g, 4, none⟩ = some (.int .i64 cl) := k1.cell 4
    have x5 : w1.cell? ⟨g, 5, none⟩ = some (.slice xa xn xc) := k1.cell 5
    have x6 : w1.cell? ⟨g, 6, none⟩ = some (.int .i64 z.kind) := k1.cell 6
    have x7 : w1.cell? ⟨g, 7, none⟩ = some (.int .i64 z.id.br) := k1.cell 7
    have x8 : w1.cell? ⟨g, 8, none⟩ = some (.int .u64 (z.id.life : Int)) := k1.cell 8
    have x9 : w1.cell? ⟨g, 9, none⟩ = some (.int .u64 (z.id.ser : Int)) := k1.cell 9
    have x10 : w1.cell? ⟨g, 10, none⟩ = some (.int .i64 z.client) := k1.cell 10
    have x11 : w1.cell? ⟨g, 11, none⟩ = some (.int .u64 (z.sub : Int)) := k1.cell 11
    have x12 : w1.cell? ⟨g, 12, none⟩ = some (.slice fa zF fc) := k1.cell 12
    have x13 : w1.cell? ⟨g, 13, none⟩ = some (.slice ea zE ec) := k1.cell 13
    have hBB := PM.hid hbw1
    obtain ⟨ib, il, ir⟩ := i
    simp only at ht x1 x2 x3
    clear hv hv1 hg0 hwf hfw hev hzF hzE hf he k1 hbw1 hR 
    go_enter Try.func11, Try.ntmps11
    go_upto_region 1 with fail
    rw [← hw1, ← hg]
    clear hw1 hg
    go_wp2_with fail
    refine ht.mono ?_
    clear ht x0 x1 x2 x3 x4 x5 x6 x7 x8 x9 x10 x11 x12 x13
    rintro d w2 ⟨u, rfl, hu, hb⟩
    have hend := PM.hid (And.intro hu.txl (PM.chain hBB.out hb))
    clear hu hb
    go_wp2_with fail
    go_ret2
    exact ⟨_, rfl, hend.out.1, hend.out.2⟩
  by_cases h2 : kd = 2
  case pos =>
    subst h2
    rw [if_neg (by decide)]
    rw [if_pos rfl]
    have ht := publish_any la ln lc i xa xn xc e l w1 hv1 hg0.txs (hev.keep hbw1).em (by have h9 : e.length ≤ 20 := hfw.1.1; omega) hwf.2.2.2.1
    obtain ⟨R, hR⟩ : ∃ R, R = PM.pubT i l e := ⟨_, rfl⟩
    rw [← hR] at ht ⊢
    have x0 : w1.cell? ⟨g, 0, none⟩ = some (.int .i64 2) := k1.cell 0
    have x1 : w1.cell? ⟨g, 1, none⟩ = some (.int .i64 i.br) := k1.cell 1
    have x2 : w1.cell? ⟨g, 2, none⟩ = some (.int .u64 (i.life : Int)) := k1.cell 2
    have x3 : w1.cell? ⟨g, 3, none⟩ = some (.int .u64 (i.ser : Int)) := k1.cell 3
    have x4 : w1.cell? ⟨g, 4, none⟩ = some (.int .i64 cl) := k1.cell 4
    have x5 : w1.cell? ⟨g, 5, none⟩ = some (.slice xa xn xc) := k1.cell 5
    have x6 : w1.cell? ⟨g, 6, none⟩ = some (.int .i64 z.kind) := k1.cell 6
    have x7 : w1.cell? ⟨g, 7, none⟩ = some (.int .i64 z.id.br) := k1.cell 7
    have x8 : w1.cell? ⟨g, 8, none⟩ = some (.int .u64 (z.id.life : Int)) := k1.cell 8
    have x9 : w1.cell? ⟨g, 9, none⟩ = some (.int .u64 (z.id.ser : Int)) := k1.cell 9
    have x10 : w1.cell? ⟨g, 10, none⟩ = some (.int .i64 z.client) := k1.cell 10
    have x11 : w1.cell? ⟨g, 11, none⟩ = some (.int .u64 (z.sub : Int)) := k1.cell 11
    have x12 : w1.cell? ⟨g, 12, none⟩ = some (.slice fa zF fc) := k1.cell 12
    have x13 : w1.cell? ⟨g, 13, none⟩ = some (.slice ea zE ec) := k1.cell 13
    have hBB := PM.hid hbw1
    obtain ⟨ib, il, ir⟩ := i
    simp only at ht x1 x2 x3
    clear hv hv1 hg0 hwf hfw hev hzF hzE hf he k1 hbw1 hR h1
    go_enter Try.func11, Try.ntmps11
    go_upto_region 1 with fail
    rw [← hw1, ← hg]
    clear hw1 hg
    go_wp2_with fail
    refine ht.mono ?_
    clear ht x0 x1 x2 x3 x4 x5 x6 x7 x8 x9 x10 x11 x12 x13
    rintro d w2 ⟨u, rfl, hu, hb⟩
    have hend := PM.hid (And.intro hu.txl (PM.chain hBB.out hb))
    clear hu hb
    go_wp2_with fail
    go_ret2
    exact ⟨_, rfl, hend.out.1, hend.out.2⟩
  by_cases h3 : kd = 3
  case pos =>
    subst h3
    rw [if_neg (by decide)]
    rw [if_neg (by decide)]
    rw [if_pos rfl]
    have ht := commit_any la ln lc i l w1 hv1 hg0.txs
    obtain ⟨R, hR⟩ : ∃ R, R = PM.cmtT i l := ⟨_, rfl⟩
    rw [← hR] at ht ⊢
    have x0 : w1.cell? ⟨g, 0, none⟩ = some (.int .i64 3) := k1.cell 0
    have x1 : w1.cell? ⟨g, 1, none⟩ = some (.int .i64 i.br) := k1.cell 1
    have x2 : w1.cell? ⟨g, 2, none⟩ = some (.int .u64 (i.life : Int)) := k1.cell 2
    have x3 : w1.cell? ⟨g, 3, none⟩ = some (.int .u64 (i.ser : Int)) := k1.cell 3
    have x4 : w1.cell? ⟨g, 4, none⟩ = some (.int .i64 cl) := k1.cell 4
    have x5 : w1.cell? ⟨g, 5, none⟩ = some (.slice xa xn xc) := k1.cell 5
    have x6 : w1.cell? ⟨g, 6, none⟩ = some (.int .i64 z.kind) := k1.cell 6
    have x7 : w1.cell? ⟨g, 7, none⟩ = some (.int .i64 z.id.br) := k1.cell 7
    have x8 : w1.cell? ⟨g, 8, none⟩ = some (.int .u64 (z.id.life : Int)) := k1.cell 8
    have x9 : w1.cell? ⟨g, 9, none⟩ = some (.int .u64 (z.id.ser : Int)) := k1.cell 9
    have x10 : w1.cell? ⟨g, 10, none⟩ = some (.int .i64 z.client) := k1.cell 10
    have x11 : w1.cell? ⟨g, 11, none⟩ = some (.int .u64 (z.sub : Int)) := k1.cell 11
    have x12 : w1.cell? ⟨g, 12, none⟩ = some (.slice fa zF fc) := k1.cell 12
    have x13 : w1.cell? ⟨g, 13, none⟩ = some (.slice ea zE ec) := k1.cell 13
    have hBB := PM.hid hbw1
    obtain ⟨ib, il, ir⟩ := i
    simp only at ht x1 x2 x3
    clear hv hv1 hg0 hwf hfw hev hzF hzE hf he k1 hbw1 hR h1 h2
    go_enter Try.func11, Try.ntmps11
    go_upto_region 1 with fail
    rw [← hw1, ← hg]
    clear hw1 hg
    go_wp2_with fail
    refine ht.mono ?_
    clear ht x0 x1 x2 x3 x4 x5 x6 x7 x8 x9 x10 x11 x12 x13
    rintro d w2 ⟨u, rfl, hu, hb⟩
    have hend := PM.hid (And.intro hu.txl (PM.chain hBB.out hb))
    clear hu hb
    go_wp2_with fail
    go_ret2
    exact ⟨_, rfl, hend.out.1, hend.out.2⟩
  by_cases h4 : kd = 4
  case pos =>
    subst h4
    rw [if_neg (by decide)]
    rw [if_neg (by decide)]
    rw [if_neg (by decide)]
    rw [if_pos rfl]
    have ht := abort17_any la ln lc i l w1 hv1 hg0.txs
    obtain ⟨R, hR⟩ : ∃ R, R = PM.abtT i l := ⟨_, rfl⟩
    rw [← hR] at ht ⊢
    have x0 : w1.cell? ⟨g, 0, none⟩ = some (.int .i64 4) := k1.cell 0
    have x1 : w1.cell? ⟨g, 1, none⟩ = some (.int .i64 i.br) := k1.cell 1
    have x2 : w1.cell? ⟨g, 2, none⟩ = some (.int .u64 (i.life : Int)) := k1.cell 2
    have x3 : w1.cell? ⟨g, 3, none⟩ = some (.int .u64 (i.ser : Int)) := k1.cell 3
    have x4 : w1.cell? ⟨g, 4, none⟩ = some (.int .i64 cl) := k1.cell 4
    have x5 : w1.cell? ⟨g, 5, none⟩ = some (.slice xa xn xc) := k1.cell 5
    have x6 : w1.cell? ⟨g, 6, none⟩ = some (.int .i64 z.kind) := k1.cell 6
    have x7 : w1.cell? ⟨g, 7, none⟩ = some (.int .i64 z.id.br) := k1.cell 7
    have x8 : w1.cell? ⟨g, 8, none⟩ = some (.int .u64 (z.id.life : Int)) := k1.cell 8
    have x9 : w1.cell? ⟨g, 9, none⟩ = some (.int .u64 (z.id.ser : Int)) := k1.cell 9
    have x10 : w1.cell? ⟨g, 10, none⟩ = some (.int .i64 z.client) := k1.cell 10
    have x11 : w1.cell? ⟨g, 11, none⟩ = some (.int .u64 (z.sub : Int)) := k1.cell 11
    have x12 : w1.cell? ⟨g, 12, none⟩ = some (.slice fa zF fc) := k1.cell 12
    have x13 : w1.cell? ⟨g, 13, none⟩ = some (.slice ea zE ec) := k1.cell 13
    have hBB := PM.hid hbw1
    obtain ⟨ib, il, ir⟩ := i
    simp only at ht x1 x2 x3
    clear hv hv1 hg0 hwf hfw hev hzF hzE hf he k1 hbw1 hR h1 h2 h3
    go_enter Try.func11, Try.ntmps11
    go_upto_region 1 with fail
    rw [← hw1, ← hg]
    clear hw1 hg
    go_wp2_with fail
    refine ht.mono ?_
    clear ht x0 x1 x2 x3 x4 x5 x6 x7 x8 x9 x10 x11 x12 x13
    rintro d w2 ⟨u, rfl, hu, hb⟩
    have hend := PM.hid (And.intro hu.txl (PM.chain hBB.out hb))
    clear hu hb
    go_wp2_with fail
    go_ret2
    exact ⟨_, rfl, hend.out.1, hend.out.2⟩
  by_cases h5 : kd = 5
  case pos =>
    subst h5
    rw [if_neg (by decide)]
    rw [if_neg (by decide)]
    rw [if_neg (by decide)]
    rw [if_neg (by decide)]
    rw [if_pos rfl]
    have ht := ask_any la ln lc z fa zF fc ea zE ec l w1 hv1 hg0.txs hwf.2.2.2.2 hzF hzE (hf.keep hbw1) (PM.EVL.keepO hbw1 he) hfw.2.enS
    obtain ⟨R, hR⟩ : ∃ R, R = PM.addT l z true := ⟨_, rfl⟩
    rw [← hR] at ht ⊢
    have x0 : w1.cell? ⟨g, 0, none⟩ = some (.int .i64 5) := k1.cell 0
    have x1 : w1.cell? ⟨g, 1, none⟩ = some (.int .i64 i.br) := k1.cell 1
    have x2 : w1.cell? ⟨g, 2, none⟩ = some (.int .u64 (i.life : Int)) := k1.cell 2
    have x3 : w1.cell? ⟨g, 3, none⟩ = some (.int .u64 (i.ser : Int)) := k1.cell 3
    have x4 : w1.cell? ⟨g, 4, none⟩ = some (.int .i64 cl) := k1.cell 4
    have x5 : w1.cell? ⟨g, 5, none⟩ = some (.slice xa xn xc) := k1.cell 5
    have x6 : w1.cell? ⟨g, 6, none⟩ = some (.int .i64 z.kind) := k1.cell 6
    have x7 : w1.cell? ⟨g, 7, none⟩ = some (.int .i64 z.id.br) := k1.cell 7
    have x8 : w1.cell? ⟨g, 8, none⟩ = some (.int .u64 (z.id.life : Int)) := k1.cell 8
    have x9 : w1.cell? ⟨g, 9, none⟩ = some (.int .u64 (z.id.ser : Int)) := k1.cell 9
    have x10 : w1.cell? ⟨g, 10, none⟩ = some (.int .i64 z.client) := k1.cell 10
    have x11 : w1.cell? ⟨g, 11, none⟩ = some (.int .u64 (z.sub : Int)) := k1.cell 11
    have x12 : w1.cell? ⟨g, 12, none⟩ = some (.slice fa zF fc) := k1.cell 12
    have x13 : w1.cell? ⟨g, 13, none⟩ = some (.slice ea zE ec) := k1.cell 13
    have hBB := PM.hid hbw1
    obtain ⟨ib, il, ir⟩ := i
    simp only at ht x1 x2 x3
    clear hv hv1 hg0 hwf hfw hev hzF hzE hf he k1 hbw1 hR h1 h2 h3 h4
    go_enter Try.func11, Try.ntmps11
    go_upto_region 1 with fail
    rw [← hw1, ← hg]
    clear hw1 hg
    go_wp2_with fail
    refine ht.mono ?_
    clear ht x0 x1 x2 x3 x4 x5 x6 x7 x8 x9 x10 x11 x12 x13
    rintro d w2 ⟨u, rfl, hu, hb⟩
    have hend := PM.hid (And.intro hu.txl (PM.chain hBB.out hb))
    clear hu hb
    go_wp2_with fail
    go_ret2
    exact ⟨_, rfl, hend.out.1, hend.out.2⟩
  by_cases h6 : kd = 6
  case pos =>
    subst h6
    rw [if_neg (by decide)]
    rw [if_neg (by decide)]
    rw [if_neg (by decide)]
    rw [if_neg (by decide)]
    rw [if_neg (by decide)]
    rw [if_pos rfl]
    have ht := settle_any la ln lc i l w1 hv1 hg0.txs
    obtain ⟨R, hR⟩ : ∃ R, R = PM.setT i l := ⟨_, rfl⟩
    rw [← hR] at ht ⊢
    have x0 : w1.cell? ⟨g, 0, none⟩ = some (.int .i64 6) := k1.cell 0
    have x1 : w1.cell? ⟨g, 1, none⟩ = some (.int .i64 i.br) := k1.cell 1
    have x2 : w1.cell? ⟨g, 2, none⟩ = some (.int .u64 (i.life : Int)) := k1.cell 2
    have x3 : w1.cell? ⟨g, 3, none⟩ = some (.int .u64 (i.ser : Int)) := k1.cell 3
    have x4 : w1.cell? ⟨g, 4, none⟩ = some (.int .i64 cl) := k1.cell 4
    have x5 : w1.cell? ⟨g, 5, none⟩ = some (.slice xa xn xc) := k1.cell 5
    have x6 : w1.cell? ⟨g, 6, none⟩ = some (.int .i64 z.kind) := k1.cell 6
    have x7 : w1.cell? ⟨g, 7, none⟩ = some (.int .i64 z.id.br) := k1.cell 7
    have x8 : w1.cell? ⟨g, 8, none⟩ = some (.int .u64 (z.id.life : Int)) := k1.cell 8
    have x9 : w1.cell? ⟨g, 9, none⟩ = some (.int .u64 (z.id.ser : Int)) := k1.cell 9
    have x10 : w1.cell? ⟨g, 10, none⟩ = some (.int .i64 z.client) := k1.cell 10
    have x11 : w1.cell? ⟨g, 11, none⟩ = some (.int .u64 (z.sub : Int)) := k1.cell 11
    have x12 : w1.cell? ⟨g, 12, none⟩ = some (.slice fa zF fc) := k1.cell 12
    have x13 : w1.cell? ⟨g, 13, none⟩ = some (.slice ea zE ec) := k1.cell 13
    have hBB := PM.hid hbw1
    obtain ⟨ib, il, ir⟩ := i
    simp only at ht x1 x2 x3
    clear hv hv1 hg0 hwf hfw hev hzF hzE hf he k1 hbw1 hR h1 h2 h3 h4 h5
    go_enter Try.func11, Try.ntmps11
    go_upto_region 1 with fail
    rw [← hw1, ← hg]
    clear hw1 hg
    go_wp2_with fail
    refine ht.mono ?_
    clear ht x0 x1 x2 x3 x4 x5 x6 x7 x8 x9 x10 x11 x12 x13
    rintro d w2 ⟨u, rfl, hu, hb⟩
    have hend := PM.hid (And.intro hu.txl (PM.chain hBB.out hb))
    obtain ⟨_, _, hve⟩ := hu.rr.len
    subst hve
    clear hu hb
    go_wp2_with fail
    go_ret2
    exact ⟨_, rfl, hend.out.1, hend.out.2⟩
  rw [if_neg h1, if_neg h2, if_neg h3, if_neg h4, if_neg h5, if_neg h6]
  have b1 : (kd == 1) = false := by simp; exact h1
  have b2 : (kd == 2) = false := by simp; exact h2
  have b3 : (kd == 3) = false := by simp; exact h3
  have b4 : (kd == 4) = false := by simp; exact h4
  have b5 : (kd == 5) = false := by simp; exact h5
  have b6 : (kd == 6) = false := by simp; exact h6
  have x0 : w1.cell? ⟨g, 0, none⟩ = some (.int .i64 kd) := k1.cell 0
  have x1 : w1.cell? ⟨g, 1, none⟩ = some (.int .i64 i.br) := k1.cell 1
  have x2 : w1.cell? ⟨g, 2, none⟩ = some (.int .u64 (i.life : Int)) := k1.cell 2
  have x3 : w1.cell? ⟨g, 3, none⟩ = some (.int .u64 (i.ser : Int)) := k1.cell 3
  have x4 : w1.cell? ⟨g, 4, none⟩ = some (.int .i64 cl) := k1.cell 4
  have x5 : w1.cell? ⟨g, 5, none⟩ = some (.slice xa xn xc) := k1.cell 5
  have x6 : w1.cell? ⟨g, 6, none⟩ = some (.int .i64 z.kind) := k1.cell 6
  have x7 : w1.cell? ⟨g, 7, none⟩ = some (.int .i64 z.id.br) := k1.cell 7
  have x8 : w1.cell? ⟨g, 8, none⟩ = some (.int .u64 (z.id.life : Int)) := k1.cell 8
  have x9 : w1.cell? ⟨g, 9, none⟩ = some (.int .u64 (z.id.ser : Int)) := k1.cell 9
  have x10 : w1.cell? ⟨g, 10, none⟩ = some (.int .i64 z.client) := k1.cell 10
  have x11 : w1.cell? ⟨g, 11, none⟩ = some (.int .u64 (z.sub : Int)) := k1.cell 11
  have x12 : w1.cell? ⟨g, 12, none⟩ = some (.slice fa zF fc) := k1.cell 12
  have x13 : w1.cell? ⟨g, 13, none⟩ = some (.slice ea zE ec) := k1.cell 13
  have hBB := PM.hid (And.intro hv1 hbw1)
  clear h1 h2 h3 h4 h5 h6 hv hv1 hg0 hwf hfw hev hzF hzE hf he k1 hbw1
  go_enter Try.func11, Try.ntmps11
  go_upto_region 1 with fail
  rw [← hw1, ← hg]
  clear hw1 hg
  go_wp2_with fail
  go_ret2
  exact ⟨_, rfl, hBB.out.1, hBB.out.2⟩
end Go.Proofs.Ytnjcociidipogaa
