import Derived.Test.YtklgibkdbdhaiaaJA
import Derived.Test.YtklgibkdbdhaiaaJB
import Derived.Test.YtklgibkdbdhaiaaJQ
import Derived.Test.YtklgibkdbdhaiaaG0
/-
  ENTRIES AND RECORDS THAT COME IN: their cells, and what they read as. Over any program.
-/
namespace Go.Proofs.Ytklgibkdbdhaiaa
namespace PM
open Go.RowKit
set_option linter.unusedVariables false
set_option linter.unusedSimpArgs false
theorem nat_u64 {x : Int} (h : (Lit.int .u64 x).wf = true) : ∃ n : Nat, x = (n : Int) ∧ n < 2 ^ 64 := by
  have := Go.bounds_u64 h
  exact ⟨x.toNat, by omega, by omega⟩
section
variable {H : Type} {enc : TypeId × Value → H} {P : Program} {w : World} {base : Nat} {held : Bool}
theorem id_trod {e : TypeId} {h0 h1 h2 : Field} (hs : P.underlying e = some (.struct #[h0, h1, h2])) (ce : P.cellsOf e = 3) (p0 : h0.offset = 0) (p1 : h1.offset = 1) (p2 : h2.offset = 2)
    (d0 : P.cellsOf h0.type = 1) (d1 : P.cellsOf h1.type = 1) (d2 : P.cellsOf h2.type = 1) (u0 : P.underlying h0.type = some (.int .i64)) (u1 : P.underlying h1.type = some (.int .u64)) (u2 : P.underlying h2.type = some (.int .u64)) :
    ∀ n cs x, DataW.trod enc P w base (fun _ => true) held n e cs = some x → ∃ y, Id.wf y ∧ cs = idL y := by
  intro n cs x h
  obtain ⟨xs, k, hk, hxy, hlen, hxl, hf⟩ := DataW.trod_struct hs h
  rw [ce] at hlen
  match xs, hxl, cs, hlen with
  | [y0, y1, y2], _, [v0, v1, v2], _ =>
    have r0 := hf 0 h0 rfl
    have r1 := hf 1 h1 rfl
    have r2 := hf 2 h2 rfl
    simp [p0, p1, p2, d0, d1, d2] at r0 r1 r2
    obtain ⟨k0, n0, _, w0⟩ := DataW.trod_int u0 r0
    obtain ⟨k1, n1, _, w1⟩ := DataW.trod_int u1 r1
    obtain ⟨k2, n2, _, w2⟩ := DataW.trod_int u2 r2
    simp at n0 n1 n2
    obtain ⟨k1, rfl, m1⟩ := nat_u64 w1
    obtain ⟨k2, rfl, m2⟩ := nat_u64 w2
    subst n0 n1 n2
    exact ⟨⟨k0, k1, k2⟩, ⟨w0, m1, m2⟩, rfl⟩
theorem en_trod {e : TypeId} {f0 f1 f2 f3 f4 f5 : Field} (he : P.underlying e = some (.struct #[f0, f1, f2, f3, f4, f5])) (ce : P.cellsOf e = 8)
    (o0 : f0.offset = 0) (o1 : f1.offset = 1) (o2 : f2.offset = 4) (o3 : f3.offset = 5) (o4 : f4.offset = 6) (o5 : f5.offset = 7)
    (c0 : P.cellsOf f0.type = 1) (c1 : P.cellsOf f1.type = 3) (c2 : P.cellsOf f2.type = 1) (c3 : P.cellsOf f3.type = 1) (c4 : P.cellsOf f4.type = 1) (c5 : P.cellsOf f5.type = 1)
    (t0 : P.underlying f0.type = some (.int .i64)) (t2 : P.underlying f2.type = some (.int .i64)) (t3 : P.underlying f3.type = some (.int .u64))
    (ri : ∀ n cs x, DataW.trod enc P w base (fun _ => true) held n f1.type cs = some x → ∃ y, Id.wf y ∧ cs = idL y)
    (rf : ∀ n V x, DataW.trod enc P w base (fun _ => true) held n f4.type [V] = some x → ∃ l, TV w V l ∧ ∀ y ∈ l, Te.wf y)
    (re : ∀ n V x, DataW.trod enc P w base (fun _ => true) held n f5.type [V] = some x → ∃ l, EVL w V l ∧ ∀ e ∈ l, ∀ y ∈ e, At.wf y) :
    ∀ n cs x, DataW.trod enc P w base (fun _ => true) held n e cs = some x → ∃ y fv ev, En.wf y ∧ cs = enC y fv ev ∧ TV w fv y.fil ∧ EVL w ev y.evs := by
  intro n cs x h
  obtain ⟨xs, k, hk, hxy, hlen, hxl, hf⟩ := DataW.trod_struct he h
  rw [ce] at hlen
  match xs, hxl, cs, hlen with
  | [y0, y1, y2, y3, y4, y5], _, [v0, v1, v2, v3, v4, v5, v6, v7], _ =>
    have q0 := hf 0 f0 rfl
    have q1 := hf 1 f1 rfl
    have q2 := hf 2 f2 rfl
    have q3 := hf 3 f3 rfl
    have q4 := hf 4 f4 rfl
    have q5 := hf 5 f5 rfl
    simp [o0, o1, o2, o3, o4, o5, c0, c1, c2, c3, c4, c5] at q0 q1 q2 q3 q4 q5
    obtain ⟨k0, n0, _, w0⟩ := DataW.trod_int t0 q0
    obtain ⟨i, wi, hi⟩ := ri _ _ _ q1
    obtain ⟨k2, n2, _, w2⟩ := DataW.trod_int t2 q2
    obtain ⟨k3, n3, _, w3⟩ := DataW.trod_int t3 q3
    obtain ⟨l, hl, wl⟩ := rf _ _ _ q4
    obtain ⟨es, hes, wes⟩ := re _ _ _ q5
    obtain ⟨i0, i1, i2⟩ := i
    simp [idL] at n0 n2 n3 hi
    obtain ⟨k3, rfl, m3⟩ := nat_u64 w3
    obtain ⟨e1, e2, e3⟩ := hi
    subst n0 n2 n3 e1 e2 e3
    exact ⟨⟨k0, ⟨i0, i1, i2⟩, k2, k3, l, es⟩, v6, v7, ⟨w0, wi, w2, m3, wl, wes⟩, rfl, hl, hes⟩
theorem rc_trod {e : TypeId} {f0 f1 f2 f3 : Field} (he : P.underlying e = some (.struct #[f0, f1, f2, f3])) (ce : P.cellsOf e = 13)
    (o0 : f0.offset = 0) (o1 : f1.offset = 1) (o2 : f2.offset = 2) (o3 : f3.offset = 10) (c0 : P.cellsOf f0.type = 1) (c1 : P.cellsOf f1.type = 1) (c2 : P.cellsOf f2.type = 8) (c3 : P.cellsOf f3.type = 3)
    (t0 : P.underlying f0.type = some (.int .i64)) (t1 : P.underlying f1.type = some (.int .u64))
    (re : ∀ n cs x, DataW.trod enc P w base (fun _ => true) held n f2.type cs = some x → ∃ y fv ev, En.wf y ∧ cs = enC y fv ev ∧ TV w fv y.fil ∧ EVL w ev y.evs)
    (ri : ∀ n cs x, DataW.trod enc P w base (fun _ => true) held n f3.type cs = some x → ∃ y, Id.wf y ∧ cs = idL y) :
    ∀ n cs x, DataW.trod enc P w base (fun _ => true) held n e cs = some x → ∃ y fv ev, Rc.wf y ∧ cs = rcC y fv ev ∧ TV w fv y.en.fil ∧ EVL w ev y.en.evs := by
  intro n cs x h
  obtain ⟨xs, k, hk, hxy, hlen, hxl, hf⟩ := DataW.trod_struct he h
  rw [ce] at hlen
  match xs, hxl, cs, hlen with
  | [y0, y1, y2, y3], _, [v0, v1, v2, v3, v4, v5, v6, v7, v8, v9, v10, v11, v12], _ =>
    have q0 := hf 0 f0 rfl
    have q1 := hf 1 f1 rfl
    have q2 := hf 2 f2 rfl
    have q3 := hf 3 f3 rfl
    simp [o0, o1, o2, o3, c0, c1, c2, c3] at q0 q1 q2 q3
    obtain ⟨k0, n0, _, w0⟩ := DataW.trod_int t0 q0
    obtain ⟨k1, n1, _, w1⟩ := DataW.trod_int t1 q1
    obtain ⟨y, fv, ev, wy, hy, hl, hes⟩ := re _ _ _ q2
    obtain ⟨i, wi, hi⟩ := ri _ _ _ q3
    obtain ⟨k1, rfl, m1⟩ := nat_u64 w1
    refine ⟨⟨k0, k1, y, i⟩, fv, ev, ⟨w0, m1, wy, wi⟩, ?_, hl, hes⟩
    have e0 : [v0] = [_] := n0
    have e1 : [v1] = [_] := n1
    simp only [List.cons.injEq, and_true] at e0 e1
    subst e0 e1
    show _ = [_, _] ++ enC y fv ev ++ idL i
    rw [← hy, ← hi]
    rfl
end
end PM
end Go.Proofs.Ytklgibkdbdhaiaa

/-
  READINGS OF ENTRIES AND RECORDS THAT COME IN; THE WALK OF EntryRecords.
-/
namespace Go.Proofs.Ytklgibkdbdhaiaa
open Go.RowKit
set_option linter.unusedVariables false
set_option linter.unusedSimpArgs false
theorem PM.str_neJ {l m : List UInt8} (h : l ≠ m) : ((⟨l.toArray⟩ : ByteArray).toList == (⟨m.toArray⟩ : ByteArray).toList) = false := by
  rw [ByteArray.toList_eq, ByteArray.toList_eq]
  simpa using h
section
variable {H : Type} {enc : TypeId × Value → H} {w : World} {base : Nat} {held : Bool}
theorem id_open : ∀ n cs x, DataW.trod enc Try.prog w base (fun _ => true) held n 25 cs = some x → ∃ y, PM.Id.wf y ∧ cs = PM.idL y :=
  PM.id_trod Try.underlying25 (by kernel_rfl) rfl rfl rfl (by kernel_rfl) (by kernel_rfl) (by kernel_rfl) Try.underlying3 Try.underlying23 Try.underlying23
theorem fil_open : ∀ n V x, DataW.trod enc Try.prog w base (fun _ => true) held n 27 [V] = some x → ∃ l, PM.TV w V l ∧ ∀ y ∈ l, PM.Te.wf y := fun n V x h =>
  PM.EM.of_trod (el := PM.teL) (wf := PM.Te.wf) (y0 := ⟨ByteArray.empty, 0, 0, 0, ByteArray.empty⟩) Try.underlying27 (by kernel_rfl) (by decide) PM.teL_len (PM.te_trod Try.underlying81 Try.underlying77 (by kernel_rfl) rfl rfl rfl (by kernel_rfl) (by kernel_rfl) (by kernel_rfl) rfl rfl rfl (by kernel_rfl) (by kernel_rfl) (by kernel_rfl) Try.underlying9 Try.underlying3 Try.underlying3 Try.underlying2 Try.underlying9) h
theorem evs_open : ∀ n V x, DataW.trod enc Try.prog w base (fun _ => true) held n 28 [V] = some x → ∃ l, PM.EVL w V l ∧ ∀ e ∈ l, ∀ y ∈ e, PM.At.wf y := by
  intro n V x h
  obtain ⟨ls, css, h1, h2, h3⟩ := PM.RR.of_trod1 (R := fun w cs e => PM.evR w cs e ∧ ∀ y ∈ e, PM.At.wf y) [] Try.underlying28 (by kernel_rfl) (fun n V z hV => by
    obtain ⟨es, he, hw⟩ := PM.EV.of_trod Try.underlying53 Try.underlying79 Try.underlying77 (by kernel_rfl) rfl rfl (by kernel_rfl) (by kernel_rfl) rfl rfl rfl (by kernel_rfl) (by kernel_rfl) (by kernel_rfl) Try.underlying9 Try.underlying3 Try.underlying2 Try.underlying9 hV
    refine ⟨?_, es, ⟨V, rfl, he⟩, hw⟩
    obtain ⟨a, c, rfl, _⟩ := he
    rfl) h
  refine ⟨ls, ⟨css, h1, h2, fun i cs x a b => (h3 i cs x a b).1⟩, fun e he => ?_⟩
  obtain ⟨i, hi⟩ := List.mem_iff_getElem?.1 he
  have hil : i < css.length := by rw [h2]; exact (List.getElem?_eq_some_iff.1 hi).1
  exact (h3 i css[i] e (List.getElem?_eq_getElem hil) hi).2
theorem en_open : ∀ n cs x, DataW.trod enc Try.prog w base (fun _ => true) held n 30 cs = some x → ∃ y fv ev, PM.En.wf y ∧ cs = PM.enC y fv ev ∧ PM.TV w fv y.fil ∧ PM.EVL w ev y.evs :=
  PM.en_trod Try.underlying30 (by kernel_rfl) rfl rfl rfl rfl rfl rfl (by kernel_rfl) (by kernel_rfl) (by kernel_rfl) (by kernel_rfl) (by kernel_rfl) (by kernel_rfl) Try.underlying3 Try.underlying3 Try.underlying23 id_open fil_open evs_open
theorem rc_open : ∀ n cs x, DataW.trod enc Try.prog w base (fun _ => true) held n 32 cs = some x → ∃ y fv ev, PM.Rc.wf y ∧ cs = PM.rcC y fv ev ∧ PM.TV w fv y.en.fil ∧ PM.EVL w ev y.en.evs :=
  PM.rc_trod Try.underlying32 (by kernel_rfl) rfl rfl rfl rfl (by kernel_rfl) (by kernel_rfl) (by kernel_rfl) (by kernel_rfl) Try.underlying3 Try.underlying23 en_open id_open
end
end Go.Proofs.Ytklgibkdbdhaiaa

/-
  THE WALK OF EntryRecords.
-/
namespace Go.Proofs.Ytklgibkdbdhaiaa
open Go.RowKit
set_option linter.unusedVariables false
set_option linter.unusedSimpArgs false
set_option maxRecDepth 100000 in
set_option maxHeartbeats 8000000 in
theorem entryRecords_walk (x : PM.Rc) (fx ex : Value) (y : PM.Rc) (fy ey : Value) (hx : x.wf) (hy : y.wf) (w : World) (hfx : PM.TV w fx x.en.fil) (hex : PM.EVL w ex x.en.evs) (hfy : PM.TV w fy y.en.fil) (hey : PM.EVL w ey y.en.evs) :
    Calls Try.prog 8 #[.agg (PM.rcC x fx ex).toArray, .agg (PM.rcC y fy ey).toArray] w fun e w' => e = .returned (.bool true) ∧ Below w.heap.size w w' := by
  obtain ⟨X, hX⟩ : ∃ X, X = x := ⟨_, rfl⟩
  obtain ⟨Y, hY⟩ : ∃ X, X = y := ⟨_, rfl⟩
  have hfwx : ∀ W : World, Below w.heap.size w W → Calls Try.prog 10 #[.agg (PM.enC x.en fx ex).toArray] W fun e w' => (∃ b, e = .returned (.bool b)) ∧ Below W.heap.size W w' := fun W hb => few11_any x.en fx ex W (hfx.keep hb) (hex.keep hb)
  have hfwy : ∀ W : World, Below w.heap.size w W → Calls Try.prog 10 #[.agg (PM.enC y.en fy ey).toArray] W fun e w' => (∃ b, e = .returned (.bool b)) ∧ Below W.heap.size W w' := fun W hb => few11_any y.en fy ey W (hfy.keep hb) (hey.keep hb)
  have hpx : ∀ W : World, Below w.heap.size w W → Calls Try.prog 14 #[.agg (PM.rcC x fx ex).toArray] W (RetPK W X) := fun W hb => by rw [hX]; exact pack_any x fx ex W hx (hfx.keep hb) (hex.keep hb)
  have hpy : ∀ W : World, Below w.heap.size w W → Calls Try.prog 14 #[.agg (PM.rcC y fy ey).toArray] W (RetPK W Y) := fun W hb => by rw [hY]; exact pack_any y fy ey W hy (hfy.keep hb) (hey.keep hb)
  have hsm : ∀ W : World, Below w.heap.size w W → Calls Try.prog 16 #[.agg (PM.rcC x fx ex).toArray, .agg (PM.rcC y fy ey).toArray] W fun e w' => (e = .returned (.bool true) ∧ X = Y ∨ e = .returned (.bool false) ∧ ¬ X = Y) ∧ Below W.heap.size W w' := fun W hb => by rw [hX, hY]; exact sameRec_any x y fx ex fy ey W hx hy (hfx.keep hb) (hex.keep hb) (hfy.keep hb) (hey.keep hb)
  have hinj : Hid (PM.rcP X → PM.rcP Y → ¬ X = Y → PM.rcB X ≠ PM.rcB Y) := PM.hid fun p q hne he => by
    have a := PM.decRc_enc (x := X) (by rw [hX]; exact hx) p
    rw [he, PM.decRc_enc (x := Y) (by rw [hY]; exact hy) q] at a
    injection a with a
    exact hne a.symm
  clear hX hY
  obtain ⟨afa, afc, h1⟩ := hfx.len
  obtain ⟨aea, aec, h2⟩ := hex.len
  obtain ⟨bfa, bfc, h3⟩ := hfy.len
  obtain ⟨bea, bec, h4⟩ := hey.len
  subst h1 h2 h3 h4
  clear hfx hex hfy hey
  obtain ⟨ark, arn, ⟨ak, ⟨ab, al, ar⟩, ac, au, af, ae⟩, ⟨ajb, ajl, ajr⟩⟩ := x
  obtain ⟨brk, brn, ⟨bk, ⟨bb, bl, br⟩, bc, bu, bf, be⟩, ⟨bjb, bjl, bjr⟩⟩ := y
  unfold PM.rcC PM.idL at hpx hpy hsm ⊢
  unfold PM.enC at hpx hpy hsm hfwx hfwy ⊢
  simp only [List.cons_append, List.nil_append] at hpx hpy hsm hfwx hfwy hx hy ⊢
  generalize af.length = aF at *
  generalize ae.length = aL at *
  generalize bf.length = bF at *
  generalize be.length = bL at *
  replace hpx := PM.hid hpx
  replace hpy := PM.hid hpy
  replace hsm := PM.hid hsm
  replace hfwx := PM.hid hfwx
  replace hfwy := PM.hid hfwy
  clear hx hy
  obtain ⟨ga, hga⟩ : ∃ g, g = w.heap.size := ⟨_, rfl⟩
  obtain ⟨gb, hgb⟩ : ∃ g, g = w.heap.size + 1 := ⟨_, rfl⟩
  obtain ⟨w1, hw1⟩ : ∃ W, W = w.alloc (.cells #[.int .i64 ark, .int .u64 (arn : Int), .int .i64 ak, .int .i64 ab, .int .u64 (al : Int), .int .u64 (ar : Int), .int .i64 ac, .int .u64 (au : Int), .slice afa aF afc, .slice aea aL aec, .int .i64 ajb, .int .u64 (ajl : Int), .int .u64 (ajr : Int)] 32) := ⟨_, rfl⟩
  obtain ⟨w2, hw2⟩ : ∃ W, W = w1.alloc (.cells #[.int .i64 brk, .int .u64 (brn : Int), .int .i64 bk, .int .i64 bb, .int .u64 (bl : Int), .int .u64 (br : Int), .int .i64 bc, .int .u64 (bu : Int), .slice bfa bF bfc, .slice bea bL bec, .int .i64 bjb, .int .u64 (bjl : Int), .int .u64 (bjr : Int)] 32) := ⟨_, rfl⟩
  have hs1 : w1.heap.size = w.heap.size + 1 := by rw [hw1]; simp
  have hal : Below w.heap.size w w1 := by rw [hw1]; exact (Below.refl _ _).alloc (Nat.le_refl _) _
  have hal2 : Below w1.heap.size w1 w2 := by rw [hw2]; exact (Below.refl _ _).alloc (Nat.le_refl _) _
  have ka : PM.BK w1 ga #[.int .i64 ark, .int .u64 (arn : Int), .int .i64 ak, .int .i64 ab, .int .u64 (al : Int), .int .u64 (ar : Int), .int .i64 ac, .int .u64 (au : Int), .slice afa aF afc, .slice aea aL aec, .int .i64 ajb, .int .u64 (ajl : Int), .int .u64 (ajr : Int)] 32 := by rw [hw1, hga]; exact PM.BK.new _ _ _
  replace ka := ka.keep hal2
  have kb : PM.BK w2 gb #[.int .i64 brk, .int .u64 (brn : Int), .int .i64 bk, .int .i64 bb, .int .u64 (bl : Int), .int .u64 (br : Int), .int .i64 bc, .int .u64 (bu : Int), .slice bfa bF bfc, .slice bea bL bec, .int .i64 bjb, .int .u64 (bjl : Int), .int .u64 (bjr : Int)] 32 := by rw [hw2, hgb, ← hs1]; exact PM.BK.new _ _ _
  have hBB := PM.hid (PM.chain hal hal2)
  clear hal hal2 hs1
  go_enter Try.func8, Try.ntmps8
  go_upto_region 1 with fail
  rw [← hw1, ← hw2, ← hgb, ← hga]
  clear hw1 hw2 hga hgb
  go_wp2_with fail
  refine (awake11_any w2).mono ?_
  rintro e w3 ⟨rfl, hBn⟩
  replace ka := ka.keep hBn
  replace kb := kb.keep hBn
  replace hBB := PM.hid (PM.chain hBB.out hBn)
  clear hBn
  have c0 : w3.cell? ⟨ga, 0, none⟩ = some (.int .i64 ark) := ka.cell 0
  have d0 : w3.cell? ⟨gb, 0, none⟩ = some (.int .i64 brk) := kb.cell 0
  have c1 : w3.cell? ⟨ga, 1, none⟩ = some (.int .u64 (arn : Int)) := ka.cell 1
  have d1 : w3.cell? ⟨gb, 1, none⟩ = some (.int .u64 (brn : Int)) := kb.cell 1
  have c2 : w3.cell? ⟨ga, 2, none⟩ = some (.int .i64 ak) := ka.cell 2
  have d2 : w3.cell? ⟨gb, 2, none⟩ = some (.int .i64 bk) := kb.cell 2
  have c3 : w3.cell? ⟨ga, 3, none⟩ = some (.int .i64 ab) := ka.cell 3
  have d3 : w3.cell? ⟨gb, 3, none⟩ = some (.int .i64 bb) := kb.cell 3
  have c4 : w3.cell? ⟨ga, 4, none⟩ = some (.int .u64 (al : Int)) := ka.cell 4
  have d4 : w3.cell? ⟨gb, 4, none⟩ = some (.int .u64 (bl : Int)) := kb.cell 4
  have c5 : w3.cell? ⟨ga, 5, none⟩ = some (.int .u64 (ar : Int)) := ka.cell 5
  have d5 : w3.cell? ⟨gb, 5, none⟩ = some (.int .u64 (br : Int)) := kb.cell 5
  have c6 : w3.cell? ⟨ga, 6, none⟩ = some (.int .i64 ac) := ka.cell 6
  have d6 : w3.cell? ⟨gb, 6, none⟩ = some (.int .i64 bc) := kb.cell 6
  have c7 : w3.cell? ⟨ga, 7, none⟩ = some (.int .u64 (au : Int)) := ka.cell 7
  have d7 : w3.cell? ⟨gb, 7, none⟩ = some (.int .u64 (bu : Int)) := kb.cell 7
  have c8 : w3.cell? ⟨ga, 8, none⟩ = some (.slice afa aF afc) := ka.cell 8
  have d8 : w3.cell? ⟨gb, 8, none⟩ = some (.slice bfa bF bfc) := kb.cell 8
  have c9 : w3.cell? ⟨ga, 9, none⟩ = some (.slice aea aL aec) := ka.cell 9
  have d9 : w3.cell? ⟨gb, 9, none⟩ = some (.slice bea bL bec) := kb.cell 9
  have c10 : w3.cell? ⟨ga, 10, none⟩ = some (.int .i64 ajb) := ka.cell 10
  have d10 : w3.cell? ⟨gb, 10, none⟩ = some (.int .i64 bjb) := kb.cell 10
  have c11 : w3.cell? ⟨ga, 11, none⟩ = some (.int .u64 (ajl : Int)) := ka.cell 11
  have d11 : w3.cell? ⟨gb, 11, none⟩ = some (.int .u64 (bjl : Int)) := kb.cell 11
  have c12 : w3.cell? ⟨ga, 12, none⟩ = some (.int .u64 (ajr : Int)) := ka.cell 12
  have d12 : w3.cell? ⟨gb, 12, none⟩ = some (.int .u64 (bjr : Int)) := kb.cell 12
  go_wp2_with fail
  refine (hfwx.out w3 hBB.out).mono ?_
  rintro e w4 ⟨⟨fb, rfl⟩, hBn⟩
  clear c0 d0 c1 d1 c2 d2 c3 d3 c4 d4 c5 d5 c6 d6 c7 d7 c8 d8 c9 d9 c10 d10 c11 d11 c12 d12
  replace ka := ka.keep hBn
  replace kb := kb.keep hBn
  replace hBB := PM.hid (PM.chain hBB.out hBn)
  clear hBn
  have c0 : w4.cell? ⟨ga, 0, none⟩ = some (.int .i64 ark) := ka.cell 0
  have d0 : w4.cell? ⟨gb, 0, none⟩ = some (.int .i64 brk) := kb.cell 0
  have c1 : w4.cell? ⟨ga, 1, none⟩ = some (.int .u64 (arn : Int)) := ka.cell 1
  have d1 : w4.cell? ⟨gb, 1, none⟩ = some (.int .u64 (brn : Int)) := kb.cell 1
  have c2 : w4.cell? ⟨ga, 2, none⟩ = some (.int .i64 ak) := ka.cell 2
  have d2 : w4.cell? ⟨gb, 2, none⟩ = some (.int .i64 bk) := kb.cell 2
  have c3 : w4.cell? ⟨ga, 3, none⟩ = some (.int .i64 ab) := ka.cell 3
  have d3 : w4.cell? ⟨gb, 3, none⟩ = some (.int .i64 bb) := kb.cell 3
  have c4 : w4.cell? ⟨ga, 4, none⟩ = some (.int .u64 (al : Int)) := ka.cell 4
  have d4 : w4.cell? ⟨gb, 4, none⟩ = some (.int .u64 (bl : Int)) := kb.cell 4
  have c5 : w4.cell? ⟨ga, 5, none⟩ = some (.int .u64 (ar : Int)) := ka.cell 5
  have d5 : w4.cell? ⟨gb, 5, none⟩ = some (.int .u64 (br : Int)) := kb.cell 5
  have c6 : w4.cell? ⟨ga, 6, none⟩ = some (.int .i64 ac) := ka.cell 6
  have d6 : w4.cell? ⟨gb, 6, none⟩ = some (.int .i64 bc) := kb.cell 6
  have c7 : w4.cell? ⟨ga, 7, none⟩ = some (.int .u64 (au : Int)) := ka.cell 7
  have d7 : w4.cell? ⟨gb, 7, none⟩ = some (.int .u64 (bu : Int)) := kb.cell 7
  have c8 : w4.cell? ⟨ga, 8, none⟩ = some (.slice afa aF afc) := ka.cell 8
  have d8 : w4.cell? ⟨gb, 8, none⟩ = some (.slice bfa bF bfc) := kb.cell 8
  have c9 : w4.cell? ⟨ga, 9, none⟩ = some (.slice aea aL aec) := ka.cell 9
  have d9 : w4.cell? ⟨gb, 9, none⟩ = some (.slice bea bL bec) := kb.cell 9
  have c10 : w4.cell? ⟨ga, 10, none⟩ = some (.int .i64 ajb) := ka.cell 10
  have d10 : w4.cell? ⟨gb, 10, none⟩ = some (.int .i64 bjb) := kb.cell 10
  have c11 : w4.cell? ⟨ga, 11, none⟩ = some (.int .u64 (ajl : Int)) := ka.cell 11
  have d11 : w4.cell? ⟨gb, 11, none⟩ = some (.int .u64 (bjl : Int)) := kb.cell 11
  have c12 : w4.cell? ⟨ga, 12, none⟩ = some (.int .u64 (ajr : Int)) := ka.cell 12
  have d12 : w4.cell? ⟨gb, 12, none⟩ = some (.int .u64 (bjr : Int)) := kb.cell 12
  cases fb
  case false =>
    go_wp2_with fail
    go_ret
    exact ⟨rfl, hBB.out⟩
  go_wp2_with fail
  refine (hfwy.out w4 hBB.out).mono ?_
  rintro e w5 ⟨⟨fb, rfl⟩, hBn⟩
  clear c0 d0 c1 d1 c2 d2 c3 d3 c4 d4 c5 d5 c6 d6 c7 d7 c8 d8 c9 d9 c10 d10 c11 d11 c12 d12
  replace ka := ka.keep hBn
  replace kb := kb.keep hBn
  replace hBB := PM.hid (PM.chain hBB.out hBn)
  clear hBn
  have c0 : w5.cell? ⟨ga, 0, none⟩ = some (.int .i64 ark) := ka.cell 0
  have d0 : w5.cell? ⟨gb, 0, none⟩ = some (.int .i64 brk) := kb.cell 0
  have c1 : w5.cell? ⟨ga, 1, none⟩ = some (.int .u64 (arn : Int)) := ka.cell 1
  have d1 : w5.cell? ⟨gb, 1, none⟩ = some (.int .u64 (brn : Int)) := kb.cell 1
  have c2 : w5.cell? ⟨ga, 2, none⟩ = some (.int .i64 ak) := ka.cell 2
  have d2 : w5.cell? ⟨gb, 2, none⟩ = some (.int .i64 bk) := kb.cell 2
  have c3 : w5.cell? ⟨ga, 3, none⟩ = some (.int .i64 ab) := ka.cell 3
  have d3 : w5.cell? ⟨gb, 3, none⟩ = some (.int .i64 bb) := kb.cell 3
  have c4 : w5.cell? ⟨ga, 4, none⟩ = some (.int .u64 (al : Int)) := ka.cell 4
  have d4 : w5.cell? ⟨gb, 4, none⟩ = some (.int .u64 (bl : Int)) := kb.cell 4
  have c5 : w5.cell? ⟨ga, 5, none⟩ = some (.int .u64 (ar : Int)) := ka.cell 5
  have d5 : w5.cell? ⟨gb, 5, none⟩ = some (.int .u64 (br : Int)) := kb.cell 5
  have c6 : w5.cell? ⟨ga, 6, none⟩ = some (.int .i64 ac) := ka.cell 6
  have d6 : w5.cell? ⟨gb, 6, none⟩ = some (.int .i64 bc) := kb.cell 6
  have c7 : w5.cell? ⟨ga, 7, none⟩ = some (.int .u64 (au : Int)) := ka.cell 7
  have d7 : w5.cell? ⟨gb, 7, none⟩ = some (.int .u64 (bu : Int)) := kb.cell 7
  have c8 : w5.cell? ⟨ga, 8, none⟩ = some (.slice afa aF afc) := ka.cell 8
  have d8 : w5.cell? ⟨gb, 8, none⟩ = some (.slice bfa bF bfc) := kb.cell 8
  have c9 : w5.cell? ⟨ga, 9, none⟩ = some (.slice aea aL aec) := ka.cell 9
  have d9 : w5.cell? ⟨gb, 9, none⟩ = some (.slice bea bL bec) := kb.cell 9
  have c10 : w5.cell? ⟨ga, 10, none⟩ = some (.int .i64 ajb) := ka.cell 10
  have d10 : w5.cell? ⟨gb, 10, none⟩ = some (.int .i64 bjb) := kb.cell 10
  have c11 : w5.cell? ⟨ga, 11, none⟩ = some (.int .u64 (ajl : Int)) := ka.cell 11
  have d11 : w5.cell? ⟨gb, 11, none⟩ = some (.int .u64 (bjl : Int)) := kb.cell 11
  have c12 : w5.cell? ⟨ga, 12, none⟩ = some (.int .u64 (ajr : Int)) := ka.cell 12
  have d12 : w5.cell? ⟨gb, 12, none⟩ = some (.int .u64 (bjr : Int)) := kb.cell 12
  cases fb
  case false =>
    go_wp2_with fail
    go_ret
    exact ⟨rfl, hBB.out⟩
  go_wp2_with fail
  refine (hpx.out w5 hBB.out).mono ?_
  rintro e w6 ⟨o1, rfl, ho1, -, hBn⟩
  clear c0 d0 c1 d1 c2 d2 c3 d3 c4 d4 c5 d5 c6 d6 c7 d7 c8 d8 c9 d9 c10 d10 c11 d11 c12 d12
  replace ka := ka.keep hBn
  replace kb := kb.keep hBn
  replace hBB := PM.hid (PM.chain hBB.out hBn)
  clear hBn
  have c0 : w6.cell? ⟨ga, 0, none⟩ = some (.int .i64 ark) := ka.cell 0
  have d0 : w6.cell? ⟨gb, 0, none⟩ = some (.int .i64 brk) := kb.cell 0
  have c1 : w6.cell? ⟨ga, 1, none⟩ = some (.int .u64 (arn : Int)) := ka.cell 1
  have d1 : w6.cell? ⟨gb, 1, none⟩ = some (.int .u64 (brn : Int)) := kb.cell 1
  have c2 : w6.cell? ⟨ga, 2, none⟩ = some (.int .i64 ak) := ka.cell 2
  have d2 : w6.cell? ⟨gb, 2, none⟩ = some (.int .i64 bk) := kb.cell 2
  have c3 : w6.cell? ⟨ga, 3, none⟩ = some (.int .i64 ab) := ka.cell 3
  have d3 : w6.cell? ⟨gb, 3, none⟩ = some (.int .i64 bb) := kb.cell 3
  have c4 : w6.cell? ⟨ga, 4, none⟩ = some (.int .u64 (al : Int)) := ka.cell 4
  have d4 : w6.cell? ⟨gb, 4, none⟩ = some (.int .u64 (bl : Int)) := kb.cell 4
  have c5 : w6.cell? ⟨ga, 5, none⟩ = some (.int .u64 (ar : Int)) := ka.cell 5
  have d5 : w6.cell? ⟨gb, 5, none⟩ = some (.int .u64 (br : Int)) := kb.cell 5
  have c6 : w6.cell? ⟨ga, 6, none⟩ = some (.int .i64 ac) := ka.cell 6
  have d6 : w6.cell? ⟨gb, 6, none⟩ = some (.int .i64 bc) := kb.cell 6
  have c7 : w6.cell? ⟨ga, 7, none⟩ = some (.int .u64 (au : Int)) := ka.cell 7
  have d7 : w6.cell? ⟨gb, 7, none⟩ = some (.int .u64 (bu : Int)) := kb.cell 7
  have c8 : w6.cell? ⟨ga, 8, none⟩ = some (.slice afa aF afc) := ka.cell 8
  have d8 : w6.cell? ⟨gb, 8, none⟩ = some (.slice bfa bF bfc) := kb.cell 8
  have c9 : w6.cell? ⟨ga, 9, none⟩ = some (.slice aea aL aec) := ka.cell 9
  have d9 : w6.cell? ⟨gb, 9, none⟩ = some (.slice bea bL bec) := kb.cell 9
  have c10 : w6.cell? ⟨ga, 10, none⟩ = some (.int .i64 ajb) := ka.cell 10
  have d10 : w6.cell? ⟨gb, 10, none⟩ = some (.int .i64 bjb) := kb.cell 10
  have c11 : w6.cell? ⟨ga, 11, none⟩ = some (.int .u64 (ajl : Int)) := ka.cell 11
  have d11 : w6.cell? ⟨gb, 11, none⟩ = some (.int .u64 (bjl : Int)) := kb.cell 11
  have c12 : w6.cell? ⟨ga, 12, none⟩ = some (.int .u64 (ajr : Int)) := ka.cell 12
  have d12 : w6.cell? ⟨gb, 12, none⟩ = some (.int .u64 (bjr : Int)) := kb.cell 12
  go_wp2_with fail
  refine (hpy.out w6 hBB.out).mono ?_
  rintro e w7 ⟨o2, rfl, ho2, -, hBn⟩
  have hb7 := PM.hid hBn
  clear c0 d0 c1 d1 c2 d2 c3 d3 c4 d4 c5 d5 c6 d6 c7 d7 c8 d8 c9 d9 c10 d10 c11 d11 c12 d12
  replace ka := ka.keep hBn
  replace kb := kb.keep hBn
  replace hBB := PM.hid (PM.chain hBB.out hBn)
  clear hBn
  have c0 : w7.cell? ⟨ga, 0, none⟩ = some (.int .i64 ark) := ka.cell 0
  have d0 : w7.cell? ⟨gb, 0, none⟩ = some (.int .i64 brk) := kb.cell 0
  have c1 : w7.cell? ⟨ga, 1, none⟩ = some (.int .u64 (arn : Int)) := ka.cell 1
  have d1 : w7.cell? ⟨gb, 1, none⟩ = some (.int .u64 (brn : Int)) := kb.cell 1
  have c2 : w7.cell? ⟨ga, 2, none⟩ = some (.int .i64 ak) := ka.cell 2
  have d2 : w7.cell? ⟨gb, 2, none⟩ = some (.int .i64 bk) := kb.cell 2
  have c3 : w7.cell? ⟨ga, 3, none⟩ = some (.int .i64 ab) := ka.cell 3
  have d3 : w7.cell? ⟨gb, 3, none⟩ = some (.int .i64 bb) := kb.cell 3
  have c4 : w7.cell? ⟨ga, 4, none⟩ = some (.int .u64 (al : Int)) := ka.cell 4
  have d4 : w7.cell? ⟨gb, 4, none⟩ = some (.int .u64 (bl : Int)) := kb.cell 4
  have c5 : w7.cell? ⟨ga, 5, none⟩ = some (.int .u64 (ar : Int)) := ka.cell 5
  have d5 : w7.cell? ⟨gb, 5, none⟩ = some (.int .u64 (br : Int)) := kb.cell 5
  have c6 : w7.cell? ⟨ga, 6, none⟩ = some (.int .i64 ac) := ka.cell 6
  have d6 : w7.cell? ⟨gb, 6, none⟩ = some (.int .i64 bc) := kb.cell 6
  have c7 : w7.cell? ⟨ga, 7, none⟩ = some (.int .u64 (au : Int)) := ka.cell 7
  have d7 : w7.cell? ⟨gb, 7, none⟩ = some (.int .u64 (bu : Int)) := kb.cell 7
  have c8 : w7.cell? ⟨ga, 8, none⟩ = some (.slice afa aF afc) := ka.cell 8
  have d8 : w7.cell? ⟨gb, 8, none⟩ = some (.slice bfa bF bfc) := kb.cell 8
  have c9 : w7.cell? ⟨ga, 9, none⟩ = some (.slice aea aL aec) := ka.cell 9
  have d9 : w7.cell? ⟨gb, 9, none⟩ = some (.slice bea bL bec) := kb.cell 9
  have c10 : w7.cell? ⟨ga, 10, none⟩ = some (.int .i64 ajb) := ka.cell 10
  have d10 : w7.cell? ⟨gb, 10, none⟩ = some (.int .i64 bjb) := kb.cell 10
  have c11 : w7.cell? ⟨ga, 11, none⟩ = some (.int .u64 (ajl : Int)) := ka.cell 11
  have d11 : w7.cell? ⟨gb, 11, none⟩ = some (.int .u64 (bjl : Int)) := kb.cell 11
  have c12 : w7.cell? ⟨ga, 12, none⟩ = some (.int .u64 (ajr : Int)) := ka.cell 12
  have d12 : w7.cell? ⟨gb, 12, none⟩ = some (.int .u64 (bjr : Int)) := kb.cell 12
  by_cases hp : PM.rcP X
  case neg =>
    rw [PM.rcE_no hp]
    clear ho1 ho2
    replace hp := PM.hid hp
    go_wp2_with fail
    go_ret
    exact ⟨rfl, hBB.out⟩
  by_cases hq : PM.rcP Y
  case neg =>
    rw [PM.rcE_yes hp, PM.rcE_no hq]
    clear ho1 ho2
    replace hp := PM.hid hp
    replace hq := PM.hid hq
    go_wp2_with fail
    go_ret
    exact ⟨rfl, hBB.out⟩
  rw [PM.rcE_yes hp, PM.rcE_yes hq]
  replace ho1 := (ho1 hp).bs.keep hb7.out
  replace ho2 := (ho2 hq).bs
  replace hp := PM.hid hp
  replace hq := PM.hid hq
  have hoh := PM.hid (And.intro ho1 ho2)
  clear ho1 ho2
  go_wp2_with fail
  refine (hsm.out w7 hBB.out).mono ?_
  rintro e w8 ⟨hr, hBn⟩
  have kc1 := PM.run_str bty Try.underlying9 (hoh.out.1.keep hBn)
  have kc2 := PM.run_str bty Try.underlying9 (hoh.out.2.keep hBn)
  clear c0 d0 c1 d1 c2 d2 c3 d3 c4 d4 c5 d5 c6 d6 c7 d7 c8 d8 c9 d9 c10 d10 c11 d11 c12 d12
  replace hBB := PM.hid (PM.chain hBB.out hBn)
  clear hBn ka kb
  rcases hr with ⟨rfl, hr⟩ | ⟨rfl, hr⟩
  · rw [hr] at kc1
    clear hr
    go_wp2_with fail
    go_ret
    exact ⟨rfl, hBB.out⟩
  · have hne : (PM.rcB X == PM.rcB Y) = false := by simpa using hinj.out hp.out hq.out hr
    clear hr
    go_wp2_with fail
    go_ret
    exact ⟨rfl, hBB.out⟩
end Go.Proofs.Ytklgibkdbdhaiaa
