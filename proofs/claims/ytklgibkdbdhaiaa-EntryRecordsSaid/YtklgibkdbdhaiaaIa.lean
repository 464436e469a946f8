/-
  TESTS (a name, an op, a value): as they came in, and whether one may be. Over any program.
-/
import Derived.Test.YtklgibkdbdhaiaaGt
import Derived.Test.YtklgibkdbdhaiaaEn
import Derived.Test.YtklgibkdbdhaiaaVp
namespace Go.Proofs.Ytklgibkdbdhaiaa
namespace PM
open Go.RowKit Go.ChangeShapes Go.WideShapes Go.ChangeAt Go.Deep
set_option linter.unusedVariables false
/-- a test -/
structure Te where
  name : ByteArray
  op : Int
  k : Int
  n : Int
  s : ByteArray
def Te.wf (x : Te) : Prop := x.name.size ≤ maxLen ∧ (Lit.int .i64 x.op).wf = true ∧ (Lit.int .i64 x.k).wf = true ∧ (Lit.int .i64 x.n).wf = true ∧ x.s.size ≤ maxLen
def teL (x : Te) : List Value := [.string x.name, .int .i64 x.op, .int .i64 x.k, .int .i64 x.n, .string x.s]
theorem teL_len (x : Te) : (teL x).length = 5 := rfl
theorem teL_one (x : Te) : ∀ u ∈ teL x, u.oneCell' = true := by intro u hu; simp [teL] at hu; rcases hu with rfl | rfl | rfl | rfl | rfl <;> rfl
abbrev TV (w : World) (v : Value) (l : List Te) : Prop := EM teL 5 w v l
/-- a test's value, one that came in: three numbers' and texts' cells -/
theorem te_trod {H : Type} {enc : TypeId × Value → H} {P : Program} {w : World} {base : Nat} {held : Bool} {e : TypeId} {f0 f1 f2 h0 h1 h2 : Field}
    (he : P.underlying e = some (.struct #[f0, f1, f2])) (hs : P.underlying f2.type = some (.struct #[h0, h1, h2])) (ce : P.cellsOf e = 5) (o0 : f0.offset = 0) (o1 : f1.offset = 1) (o2 : f2.offset = 2)
    (c0 : P.cellsOf f0.type = 1) (c1 : P.cellsOf f1.type = 1) (c2 : P.cellsOf f2.type = 3) (p0 : h0.offset = 0) (p1 : h1.offset = 1) (p2 : h2.offset = 2) (d0 : P.cellsOf h0.type = 1) (d1 : P.cellsOf h1.type = 1) (d2 : P.cellsOf h2.type = 1)
    (t0 : P.underlying f0.type = some .string) (t1 : P.underlying f1.type = some (.int .i64)) (u0 : P.underlying h0.type = some (.int .i64)) (u1 : P.underlying h1.type = some (.int .i64)) (u2 : P.underlying h2.type = some .string) :
    ∀ n cs x, DataW.trod enc P w base (fun _ => true) held n e cs = some x → ∃ y, Te.wf y ∧ cs = teL y := by
  intro n cs x h
  obtain ⟨xs, k, hk, hxy, hlen, hxl, hf⟩ := DataW.trod_struct he h
  rw [ce] at hlen
  match xs, hxl, cs, hlen with
  | [y0, y1, y2], _, [v0, v1, v2, v3, v4], _ =>
    have q0 := hf 0 f0 rfl
    have q1 := hf 1 f1 rfl
    have q2 := hf 2 f2 rfl
    simp [o0, o1, o2, c0, c1, c2] at q0 q1 q2
    obtain ⟨xs', k', hk', hxy', _, hxl', hf'⟩ := DataW.trod_struct hs q2
    match xs', hxl' with
    | [z0, z1, z2], _ =>
      have r0 := hf' 0 h0 rfl
      have r1 := hf' 1 h1 rfl
      have r2 := hf' 2 h2 rfl
      simp [p0, p1, p2, d0, d1, d2] at r0 r1 r2
      obtain ⟨s0, n0, _, w0⟩ := DataW.trod_string t0 q0
      obtain ⟨k1, n1, _, w1⟩ := DataW.trod_int t1 q1
      obtain ⟨k2, n2, _, w2⟩ := DataW.trod_int u0 r0
      obtain ⟨k3, n3, _, w3⟩ := DataW.trod_int u1 r1
      obtain ⟨s4, n4, _, w4⟩ := DataW.trod_string u2 r2
      simp at n0 n1 n2 n3 n4
      subst n0 n1 n2 n3 n4
      exact ⟨⟨s0, k1, k2, k3, s4⟩, ⟨w0, w1, w2, w3, w4⟩, rfl⟩
/-- whether a test may be -/
def teOk (x : Te) : Bool := nameL x.name.data.toList && decide (1 ≤ x.op ∧ x.op ≤ 8) && (if x.op = 8 then decide (x.k = 0 ∧ x.n = 0 ∧ x.s.data.toList = []) else may x.k x.n x.s.data.toList && (if x.op = 7 then decide (x.k = 2) else true))
def teE (x : Te) : Int := if teOk x then 0 else 50
/-- whether a filter may be -/
def filP (l : List Te) : Prop := l.length ≤ 8 ∧ ∀ x ∈ l, teOk x = true
open Classical in
noncomputable def filE (l : List Te) : Int := if filP l then 0 else 50
theorem filE_yes {l : List Te} (h : filP l) : filE l = 0 := by unfold filE; rw [if_pos h]
theorem filE_no {l : List Te} (h : ¬ filP l) : filE l = 50 := by unfold filE; rw [if_neg h]
/-- whether a value is as a test asks -/
def isB (x : Te) (k n : Int) (s : ByteArray) : Bool :=
  if x.op = 8 then true else if k = x.k then
    (let o := ord k n s.data.toList x.k x.n x.s.data.toList
     if x.op = 1 then decide (o = 0) else if x.op = 2 then decide (o ≠ 0) else if x.op = 3 then decide (o < 0) else if x.op = 4 then decide (o ≤ 0) else if x.op = 5 then decide (0 < o) else if x.op = 6 then decide (0 ≤ o) else if x.op = 7 then beg k s.data.toList x.k x.s.data.toList else false)
  else false
end PM
end Go.Proofs.Ytklgibkdbdhaiaa
