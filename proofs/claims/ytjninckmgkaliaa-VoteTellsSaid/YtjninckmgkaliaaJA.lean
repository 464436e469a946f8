import Derived.Test.YtjninckmgkaliaaG0
import Derived.Test.YtjninckmgkaliaaIA
import Derived.Test.YtjninckmgkaliaaEB
import Derived.Test.YtjninckmgkaliaaEA
import Derived.Test.YtjninckmgkaliaaIB
import Derived.Laws.StructEq
/-
  ENTRIES: as they lie in memory, whether one may be, and their bytes: plain. Over any program.
-/
namespace Go.Proofs.Ytjninckmgkaliaa
namespace PM
open Go.RowKit
set_option linter.unusedVariables false
set_option linter.unusedSimpArgs false
/-- an ID -/
structure Id where
  br : Int
  life : Nat
  ser : Nat
  deriving DecidableEq
def Id.wf (x : Id) : Prop := (Lit.int .i64 x.br).wf = true ∧ x.life < 2 ^ 64 ∧ x.ser < 2 ^ 64
def idL (x : Id) : List Value := [.int .i64 x.br, .int .u64 (x.life : Int), .int .u64 (x.ser : Int)]
theorem idL_len (x : Id) : (idL x).length = 3 := rfl
theorem idL_one (x : Id) : ∀ u ∈ idL x, u.oneCell' = true := by intro u hu; simp [idL] at hu; rcases hu with rfl | rfl | rfl <;> rfl
/-- an entry -/
structure En where
  kind : Int
  id : Id
  client : Int
  sub : Nat
  fil : List Te
  evs : List (List At)
def En.wf (x : En) : Prop := (Lit.int .i64 x.kind).wf = true ∧ x.id.wf ∧ (Lit.int .i64 x.client).wf = true ∧ x.sub < 2 ^ 64 ∧ (∀ t ∈ x.fil, t.wf) ∧ ∀ e ∈ x.evs, ∀ y ∈ e, y.wf
/-- an event in a cell -/
def evR (w : World) (cs : List Value) (e : List At) : Prop := ∃ v, cs = [v] ∧ EV w v e
abbrev EVL (w : World) (v : Value) (ls : List (List At)) : Prop := RR evR 1 w v ls
theorem evR_lasts : Lasts evR := fun W w cs x hb ⟨v, h1, h2⟩ => ⟨v, h1, h2.keep hb⟩
theorem EVL.keep {W w : World} {v : Value} {ls : List (List At)} (hb : Below W.heap.size W w) (h : EVL W v ls) : EVL w v ls := RR.keep evR_lasts hb h
/-- an entry's cells, its slices apart -/
def enC (x : En) (fv ev : Value) : List Value := [.int .i64 x.kind, .int .i64 x.id.br, .int .u64 (x.id.life : Int), .int .u64 (x.id.ser : Int), .int .i64 x.client, .int .u64 (x.sub : Int), fv, ev]
/-- what eight cells read as -/
def enR (w : World) (cs : List Value) (x : En) : Prop := ∃ fv ev, cs = enC x fv ev ∧ TV w fv x.fil ∧ EVL w ev x.evs
theorem enR_lasts : Lasts enR := fun W w cs x hb ⟨fv, ev, h1, h2, h3⟩ => ⟨fv, ev, h1, h2.keep hb, h3.keep hb⟩
abbrev EnL (w : World) (v : Value) (ls : List En) : Prop := RR enR 8 w v ls
/-- whether an entry may be -/
def enOk (x : En) : Prop := (0 ≤ x.id.br ∧ x.id.br < 16) ∧ (0 ≤ x.client ∧ x.client < 32) ∧
  ((x.kind = 1 ∧ x.sub = 0 ∧ x.fil = [] ∧ x.evs.length ≤ 8 ∧ ∀ e ∈ x.evs, chkP e) ∨ (x.kind = 3 ∧ x.fil = [] ∧ x.evs = []) ∨ (x.kind = 2 ∧ x.evs = [] ∧ filP x.fil))
open Classical in
noncomputable def enE (x : En) : Int := if enOk x then 0 else 110
theorem enE_yes {x : En} (h : enOk x) : enE x = 0 := by unfold enE; rw [if_pos h]
theorem enE_no {x : En} (h : ¬ enOk x) : enE x = 110 := by unfold enE; rw [if_neg h]
/-- which of two IDs comes first -/
def idLt (a b : Id) : Bool := if a.br ≠ b.br then decide (a.br < b.br) else if a.life ≠ b.life then decide (a.life < b.life) else decide (a.ser < b.ser)
theorem idLt_not {a b : Id} (h1 : idLt a b = true) (h2 : idLt b a = true) : False := by
  unfold idLt at h1 h2
  (repeat' split at h1) <;> (repeat' split at h2) <;> simp only [decide_eq_true_eq] at h1 h2 <;> omega
theorem idLt_tot {a b : Id} : (idLt a b || idLt b a) = decide (a ≠ b) := by
  have e : a = b ↔ a.br = b.br ∧ a.life = b.life ∧ a.ser = b.ser := ⟨fun h => by rw [h]; exact ⟨rfl, rfl, rfl⟩, fun ⟨h1, h2, h3⟩ => by cases a; cases b; simp only at h1 h2 h3; subst h1 h2 h3; rfl⟩
  rw [Bool.eq_iff_iff, Bool.or_eq_true, decide_eq_true_iff, ne_eq, e]
  unfold idLt
  by_cases h1 : a.br = b.br
  · by_cases h2 : a.life = b.life
    · simp [h1, h2]; omega
    · have : ¬ b.life = a.life := fun h => h2 h.symm
      simp [h1, h2, this]; omega
  · have : ¬ b.br = a.br := fun h => h1 h.symm
    simp [h1, this]; omega
theorem idLt_trans {a b c : Id} (h1 : idLt a b = true) (h2 : idLt b c = true) : idLt a c = true := by
  unfold idLt at *
  (repeat' split at h1) <;> (repeat' split at h2) <;> (repeat' split) <;> simp only [decide_eq_true_eq] at * <;> omega
/-- an ID's bytes -/
def idB (x : Id) : List UInt8 := numB (u64 x.br) ++ numB x.life ++ numB x.ser
/-- events' bytes, each behind its length -/
def evsB (l : List (List At)) : List UInt8 := (l.map fun e => bytesB (encB e)).flatten
/-- an entry's bytes -/
def enB (x : En) : List UInt8 := numB (u64 x.kind) ++ idB x.id ++ numB (u64 x.client) ++ numB x.sub ++
  (if x.kind = 1 then numB x.evs.length ++ evsB x.evs else if x.kind = 2 then bytesB (filB x.fil) else [])
end PM
end Go.Proofs.Ytjninckmgkaliaa

/-
  CONTRACTS OF package entry: the order of IDs, and whether an ID's broker may be.
-/
namespace Go.Proofs.Ytjninckmgkaliaa
open Go.RowKit
set_option linter.unusedVariables false
end Go.Proofs.Ytjninckmgkaliaa

/-
  CONTRACTS OF package entry: allMay, fits, Check.
-/
namespace Go.Proofs.Ytjninckmgkaliaa
open Go.RowKit
set_option linter.unusedVariables false
set_option linter.unusedSimpArgs false
namespace PM
/-- does an entry have what its kind has? -/
def fitsP (x : En) : Prop := (x.kind = 1 ∧ x.sub = 0 ∧ x.fil = [] ∧ x.evs.length ≤ 8 ∧ ∀ e ∈ x.evs, chkP e) ∨ (x.kind = 3 ∧ x.fil = [] ∧ x.evs = []) ∨ (x.kind = 2 ∧ x.evs = [] ∧ filP x.fil)
end PM
end Go.Proofs.Ytjninckmgkaliaa

/-
  CONTRACTS OF package entry: empty, record.
-/
namespace Go.Proofs.Ytjninckmgkaliaa
open Go.RowKit
set_option linter.unusedVariables false
set_option linter.unusedSimpArgs false
namespace PM
def Id0 : Id := ⟨0, 0, 0⟩
/-- an entry that has nothing -/
def enNil (x : En) : Prop := x.kind = 0 ∧ x.id = Id0 ∧ x.client = 0 ∧ x.sub = 0 ∧ x.fil = [] ∧ x.evs = []
end PM
set_option maxRecDepth 100000 in
set_option maxHeartbeats 400000 in
theorem ideq_run (a b : PM.Id) : ∀ w : World, Sem.run Try.prog (binOp .eql 30 (.agg #[.int .i64 a.br, .int .u64 (a.life : Int), .int .u64 (a.ser : Int)]) (.agg #[.int .i64 b.br, .int .u64 (b.life : Int), .int .u64 (b.ser : Int)])) w = .ok (.bool (decide (a = b))) w := by
  intro w
  rw [run_eql_struct, show (10000 : Nat) = 9999 + 1 from rfl, run_equalIn_agg w 9999 30 _ _ (by kernel_rfl) (by kernel_rfl)]
  simp only [Program.fieldsOf, Try.underlying30]
  go_simp
  obtain ⟨a1, a2, a3⟩ := a
  obtain ⟨b1, b2, b3⟩ := b
  simp only [PM.Id.mk.injEq]
  by_cases e1 : a1 = b1 <;> by_cases e2 : a2 = b2 <;> by_cases e3 : a3 = b3 <;> simp [e1, e2, e3] <;> omega
theorem id0_run (a : PM.Id) : ∀ w : World, Sem.run Try.prog (binOp .eql 30 (.agg #[.int .i64 a.br, .int .u64 (a.life : Int), .int .u64 (a.ser : Int)]) (.agg #[.int .i64 0, .int .u64 0, .int .u64 0])) w = .ok (.bool (decide (a = PM.Id0))) w := by
  have h := ideq_run a PM.Id0
  unfold PM.Id0 at h ⊢
  exact h
namespace PM
/-- a record -/
structure Rc where
  kind : Int
  n : Nat
  en : En
  id : Id
def Rc.wf (x : Rc) : Prop := (Lit.int .i64 x.kind).wf = true ∧ x.n < 2 ^ 64 ∧ x.en.wf ∧ x.id.wf
def rcC (x : Rc) (fv ev : Value) : List Value := [.int .i64 x.kind, .int .u64 (x.n : Int)] ++ enC x.en fv ev ++ idL x.id
def rcP (x : Rc) : Prop := ((x.kind = 3 ∧ x.n = 0 ∨ x.kind = 2) ∧ x.id = Id0 ∧ enOk x.en) ∨ ((x.kind = 4 ∨ x.kind = 5) ∧ x.n = 0 ∧ (0 ≤ x.id.br ∧ x.id.br < 16) ∧ enNil x.en) ∨ (x.kind = 1 ∧ x.id = Id0 ∧ enNil x.en)
end PM
end Go.Proofs.Ytjninckmgkaliaa
