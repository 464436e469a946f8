/-
  MAPS WITH int KEYS, THAT THE CALL MAKES: what one holds, a new entry, a look-up. Over any program.
-/
import Derived.Test.YtklgibkdbdhaiaaBk
import Derived.MapKept
namespace Go.Proofs.Ytklgibkdbdhaiaa
namespace PM
open Go.RowKit
set_option linter.unusedVariables false
/-- a map's entries, in the order in which they were laid -/
def IM (w : World) (b : Nat) (kvs : List (Int × Value)) : Prop := ∃ es clock, w.heap[b]? = some (.map es clock) ∧ es.toList.map (fun e => (e.key, e.val)) = kvs.map (fun p => (Value.int .i64 p.1, p.2))
def lookI (a : Int) : List (Int × Value) → Option Value
  | [] => none
  | (k, v) :: r => if a = k then some v else lookI a r
theorem IM.lt {w : World} {b : Nat} {kvs : List (Int × Value)} (h : IM w b kvs) : b < w.heap.size := by
  obtain ⟨es, clock, h1, _⟩ := h
  exact (Array.getElem?_eq_some_iff.1 h1).1
theorem IM.keep {W w : World} {b : Nat} {kvs : List (Int × Value)} (hb : Below W.heap.size W w) (h : IM W b kvs) : IM w b kvs := by
  have hl := h.lt
  obtain ⟨es, clock, h1, h2⟩ := h
  exact ⟨es, clock, (hb.block b hl).trans h1, h2⟩
theorem IM.new (w : World) : IM (w.alloc (.map #[] 0)) w.heap.size [] := ⟨#[], 0, heap_alloc_new w _, rfl⟩
theorem findNow_int (a : Int) : ∀ (es : List MapEntry) (kvs : List (Int × Value)) (i : Nat), es.map (fun e => (e.key, e.val)) = kvs.map (fun p => (Value.int .i64 p.1, p.2)) →
    ∃ r, Instr.findNow (.int .i64) (.int .i64 a) es i = some r ∧ r.map (·.2) = lookI a kvs
  | [], [], _, _ => ⟨none, rfl, rfl⟩
  | [], _ :: _, _, h => by simp at h
  | _ :: _, [], _, h => by simp at h
  | e :: es, (k, v) :: kvs, i, h => by
    simp only [List.map_cons, List.cons.injEq, Prod.mk.injEq] at h
    obtain ⟨⟨h1, h2⟩, h3⟩ := h
    obtain ⟨r, hr, hl⟩ := findNow_int a es kvs (i + 1) h3
    unfold Instr.findNow lookI
    rw [h1]
    by_cases hk : a = k
    · subst hk
      exact ⟨some (i, e.val), by simp [Instr.sameNow], by simp [h2]⟩
    · refine ⟨r, ?_, ?_⟩
      · have : (a == k) = false := by simpa using hk
        simp [Instr.sameNow, this, hr]
      · rw [hl, if_neg hk]
section
variable {P : Program} {T K E : TypeId}
theorem run_insert_int (hT : P.underlying T = some (.map K E)) (hK : P.underlying K = some (.int .i64)) {w : World} {b : Nat} {kvs : List (Int × Value)} (h : IM w b kvs) (a : Int) (v : Value) (hno : lookI a kvs = none) :
    ∃ w', (Instr.mapUpdate T (.map (some b)) (.int .i64 a) v).run P w = .ok () w' ∧ IM w' b (kvs ++ [(a, v)]) ∧ Bx b w w' := by
  have hlt := h.lt
  obtain ⟨es, clock, h1, h2⟩ := h
  obtain ⟨r, hr, hl⟩ := findNow_int a es.toList kvs 0 h2
  rw [hno] at hl
  have hr0 : r = none := by cases r <;> simp at hl ⊢
  subst hr0
  refine ⟨{ w with heap := w.heap.setIfInBounds b (.map (es.push ⟨.int .i64 a, v, clock⟩) (clock + 1)) }, ?_, ⟨es.push ⟨.int .i64 a, v, clock⟩, clock + 1, ?_, ?_⟩, ⟨rfl, rfl, rfl, by simp, fun k hk hne => ?_⟩⟩
  · unfold Instr.mapUpdate
    simp only [Sem.run_bind, run_underlying hT, Result.andThen_ok, Go.MapKept.run_getObj_map h1, Go.MapKept.run_checkKey (k := .int .i64 a) hK rfl, Go.MapKept.run_findKey hK hr, Go.MapKept.run_setObj_map _ h1]
  · simp [hlt]
  · simp [h2]
  · simp [Ne.symm hne]
theorem run_lookup_int (hT : P.underlying T = some (.map K E)) (hK : P.underlying K = some (.int .i64)) {w : World} {b : Nat} {kvs : List (Int × Value)} (h : IM w b kvs) (a : Int) {z : Value} (hz : (zeroValue E).run P w = .ok z w) :
    (Instr.lookup T (.map (some b)) (.int .i64 a) false).run P w = .ok ((lookI a kvs).getD z) w := by
  obtain ⟨es, clock, h1, h2⟩ := h
  obtain ⟨r, hr, hl⟩ := findNow_int a es.toList kvs 0 h2
  rw [← hl]
  have hf := Go.MapKept.run_findKey (w := w) hK hr
  have hc : (Instr.checkKey es.isEmpty 10000 K (.int .i64 a)).run P w = .ok () w := Go.MapKept.run_checkKey (w := w) (k := .int .i64 a) hK rfl es.isEmpty 9999
  unfold Instr.lookup
  cases r with
  | none =>
    simp only [Sem.run_bind, run_underlying hT, Result.andThen_ok, Go.MapKept.run_getObj_map h1]
    simp [hc, hf, hz, Result.andThen]
  | some p =>
    simp only [Sem.run_bind, run_underlying hT, Result.andThen_ok, Go.MapKept.run_getObj_map h1]
    simp [hc, hf, Result.andThen]
end
end PM
end Go.Proofs.Ytklgibkdbdhaiaa
