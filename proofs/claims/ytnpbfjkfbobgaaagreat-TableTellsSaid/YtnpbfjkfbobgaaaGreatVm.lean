/-
  SETS OF IDs, THAT THE CALL MAKES (map[api.ID]struct{}): what one holds, a look-up, a new member, one less. Over any program whose keys are met.
-/
import Derived.Test.YtnpbfjkfbobgaaaGreatG0
import Derived.Test.YtnpbfjkfbobgaaaGreatJA
import Derived.MapKept
import Derived.Laws.StructEq
namespace Go.Proofs.YtnpbfjkfbobgaaaGreat
namespace PM
open Go.RowKit
set_option linter.unusedVariables false
set_option linter.unusedSimpArgs false
def idv (i : Id) : Value := .agg #[.int .i64 i.br, .int .u64 (i.life : Int), .int .u64 (i.ser : Int)]
theorem idv_inj {a b : Id} (h : idv a = idv b) : a = b := by
  obtain ⟨a1, a2, a3⟩ := a
  obtain ⟨b1, b2, b3⟩ := b
  simp [idv] at h
  obtain ⟨h1, h2, h3⟩ := h
  subst h1
  obtain rfl : a2 = b2 := by omega
  obtain rfl : a3 = b3 := by omega
  rfl
/-- keys are IDs -/
structure IdKey (P : Program) (K : TypeId) : Prop where
  und : ∃ fs, P.underlying K = some (.struct fs)
  eq : ∀ (a b : Id) (w : World), (Op.equal K (idv a) (idv b)).run P w = .ok (decide (a = b)) w
  chk : ∀ (e : Bool) (a : Id) (w : World), (Instr.checkKey e 10000 K (idv a)).run P w = .ok () w
/-- what a set holds -/
def DS (w : World) (b : Nat) (S : Id → Prop) : Prop := ∃ (es : Array MapEntry) (clock : Nat) (l : List Id), w.heap[b]? = some (.map es clock) ∧ es.toList.map (fun e => (e.key, e.val)) = l.map (fun i => (idv i, Value.agg #[])) ∧ l.Nodup ∧ ∀ i, i ∈ l ↔ S i
variable {w W : World} {b : Nat} {S : Id → Prop}
theorem DS.lt (h : DS w b S) : b < w.heap.size := by
  obtain ⟨es, clock, l, h1, _⟩ := h
  exact (Array.getElem?_eq_some_iff.1 h1).1
theorem DS.keep (hb : Below W.heap.size W w) (h : DS W b S) : DS w b S := by
  have hl := h.lt
  obtain ⟨es, clock, l, h1, h2⟩ := h
  exact ⟨es, clock, l, (hb.block b hl).trans h1, h2⟩
theorem DS.keepx {g : Nat} (hx : Bx g W w) (hne : b ≠ g) (h : DS W b S) : DS w b S := by
  have hl := h.lt
  obtain ⟨es, clock, l, h1, h2⟩ := h
  exact ⟨es, clock, l, (hx.block b hl hne).trans h1, h2⟩
theorem DS.imp {T : Id → Prop} (h : DS w b S) (hi : ∀ i, S i ↔ T i) : DS w b T := by
  obtain ⟨es, clock, l, h1, h2, h3, h4⟩ := h
  exact ⟨es, clock, l, h1, h2, h3, fun i => (h4 i).trans (hi i)⟩
theorem DS.grown {w' : World} {row : Option Nat} (hg : w.grownBy w' row) (hne : ∀ g, row = some g → ∃ cur E m, w.heap[g]? = some (.cells cur E m)) (h : DS w b S) : DS w' b S := by
  have hl := h.lt
  obtain ⟨es, clock, l, h1, h2⟩ := h
  refine ⟨es, clock, l, ?_, h2⟩
  rw [← h1]
  refine hg.block b hl ?_
  intro he
  obtain ⟨cur, E, m, hc⟩ := hne b he.symm
  rw [h1] at hc
  cases hc
theorem DS.new (w : World) : DS (w.alloc (.map #[] 0)) w.heap.size (fun _ => False) := ⟨#[], 0, [], heap_alloc_new w _, rfl, List.nodup_nil, fun i => by simp⟩
section
variable {P : Program} {T K E : TypeId}
theorem findAsking_id (IK : IdKey P K) (a : Id) (w : World) : ∀ (es : List MapEntry) (l : List Id) (i : Nat), es.map (fun e => (e.key, e.val)) = l.map (fun i => (idv i, Value.agg #[])) →
    (a ∉ l ∧ (Instr.findAsking K (idv a) es i).run P w = .ok none w) ∨ ∃ j e, l[j]? = some a ∧ es[j]? = some e ∧ e.key = idv a ∧ e.val = .agg #[] ∧ (Instr.findAsking K (idv a) es i).run P w = .ok (some (i + j, .agg #[])) w
  | [], [], i, _ => .inl ⟨by simp, by simp [Instr.findAsking]⟩
  | [], _ :: _, _, h => by simp at h
  | _ :: _, [], _, h => by simp at h
  | e :: es, k :: l, i, h => by
    simp only [List.map_cons, List.cons.injEq, Prod.mk.injEq] at h
    obtain ⟨⟨h1, h2⟩, h3⟩ := h
    have hq := IK.eq a k w
    by_cases hk : a = k
    · subst hk
      refine .inr ⟨0, e, rfl, rfl, h1, h2, ?_⟩
      simp [Instr.findAsking, h1, h2, hq, Result.andThen]
    · rcases findAsking_id IK a w es l (i + 1) h3 with ⟨g1, g2⟩ | ⟨j, e', g1, g2, g3, g4, g5⟩
      · exact .inl ⟨by simp [hk, g1], by simp [Instr.findAsking, h1, hq, hk, g2, Result.andThen]⟩
      · exact .inr ⟨j + 1, e', by simpa using g1, by simpa using g2, g3, g4, by simp [Instr.findAsking, h1, hq, hk, g5, Result.andThen, Nat.add_assoc, Nat.add_comm 1 j]⟩
theorem findKey_id (IK : IdKey P K) (a : Id) (w : World) (es : List MapEntry) (l : List Id) (h : es.map (fun e => (e.key, e.val)) = l.map (fun i => (idv i, Value.agg #[]))) :
    (a ∉ l ∧ (Instr.findKey K (idv a) es).run P w = .ok none w) ∨ ∃ j e, l[j]? = some a ∧ es[j]? = some e ∧ e.key = idv a ∧ e.val = .agg #[] ∧ (Instr.findKey K (idv a) es).run P w = .ok (some (j, .agg #[])) w := by
  obtain ⟨fs, hu⟩ := IK.und
  have hn : Instr.findNow (.struct fs) (idv a) es 0 = none ∨ es = [] := by
    cases es with
    | nil => exact .inr rfl
    | cons e es => exact .inl (by simp [Instr.findNow, Instr.sameNow])
  rcases hn with hn | rfl
  · have hrun : (Instr.findKey K (idv a) es).run P w = (Instr.findAsking K (idv a) es 0).run P w := by
      unfold Instr.findKey
      simp only [Sem.run_bind, run_underlying hu, Result.andThen_ok, hn]
    rw [hrun]
    rcases findAsking_id IK a w es l 0 h with h | ⟨j, e, g1, g2, g3, g4, g5⟩
    · exact .inl h
    · exact .inr ⟨j, e, g1, g2, g3, g4, by simpa using g5⟩
  · cases l with
    | cons _ _ => simp at h
    | nil =>
      refine .inl ⟨by simp, ?_⟩
      unfold Instr.findKey
      simp only [Sem.run_bind, run_underlying hu, Result.andThen_ok, Instr.findNow]
      rfl
theorem run_lookD (hT : P.underlying T = some (.map K E)) (IK : IdKey P K) (h : DS w b S) (a : Id) (hz : ∀ w : World, (zeroValue E).run P w = .ok (.agg #[]) w) :
    ∃ c : Bool, (c = true ↔ S a) ∧ (Instr.lookup T (.map (some b)) (idv a) true).run P w = .ok (.tuple #[.agg #[], .bool c]) w := by
  obtain ⟨es, clock, l, h1, h2, h3, h4⟩ := h
  rcases findKey_id IK a w es.toList l h2 with ⟨g1, g2⟩ | ⟨j, e, g1, g2, g3, g4, g5⟩
  · refine ⟨false, ⟨fun h => (by cases h), fun h => absurd ((h4 a).2 h) g1⟩, ?_⟩
    unfold Instr.lookup
    simp [run_underlying hT, Go.MapKept.run_getObj_map h1, IK.chk, g2, hz, Result.andThen]
  · refine ⟨true, ⟨fun _ => (h4 a).1 (List.mem_of_getElem? g1), fun _ => rfl⟩, ?_⟩
    unfold Instr.lookup
    simp [run_underlying hT, Go.MapKept.run_getObj_map h1, IK.chk, g5, Result.andThen]
theorem sameBits_idv (a : Id) : Instr.sameBits 10000 (idv a) (idv a) = true := by
  show Instr.sameBits (9999 + 1) (idv a) (idv a) = true
  simp [Instr.sameBits, idv]
theorem run_insD (hT : P.underlying T = some (.map K E)) (IK : IdKey P K) (h : DS w b S) (a : Id) :
    ∃ w', (Instr.mapUpdate T (.map (some b)) (idv a) (.agg #[])).run P w = .ok () w' ∧ DS w' b (fun i => S i ∨ i = a) ∧ Bx b w w' := by
  have hlt := h.lt
  obtain ⟨es, clock, l, h1, h2, h3, h4⟩ := h
  rcases findKey_id IK a w es.toList l h2 with ⟨g1, g2⟩ | ⟨j, e, g1, g2, g3, g4, g5⟩
  · refine ⟨{ w with heap := w.heap.setIfInBounds b (.map (es.push ⟨idv a, .agg #[], clock⟩) (clock + 1)) }, ?_, ⟨es.push ⟨idv a, .agg #[], clock⟩, clock + 1, l ++ [a], ?_, ?_, ?_, ?_⟩, ⟨rfl, rfl, rfl, by simp, fun k hk hne => ?_⟩⟩
    · unfold Instr.mapUpdate
      simp [run_underlying hT, Go.MapKept.run_getObj_map h1, IK.chk, g2, Go.MapKept.run_setObj_map _ h1, Result.andThen]
    · simp [hlt]
    · simp [h2]
    · refine List.nodup_append.2 ⟨h3, by simp, fun x hx y hy => ?_⟩
      simp at hy
      subst hy
      exact fun he => g1 (he ▸ hx)
    · intro i
      simp [h4 i]
    · simp [Ne.symm hne]
  · have hek : (es[j]?) = some e := by simpa using g2
    refine ⟨{ w with heap := w.heap.setIfInBounds b (.map (es.modify j fun e => { e with key := idv a, val := .agg #[] }) clock) }, ?_, ⟨es.modify j fun e => { e with key := idv a, val := .agg #[] }, clock, l, ?_, ?_, h3, ?_⟩, ⟨rfl, rfl, rfl, by simp, fun k hk hne => ?_⟩⟩
    · unfold Instr.mapUpdate
      simp [run_underlying hT, Go.MapKept.run_getObj_map h1, IK.chk, g5, hek, g3, Instr.keyThatStays, sameBits_idv, Go.MapKept.run_setObj_map _ h1, Result.andThen]
    · simp [hlt]
    · rw [← h2]
      apply List.ext_getElem?
      intro k
      simp only [List.getElem?_map, Array.getElem?_toList, Array.getElem?_modify]
      by_cases hjk : j = k
      · subst hjk
        simp [hek, g3, g4]
      · simp [hjk]
    · intro i
      refine (h4 i).trans ⟨.inl, fun h => ?_⟩
      rcases h with h | rfl
      · exact h
      · exact (h4 i).1 (List.mem_of_getElem? g1)
    · simp [Ne.symm hne]
theorem map_eraseIdx {α β : Type} (f : α → β) : ∀ (l : List α) (j : Nat), (l.eraseIdx j).map f = (l.map f).eraseIdx j
  | [], _ => rfl
  | _ :: _, 0 => rfl
  | a :: l, j + 1 => by simp [List.eraseIdx_cons_succ, map_eraseIdx f l j]
theorem mem_eraseIdx_nd {a : Id} : ∀ (l : List Id) (j : Nat), l.Nodup → l[j]? = some a → ∀ i, i ∈ l.eraseIdx j ↔ i ∈ l ∧ i ≠ a
  | [], j, _, h, _ => by simp at h
  | x :: l, 0, hn, h, i => by
    simp at h
    subst h
    have hx := (List.nodup_cons.1 hn).1
    simp only [List.eraseIdx_cons_zero, List.mem_cons]
    exact ⟨fun hi => ⟨.inr hi, fun he => hx (he ▸ hi)⟩, fun ⟨h1, h2⟩ => h1.resolve_left h2⟩
  | x :: l, j + 1, hn, h, i => by
    have hx := (List.nodup_cons.1 hn).1
    have hl : l[j]? = some a := by simpa using h
    have ih := mem_eraseIdx_nd l j (List.nodup_cons.1 hn).2 hl i
    simp only [List.eraseIdx_cons_succ, List.mem_cons, ih]
    have hxa : x ≠ a := fun he => hx (he ▸ List.mem_of_getElem? hl)
    exact ⟨fun h => h.elim (fun h => ⟨.inl h, h ▸ hxa⟩) fun h => ⟨.inr h.1, h.2⟩, fun ⟨h1, h2⟩ => h1.elim .inl fun h => .inr ⟨h, h2⟩⟩
theorem run_delD (hT : P.underlying T = some (.map K E)) (IK : IdKey P K) (h : DS w b S) (a : Id) (ats : Array TypeId) (ty : TypeId) (ha : ats[0]? = some T) :
    ∃ w', (Builtin.delete_ ats ty #[.map (some b), idv a]).run P w = .ok (.tuple #[]) w' ∧ DS w' b (fun i => S i ∧ i ≠ a) ∧ Bx b w w' := by
  have hlt := h.lt
  obtain ⟨es, clock, l, h1, h2, h3, h4⟩ := h
  rcases findKey_id IK a w es.toList l h2 with ⟨g1, g2⟩ | ⟨j, e, g1, g2, g3, g4, g5⟩
  · refine ⟨{ w with heap := w.heap.setIfInBounds b (.map es clock) }, ?_, ⟨es, clock, l, by simp [hlt], h2, h3, fun i => (h4 i).trans ⟨fun h => ⟨h, fun he => g1 ((h4 a).2 (he ▸ h))⟩, fun h => h.1⟩⟩, ⟨rfl, rfl, rfl, by simp, fun k hk hne => by simp [Ne.symm hne]⟩⟩
    unfold Builtin.delete_
    simp [ha, run_underlying hT, Go.MapKept.run_getObj_map h1, IK.chk, g2, Go.MapKept.run_setObj_map _ h1, Result.andThen]
  · refine ⟨{ w with heap := w.heap.setIfInBounds b (.map (es.eraseIdxIfInBounds j) clock) }, ?_, ⟨es.eraseIdxIfInBounds j, clock, l.eraseIdx j, by simp [hlt], ?_, ?_, ?_⟩, ⟨rfl, rfl, rfl, by simp, fun k hk hne => by simp [Ne.symm hne]⟩⟩
    · unfold Builtin.delete_
      simp [ha, run_underlying hT, Go.MapKept.run_getObj_map h1, IK.chk, g5, Go.MapKept.run_setObj_map _ h1, Result.andThen]
    · have hj : j < es.size := by simpa using (List.getElem?_eq_some_iff.1 g2).1
      have he : (es.eraseIdxIfInBounds j).toList = es.toList.eraseIdx j := by
        unfold Array.eraseIdxIfInBounds
        rw [dif_pos hj]
        simp
      rw [he, map_eraseIdx, h2, map_eraseIdx]
    · exact (List.eraseIdx_sublist _ _).nodup h3
    · intro i
      show _ ↔ S i ∧ i ≠ a
      rw [← h4 i]
      exact mem_eraseIdx_nd l j h3 g1 i
end
end PM
set_option maxRecDepth 100000 in
set_option maxHeartbeats 400000 in
theorem idKey : PM.IdKey Tryz.prog 26 := by
  refine ⟨⟨_, Tryz.underlying26⟩, fun a b w => ?_, fun e a w => ?_⟩
  · show (Op.equalIn 10000 _ _ _).run _ _ = _
    unfold PM.idv
    rw [show (10000 : Nat) = 9999 + 1 from rfl, run_equalIn_agg w 9999 26 _ _ (by kernel_rfl) (by kernel_rfl)]
    simp only [Program.fieldsOf, Tryz.underlying26]
    go_simp
    obtain ⟨a1, a2, a3⟩ := a
    obtain ⟨b1, b2, b3⟩ := b
    simp only [PM.Id.mk.injEq]
    by_cases e1 : a1 = b1 <;> by_cases e2 : a2 = b2 <;> by_cases e3 : a3 = b3 <;> simp [e1, e2, e3] <;> omega
  · have c1 := fun (n : Int) (w : World) => Go.MapKept.run_checkKey (w := w) (k := .int .i64 n) Tryz.underlying3 rfl e 9998
    have c2 := fun (n : Int) (w : World) => Go.MapKept.run_checkKey (w := w) (k := .int .u64 n) Tryz.underlying24 rfl e 9998
    unfold Instr.checkKey
    simp [run_underlying Tryz.underlying26, PM.idv]
    go_simp
end Go.Proofs.YtnpbfjkfbobgaaaGreat
