/-
  APPEND WHOSE SECOND ARGUMENT HAS A SLICE TYPE OF ITS OWN. Over any program.
-/
import Derived.Test.YtbpajgejfnjaeaaGm
namespace Go.Proofs.Ytbpajgejfnjaeaa
namespace PM
open Go.RowKit
set_option linter.unusedVariables false
section
variable {P : Program} {w : World} {ops : Array Oper} {rest : List Oper} {o : Oper} {a : Act} {Q : Exit → Act → World → Prop}
theorem append_two {T T' E E' : TypeId} (h1 : P.underlying T = some (.slice E)) (h2 : P.underlying T' = some (.slice E')) (ty : TypeId) (s x : Value) (w : World) :
    (Builtin.append_ #[T, T'] ty #[s, x]).run P w = (Builtin.append_ #[T, T] ty #[s, x]).run P w := by
  cases s <;> simp [Builtin.append_, run_underlying h1, run_underlying h2]
variable {α : Type} {e : α → List Value} {c : Nat} {E : TypeId}
theorem wpList_em2 {T T' E' : TypeId} {nb : Nat} (ET : MTy P T E c nb) (hT' : P.underlying T' = some (.slice E')) (he : ∀ x, (e x).length = c) (h1 : ∀ x, ∀ u ∈ e x, u.oneCell' = true) (B : Nat) (hgd : o.guard = none) (s x : Operand)
    (ho : o.op = .call { callee := .builtin .append, args := #[s, x], argTypes := #[T, T'] })
    (v xv : Value) (l m : List α) (hs : a.eval s = v) (hx : a.eval x = xv) (hown : OM e c E B w v l) (hsrc : EM e c w xv m) (hn : (l.length + m.length) * nb ≤ 140737488355328) (hn2 : l.length + m.length ≤ maxLen) (hB : B ≤ w.heap.size)
    (h : ∀ v' w', OM e c E B w' v' (l ++ m) → Below B w w' → w.grownBy w' v.ownBlock → Sep w v v' → wpList P ops Q rest (a.put o.dst v') w') : wpList P ops Q (o :: rest) a w := by
  obtain ⟨i, z, hi, hz, hsz, hby, hzs⟩ := ET.row
  obtain ⟨ad, cap, rfl, h1', h2, h3⟩ := hsrc
  refine wpList_plain hgd fun K hK => ?_
  by_cases h0 : ad = none
  · subst h0
    by_cases hm : 0 < m.length
    · obtain ⟨_, _, ha, _⟩ := h3 hm
      cases ha
    · have hm0 : m = [] := List.length_eq_zero_iff.1 (by omega)
      subst hm0
      have hrun : (Builtin.append_ #[T, T] o.type #[v, .slice none 0 cap]).run P w = .ok v w := by
        rcases hown.2 with ⟨rfl, h00⟩ | ⟨g, cap', cur, rfl, _, _, hnc, _⟩
        · simp [Builtin.append_, run_underlying ET.sl, sizeOf, typeInfo, hi, Builtin.lenOf, Builtin.firstCells]
        · simp [Builtin.append_, run_underlying ET.sl, sizeOf, typeInfo, hi, Builtin.lenOf, Builtin.firstCells, hnc, storeCells]
      unfold Oper.wp
      simp [execOp, ho, resolve, invoke, builtin, hs, hx, append_two ET.sl hT', hrun, Result.andThen]
      exact hK _ _ (h v w (by simpa using hown) (Below.refl _ _) ⟨rfl, rfl, rfl, Nat.le_refl _, fun _ _ _ => rfl⟩ (.inl rfl))
  · obtain ⟨ad0, rfl⟩ := Option.ne_none_iff_exists'.1 h0
    obtain ⟨v', w', hr, g2, g3, g4⟩ := run_append_sep (P := P) (w := w) B T o.type E i z c nb ET.sl hi hz hsz hby hzs ET.pos v l.length (l.flatMap e) hown ad0 m.length cap (m.flatMap e) (flat_len he m) (by
      intro j u hu
      obtain ⟨y, hy, hu'⟩ := flat_inv ET.pos he m j u hu
      obtain ⟨b, off, ha, h4⟩ := h3 (Nat.lt_of_le_of_lt (Nat.zero_le _) (List.getElem?_eq_some_iff.1 hy).1)
      cases ha
      have ea : (⟨b, off, none⟩ : Addr).add j = ⟨b, off + j, none⟩ := by unfold Addr.add; split <;> simp_all
      rw [ea]
      have := h4 _ y hy _ u hu'
      rw [show off + j / c * c + j % c = off + j by rw [Nat.add_assoc, Nat.div_add_mod']] at this
      exact this) (by
      intro u hu
      obtain ⟨y, hy, hu⟩ := List.mem_flatMap.1 hu
      exact h1 y u hu) hn2 hn hB
    unfold Oper.wp execOp
    simp only [ho, resolve, invoke, builtin, Sem.run_bind, Sem.run_pure, Result.andThen_ok, List.map_toArray, List.map_cons, List.map_nil, hs, hx, append_two ET.sl hT', hr]
    exact hK _ _ (h v' w' (by simpa [OM] using g2) (hown.below (Below.refl _ _) g3 hB) g3 g4)
end
end PM
end Go.Proofs.Ytbpajgejfnjaeaa
