/-
  GENERIC LAWS for rows cut and grown in place: setCells, clear, cuts; an append as an equation. (Of the texts Sa, Sc, for seats without package fold.)
-/
import Derived.Test.YtnpbfjkfbobgaaaGreatGk
import Derived.Lib.SliceRun
namespace Go.Proofs.YtnpbfjkfbobgaaaGreat
open Go.RowKit
set_option linter.unusedVariables false
set_option linter.unusedSimpArgs false
namespace PM
theorem BK.setCells {T : TypeId} {g : Nat} : ∀ (zs : List Value) (o : Nat) {w : World} {cs : Array Value}, BK w g cs T → ∃ cs', BK (w.setCells g o zs) g cs' T ∧ cs'.size = cs.size ∧ ∀ k, k < o → cs'[k]? = cs[k]?
  | [], o, w, cs, h => ⟨cs, h, rfl, fun _ _ => rfl⟩
  | z :: zs, o, w, cs, h => by
    obtain ⟨cs', h1, h2, h3⟩ := BK.setCells zs (o + 1) (h.set o z)
    refine ⟨cs', h1, by simpa using h2, fun k hk => ?_⟩
    rw [h3 k (by omega), Array.getElem?_setIfInBounds, if_neg (by omega)]
theorem Bx.setCells (g : Nat) : ∀ (zs : List Value) (o : Nat) (w : World), Bx g w (w.setCells g o zs)
  | [], o, w => Bx.refl _ _
  | z :: zs, o, w => (Bx.set g o w z).trans (Bx.setCells g zs (o + 1) _)
theorem Bx.grown {g : Nat} {w w' : World} (x : Bx g w w') : w.grownBy w' (some g) := ⟨x.os, x.tape, x.output, x.size, fun k hk hne => x.block k hk (fun e => hne (by rw [e]))⟩
theorem Below.grown {w w' : World} {row : Option Nat} (x : Below w.heap.size w w') : w.grownBy w' row := ⟨x.os, x.tape, x.output, x.size, fun k hk _ => x.block k hk⟩
/-- 'clear(s)' on elements of any size -/
theorem run_clearN {P : Program} {t e : TypeId} {z : Value} (ht : P.underlying t = some (.slice e)) (hv : ∀ w, (zeroValue e).run P w = .ok z w) (h1 : ∀ u ∈ z.cells.toList, u.oneCell' = true) {w : World} {b o n c : Nat} (hn : 0 < n)
    {cs : Array Value} {T : TypeId} (hb : BK w b cs T) (hlen : o + n * z.cells.size ≤ cs.size) :
    ∃ zs, ∀ ty, (Builtin.clear_ #[t] ty #[.slice (some ⟨b, o, none⟩) n c]).run P w = .ok (.tuple #[]) (w.setCells b o zs) := by
  refine ⟨(Builtin.zeroCells z.cells n).toList, fun ty => ?_⟩
  have hl : (Builtin.zeroCells z.cells n).toList.length = n * z.cells.size := by simp [Builtin.zeroCells]
  have hst := run_storeCells_cells (P := P) b o (Builtin.zeroCells z.cells n).toList 0 w (fun j hj => by
      rw [hl] at hj
      rw [hb.cell, Array.getElem?_eq_getElem (by omega)]
      rfl) (fun j _ => hb.free _) (fun u hu => by
      simp only [Builtin.zeroCells, Array.toList_map, List.mem_map] at hu
      obtain ⟨i, hi, rfl⟩ := hu
      have h0 : 0 < z.cells.size := by
        rcases Nat.eq_zero_or_pos z.cells.size with h | h
        · simp [h] at hi
        · exact h
      have hm : i % z.cells.size < z.cells.size := Nat.mod_lt _ h0
      rw [getElem!_pos z.cells _ hm]
      exact h1 _ (Array.getElem_mem_toList hm))
  simp only [Nat.add_zero] at hst
  obtain ⟨m, rfl⟩ : ∃ m, n = m + 1 := ⟨n - 1, by omega⟩
  simp [Builtin.clear_, run_underlying ht, hv, hst]
theorem run_cutL {P : Program} {T E : TypeId} {c nb : Nat} (MT : MTy P T E c nb) (g n cap K : Nat) (hn : n ≤ cap) (hc : cap ≤ maxLen) (hK : K ≤ n) (h0 : K < cap) (W : World) :
    (Instr.slice T (.slice (some ⟨g, 0, none⟩) n cap) (some (.int .i64 (K : Int))) none none).run P W = .ok (.slice (some ⟨g, K * c, none⟩) (n - K) (cap - K)) W := by
  obtain ⟨hT, hs⟩ := MT.size
  have ea : (⟨g, 0, none⟩ : Addr).add (K * c) = ⟨g, K * c, none⟩ := by unfold Addr.add; split <;> simp_all
  rw [run_slice_l W T _ n cap hT .i64 K (by omega) (by omega), hs]
  simp [Result.andThen, sliced, Nat.ne_of_gt h0, ea]
theorem run_cutH {P : Program} {T E : TypeId} {c nb : Nat} (MT : MTy P T E c nb) (g n cap K : Nat) (hn : n ≤ cap) (hc : cap ≤ maxLen) (hK : K ≤ n) (h0 : 0 < cap) (W : World) :
    (Instr.slice T (.slice (some ⟨g, 0, none⟩) n cap) none (some (.int .i64 (K : Int))) none).run P W = .ok (.slice (some ⟨g, 0, none⟩) K cap) W := by
  obtain ⟨hT, hs⟩ := MT.size
  rw [run_slice_h W T _ n cap hT .i64 K (by omega) (by omega), hs]
  simp [Result.andThen, sliced, Nat.ne_of_gt h0, Addr.add]
section
variable {α : Type} {R : World → List Value → α → Prop} {e : α → List Value} {c nb : Nat} {E T : TypeId} {B : Nat} {P : Program} {w : World} {v xv : Value} {l : List α} {y : α}
theorem run_omS (ET : MTy P T E c nb) (he : ∀ x, (e x).length = c) (h1 : ∀ x, ∀ u ∈ e x, u.oneCell' = true) (ty : TypeId) (hown : OM e c E B w v l) (hsrc : EM e c w xv [y]) (hn : (l.length + 1) * nb ≤ 140737488355328) (hn2 : l.length + 1 ≤ maxLen) (hB : B ≤ w.heap.size) :
    ∃ v' w', (Builtin.append_ #[T, T] ty #[v, xv]).run P w = .ok v' w' ∧ OM e c E B w' v' (l ++ [y]) ∧ w.grownBy w' v.ownBlock ∧ Sep w v v' := by
  obtain ⟨i, z, hi, hz, hsz, hby, hzs⟩ := ET.row
  obtain ⟨ad, cap, rfl, h1', h2, h3⟩ := hsrc
  obtain ⟨b, off, rfl, h4⟩ := h3 (by simp)
  obtain ⟨v', w', hr, k1, k2, k3⟩ := run_append_sep (P := P) (w := w) B T ty E i z c nb ET.sl hi hz hsz hby hzs ET.pos v l.length (l.flatMap e) hown ⟨b, off, none⟩ 1 cap ([y].flatMap e) (flat_len he [y]) (by
    intro j u hu
    obtain ⟨y', hy, hu'⟩ := flat_inv ET.pos he [y] j u hu
    have ea : (⟨b, off, none⟩ : Addr).add j = ⟨b, off + j, none⟩ := by unfold Addr.add; split <;> simp_all
    rw [ea]
    have := h4 _ y' hy _ u hu'
    rw [show off + j / c * c + j % c = off + j by rw [Nat.add_assoc, Nat.div_add_mod']] at this
    exact this) (by
    intro u hu
    obtain ⟨y', hy, hu⟩ := List.mem_flatMap.1 hu
    exact h1 y' u hu) hn2 hn hB
  exact ⟨v', w', hr, by simpa [OM] using k1, k2, k3⟩
theorem run_orS (ET : MTy P T E c nb) (hS : Stays R E) (ty : TypeId) (hown : OR R c E B w v l) (hsrc : RR R c w xv [y]) (hn : (l.length + 1) * nb ≤ 140737488355328) (hn2 : l.length + 1 ≤ maxLen) (hB : B ≤ w.heap.size) :
    ∃ v' w', (Builtin.append_ #[T, T] ty #[v, xv]).run P w = .ok v' w' ∧ OR R c E B w' v' (l ++ [y]) ∧ w.grownBy w' v.ownBlock ∧ Sep w v v' := by
  obtain ⟨css, g1, g2, g3⟩ := hown
  obtain ⟨csm, k1, k2, k3⟩ := hsrc
  match csm, k2 with
  | [cm], _ =>
    obtain ⟨v', w', hr, h1, h2, h3⟩ := run_omS ET ceL_len ceL_one ty g1 k1 (by rw [g2]; exact hn) (by rw [g2]; exact hn2) hB
    refine ⟨v', w', hr, ⟨css ++ [cm], h1, by simp [g2], fun i cs x hi hx => ?_⟩, h2, h3⟩
    have ht := OM.rowty g1
    by_cases hl : i < css.length
    · rw [List.getElem?_append_left hl] at hi
      rw [List.getElem?_append_left (by omega)] at hx
      exact hS _ _ _ _ _ h2 ht (g3 i cs x hi hx)
    · rw [List.getElem?_append_right (by omega)] at hi
      rw [List.getElem?_append_right (by omega), ← g2] at hx
      exact hS _ _ _ _ _ h2 ht (k3 _ cs x hi hx)
theorem RR.one {w0 : World} (hL : Lasts R) (W : World) (E : TypeId) (cs0 : Ce c) (x : α) (cs : Array Value) (hcs : cs = cs0.1.toArray) (hR : R W cs0.1 x) : RR R c (W.alloc (.cells cs E)) (.slice (some ⟨W.heap.size, 0, none⟩) 1 1) [x] := by
  subst hcs
  refine ⟨[cs0], EM.lit ceL_len W E cs0, rfl, fun i c0 y h1 h2 => ?_⟩
  match i with
  | 0 =>
    simp at h1 h2
    subst h1 h2
    exact hL _ _ _ _ ((Below.refl _ _).alloc (Nat.le_refl _) _) hR
  | i + 1 => simp at h1
end
theorem wp_appendS {P : Program} {T : TypeId} {o : Oper} {a : Act} {w w' : World} {v xv v' : Value} {Q : Act → World → Prop} {K : Exit → Act → World → Prop} (hgd : o.guard = none) (s x : Operand) (ho : o.op = .call { callee := .builtin .append, args := #[s, x], argTypes := #[T, T] }) (hs : a.eval s = v) (hx : a.eval x = xv) (hrun : (Builtin.append_ #[T, T] o.type #[v, xv]).run P w = .ok v' w') (h : Q (a.put o.dst v') w') : o.wp P a w Q K := by
  unfold Oper.wp
  simp [execOp, ho, resolve, invoke, builtin, hs, hx, hrun, Result.andThen]
  exact h
end PM
end Go.Proofs.YtnpbfjkfbobgaaaGreat
