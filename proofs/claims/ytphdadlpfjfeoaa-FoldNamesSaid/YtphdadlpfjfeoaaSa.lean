/-
  DELETION IN PLACE: slices.DeleteFunc on a row of entries of the call's own, with the closure of fold.forget. (Written by tools/mk_sa.py.)
-/
import Derived.Test.YtphdadlpfjfeoaaGk
import Derived.Lib.SliceRun
namespace Go.Proofs.Ytphdadlpfjfeoaa
open Go.RowKit
set_option linter.unusedVariables false
set_option linter.unusedSimpArgs false
namespace PM
theorem BK.setCells {T : TypeId} {g : Nat} : ∀ (zs : List Value) (o : Nat) {w : World} {cs : Array Value}, BK w g cs T → ∃ cs', BK (w.setCells g o zs) g cs' T ∧ cs'.size = cs.size ∧ ∀ k, k < o → cs'[k]? = cs[k]?
  | [], o, w, cs, h => ⟨cs, h, rfl, fun _ _ => rfl⟩
  | z :: zs, o, w, cs, h => by
    obtain ⟨cs', h1, h2, h3⟩ := BK.setCells zs (o + 1) (h.set o z)
    refine ⟨cs', h1, by simpa using h2, fun k hk => ?_⟩
    rw [h3 k (by omega), Array.getElem?_setIfInBounds, if_neg (by omega)]
theorem Bx.setCells (g : Nat) : ∀ (zs : List Value) (o : Nat) (w : World), Bx g w (w.setCells g o zs)
  | [], o, w => Bx.refl _ _
  | z :: zs, o, w => (Bx.set g o w z).trans (Bx.setCells g zs (o + 1) _)
theorem Bx.grown {g : Nat} {w w' : World} (x : Bx g w w') : w.grownBy w' (some g) := ⟨x.os, x.tape, x.output, x.size, fun k hk hne => x.block k hk (fun e => hne (by rw [e]))⟩
theorem Below.grown {w w' : World} {row : Option Nat} (x : Below w.heap.size w w') : w.grownBy w' row := ⟨x.os, x.tape, x.output, x.size, fun k hk _ => x.block k hk⟩
/-- 'clear(s)' on elements of any size -/
theorem run_clearN {P : Program} {t e : TypeId} {z : Value} (ht : P.underlying t = some (.slice e)) (hv : ∀ w, (zeroValue e).run P w = .ok z w) (h1 : ∀ u ∈ z.cells.toList, u.oneCell' = true) {w : World} {b o n c : Nat} (hn : 0 < n)
    {cs : Array Value} {T : TypeId} (hb : BK w b cs T) (hlen : o + n * z.cells.size ≤ cs.size) :
    ∃ zs, ∀ ty, (Builtin.clear_ #[t] ty #[.slice (some ⟨b, o, none⟩) n c]).run P w = .ok (.tuple #[]) (w.setCells b o zs) := by
  refine ⟨(Builtin.zeroCells z.cells n).toList, fun ty => ?_⟩
  have hl : (Builtin.zeroCells z.cells n).toList.length = n * z.cells.size := by simp [Builtin.zeroCells]
  have hst := run_storeCells_cells (P := P) b o (Builtin.zeroCells z.cells n).toList 0 w (fun j hj => by
      rw [hl] at hj
      rw [hb.cell, Array.getElem?_eq_getElem (by omega)]
      rfl) (fun j _ => hb.free _) (fun u hu => by
      simp only [Builtin.zeroCells, Array.toList_map, List.mem_map] at hu
      obtain ⟨i, hi, rfl⟩ := hu
      have h0 : 0 < z.cells.size := by
        rcases Nat.eq_zero_or_pos z.cells.size with h | h
        · simp [h] at hi
        · exact h
      have hm : i % z.cells.size < z.cells.size := Nat.mod_lt _ h0
      rw [getElem!_pos z.cells _ hm]
      exact h1 _ (Array.getElem_mem_toList hm))
  simp only [Nat.add_zero] at hst
  obtain ⟨m, rfl⟩ : ∃ m, n = m + 1 := ⟨n - 1, by omega⟩
  simp [Builtin.clear_, run_underlying ht, hv, hst]
theorem run_cutL {P : Program} {T E : TypeId} {c nb : Nat} (MT : MTy P T E c nb) (g n cap K : Nat) (hn : n ≤ cap) (hc : cap ≤ maxLen) (hK : K ≤ n) (h0 : K < cap) (W : World) :
    (Instr.slice T (.slice (some ⟨g, 0, none⟩) n cap) (some (.int .i64 (K : Int))) none none).run P W = .ok (.slice (some ⟨g, K * c, none⟩) (n - K) (cap - K)) W := by
  obtain ⟨hT, hs⟩ := MT.size
  have ea : (⟨g, 0, none⟩ : Addr).add (K * c) = ⟨g, K * c, none⟩ := by unfold Addr.add; split <;> simp_all
  rw [run_slice_l W T _ n cap hT .i64 K (by omega) (by omega), hs]
  simp [Result.andThen, sliced, Nat.ne_of_gt h0, ea]
theorem run_cutH {P : Program} {T E : TypeId} {c nb : Nat} (MT : MTy P T E c nb) (g n cap K : Nat) (hn : n ≤ cap) (hc : cap ≤ maxLen) (hK : K ≤ n) (h0 : 0 < cap) (W : World) :
    (Instr.slice T (.slice (some ⟨g, 0, none⟩) n cap) none (some (.int .i64 (K : Int))) none).run P W = .ok (.slice (some ⟨g, 0, none⟩) K cap) W := by
  obtain ⟨hT, hs⟩ := MT.size
  rw [run_slice_h W T _ n cap hT .i64 K (by omega) (by omega), hs]
  simp [Result.andThen, sliced, Nat.ne_of_gt h0, Addr.add]
/-- a row of eight cells an element, and what lies behind it in its block -/
def SR8 (T : TypeId) (w : World) (g : Nat) (d : List (Ce 8)) (tl : List Value) : Prop := BK w g (d.flatMap ceL ++ tl).toArray T
section
variable {T : TypeId} {w W : World} {g : Nat} {d : List (Ce 8)} {tl : List Value}
theorem SR8.cell (h : SR8 T w g d tl) {i : Nat} {c : Ce 8} (hi : d[i]? = some c) {j : Nat} {u : Value} (hj : c.1[j]? = some u) : w.cell? ⟨g, i * 8 + j, none⟩ = some u := by
  rw [BK.cell h]
  have e := flat_get ceL_len d i _ hi j u hj
  have hlt := (List.getElem?_eq_some_iff.1 e).1
  simp only [List.getElem?_toArray]
  rw [List.getElem?_append_left hlt]
  exact e
theorem set_app8 (y : Ce 8) (r : List Value) (i j : Nat) (u : Value) : (ceL y ++ r).set ((i + 1) * 8 + j) u = ceL y ++ r.set (i * 8 + j) u := by
  rw [List.set_append_right _ _ (by rw [ceL_len]; omega), show (i + 1) * 8 + j - (ceL y).length = i * 8 + j by rw [ceL_len]; omega]
theorem set8L (u0 u1 u2 u3 u4 u5 u6 u7 : Value) (z : Ce 8) (hz : z.1 = [u0, u1, u2, u3, u4, u5, u6, u7]) : ∀ (l : List (Ce 8)) (i : Nat), i < l.length → ((((((((l.flatMap ceL ++ tl).set (i * 8) u0).set (i * 8 + 1) u1).set (i * 8 + 2) u2).set (i * 8 + 3) u3).set (i * 8 + 4) u4).set (i * 8 + 5) u5).set (i * 8 + 6) u6).set (i * 8 + 7) u7 = (l.set i z).flatMap ceL ++ tl
  | [], i, h => absurd h (by simp)
  | ⟨ys, hy, hy2⟩ :: l, 0, h => by
    match ys, hy with
    | [a, b, c, d, e, f, g, h], _ => simp [ceL, hz]
  | y :: l, i + 1, h => by
    have ih := set8L u0 u1 u2 u3 u4 u5 u6 u7 z hz l i (by simpa using h)
    rw [List.flatMap_cons, List.append_assoc, show ∀ (r : List Value) (u : Value), (ceL y ++ r).set ((i + 1) * 8) u = ceL y ++ r.set (i * 8) u from fun r u => set_app8 y r i 0 u, set_app8, set_app8, set_app8, set_app8, set_app8, set_app8, set_app8, ih, List.set_cons_succ, List.flatMap_cons, List.append_assoc]
theorem SR8.set8 (h : SR8 T w g d tl) {i : Nat} (hi : i < d.length) (u0 u1 u2 u3 u4 u5 u6 u7 : Value) (z : Ce 8) (hz : z.1 = [u0, u1, u2, u3, u4, u5, u6, u7]) :
    SR8 T ((((((((w.setCell ⟨g, i * 8, none⟩ u0).setCell ⟨g, i * 8 + 1, none⟩ u1).setCell ⟨g, i * 8 + 2, none⟩ u2).setCell ⟨g, i * 8 + 3, none⟩ u3).setCell ⟨g, i * 8 + 4, none⟩ u4).setCell ⟨g, i * 8 + 5, none⟩ u5).setCell ⟨g, i * 8 + 6, none⟩ u6).setCell ⟨g, i * 8 + 7, none⟩ u7) g (d.set i z) tl ∧
    Bx g w ((((((((w.setCell ⟨g, i * 8, none⟩ u0).setCell ⟨g, i * 8 + 1, none⟩ u1).setCell ⟨g, i * 8 + 2, none⟩ u2).setCell ⟨g, i * 8 + 3, none⟩ u3).setCell ⟨g, i * 8 + 4, none⟩ u4).setCell ⟨g, i * 8 + 5, none⟩ u5).setCell ⟨g, i * 8 + 6, none⟩ u6).setCell ⟨g, i * 8 + 7, none⟩ u7) := by
  refine ⟨?_, Bx.setCells g [u0, u1, u2, u3, u4, u5, u6, u7] (i * 8) w⟩
  have h' := (((((((BK.set h (i * 8) u0).set (i * 8 + 1) u1).set (i * 8 + 2) u2).set (i * 8 + 3) u3).set (i * 8 + 4) u4).set (i * 8 + 5) u5).set (i * 8 + 6) u6).set (i * 8 + 7) u7
  unfold SR8
  simp only [List.setIfInBounds_toArray] at h'
  rw [set8L u0 u1 u2 u3 u4 u5 u6 u7 z hz d i hi] at h'
  exact h'
end
/-- the row while it is cut down -/
structure DV (T : TypeId) (R : World → List Value → En → Prop) (q : En → Bool) (N g : Nat) (tl : List Value) (l : List En) (css : List (Ce 8)) (w0 w1 : World) (j i : Nat) (d : List (Ce 8)) : Prop where
  dl : d.length = N
  blk : SR8 T w1 g d tl
  hi : i = ((l.take j).filter q).length
  pre : ∀ (k : Nat) (cs : Ce 8) (x : En), d[k]? = some cs → ((l.take j).filter q)[k]? = some x → R w0 cs.1 x
  post : ∀ k, j ≤ k → d[k]? = css[k]?
  bx : Bx g w0 w1
section
variable {T : TypeId} {R : World → List Value → En → Prop} {q : En → Bool} {N g j i : Nat} {tl : List Value} {l : List En} {css d : List (Ce 8)} {w0 w1 w2 : World}
theorem DV.le (h : DV T R q N g tl l css w0 w1 j i d) : i ≤ j := by
  rw [h.hi]
  exact Nat.le_trans (List.length_filter_le _ _) (by rw [List.length_take]; omega)
theorem DV.out {x : En} (h : DV T R q N g tl l css w0 w1 j i d) (hx : l[j]? = some x) (hq : q x = false) (hb : Below w1.heap.size w1 w2) : DV T R q N g tl l css w0 w2 (j + 1) i d := by
  have e : (l.take (j + 1)).filter q = (l.take j).filter q := by rw [take_at hx, List.filter_append]; simp [hq]
  exact ⟨h.dl, BK.keep hb h.blk, by rw [e]; exact h.hi, by rw [e]; exact h.pre, fun k hk => h.post k (by omega), h.bx.trans (Bx.of hb)⟩
theorem DV.into {x : En} {cs : Ce 8} (h : DV T R q N g tl l css w0 w1 j i d) (hx : l[j]? = some x) (hc : css[j]? = some cs) (hq : q x = true) (hR : R w0 cs.1 x) (hiN : i < N) (k1 : SR8 T w2 g (d.set i cs) tl) (k2 : Bx g w1 w2) : DV T R q N g tl l css w0 w2 (j + 1) (i + 1) (d.set i cs) := by
  have e : (l.take (j + 1)).filter q = (l.take j).filter q ++ [x] := by rw [take_at hx, List.filter_append]; simp [hq]
  have hle := h.le
  refine ⟨by rw [List.length_set]; exact h.dl, k1, by rw [e, List.length_append, ← h.hi]; rfl, fun k c y hk hy => ?_, fun k hk => ?_, h.bx.trans k2⟩
  · rw [e] at hy
    rw [List.getElem?_set] at hk
    by_cases hki : i = k
    · subst hki
      rw [if_pos rfl, if_pos (by rw [h.dl]; exact hiN)] at hk
      rw [List.getElem?_append_right (by rw [← h.hi]; exact Nat.le_refl _), ← h.hi, Nat.sub_self] at hy
      simp at hk hy
      subst hk hy
      exact hR
    · rw [if_neg hki] at hk
      have hlt : k < ((l.take j).filter q).length := by
        have := (List.getElem?_eq_some_iff.1 hy).1
        rw [List.length_append, ← h.hi] at this
        rw [← h.hi]
        simp at this
        omega
      rw [List.getElem?_append_left hlt] at hy
      exact h.pre k c y hk hy
  · rw [List.getElem?_set, if_neg (by omega)]
    exact h.post k (by omega)
end
theorem filter_all {q : En → Bool} : ∀ (l : List En) (k : Nat), (∀ (j : Nat) (y : En), j < k → l[j]? = some y → q y = true) → (l.take k).filter q = l.take k := by
  intro l k h
  rw [List.filter_eq_self]
  intro x hx
  obtain ⟨j, hj⟩ := List.mem_iff_getElem?.1 hx
  rw [List.getElem?_take] at hj
  split at hj
  · rename_i hlt
    exact h j x hlt hj
  · cases hj
end PM
set_option maxRecDepth 100000 in
theorem forget1_any (kd cl : Int) (i0 : PM.Id) (sub : Nat) (fa : Option Addr) (fl fc : Nat) (ea : Option Addr) (el ec : Nat) (i : PM.Id) (b : Nat) (w : World)
    (h0 : w.cell? ⟨b, 0, none⟩ = some (.int .i64 i.br)) (h1 : w.cell? ⟨b, 1, none⟩ = some (.int .u64 (i.life : Int))) (h2 : w.cell? ⟨b, 2, none⟩ = some (.int .u64 (i.ser : Int))) :
    Calls Try.prog 69 #[.agg #[.int .i64 kd, .int .i64 i0.br, .int .u64 (i0.life : Int), .int .u64 (i0.ser : Int), .int .i64 cl, .int .u64 (sub : Int), .slice fa fl fc, .slice ea el ec], .pointer (some ⟨b, 0, none⟩)] w fun e w' => e = .returned (.bool (decide (i0 = i))) ∧ Below w.heap.size w w' := by
  have a0 : ∀ o, (w.alloc o).cell? ⟨b, 0, none⟩ = some (.int .i64 i.br) := fun o => PM.cellA ((Below.refl _ _).alloc (Nat.le_refl _) o) h0
  have a1 : ∀ o, (w.alloc o).cell? ⟨b, 1, none⟩ = some (.int .u64 (i.life : Int)) := fun o => PM.cellA ((Below.refl _ _).alloc (Nat.le_refl _) o) h1
  have a2 : ∀ o, (w.alloc o).cell? ⟨b, 2, none⟩ = some (.int .u64 (i.ser : Int)) := fun o => PM.cellA ((Below.refl _ _).alloc (Nat.le_refl _) o) h2
  have hq := ideq_run i0 i
  obtain ⟨ib, il, ir⟩ := i
  obtain ⟨jb, jl, jr⟩ := i0
  simp only at hq a0 a1 a2 ⊢
  clear h0 h1 h2
  go_enter Try.func69, Try.ntmps69
  go_wp2
  go_ret
  exact ⟨by rw [PM.id_eq]; rfl, by go_grown⟩
theorem forget1_tells (i : PM.Id) (b : Nat) (w : World)
    (h0 : w.cell? ⟨b, 0, none⟩ = some (.int .i64 i.br)) (h1 : w.cell? ⟨b, 1, none⟩ = some (.int .u64 (i.life : Int))) (h2 : w.cell? ⟨b, 2, none⟩ = some (.int .u64 (i.ser : Int))) :
    PM.TellsE Try.prog 69 b (PM.isId i) w := fun x fa fl fc ea el ec W hb =>
  forget1_any x.kind x.client x.id x.sub fa fl fc ea el ec i b W (PM.cellA hb h0) (PM.cellA hb h1) (PM.cellA hb h2)
set_option maxHeartbeats 1000000 in
theorem idxE_forget (p : PM.En → Bool) (v : Value) (bf : Nat) (l : List PM.En) (w : World) (hv : PM.EnL w v l) (hc : PM.TellsE Try.prog 69 bf p w) :
    Calls Try.prog 73 #[v, .func (.func 69) #[] #[.pointer (some ⟨bf, 0, none⟩)]] w fun e w' => ∃ i, e = .returned (.int .i64 i) ∧ PM.At1 p l i ∧ Below w.heap.size w w' := by
  have hmax := hv.bound
  obtain ⟨ad, cap, rfl⟩ := hv.len
  unfold maxLen at hmax
  obtain ⟨L, hL⟩ : ∃ L, L = l.length := ⟨_, rfl⟩
  have hLh := PM.hid hL
  rw [← hL] at hv hmax ⊢
  have hvh := PM.hid hv
  have hch := PM.hid hc
  clear hL hv hc
  go_enter Try.func73, Try.ntmps73
  go_wp2
  go_loopw [8] (fun i wr => ∃ k : Nat, i = .int .i64 k ∧ k ≤ L ∧ (∀ j y, j < k → l[j]? = some y → p y = false) ∧ Below w.heap.size w wr) (fun i _ => L - (intOf i).toNat)
  case atStart => exact ⟨0, rfl, by omega, fun j y hj => absurd hj (by omega), Below.refl _ _⟩
  case round =>
    obtain ⟨k, rfl, hk, hall, hB⟩ := hrel
    have hS := PM.hid (And.intro hall hB)
    clear hall
    by_cases hlt : k < L
    · obtain ⟨z, hz⟩ : ∃ z, l[k]? = some z := ⟨l[k]'(by rw [← hLh.out]; exact hlt), List.getElem?_eq_getElem _⟩
      obtain ⟨b, off, rfl, hce⟩ := PM.RR.opn hvh.out (by rw [← hLh.out]; omega)
      obtain ⟨cs, hl0, hR⟩ := hce k z hz
      obtain ⟨fa, fc, ea, ec, hcs, -, -⟩ := PM.enR_open hR
      replace hl0 := hl0.keep hB
      rw [hcs] at hl0
      have d0 : wr.cell? ⟨b, off + k * 8, none⟩ = some (.int .i64 z.kind) := hl0 0 _ rfl
      have d1 : wr.cell? ⟨b, off + k * 8 + 1, none⟩ = some (.int .i64 z.id.br) := hl0 1 _ rfl
      have d2 : wr.cell? ⟨b, off + k * 8 + 2, none⟩ = some (.int .u64 (z.id.life : Int)) := hl0 2 _ rfl
      have d3 : wr.cell? ⟨b, off + k * 8 + 3, none⟩ = some (.int .u64 (z.id.ser : Int)) := hl0 3 _ rfl
      have d4 : wr.cell? ⟨b, off + k * 8 + 4, none⟩ = some (.int .i64 z.client) := hl0 4 _ rfl
      have d5 : wr.cell? ⟨b, off + k * 8 + 5, none⟩ = some (.int .u64 (z.sub : Int)) := hl0 5 _ rfl
      have d6 : wr.cell? ⟨b, off + k * 8 + 6, none⟩ = some (.slice fa z.fil.length fc) := hl0 6 _ rfl
      have d7 : wr.cell? ⟨b, off + k * 8 + 7, none⟩ = some (.slice ea z.evs.length ec) := hl0 7 _ rfl
      have hc := hch.out z fa z.fil.length fc ea z.evs.length ec wr hB
      have hzh := PM.hid hz
      clear hz hB hce hl0 hR hcs cs
      generalize z.fil.length = zF at *
      generalize z.evs.length = zE at *
      cases heq : p z
      · rw [heq] at hc
        have heqh := PM.hid heq
        clear heq
        go_wp2_with fail
        refine hc.mono ?_
        rintro e w2 ⟨rfl, hB2⟩
        go_wp2_with fail
        refine ⟨⟨k + 1, by go_num, by omega, fun j y hj hy => ?_, PM.chain hS.out.2 hB2⟩, by simp only [intOf]; omega⟩
        by_cases hjk : j < k
        · exact hS.out.1 j y hjk hy
        · obtain rfl : j = k := by omega
          rw [hzh.out] at hy
          cases hy
          exact heqh.out
      · rw [heq] at hc
        have heqh := PM.hid heq
        clear heq
        go_wp2_with fail
        refine hc.mono ?_
        rintro e w2 ⟨rfl, hB2⟩
        go_wp2_with fail
        go_ret
        exact ⟨_, rfl, .inr ⟨k, z, rfl, hzh.out, heqh.out, hS.out.1⟩, PM.chain hS.out.2 hB2⟩
    · obtain rfl : k = L := by omega
      clear hB
      go_wp2_with fail
      go_ret
      refine ⟨_, rfl, .inl ⟨rfl, fun j z hj => ?_⟩, hS.out.2⟩
      exact hS.out.1 j z (by rw [hLh.out]; exact (List.getElem?_eq_some_iff.1 hj).1) hj
set_option maxRecDepth 100000 in
set_option maxHeartbeats 4000000 in
theorem delE_any (bf : Nat) (i0 : PM.Id) (B : Nat) (v : Value) (l : List PM.En) (w : World) (hv : PM.OR (PM.enO 114 112 84 B) 8 44 B w v l) (hb : PM.BK w bf #[.int .i64 i0.br, .int .u64 (i0.life : Int), .int .u64 (i0.ser : Int)] 39) :
    Calls Try.prog 68 #[v, .func (.func 69) #[] #[.pointer (some ⟨bf, 0, none⟩)]] w fun e w' => ∃ v', e = .returned v' ∧ PM.OR (PM.enO 114 112 84 B) 8 44 B w' v' (l.filter fun x => !PM.isId i0 x) ∧ v'.ownBlock = v.ownBlock ∧ w.grownBy w' v.ownBlock := by
  have hrl : PM.EnL w v l := PM.RR.imp hv.rr fun cs x ⟨fv, ev, g1, g2, g3⟩ => ⟨fv, ev, g1, g2.em PM.teL_len, PM.evOr_evl g3⟩
  have hmax := hrl.bound
  have hix := idxE_forget (PM.isId i0) v bf l w hrl (forget1_tells i0 bf w (hb.cell 0) (hb.cell 1) (hb.cell 2))
  have hrt := hv.rt
  obtain ⟨ad, cap, rfl⟩ := hrl.len
  unfold maxLen at hmax
  obtain ⟨N, hN⟩ : ∃ L, L = l.length := ⟨_, rfl⟩
  rw [← hN] at hv hix hrt hmax ⊢
  replace hv := PM.hid hv
  have hS := PM.hid (And.intro hN (And.intro hrt hb))
  clear hN hrt hb hrl
  go_enter Try.func68, Try.ntmps68
  go_wp2_with fail
  refine hix.mono ?_
  rintro e w1 ⟨i, rfl, hi, hB⟩
  clear hix
  rcases hi with ⟨rfl, hno⟩ | ⟨k, x0, rfl, hx0, hpx, hbe⟩
  · have hend : Hid (PM.OR (PM.enO 114 112 84 B) 8 44 B w1 (.slice ad N cap) (l.filter fun x => !PM.isId i0 x) ∧ w.grownBy w1 (Value.slice ad N cap).ownBlock) := by
      refine PM.hid ⟨?_, PM.Below.grown hB⟩
      have e : (l.filter fun x => !PM.isId i0 x) = l := by
        rw [List.filter_eq_self]
        intro x hx
        obtain ⟨j, hj⟩ := List.mem_iff_getElem?.1 hx
        rw [hno j x hj]
        rfl
      rw [e]
      exact PM.OR.keep PM.enO_lasts hB hv.out
    clear hno hB
    go_wp2_with fail
    go_ret
    exact ⟨_, rfl, hend.out.1, rfl, hend.out.2⟩
  · have hkN : k < N := by rw [hS.out.1]; exact (List.getElem?_eq_some_iff.1 hx0).1
    obtain ⟨css, ho, hcl, hcr⟩ := hv.out
    have hcN : css.length = N := by rw [hcl, hS.out.1]
    rcases ho.2 with ⟨hn0, h0⟩ | ⟨g, cap', cur, he, hBg, hg, hnc, hcm, hcs, htk⟩
    · exact absurd h0 (by omega)
    injection he with e1 e2 e3
    subst e1 e3
    rw [hcN] at hnc htk
    clear e2
    have hkm : (((k : Nat) : Int) == -1) = false := by simp
    obtain ⟨tl, htl⟩ : ∃ tl, tl = cur.toList.drop (N * 8) := ⟨_, rfl⟩
    have hcur : (css.flatMap PM.ceL ++ tl).toArray = cur := by rw [htl, ← htk, List.take_append_drop]
    have htll : tl.length = cap * 8 - N * 8 := by rw [htl, List.length_drop, Array.length_toList, hcs]
    have hkg : PM.SR8 44 w1 g css tl := by unfold PM.SR8; rw [hcur]; exact (hB.block g (Array.getElem?_eq_some_iff.1 hg).1).trans hg
    have hD0 : Hid (PM.DV 44 (PM.enO 114 112 84 B) (fun x => !PM.isId i0 x) N g tl l css w w1 (k + 1) k css) := by
      have e : (l.take (k + 1)).filter (fun x => !PM.isId i0 x) = l.take k := by
        rw [PM.take_at hx0, List.filter_append, PM.filter_all l k (fun j y hj hy => by rw [hbe j y hj hy]; rfl)]
        simp [hpx]
      refine PM.hid ⟨hcN, hkg, ?_, fun j cs x hj hx => ?_, fun _ _ => rfl, PM.Bx.of hB⟩
      · rw [e, List.length_take, ← hS.out.1]; omega
      · rw [e, List.getElem?_take] at hx
        split at hx
        · exact hcr j cs x hj hx
        · cases hx
    have hST := PM.hid (And.intro hcN (And.intro hnc (And.intro hcm (And.intro htll (And.intro hcr hBg)))))
    clear hbe hpx hx0 ho hcl hcr hcN hg hnc hcm hcs htk htl hcur htll hkg hB hBg
    go_wp2_with fail
    go_loopw [5, 6] (fun vi vj wr => ∃ (i j : Nat) (d : List (PM.Ce 8)), vi = .int .i64 i ∧ vj = .int .i64 j ∧ i < j ∧ j ≤ N ∧ Hid (PM.DV 44 (PM.enO 114 112 84 B) (fun x => !PM.isId i0 x) N g tl l css w wr j i d)) (fun _ vj _ => N - (intOf vj).toNat)
    case atStart => exact ⟨k, k + 1, css, rfl, by go_num, by omega, by omega, hD0⟩
    case round =>
      obtain ⟨i, j, d, rfl, rfl, hij, hjN, hD⟩ := hrel
      by_cases hlt : j < N
      · obtain ⟨z, hz⟩ : ∃ z, l[j]? = some z := ⟨l[j]'(by rw [← hS.out.1]; exact hlt), List.getElem?_eq_getElem _⟩
        obtain ⟨cs, hcj⟩ : ∃ z, css[j]? = some z := ⟨css[j]'(by rw [hST.out.1]; exact hlt), List.getElem?_eq_getElem _⟩
        have hdj : d[j]? = some cs := by rw [hD.out.post j (Nat.le_refl _)]; exact hcj
        have hR := hST.out.2.2.2.2.1 j cs z hcj hz
        obtain ⟨fv, ev, hce, q1, q2⟩ := id hR
        obtain ⟨fa, fc, hfe⟩ := (q1.em PM.teL_len).len
        obtain ⟨ea, ec, hee⟩ := q2.rr.len
        generalize z.fil.length = zF at hfe
        generalize z.evs.length = zE at hee
        rw [hfe, hee] at hce
        have d0 : wr.cell? ⟨g, j * 8, none⟩ = some (.int .i64 z.kind) := hD.out.blk.cell hdj (j := 0) (by rw [hce]; rfl)
        have d1 : wr.cell? ⟨g, j * 8 + 1, none⟩ = some (.int .i64 z.id.br) := hD.out.blk.cell hdj (j := 1) (by rw [hce]; rfl)
        have d2 : wr.cell? ⟨g, j * 8 + 2, none⟩ = some (.int .u64 (z.id.life : Int)) := hD.out.blk.cell hdj (j := 2) (by rw [hce]; rfl)
        have d3 : wr.cell? ⟨g, j * 8 + 3, none⟩ = some (.int .u64 (z.id.ser : Int)) := hD.out.blk.cell hdj (j := 3) (by rw [hce]; rfl)
        have d4 : wr.cell? ⟨g, j * 8 + 4, none⟩ = some (.int .i64 z.client) := hD.out.blk.cell hdj (j := 4) (by rw [hce]; rfl)
        have d5 : wr.cell? ⟨g, j * 8 + 5, none⟩ = some (.int .u64 (z.sub : Int)) := hD.out.blk.cell hdj (j := 5) (by rw [hce]; rfl)
        have d6 : wr.cell? ⟨g, j * 8 + 6, none⟩ = some (.slice fa zF fc) := hD.out.blk.cell hdj (j := 6) (by rw [hce]; rfl)
        have d7 : wr.cell? ⟨g, j * 8 + 7, none⟩ = some (.slice ea zE ec) := hD.out.blk.cell hdj (j := 7) (by rw [hce]; rfl)
        have hzz := PM.hid (And.intro hz (And.intro hcj (And.intro hR hce)))
        clear hz hcj hR hce hfe hee q1 q2 hdj
        go_upto_region 8 with fail
        obtain ⟨gx, hgx⟩ : ∃ g, g = wr.heap.size := ⟨_, rfl⟩
        obtain ⟨w3, hw3⟩ : ∃ W, W = wr.alloc (.cells #[.int .i64 z.kind, .int .i64 z.id.br, .int .u64 (z.id.life : Int), .int .u64 (z.id.ser : Int), .int .i64 z.client, .int .u64 (z.sub : Int), .slice fa zF fc, .slice ea zE ec] 44) := ⟨_, rfl⟩
        have hBn : Below wr.heap.size wr w3 := by rw [hw3]; exact (Below.refl _ _).alloc (Nat.le_refl _) _
        have kx : PM.BK w3 gx #[.int .i64 z.kind, .int .i64 z.id.br, .int .u64 (z.id.life : Int), .int .u64 (z.id.ser : Int), .int .i64 z.client, .int .u64 (z.sub : Int), .slice fa zF fc, .slice ea zE ec] 44 := by rw [hw3, hgx]; exact PM.BK.new _ _ _
        rw [← hw3, ← hgx]
        clear hw3 hgx
        clear d0 d1 d2 d3 d4 d5 d6 d7
        have hbw : PM.BK w3 bf #[.int .i64 i0.br, .int .u64 (i0.life : Int), .int .u64 (i0.ser : Int)] 39 := PM.BK.kt hS.out.2.2 ((PM.KT.ofg hD.out.bx.grown hS.out.2.1 (by decide)).trans (PM.KT.of hBn _))
        have hcf := forget1_any z.kind z.client z.id z.sub fa zF fc ea zE ec i0 bf w3 (hbw.cell 0) (hbw.cell 1) (hbw.cell 2)
        have x0 : w3.cell? ⟨gx, 0, none⟩ = some (.int .i64 z.kind) := kx.cell 0
        have x1 : w3.cell? ⟨gx, 1, none⟩ = some (.int .i64 z.id.br) := kx.cell 1
        have x2 : w3.cell? ⟨gx, 2, none⟩ = some (.int .u64 (z.id.life : Int)) := kx.cell 2
        have x3 : w3.cell? ⟨gx, 3, none⟩ = some (.int .u64 (z.id.ser : Int)) := kx.cell 3
        have x4 : w3.cell? ⟨gx, 4, none⟩ = some (.int .i64 z.client) := kx.cell 4
        have x5 : w3.cell? ⟨gx, 5, none⟩ = some (.int .u64 (z.sub : Int)) := kx.cell 5
        have x6 : w3.cell? ⟨gx, 6, none⟩ = some (.slice fa zF fc) := kx.cell 6
        have x7 : w3.cell? ⟨gx, 7, none⟩ = some (.slice ea zE ec) := kx.cell 7
        replace kx := PM.hid (And.intro kx hBn)
        clear hbw hBn
        cases heq : decide (z.id = i0)
        · rw [heq] at hcf
          have heqh := PM.hid heq
          clear heq
          go_wp2_with fail
          refine hcf.mono ?_
          rintro e w4 ⟨rfl, hB4⟩
          clear hcf x0 x1 x2 x3 x4 x5 x6 x7
          have kx4 := kx.out.1.keep hB4
          have x0 : w4.cell? ⟨gx, 0, none⟩ = some (.int .i64 z.kind) := kx4.cell 0
          have x1 : w4.cell? ⟨gx, 1, none⟩ = some (.int .i64 z.id.br) := kx4.cell 1
          have x2 : w4.cell? ⟨gx, 2, none⟩ = some (.int .u64 (z.id.life : Int)) := kx4.cell 2
          have x3 : w4.cell? ⟨gx, 3, none⟩ = some (.int .u64 (z.id.ser : Int)) := kx4.cell 3
          have x4 : w4.cell? ⟨gx, 4, none⟩ = some (.int .i64 z.client) := kx4.cell 4
          have x5 : w4.cell? ⟨gx, 5, none⟩ = some (.int .u64 (z.sub : Int)) := kx4.cell 5
          have x6 : w4.cell? ⟨gx, 6, none⟩ = some (.slice fa zF fc) := kx4.cell 6
          have x7 : w4.cell? ⟨gx, 7, none⟩ = some (.slice ea zE ec) := kx4.cell 7
          have hb4 : Below wr.heap.size wr w4 := PM.chain kx.out.2 hB4
          have hk4 : PM.SR8 44 w4 g d tl := PM.BK.keep hb4 hD.out.blk
          have hid : i < d.length := by rw [hD.out.dl]; omega
          have f0 : w4.frozen? ⟨g, i * 8, none⟩ = false := PM.BK.free hk4 _
          have f1 : w4.frozen? ⟨g, i * 8 + 1, none⟩ = false := PM.BK.free hk4 _
          have f2 : w4.frozen? ⟨g, i * 8 + 2, none⟩ = false := PM.BK.free hk4 _
          have f3 : w4.frozen? ⟨g, i * 8 + 3, none⟩ = false := PM.BK.free hk4 _
          have f4 : w4.frozen? ⟨g, i * 8 + 4, none⟩ = false := PM.BK.free hk4 _
          have f5 : w4.frozen? ⟨g, i * 8 + 5, none⟩ = false := PM.BK.free hk4 _
          have f6 : w4.frozen? ⟨g, i * 8 + 6, none⟩ = false := PM.BK.free hk4 _
          have f7 : w4.frozen? ⟨g, i * 8 + 7, none⟩ = false := PM.BK.free hk4 _
          obtain ⟨⟨ys, hy1, hy2⟩, hdi⟩ : ∃ y, d[i]? = some y := ⟨_, List.getElem?_eq_getElem hid⟩
          obtain ⟨v0, v1, v2, v3, v4, v5, v6, v7, hys⟩ : ∃ a b c e f h m n, ys = [a, b, c, e, f, h, m, n] := by
            match ys, hy1 with
            | [a, b, c, e, f, h, m, n], _ => exact ⟨a, b, c, e, f, h, m, n, rfl⟩
          subst hys
          have c0 : w4.cell? ⟨g, i * 8, none⟩ = some v0 := hk4.cell hdi (j := 0) rfl
          have c1 : w4.cell? ⟨g, i * 8 + 1, none⟩ = some v1 := hk4.cell hdi (j := 1) rfl
          have c2 : w4.cell? ⟨g, i * 8 + 2, none⟩ = some v2 := hk4.cell hdi (j := 2) rfl
          have c3 : w4.cell? ⟨g, i * 8 + 3, none⟩ = some v3 := hk4.cell hdi (j := 3) rfl
          have c4 : w4.cell? ⟨g, i * 8 + 4, none⟩ = some v4 := hk4.cell hdi (j := 4) rfl
          have c5 : w4.cell? ⟨g, i * 8 + 5, none⟩ = some v5 := hk4.cell hdi (j := 5) rfl
          have c6 : w4.cell? ⟨g, i * 8 + 6, none⟩ = some v6 := hk4.cell hdi (j := 6) rfl
          have c7 : w4.cell? ⟨g, i * 8 + 7, none⟩ = some v7 := hk4.cell hdi (j := 7) rfl
          have hput := hk4.set8 hid (.int .i64 z.kind) (.int .i64 z.id.br) (.int .u64 (z.id.life : Int)) (.int .u64 (z.id.ser : Int)) (.int .i64 z.client) (.int .u64 (z.sub : Int)) (.slice fa zF fc) (.slice ea zE ec) cs hzz.out.2.2.2
          have hnx := PM.hid (hD.out.into hzz.out.1 hzz.out.2.1 (by show (!decide (z.id = i0)) = true; rw [heqh.out]; rfl) hzz.out.2.2.1 (by omega) hput.1 ((PM.Bx.of hb4).trans hput.2))
          clear hput hdi hk4 hb4 kx4 hB4 hD kx hy1 hy2 hzz
          go_wp2_with fail
          exact ⟨⟨i + 1, j + 1, _, by go_num, by go_num, by omega, by omega, hnx⟩, by simp only [intOf]; omega⟩
        · rw [heq] at hcf
          have heqh := PM.hid heq
          clear heq
          go_wp2_with fail
          refine hcf.mono ?_
          rintro e w4 ⟨rfl, hB4⟩
          clear hcf x0 x1 x2 x3 x4 x5 x6 x7
          have hnx := PM.hid (hD.out.out hzz.out.1 (by show (!decide (z.id = i0)) = false; rw [heqh.out]; rfl) (PM.chain kx.out.2 hB4))
          clear hB4 hD kx hzz
          go_wp2_with fail
          exact ⟨⟨i, j + 1, _, by go_num, by go_num, by omega, by omega, hnx⟩, by simp only [intOf]; omega⟩
      · obtain rfl : N = j := by omega
        have hN := hST.out
        have hsl := fun W => PM.run_cutL tyEnO g N cap i hN.2.1 hN.2.2.1 (by omega) (by omega) W
        have hsh := fun W => PM.run_cutH tyEnO g N cap i hN.2.1 hN.2.2.1 (by omega) (by omega) W
        obtain ⟨zs, hcl⟩ := PM.run_clearN (P := Try.prog) (t := 25) (e := 44) (c := cap - i) tyEnO.sl (fun w => rfl) (by decide) (o := i * 8) (n := N - i) (by omega) hD.out.blk (by
          show i * 8 + (N - i) * 8 ≤ _
          simp only [List.size_toArray, List.length_append]
          rw [PM.flat_len PM.ceL_len, hD.out.dl]
          omega)
        obtain ⟨cs', hk1, hk2, hk3⟩ := PM.BK.setCells zs (i * 8) hD.out.blk
        have hx1 := hD.out.bx.trans (PM.Bx.setCells g zs (i * 8) wr)
        have hfin : Hid (PM.OR (PM.enO 114 112 84 B) 8 44 B (wr.setCells g (i * 8) zs) (.slice (some ⟨g, 0, none⟩) i cap) (l.filter fun x => !PM.isId i0 x) ∧ w.grownBy (wr.setCells g (i * 8) zs) (Value.slice (some ⟨g, 0, none⟩) N cap).ownBlock) := by
          have hfl : l.filter (fun x => !PM.isId i0 x) = (l.take N).filter (fun x => !PM.isId i0 x) := by rw [hS.out.1, List.take_length]
          have hli : (d.take i).length = i := by rw [List.length_take, hD.out.dl]; omega
          refine PM.hid ⟨⟨d.take i, ⟨by rw [PM.flat_len PM.ceL_len], .inr ⟨g, cap, cs', by rw [hli], hN.2.2.2.2.2, hk1, by rw [hli]; omega, hN.2.2.1, ?_, ?_⟩⟩, ?_, fun k c x hk hx => ?_⟩, hx1.grown⟩
          · rw [hk2]
            simp only [List.size_toArray, List.length_append]
            rw [PM.flat_len PM.ceL_len, hD.out.dl, hN.2.2.2.1]
            omega
          · rw [hli]
            refine List.ext_getElem? fun k => ?_
            rw [List.getElem?_take]
            by_cases hk : k < i * 8
            · rw [if_pos hk, Array.getElem?_toList, hk3 k hk, List.getElem?_toArray, ← List.take_append_drop i d, List.flatMap_append, List.append_assoc, List.take_append_drop, List.getElem?_append_left (by rw [PM.flat_len PM.ceL_len, hli]; exact hk)]
            · rw [if_neg hk, List.getElem?_eq_none (by rw [PM.flat_len PM.ceL_len, hli]; omega)]
          · rw [hli, hfl]; exact hD.out.hi
          · rw [hfl] at hx
            rw [List.getElem?_take] at hk
            split at hk
            · have hR := hD.out.pre k c x hk hx
              have kt := fun (E : TypeId) (hne : 44 ≠ E) => PM.KT.ofg hx1.grown hS.out.2.1 hne
              exact PM.enO_kt (kt _ (by decide)) (kt _ (by decide)) (kt _ (by decide)) _ _ hR
            · cases hk
        clear hk1 hk2 hk3 hx1 hN hD
        go_wp2_with fail
        go_ret
        exact ⟨_, rfl, hfin.out.1, rfl, hfin.out.2⟩
end Go.Proofs.Ytphdadlpfjfeoaa
