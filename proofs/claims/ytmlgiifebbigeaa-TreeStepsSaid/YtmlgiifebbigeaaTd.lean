/-
  CONTRACTS OF package tree, of parents that make a tree: Way, Step; slices.Reverse on a row of the call's own; Same.
-/
import Derived.Test.YtmlgiifebbigeaaTc
import Derived.LoopTactic
namespace Go.Proofs.Ytmlgiifebbigeaa
open Go.RowKit
set_option linter.unusedVariables false
namespace PM
theorem OE.set {α : Type} {e : α → Value} {E : TypeId} {B : Nat} {w : World} {g n cap i : Nat} {l : List α} (h : OE e E B w (.slice (some ⟨g, 0, none⟩) n cap) l) (hi : i < l.length) (x : α) :
    OE e E B (w.setCell ⟨g, i, none⟩ (e x)) (.slice (some ⟨g, 0, none⟩) n cap) (l.set i x) := by
  rcases h.2 with ⟨hc, _⟩ | ⟨g', cap', cur, hv, hB, hg, hcap, hm, hs, ht⟩
  · cases hc
  · simp at hv
    obtain ⟨rfl, rfl, rfl⟩ := hv
    refine ⟨by simp, .inr ⟨g, cap, cur.setIfInBounds i (e x), by simp, hB, ?_, by simpa using hcap, hm, by simpa using hs, ?_⟩⟩
    · have hlt := (Array.getElem?_eq_some_iff.1 hg).1
      show (w.heap.modify g _)[g]? = _
      rw [Array.getElem?_modify, if_pos rfl, hg]
      rfl
    · rw [Array.toList_setIfInBounds, List.take_set, List.length_set, ht, List.map_set]
theorem OE.cellAt {α : Type} {e : α → Value} {E : TypeId} {B : Nat} {w : World} {g n cap i : Nat} {l : List α} (h : OE e E B w (.slice (some ⟨g, 0, none⟩) n cap) l) (x : α) (hi : l[i]? = some x) :
    w.cell? ⟨g, i, none⟩ = some (e x) ∧ w.frozen? ⟨g, i, none⟩ = false := by
  rcases h.2 with ⟨hc, _⟩ | ⟨g', cap', cur, hv, hB, hg, hcap, hm, hs, ht⟩
  · cases hc
  · simp at hv
    obtain ⟨rfl, rfl, rfl⟩ := hv
    have hil : i < l.length := (List.getElem?_eq_some_iff.1 hi).1
    have e1 : cur.toList[i]? = some (e x) := by
      have e2 : (cur.toList.take (l.length * 1))[i]? = some (e x) := by rw [ht]; simp [hi]
      rw [List.getElem?_take_of_lt (by omega)] at e2
      exact e2
    have e3 : cur[i]? = some (e x) := by simpa using e1
    constructor
    · simp only [World.cell?, hg]; simpa using e3
    · simp [World.frozen?, hg]
theorem grown_set {w wr : World} {g : Nat} (h : w.grownBy wr (some g)) (i : Nat) (u : Value) : w.grownBy (wr.setCell ⟨g, i, none⟩ u) (some g) :=
  ⟨h.os, h.tape, h.output, by simpa [World.setCell] using h.size, fun k hk hne => by
    rw [Below.heap_setCell _ _ _ _ (by intro e; subst e; exact hne rfl)]
    exact h.block k hk hne⟩
theorem grown_drew {w wr : World} {r : Option Nat} (h : w.grownBy wr r) : w.grownBy wr.drew r := ⟨h.os, h.tape, h.output, h.size, h.block⟩
theorem swap_rel {c d : List Int} {n k J : Nat} {X Y : Int} (hn : c.length = n) (hd : d.length = n) (hlt : 2 * k + 1 < n) (hJ : J = n - 1 - k) (hX : d[k]? = some X) (hY : d[J]? = some Y)
    (hall : ∀ t, t < n → d[t]? = if t < k ∨ n - 1 - k < t then c[n - 1 - t]? else c[t]?) :
    ∀ t, t < n → ((d.set k Y).set J X)[t]? = if t < k + 1 ∨ n - 1 - (k + 1) < t then c[n - 1 - t]? else c[t]? := by
  intro t ht
  have hk := hall k (by omega)
  rw [if_neg (by omega), hX] at hk
  have hj := hall J (by omega)
  rw [if_neg (by omega), hY] at hj
  rw [List.getElem?_set, List.getElem?_set]
  by_cases h1 : J = t
  · subst h1
    rw [if_pos rfl, if_pos (by simp; omega), if_pos (by omega), show n - 1 - J = k by omega, hk]
  · rw [if_neg h1]
    by_cases h2 : k = t
    · subst h2
      rw [if_pos rfl, if_pos (by omega), if_pos (by omega), show n - 1 - k = J by omega, hj]
    · rw [if_neg h2, hall t ht]
      by_cases h3 : t < k ∨ n - 1 - k < t
      · rw [if_pos h3, if_pos (by omega)]
      · rw [if_neg h3, if_neg (by omega)]
end PM
theorem Reverse_own (B : Nat) (v : Value) (c : List Int) (w : World) (h : PM.OE PM.iv 3 B w v c) (hl : c.length ≤ 100000) :
    Calls Try.prog 19 #[v] w fun e w' => e = .returned (.tuple #[]) ∧ PM.OE PM.iv 3 B w' v c.reverse ∧ w.grownBy w' v.ownBlock := by
  have h' := h
  rcases h.2 with ⟨rfl, h0⟩ | ⟨g, cap, cur, rfl, hB, _, h1, h2, _⟩
  · have : c = [] := List.length_eq_zero_iff.1 h0
    subst this
    go_enter Try.func19, Try.ntmps19
    go_wp2
    go_loop [2, 3] (fun i j => i = .int .i64 0 ∧ j = .int .i64 (-1)) (fun _ _ => 0)
    case atStart => exact ⟨rfl, rfl⟩
    case round =>
      obtain ⟨rfl, rfl⟩ := hrel
      go_wp2
      go_end0
      exact ⟨rfl, h', World.grownBy.refl _ _⟩
  · clear h
    generalize hn : c.length = n at *
    go_enter Try.func19, Try.ntmps19
    go_wp2
    go_loopw [2, 3] (fun i j wr => ∃ (k : Nat) (d : List Int), i = .int .i64 k ∧ j = .int .i64 ((n : Int) - 1 - (k : Int)) ∧ 2 * k ≤ n ∧ d.length = n ∧ PM.OE PM.iv 3 B wr (.slice (some ⟨g, 0, none⟩) n cap) d ∧ w.grownBy wr (some g) ∧
       ∀ t, t < n → d[t]? = if t < k ∨ n - 1 - k < t then c[n - 1 - t]? else c[t]?) (fun i _ _ => n - (intOf i).toNat)
    case atStart =>
      refine ⟨0, c, rfl, by go_num, by omega, hn, h', World.grownBy.refl _ _, fun t ht => ?_⟩
      rw [if_neg (by omega)]
    case round =>
      obtain ⟨k, d, rfl, rfl, hk, hd, ho, hgr, hall⟩ := hrel
      by_cases hlt : 2 * k + 1 < n
      · obtain ⟨J, hJ⟩ : ∃ J : Nat, J = n - 1 - k := ⟨_, rfl⟩
        have e2 : (n : Int) - 1 - (k : Int) = (J : Int) := by omega
        obtain ⟨X, hX⟩ : ∃ X, d[k]? = some X := ⟨_, List.getElem?_eq_getElem (by omega)⟩
        obtain ⟨Y, hY⟩ : ∃ Y, d[J]? = some Y := ⟨_, List.getElem?_eq_getElem (by omega)⟩
        obtain ⟨hx1, hx2⟩ := ho.cellAt X hX
        obtain ⟨hy1, hy2⟩ := ho.cellAt Y hY
        have hS := PM.hid (And.intro ho (And.intro hall (And.intro hgr (And.intro hX (And.intro hY hJ)))))
        rw [e2]
        have hg1 : (k : Int) < (J : Int) := by omega
        have hg2 : J < n := by omega
        clear ho hall hgr hX hY hJ e2
        go_wp2_with fail
        go_region
        go_wp2
        obtain ⟨ho, hall, hgr, hX, hY, hJ⟩ := hS.out
        have ho2 := ((ho.set (i := k) (by omega) Y).set (i := J) (by simp; omega) X).keep ((Below.refl _ _).drew)
        exact ⟨⟨k + 1, _, by go_num, by congr 1; omega, by omega, by simpa using hd, ho2, PM.grown_drew (PM.grown_set (PM.grown_set hgr _ _) _ _), PM.swap_rel hn hd hlt hJ hX hY hall⟩, by simp only [intOf]; omega⟩
      · have hE : ¬ ((k : Int) < (n : Int) - 1 - (k : Int)) := by omega
        have hfin : d = c.reverse := PM.rev_end c d k (n - 1 - k) (by omega) (by omega) (by omega) (by rw [hn]; exact hall)
        have hR := PM.hid (And.intro ho (And.intro hgr hfin))
        clear ho hgr hfin hall
        go_wp2
        go_end0
        obtain ⟨ho, hgr, hfin⟩ := hR.out
        subst hfin
        exact ⟨rfl, ho, hgr⟩
end Go.Proofs.Ytmlgiifebbigeaa
