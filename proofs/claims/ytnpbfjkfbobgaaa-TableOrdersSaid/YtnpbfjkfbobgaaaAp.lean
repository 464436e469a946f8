/-
  APPENDS IN A REGION THAT DRAWS ITS ORDER: onto the empty literal; of one element, with all that it keeps. Over any program.
-/
import Derived.Test.YtnpbfjkfbobgaaaG0
import Derived.ArgAppend
import Derived.Deep.Upon
namespace Go.Proofs.Ytnpbfjkfbobgaaa
namespace PM
open Go.RowKit
set_option linter.unusedVariables false
section
variable {α : Type} {e : α → List Value} {c nb : Nat} {P : Program} {T E : TypeId} {B : Nat}
theorem EM.cellsAt (hc : 0 < c) (he : ∀ x, (e x).length = c) {w : World} {a : Addr} {n cap : Nat} {m : List α} (h : EM e c w (.slice (some a) n cap) m) (hp : 0 < m.length) : ∀ j u, (m.flatMap e)[j]? = some u → w.cell? (a.add j) = some u := by
  intro j u hu
  obtain ⟨y, hy, hu'⟩ := flat_inv hc he m j u hu
  obtain ⟨b, off, cap', hv, _, _, h4⟩ := EM.open1 h hp
  injection hv with hv1 hv2 hv3
  injection hv1 with hv1
  subst hv1
  have ea : (⟨b, off, none⟩ : Addr).add j = ⟨b, off + j, none⟩ := by unfold Addr.add; split <;> simp_all
  rw [ea]
  have := h4 _ y hy _ u hu'
  rw [show off + j / c * c + j % c = off + j by rw [Nat.add_assoc, Nat.div_add_mod']] at this
  exact this
theorem EM.ones (h1 : ∀ x, ∀ u ∈ e x, u.oneCell' = true) (m : List α) : ∀ u ∈ m.flatMap e, u.oneCell' = true := fun u hu => by
  obtain ⟨y, hy, hu⟩ := List.mem_flatMap.1 hu
  exact h1 y u hu
/-- what is appended onto the empty literal lies in new memory -/
theorem run_app0 (ET : MTy P T E c nb) (he : ∀ x, (e x).length = c) (h1 : ∀ x, ∀ u ∈ e x, u.oneCell' = true) (ty : TypeId) {w : World} {g : Nat} {xv : Value} {m : List α} (hown : m = [] → OM e c E B w (.slice (some ⟨g, 0, none⟩) 0 0) m) (hsrc : EM e c w xv m) (hn : m.length * nb ≤ 140737488355328) (hn2 : m.length ≤ maxLen) (hB : B ≤ w.heap.size) :
    ∃ a n cap w', (Builtin.append_ #[T, T] ty #[.slice (some ⟨g, 0, none⟩) 0 0, xv]).run P w = .ok (.slice (some a) n cap) w' ∧ OM e c E B w' (.slice (some a) n cap) m ∧ Below w.heap.size w w' := by
  obtain ⟨i, z, hi, hz, hsz, hby, hzs⟩ := ET.row
  obtain ⟨ad, cap, hxv⟩ := hsrc.len
  subst hxv
  by_cases hm : 0 < m.length
  · obtain ⟨b, off, cap', hv, _, _, _⟩ := EM.open1 hsrc hm
    injection hv with hv1 hv2 hv3
    subst hv1
    obtain ⟨v', w', hr, ho, hg⟩ := run_append_arg_grows (P := P) w T ty E i z c nb ET.sl hi hz hsz hby hzs ET.pos ⟨g, 0, none⟩ 0 0 [] (by simp) (fun j u h => by simp at h) ⟨b, off, none⟩ m.length cap (m.flatMap e) (flat_len he m) (EM.cellsAt ET.pos he hsrc hm) (by omega) (by omega) (by rw [Nat.zero_add]; exact hn)
    have ho2 : OM e c E w.heap.size w' v' m := by
      unfold OM
      simpa using ho
    obtain ⟨g2, n2, c2, rfl⟩ : ∃ a n cp, v' = .slice (some a) n cp := by
      rcases ho2.2 with ⟨_, h0⟩ | ⟨g2, cap2, cur2, hx, _⟩
      · omega
      · exact ⟨_, _, _, hx⟩
    exact ⟨_, _, _, w', hr, ho2.mono hB, (Below.refl _ _).grown hg (Nat.le_refl _) (by simp)⟩
  · have hm0 : m = [] := List.length_eq_zero_iff.1 (by omega)
    subst hm0
    refine ⟨_, _, _, w, run_append_nothing (P := P) w T T ty E i ET.sl hi (some ⟨g, 0, none⟩) 0 0 (Nat.le_refl _) _ ?_, hown rfl, Below.refl _ _⟩
    cases ad with
    | none => exact hsz ▸ Src.ofNil w ET.sl cap
    | some a => exact Src.ofSlice w ET.sl a 0 cap [] (by simp) (fun j u h => by simp at h) (fun u h => by simp at h)
/-- append of one element: what is behind, and that rows with the elder, or with the new content stay -/
theorem run_app1 (ET : MTy P T E c nb) (he : ∀ x, (e x).length = c) (h1 : ∀ x, ∀ u ∈ e x, u.oneCell' = true) (ty : TypeId) {w : World} {a : Option Addr} {n cap : Nat} {b : Addr} {c1 : Nat} {l : List α} {y : α} (hown : OM e c E B w (.slice a n cap) l) (hsrc : EM e c w (.slice (some b) 1 c1) [y]) (hn : (l.length + 1) * nb ≤ 140737488355328) (hn2 : l.length + 1 ≤ maxLen) (hB : B ≤ w.heap.size) (ha : a ≠ none) :
    ∃ v' w', (Builtin.append_ #[T, T] ty #[.slice a n cap, .slice (some b) 1 c1]).run P w = .ok v' w' ∧ OM e c E B w' v' (l ++ [y]) ∧ Below B w w' ∧ (∀ v l', (l'.length ≤ l.length ∨ l' = l ++ [y]) → OM e c E B w v l' → OM e c E B w' v l') := by
  obtain ⟨i, z, hi, hz, hsz, hby, hzs⟩ := ET.row
  have hcells := EM.cellsAt ET.pos he hsrc (by simp)
  have hones := EM.ones h1 [y]
  have hfl : ([y].flatMap e).length = 1 * c := by rw [flat_len he]; rfl
  have hle : l.length = n := by
    rcases hown.2 with ⟨hv, h0⟩ | ⟨g, cap', cur, hv, _⟩
    · injection hv with hv1 hv2 hv3
      exact absurd hv1 ha
    · injection hv with hv1 hv2 hv3
      exact hv2.symm
  subst hle
  have hem := hown.em he
  obtain ⟨g, rfl⟩ : ∃ g, a = some ⟨g, 0, none⟩ := by
    rcases hown.2 with ⟨hv, h0⟩ | ⟨g, cap', cur, hv, _⟩
    · injection hv with hv1 hv2 hv3
      exact absurd hv1 ha
    · injection hv with hv1 hv2 hv3
      exact ⟨g, hv1⟩
  by_cases hc : l.length + 1 ≤ cap
  · obtain ⟨w', hr, ho, hg⟩ := run_append_fits (P := P) (w := w) B T ty E i c ET.sl hi hsz g l.length cap (l.flatMap e) hown b 1 c1 ([y].flatMap e) hfl hcells hones hc
    have ho2 : OM e c E B w' (.slice (some ⟨g, 0, none⟩) (l.length + 1) cap) (l ++ [y]) := by
      unfold OM
      simpa [List.flatMap_append] using ho
    have hbg : B ≤ g := (hown.lt g rfl).1
    refine ⟨_, w', hr, ho2, (Below.refl _ _).grown hg hB (fun k hk => by injection hk with hk; omega), fun v l' hl hv => ?_⟩
    by_cases hvb : v.ownBlock = some g
    · obtain ⟨hvv, hpre⟩ : v = .slice (some ⟨g, 0, none⟩) l'.length cap ∧ (l'.length ≤ l.length → List.take (l'.length * c) (l.flatMap e) = l'.flatMap e) := by
        rcases hv.2 with ⟨rfl, _⟩ | ⟨g1, cap1, cur1, rfl, _, hg1, _, _, hs1, ht1⟩
        · simp [Value.ownBlock] at hvb
        · simp [Value.ownBlock] at hvb
          subst hvb
          rcases hown.2 with ⟨hx, _⟩ | ⟨g2, cap2, cur2, hx, _, hg2, _, _, hs2, ht2⟩
          · simp at hx
          · injection hx with hx1 hx2 hx3
            injection hx1 with hx1
            injection hx1 with hx1 _ _
            subst hx1 hx3
            rw [hg1] at hg2
            injection hg2 with hg2
            injection hg2 with hg2 _ _
            subst hg2
            rw [hs1] at hs2
            refine ⟨by rw [Nat.eq_of_mul_eq_mul_right ET.pos hs2], fun h => ?_⟩
            rw [← ht2, List.take_take, Nat.min_eq_left (Nat.mul_le_mul_right _ h)]
            exact ht1
      rcases hl with hl | hl
      · have hp := hpre hl
        subst hvv
        refine ⟨flat_len he l', ?_⟩
        rcases ho2.2 with ⟨hx, _⟩ | ⟨g2, cap2, cur2, hx, q1, q2, q3, q4, q5, q6⟩
        · simp at hx
        · injection hx with hx1 hx2 hx3
          subst hx3
          refine .inr ⟨g2, cap, cur2, by rw [← hx1], q1, q2, by omega, q4, q5, ?_⟩
          have := congrArg (List.take (l'.length * c)) q6
          have h8 : l'.length * c ≤ (l.flatMap e).length := by rw [flat_len he]; exact Nat.mul_le_mul_right _ hl
          rw [List.take_take, List.flatMap_append, List.take_append_of_le_length h8, hp, Nat.min_eq_left (Nat.mul_le_mul_right _ (by simp; omega))] at this
          exact this
      · subst hl
        rw [hvv, List.length_append]
        exact ho2
    · exact OM.kept (x := .slice (some ⟨g, 0, none⟩) l.length cap) hv hg (fun k hk hk2 => by
        simp [Value.ownBlock] at hk
        exact hvb (by rw [hk2, hk]))
  · have hcells0 : ∀ j u, (l.flatMap e)[j]? = some u → w.cell? ((⟨g, 0, none⟩ : Addr).add j) = some u := by
      intro j u hu
      refine EM.cellsAt ET.pos he hem ?_ j u hu
      have := (List.getElem?_eq_some_iff.1 hu).1
      rw [flat_len he] at this
      exact Nat.pos_of_ne_zero (fun h => by rw [h] at this; omega)
    obtain ⟨v', w', hr, ho, hg⟩ := run_append_arg_grows (P := P) w T ty E i z c nb ET.sl hi hz hsz hby hzs ET.pos ⟨g, 0, none⟩ l.length cap (l.flatMap e) (flat_len he l) hcells0 b 1 c1 ([y].flatMap e) hfl hcells (by omega) (by omega) hn
    have hb : Below w.heap.size w w' := (Below.refl _ _).grown hg (Nat.le_refl _) (by simp)
    have ho2 : OM e c E w.heap.size w' v' (l ++ [y]) := by
      unfold OM
      simpa [List.flatMap_append] using ho
    exact ⟨v', w', hr, ho2.mono hB, hb.mono hB, fun v l' _ hv => hv.keep hb⟩
end
end PM
end Go.Proofs.Ytnpbfjkfbobgaaa
