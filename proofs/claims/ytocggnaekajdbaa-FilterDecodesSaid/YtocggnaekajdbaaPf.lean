/-
  PLAIN FACTS: a reader's steps are what the document's answers say.
-/
import Derived.Test.YtocggnaekajdbaaPi
namespace Go.Proofs.Ytocggnaekajdbaa
namespace PM
theorem getK_none {l : List UInt8} (h : (getK l).2 = 0) : getN l = none ∧ getK l = (0, 0) := by
  unfold getK at *
  cases hg : getN l with
  | none => exact ⟨rfl, rfl⟩
  | some p =>
    obtain ⟨n, r⟩ := p
    have := getN_lt hg
    rw [hg] at h
    simp only at h
    omega
theorem getK_some {l : List UInt8} (h : (getK l).2 ≠ 0) : getN l = some ((getK l).1, l.drop (getK l).2) := by
  unfold getK at *
  cases hg : getN l with
  | none => rw [hg] at h; simp at h
  | some p =>
    obtain ⟨n, r⟩ := p
    have hb := getN_back hg
    simp only
    congr 2
    have hl : l.length = (numB n).length + r.length := by rw [hb, List.length_append]
    rw [show l.length - r.length = (numB n).length from by omega, hb, List.drop_left]
theorem stepN_getK (l : List UInt8) : stepN l false = if (getK l).2 = 0 then (0, [], true) else ((getK l).1, l.drop (getK l).2, false) := by
  unfold stepN
  by_cases h : (getK l).2 = 0
  · rw [(getK_none h).1, if_pos h]; rfl
  · rw [getK_some h, if_neg h]; rfl
theorem stepB_getB (l : List UInt8) (most : Int) : stepB l false most = if (getB l most).2 = 0 then ([], [], true) else ((getB l most).1, l.drop (getB l most).2, false) := by
  unfold stepB
  rw [stepN_getK]
  by_cases h : (getK l).2 = 0
  · rw [if_pos h]
    have hb : getB l most = ([], 0) := by unfold getB; rw [if_pos (Or.inl h)]
    rw [hb]; simp
  · rw [if_neg h]
    by_cases hc : most < 0 ∨ most.toNat < (getK l).1 ∨ l.length - (getK l).2 < (getK l).1
    · have hb : getB l most = ([], 0) := by unfold getB; rw [if_pos (Or.inr hc)]
      rw [hb, if_pos (by simpa using hc)]; simp
    · have hb : getB l most = ((l.drop (getK l).2).take (getK l).1, (getK l).2 + (getK l).1) := by unfold getB; rw [if_neg (by simp only [h, false_or]; exact hc)]
      rw [hb, if_neg (by simpa using hc), if_neg (by simp only; omega)]
      simp only [List.drop_drop]
theorem getB_none {l : List UInt8} {most : Int} (h : (getB l most).2 = 0) : getB l most = ([], 0) := by
  unfold getB at *
  split
  · rfl
  · rename_i hc
    rw [if_neg hc] at h
    simp only at h
    omega
theorem may_big {n : Nat} {z : Int} {s : List UInt8} (h : 3 < n) : may (n : Int) z s = false := by
  unfold may
  rw [if_neg (by omega), if_neg (by omega), if_neg (by omega)]
theorem stepV_getV (l : List UInt8) : stepV l false = if (getV l).2 = 0 then ((0, 0, []), [], true) else ((getV l).1, l.drop (getV l).2, false) := by
  obtain ⟨n1, k1, g1⟩ : ∃ n k, getK l = (n, k) := ⟨_, _, rfl⟩
  obtain ⟨n2, k2, g2⟩ : ∃ n k, getK (l.drop k1) = (n, k) := ⟨_, _, rfl⟩
  obtain ⟨s3, k3, g3⟩ : ∃ s k, getB (l.drop (k1 + k2)) 40 = (s, k) := ⟨_, _, rfl⟩
  have hv := getV_eq l s3 n1 k1 n2 k2 k3 g1 g2 g3
  have e1 := stepN_getK l
  rw [g1] at e1
  have e2 := stepN_getK (l.drop k1)
  rw [g2, List.drop_drop] at e2
  have e3 := stepB_getB (l.drop (k1 + k2)) 40
  rw [g3, List.drop_drop] at e3
  simp only at e1 e2 e3
  by_cases c1 : k1 = 0
  · have hs := stepV_eq l false 0 0 [] [] [] [] true true true (by rw [e1, if_pos c1]) rfl (stepB_wr _ _)
    rw [hs, hv]
    simp [c1]
  rw [if_neg c1] at e1
  by_cases c2 : k2 = 0
  · have hs := stepV_eq l false n1 0 (l.drop k1) [] [] [] false true true e1 (by rw [e2, if_pos c2]) (stepB_wr _ _)
    rw [hs, hv]
    simp [c2]
  rw [if_neg c2] at e2
  by_cases c3 : k3 = 0
  · have hs := stepV_eq l false n1 n2 (l.drop k1) (l.drop (k1 + k2)) [] [] false false true e1 e2 (by rw [e3, if_pos c3])
    rw [hs, hv]
    simp [c3]
  rw [if_neg c3] at e3
  have hs := stepV_eq l false n1 n2 (l.drop k1) (l.drop (k1 + k2)) (l.drop (k1 + k2 + k3)) s3 false false false e1 e2 e3
  rw [hs, hv]
  by_cases c4 : 3 < n1
  · rw [if_pos (show k1 = 0 ∨ 3 < n1 ∨ k2 = 0 ∨ k3 = 0 from by omega), may_big c4]
    simp
  · rw [if_neg (show ¬ (false = true ∨ 2147483647 < n1) from by simp; omega), if_neg (show ¬ (k1 = 0 ∨ 3 < n1 ∨ k2 = 0 ∨ k3 = 0) from by omega)]
    by_cases hm : may n1 (pickZ n1 n2) s3 = true
    · simp only [if_pos hm]
      rw [if_neg (by omega)]
    · simp [hm]
end PM
end Go.Proofs.Ytocggnaekajdbaa
