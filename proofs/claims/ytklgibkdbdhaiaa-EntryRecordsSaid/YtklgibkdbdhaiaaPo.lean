/-
  PLAIN FACTS ON PACKED NUMBERS, BYTES, VALUES: what is read to the end is packed so.
-/
import Derived.Test.YtklgibkdbdhaiaaPm
namespace Go.Proofs.Ytklgibkdbdhaiaa
namespace PM
theorem bval_cons (x : UInt8) (t : List UInt8) : bval (x :: t) = x.toNat * 256 ^ t.length + bval t := by
  suffices h : ∀ n (t : List UInt8), t.length = n → bval (x :: t) = x.toNat * 256 ^ n + bval t from h _ t rfl
  intro n
  induction n with
  | zero => intro t h; have : t = [] := List.eq_nil_of_length_eq_zero h; subst this; simp [bval]
  | succ n ih =>
    intro t h
    obtain ⟨t', y, rfl⟩ : ∃ t' y, t = t' ++ [y] := ⟨t.dropLast, t.getLast (by intro e; subst e; simp at h), (List.dropLast_concat_getLast _).symm⟩
    have h' := ih t' (by simpa using h)
    rw [← List.cons_append, bval_snoc, bval_snoc, h', Nat.pow_succ, Nat.add_mul, Nat.mul_assoc, Nat.add_assoc]
theorem be_bval : ∀ t : List UInt8, be (bval t) t.length = t
  | [] => rfl
  | x :: t => by
    have hlt := bval_lt t
    have hp : 0 < 256 ^ t.length := Nat.pow_pos (by omega)
    rw [List.length_cons, be_succ, bval_cons, Nat.mul_comm, Nat.mul_add_div hp, Nat.div_eq_of_lt hlt, Nat.add_zero, be_mod, Nat.mul_add_mod, Nat.mod_eq_of_lt hlt, be_bval t]
    simp
theorem getN_back {l : List UInt8} {n : Nat} {r : List UInt8} (h : getN l = some (n, r)) : l = numB n ++ r := by
  unfold getN at h
  split at h
  · cases h
  · rename_i s r'
    split at h
    · rename_i hc
      simp only [Option.some.injEq, Prod.mk.injEq] at h
      obtain ⟨rfl, rfl⟩ := h
      unfold numB
      rw [hc.2.2]
      have e1 : UInt8.ofNat s.toNat = s := by simp
      have e2 : (r'.take s.toNat).length = s.toNat := List.length_take_of_le hc.2.1
      have e3 := be_bval (r'.take s.toNat)
      rw [e2] at e3
      rw [e1, e3, List.cons_append, List.take_append_drop]
    · cases h
theorem stepN_back {l : List UInt8} (h : (stepN l false).2.2 = false) : l = numB (stepN l false).1 ++ (stepN l false).2.1 := by
  unfold stepN at *
  simp only [Bool.false_eq_true, if_false] at *
  cases hg : getN l with
  | none => rw [hg] at h; simp at h
  | some p => obtain ⟨n, r⟩ := p; simp only; exact getN_back hg
theorem stepN_wr (l : List UInt8) : stepN l true = (0, [], true) := rfl
theorem stepB_back {l : List UInt8} {most : Int} (h : (stepB l false most).2.2 = false) : l = bytesB (stepB l false most).1 ++ (stepB l false most).2.1 := by
  unfold stepB at *
  split
  · rename_i hc; rw [if_pos hc] at h; simp at h
  · rename_i hc
    simp only [not_or] at hc
    obtain ⟨h1, h2, h3, h4⟩ := hc
    have h1' : (stepN l false).2.2 = false := by simpa using h1
    have hb := stepN_back h1'
    unfold bytesB
    rw [List.length_take_of_le (by omega), List.append_assoc, List.take_append_drop]
    exact hb
theorem stepB_wr (l : List UInt8) (most : Int) : stepB l true most = ([], [], true) := by
  unfold stepB; simp [stepN_wr]
theorem unfold_fold (n : Nat) (hn : n < 2 ^ 64) : foldZ (unfoldZ n) = n := by unfold foldZ unfoldZ; split <;> split <;> omega
theorem u64_toI (n : Nat) (hn : n < 2 ^ 64) : u64 (toI n) = n := by unfold u64 toI; split <;> omega
theorem u64_nat (n : Nat) (hn : n < 2 ^ 64) : u64 (n : Int) = n := by unfold u64; omega
theorem stepN_false {l : List UInt8} {wr : Bool} (h : (stepN l wr).2.2 = false) : wr = false := by
  cases wr
  · rfl
  · rw [stepN_wr] at h; cases h
theorem stepB_false {l : List UInt8} {wr : Bool} {m : Int} (h : (stepB l wr m).2.2 = false) : wr = false := by
  cases wr
  · rfl
  · rw [stepB_wr] at h; cases h
/-- the number of a value that is read -/
def pickZ (k n : Nat) : Int := if k = 1 then unfoldZ n else toI n
theorem stepV_eq (l : List UInt8) (wr : Bool) (n1 n2 : Nat) (r1 r2 r3 s : List UInt8) (w1 w2 w3 : Bool) (h1 : stepN l wr = (n1, r1, w1)) (h2 : stepN r1 w1 = (n2, r2, w2)) (h3 : stepB r2 w2 40 = (s, r3, w3)) :
    stepV l wr = if w3 = true ∨ 2147483647 < n1 then ((0, 0, []), [], true) else if may n1 (pickZ n1 n2) s = true then (((n1 : Int), pickZ n1 n2, s), r3, false) else ((0, 0, []), [], true) := by
  unfold stepV pickZ
  simp only [h1, h2, h3]
theorem pickZ_back (n1 n2 : Nat) (h : n2 < 2 ^ 64) : (if (n1 : Int) = 1 then foldZ (pickZ n1 n2) else u64 (pickZ n1 n2)) = n2 := by
  unfold pickZ
  by_cases h1 : n1 = 1
  · subst h1; simp [unfold_fold n2 h]
  · have h' : ¬ ((n1 : Int) = 1) := by omega
    rw [if_neg h', if_neg h1]; exact u64_toI n2 h
theorem pickZ_lt (n1 n2 : Nat) (h : n2 < 2 ^ 64) : -9223372036854775808 ≤ pickZ n1 n2 ∧ pickZ n1 n2 ≤ 9223372036854775807 := by
  unfold pickZ unfoldZ toI; split <;> split <;> omega
theorem stepV_back {l : List UInt8} (h : (stepV l false).2.2 = false) :
    l = valB (stepV l false).1.1 (stepV l false).1.2.1 (stepV l false).1.2.2 ++ (stepV l false).2.1 ∧ may (stepV l false).1.1 (stepV l false).1.2.1 (stepV l false).1.2.2 = true := by
  obtain ⟨n1, r1, w1, h1⟩ : ∃ n r w, stepN l false = (n, r, w) := ⟨_, _, _, rfl⟩
  obtain ⟨n2, r2, w2, h2⟩ : ∃ n r w, stepN r1 w1 = (n, r, w) := ⟨_, _, _, rfl⟩
  obtain ⟨s, r3, w3, h3⟩ : ∃ n r w, stepB r2 w2 40 = (n, r, w) := ⟨_, _, _, rfl⟩
  have he := stepV_eq l false n1 n2 r1 r2 r3 s w1 w2 w3 h1 h2 h3
  by_cases hc : w3 = true ∨ 2147483647 < n1
  · rw [if_pos hc] at he; rw [he] at h; cases h
  · by_cases hm : may n1 (pickZ n1 n2) s = true
    · rw [if_neg hc, if_pos hm] at he
      rw [he]
      refine ⟨?_, hm⟩
      simp only [not_or] at hc
      have f3 : w3 = false := by simpa using hc.1
      subst f3
      have f2 : w2 = false := stepB_false (by rw [h3])
      subst f2
      have f1 : w1 = false := stepN_false (by rw [h2])
      subst f1
      have b1 := stepN_back (l := l) (by rw [h1])
      have b2 := stepN_back (l := r1) (by rw [h2])
      have b3 := stepB_back (l := r2) (most := 40) (by rw [h3])
      have l2 := (stepN_lt r1 false).1
      rw [h1] at b1
      rw [h2] at b2 l2
      rw [h3] at b3
      simp only at b1 b2 b3 l2 ⊢
      unfold valB
      rw [u64_nat n1 (by omega), pickZ_back n1 n2 l2, b1, b2, b3]
      simp
    · rw [if_neg hc, if_neg hm] at he; rw [he] at h; cases h
theorem stepV_lt (l : List UInt8) (wr : Bool) : -9223372036854775808 ≤ (stepV l wr).1.1 ∧ (stepV l wr).1.1 ≤ 9223372036854775807 ∧ -9223372036854775808 ≤ (stepV l wr).1.2.1 ∧ (stepV l wr).1.2.1 ≤ 9223372036854775807 ∧ (stepV l wr).1.2.2.length ≤ 40 := by
  obtain ⟨n1, r1, w1, h1⟩ : ∃ n r w, stepN l wr = (n, r, w) := ⟨_, _, _, rfl⟩
  obtain ⟨n2, r2, w2, h2⟩ : ∃ n r w, stepN r1 w1 = (n, r, w) := ⟨_, _, _, rfl⟩
  obtain ⟨s, r3, w3, h3⟩ : ∃ n r w, stepB r2 w2 40 = (n, r, w) := ⟨_, _, _, rfl⟩
  have he := stepV_eq l wr n1 n2 r1 r2 r3 s w1 w2 w3 h1 h2 h3
  have l2 := (stepN_lt r1 w1).1
  have l3 : (stepB r2 w2 40).1.length ≤ 40 := by
    unfold stepB
    split
    · simp
    · simp only [List.length_take]; omega
  rw [h2] at l2
  rw [h3] at l3
  have hz := pickZ_lt n1 n2 l2
  rw [he]
  by_cases hc : w3 = true ∨ 2147483647 < n1
  · rw [if_pos hc]; simp
  · rw [if_neg hc]
    by_cases hm : may n1 (pickZ n1 n2) s = true
    · rw [if_pos hm]; simp only at l3 ⊢; exact ⟨by omega, by omega, hz.1, hz.2, l3⟩
    · rw [if_neg hm]; simp
theorem stepB_lt (l : List UInt8) (wr : Bool) (m : Int) : (stepB l wr m).1.length ≤ l.length ∧ (stepB l wr m).2.1.length ≤ l.length := by
  have l1 := stepN_lt l wr
  unfold stepB
  split
  · simp
  · simp only [List.length_take, List.length_drop]; omega
theorem mayE_of {k n : Int} {s : List UInt8} (h : may k n s = true) : mayE k n s = 0 := by unfold mayE; rw [if_pos h]
end PM
end Go.Proofs.Ytklgibkdbdhaiaa
