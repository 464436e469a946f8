/-
  PLAIN FACTS ON PACKED NUMBERS: their bytes stand in the numbers' order; bytes that are packed are read back.
-/
import Derived.Test.YtklgibkdbdhaiaaPp
namespace Go.Proofs.Ytklgibkdbdhaiaa
namespace PM

theorem pow_256 (k : Nat) : (2 : Nat) ^ (8 * k) = 256 ^ k := by rw [Nat.pow_mul]
theorem be_zero (n : Nat) : be n 0 = [] := rfl
theorem be_succ (n k : Nat) : be n (k + 1) = UInt8.ofNat (n / 256 ^ k) :: be n k := by
  unfold be
  rw [List.range_succ_eq_map, List.map_cons, List.map_map]
  congr 1
  · rw [← pow_256]; simp
  · apply List.map_congr_left
    intro i hi
    simp only [Function.comp_def]
    congr 3
    omega
theorem u8_mod (x : Nat) : UInt8.ofNat x = UInt8.ofNat (x % 256) := by
  apply UInt8.toNat_inj.1; simp
theorem be_mod (n : Nat) : ∀ k, be n k = be (n % 256 ^ k) k := by
  suffices h : ∀ k j, k ≤ j → be n k = be (n % 256 ^ j) k from fun k => h k k (Nat.le_refl _)
  intro k
  induction k with
  | zero => intro j _; rfl
  | succ k ih =>
    intro j hj
    rw [be_succ, be_succ, ← ih j (by omega)]
    congr 1
    rw [u8_mod, u8_mod (n % 256 ^ j / 256 ^ k)]
    congr 1
    obtain ⟨d, rfl⟩ : ∃ d, j = k + 1 + d := ⟨j - (k + 1), by omega⟩
    have e1 : 256 ^ (k + 1 + d) = 256 ^ k * (256 * 256 ^ d) := by
      rw [show k + 1 + d = k + (1 + d) from by omega, Nat.pow_add, Nat.pow_add 256 1 d]
    rw [e1, Nat.mod_mul_right_div_self, Nat.mod_mul_right_mod]
theorem be_lt : ∀ (k n m : Nat), n < 256 ^ k → m < 256 ^ k → (be n k < be m k ↔ n < m)
  | 0, n, m, hn, hm => by
    simp at hn hm
    subst hn hm
    simp [be_zero, List.lt_irrefl]
  | k + 1, n, m, hn, hm => by
    rw [be_succ, be_succ, List.cons_lt_cons_iff]
    have hp : 0 < 256 ^ k := Nat.pow_pos (by omega)
    rw [Nat.pow_succ] at hn hm
    have q1 : n / 256 ^ k < 256 := Nat.div_lt_of_lt_mul hn
    have q2 : m / 256 ^ k < 256 := Nat.div_lt_of_lt_mul hm
    have i1 : UInt8.ofNat (n / 256 ^ k) < UInt8.ofNat (m / 256 ^ k) ↔ n / 256 ^ k < m / 256 ^ k := by
      rw [UInt8.lt_iff_toNat_lt]; simp [Nat.mod_eq_of_lt q1, Nat.mod_eq_of_lt q2]
    have i2 : UInt8.ofNat (n / 256 ^ k) = UInt8.ofNat (m / 256 ^ k) ↔ n / 256 ^ k = m / 256 ^ k := by
      rw [← UInt8.toNat_inj]; simp [Nat.mod_eq_of_lt q1, Nat.mod_eq_of_lt q2]
    rw [i1, i2, be_mod n k, be_mod m k, be_lt k _ _ (Nat.mod_lt _ hp) (Nat.mod_lt _ hp)]
    have d1 := Nat.div_add_mod n (256 ^ k)
    have d2 := Nat.div_add_mod m (256 ^ k)
    have r1 := Nat.mod_lt n hp
    have r2 := Nat.mod_lt m hp
    constructor
    · rintro (h | ⟨h, h'⟩)
      · have : 256 ^ k * (n / 256 ^ k + 1) ≤ 256 ^ k * (m / 256 ^ k) := Nat.mul_le_mul_left _ h
        rw [Nat.mul_add] at this
        omega
      · rw [h] at d1; omega
    · intro h
      by_cases he : n / 256 ^ k = m / 256 ^ k
      · right; refine ⟨he, ?_⟩; rw [he] at d1; omega
      · left
        have : n / 256 ^ k ≤ m / 256 ^ k := Nat.div_le_div_right (by omega)
        omega
theorem wid_pow (n : Nat) (hn : n < 2 ^ 64) : n < 256 ^ wid n := by
  suffices h : ∀ f m, m < 256 ^ f → m < 256 ^ widF f m by
    unfold wid
    rw [widF_more 8 n (by omega) 64 (by omega)]
    exact h 8 n (by omega)
  intro f
  induction f with
  | zero => intro m h; simpa [widF] using h
  | succ f ih =>
    intro m h
    unfold widF
    by_cases h0 : m = 0
    · simp [h0]
    · simp only [h0, if_false]
      have := ih (m / 256) (by rw [Nat.pow_succ] at h; omega)
      rw [Nat.pow_succ]; omega
theorem wid_le_of (n : Nat) (hn : n < 2 ^ 64) (k : Nat) (h : n < 256 ^ k) : wid n ≤ k := by
  by_cases hk : k ≤ 64
  · unfold wid
    rw [widF_more k n h 64 hk]
    exact widF_le k n
  · have := wid_le n hn; omega
theorem wid_mono (n m : Nat) (hm : m < 2 ^ 64) (h : n ≤ m) : wid n ≤ wid m :=
  wid_le_of n (by omega) _ (Nat.lt_of_le_of_lt h (wid_pow m hm))
theorem wid_u8 (n : Nat) (hn : n < 2 ^ 64) : (UInt8.ofNat (wid n)).toNat = wid n := by
  have := wid_le n hn
  simp; omega
theorem numB_lt (n m : Nat) (hn : n < 2 ^ 64) (hm : m < 2 ^ 64) : numB n < numB m ↔ n < m := by
  unfold numB
  rw [List.cons_lt_cons_iff, UInt8.lt_iff_toNat_lt, ← UInt8.toNat_inj, wid_u8 n hn, wid_u8 m hm]
  constructor
  · rintro (h | ⟨h, h'⟩)
    · refine Nat.lt_of_not_le fun hle => ?_
      have := wid_mono m n hn hle
      omega
    · rw [h] at h'
      have h1 := wid_pow n hn
      rw [h] at h1
      exact (be_lt _ n m h1 (wid_pow m hm)).1 h'
  · intro h
    have h1 := wid_mono n m hm (by omega)
    by_cases he : wid n = wid m
    · right
      refine ⟨he, ?_⟩
      rw [he]
      have h2 := wid_pow n hn
      rw [he] at h2
      exact (be_lt _ n m h2 (wid_pow m hm)).2 h
    · left; omega
theorem numB_inj (n m : Nat) (hn : n < 2 ^ 64) (hm : m < 2 ^ 64) (h : numB n = numB m) : n = m := by
  by_cases h1 : n < m
  · have := (numB_lt n m hn hm).2 h1
    rw [h] at this
    exact absurd this (List.lt_irrefl _)
  · by_cases h2 : m < n
    · have := (numB_lt m n hm hn).2 h2
      rw [h] at this
      exact absurd this (List.lt_irrefl _)
    · omega
theorem numB_prefix (n m : Nat) (hn : n < 2 ^ 64) (hm : m < 2 ^ 64) (t : List UInt8) (h : numB n ++ t = numB m) : n = m := by
  have hl := congrArg List.length h
  have h0 : UInt8.ofNat (wid n) = UInt8.ofNat (wid m) := by
    have := congrArg List.head? h
    simpa [numB] using this
  have hw : wid n = wid m := by rw [← wid_u8 n hn, ← wid_u8 m hm, h0]
  rw [List.length_append, numB_length, numB_length, hw] at hl
  have : t = [] := List.eq_nil_of_length_eq_zero (by omega)
  subst this
  exact numB_inj n m hn hm (by simpa using h)
theorem get_zero (s : ByteArray) (h : 0 < s.size) (x : UInt8) (l : List UInt8) (hl : s.data.toList = x :: l) : s[0] = x := by
  have h1 : s.data.toList[0]? = some x := by rw [hl]; rfl
  have h2 : s.data[0]? = some x := by simpa using h1
  have h3 : s.data[0]'(by exact h) = x := by
    have := Array.getElem?_eq_some_iff.1 h2
    exact this.2
  exact h3
end PM
end Go.Proofs.Ytklgibkdbdhaiaa
