/-
  PLAIN FACTS ON PACKING: what is packed is read back, whatever stands behind.
-/
import Derived.Test.YtklgibkdbdhaiaaPo
namespace Go.Proofs.Ytklgibkdbdhaiaa
namespace PM
theorem bval_be : ∀ (k n : Nat), n < 256 ^ k → bval (be n k) = n
  | 0, n, h => by simp at h; subst h; rfl
  | k + 1, n, h => by
    have hp : 0 < 256 ^ k := Nat.pow_pos (by decide)
    rw [be_succ, bval_cons, be_length, be_mod n k, bval_be k (n % 256 ^ k) (Nat.mod_lt _ hp)]
    have h1 : n / 256 ^ k < 256 := Nat.div_lt_of_lt_mul (by rw [Nat.pow_succ] at h; exact h)
    have h2 : (UInt8.ofNat (n / 256 ^ k)).toNat = n / 256 ^ k := by simp; omega
    rw [h2]
    exact Nat.div_add_mod' n (256 ^ k)
theorem getN_numB (n : Nat) (hn : n < 2 ^ 64) (r : List UInt8) : getN (numB n ++ r) = some (n, r) := by
  have h1 := wid_le n hn
  have h2 := wid_u8 n hn
  have h3 := be_length n (wid n)
  have h4 := bval_be (wid n) n (wid_pow n hn)
  unfold numB getN
  simp only [List.cons_append]
  rw [h2]
  have e1 : (be n (wid n) ++ r).take (wid n) = be n (wid n) := by rw [List.take_append_of_le_length (by omega), List.take_of_length_le (by omega)]
  have e2 : (be n (wid n) ++ r).drop (wid n) = r := by rw [List.drop_append_of_le_length (by omega), List.drop_eq_nil_of_le (by omega)]; rfl
  rw [e1, e2, h4, if_pos ⟨h1, by rw [List.length_append]; omega, rfl⟩]
theorem stepN_num (n : Nat) (hn : n < 2 ^ 64) (r : List UInt8) : stepN (numB n ++ r) false = (n, r, false) := by
  unfold stepN
  rw [getN_numB n hn r]
  simp
theorem stepB_bytes (m r : List UInt8) (most : Int) (hm : m.length < 2 ^ 64) (h0 : (m.length : Int) ≤ most) : stepB (bytesB m ++ r) false most = (m, r, false) := by
  have h := stepN_num m.length hm (m ++ r)
  unfold stepB bytesB
  rw [List.append_assoc, h]
  simp only
  rw [if_neg (by rw [List.length_append]; simp; omega)]
  simp
theorem may_kind {k n : Int} {s : List UInt8} (h : may k n s = true) : (k = 1 ∨ k = 2 ∨ k = 3) ∧ s.length ≤ 40 := by
  unfold may at h
  split at h
  · simp at h; subst h; exact ⟨by omega, by simp⟩
  · split at h
    · simp at h; exact ⟨by omega, h.2⟩
    · split at h
      · simp at h; rw [h.2]; exact ⟨by omega, by simp⟩
      · cases h
theorem toI_u64 (n : Int) (h1 : -9223372036854775808 ≤ n) (h2 : n ≤ 9223372036854775807) : toI (u64 n) = n := by unfold toI u64; split <;> omega
theorem unfoldZ_foldZ (n : Int) : unfoldZ (foldZ n) = n := by unfold unfoldZ foldZ; split <;> split <;> omega
theorem stepV_val (k n : Int) (s r : List UInt8) (hm : may k n s = true) (h1 : -9223372036854775808 ≤ n) (h2 : n ≤ 9223372036854775807) : stepV (valB k n s ++ r) false = ((k, n, s), r, false) := by
  obtain ⟨hk, hs⟩ := may_kind hm
  have hu : u64 k = k.toNat := by unfold u64; omega
  have s1 := stepN_num (u64 k) (u64_lt k) (numB (if k = 1 then foldZ n else u64 n) ++ bytesB s ++ r)
  have s2 := stepN_num (if k = 1 then foldZ n else u64 n) (by split; exact foldZ_lt n h1 h2; exact u64_lt n) (bytesB s ++ r)
  have s3 := stepB_bytes s r 40 (by omega) (by omega)
  have he := stepV_eq (valB k n s ++ r) false _ _ _ _ _ _ _ _ _ (by unfold valB; simpa only [List.append_assoc] using s1) (by simpa only [List.append_assoc] using s2) s3
  rw [he, if_neg (by simp; omega)]
  have hp : pickZ (u64 k) (if k = 1 then foldZ n else u64 n) = n := by
    unfold pickZ
    by_cases h : k = 1
    · subst h
      rw [if_pos (by decide), if_pos rfl, unfoldZ_foldZ]
    · rw [if_neg (by omega), if_neg h, toI_u64 n h1 h2]
  have hkk : ((u64 k : Nat) : Int) = k := by omega
  rw [hp, hkk, if_pos hm]
end PM
end Go.Proofs.Ytklgibkdbdhaiaa
