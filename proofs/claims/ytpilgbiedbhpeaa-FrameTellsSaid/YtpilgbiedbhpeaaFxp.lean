/-
  PLAIN FACTS FOR postilionref03.Scan.
-/
import Derived.Test.YtpilgbiedbhpeaaFp
namespace Go.Proofs.Ytpilgbiedbhpeaa
namespace PM
theorem first_less {R : List UInt8} (h : R.length < 6) : firstL R = [] := by unfold firstL; rw [if_pos h]
theorem first_bad {R : List UInt8} {n : Nat} (h6 : 6 ≤ R.length) (hn : bval (R.take 2) = n) (h : n = 0 ∨ 4000 < n ∨ R.length < 6 + n) : firstL R = [] := by
  unfold firstL
  rw [if_neg (by omega), hn, if_pos h]
theorem first_same {R : List UInt8} {n : Nat} (h0 : 0 < n) (h1 : n ≤ 4000) (h2 : 6 + n ≤ R.length) (h : wrapL ((R.drop 6).take n) = R.take (6 + n)) : firstL R = (R.drop 6).take n := by
  have hl : ((R.drop 6).take n).length = n := by simp; omega
  conv => lhs; rw [← List.take_append_drop (6 + n) R, ← h]
  exact first_wrap _ _ (by omega) (by omega)
theorem first_other {R : List UInt8} {n : Nat} (hn : bval (R.take 2) = n) (h : wrapL ((R.drop 6).take n) ≠ R.take (6 + n)) : firstL R = [] := by
  by_cases he : firstL R = []
  · exact he
  · exfalso
    apply h
    obtain ⟨r, e, h0, h1⟩ := first_some R he
    generalize firstL R = f at *
    have e2 : R.take 2 = be f.length 2 := by
      rw [e, wrapL, List.append_assoc, List.append_assoc]
      exact List.take_left' (be_length _ _)
    rw [e2, bval_be2 (by omega)] at hn
    subst hn
    have hwl := wrapL_length f
    have e6 : R.drop 6 = f ++ r := by
      rw [e, wrapL, List.append_assoc]
      exact List.drop_left' (by simp [be_length])
    rw [e6, List.take_left' rfl]
    conv => rhs; rw [e]
    exact (List.take_left' hwl).symm
theorem bval_two {R : List UInt8} {x y : UInt8} (h0 : R[0]? = some x) (h1 : R[1]? = some y) : bval (R.take 2) = x.toNat * 256 + y.toNat := by
  have : R.take 2 = [x, y] := by
    rw [show (2 : Nat) = 0 + 1 + 1 from rfl, List.take_add_one, List.take_add_one, h1, h0]; rfl
  rw [this]
  simp [bval]
end PM
end Go.Proofs.Ytpilgbiedbhpeaa
