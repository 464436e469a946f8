/-
  PLAIN FUNCTIONS OF PACKING: how many bytes a number needs, and which these are.
-/
import Derived.Test.YtklgibkdbdhaiaaVp
namespace Go.Proofs.Ytklgibkdbdhaiaa
namespace PM

/-- how many bytes a number needs: by as many steps as it has bits at most -/
def widF : Nat → Nat → Nat
  | 0, _ => 0
  | f + 1, n => if n = 0 then 0 else widF f (n / 256) + 1
def wid (n : Nat) : Nat := widF 64 n
/-- the number's bytes, so many, the highest first -/
def be (n size : Nat) : List UInt8 := (List.range size).map fun i => UInt8.ofNat (n / 2 ^ (8 * (size - 1 - i)))
/-- a number, packed -/
def numB (n : Nat) : List UInt8 := UInt8.ofNat (wid n) :: be n (wid n)

theorem widF_zero (f : Nat) : widF f 0 = 0 := by cases f <;> rfl
theorem widF_more : ∀ (f n : Nat), n < 256 ^ f → ∀ g, f ≤ g → widF g n = widF f n
  | 0, n, h, g, _ => by
    have : n = 0 := by simpa using h
    subst this
    simp [widF_zero]
  | f + 1, n, h, g, hg => by
    obtain ⟨g', rfl⟩ : ∃ g', g = g' + 1 := ⟨g - 1, by omega⟩
    unfold widF
    by_cases h0 : n = 0
    · simp [h0]
    · simp only [h0, if_false]
      rw [widF_more f (n / 256) (by rw [Nat.pow_succ] at h; omega) g' (by omega)]
theorem wid_zero : wid 0 = 0 := rfl
theorem wid_step (n : Nat) (h : 0 < n) (hb : n < 2 ^ 64) : wid n = wid (n / 256) + 1 := by
  unfold wid
  rw [widF_more 8 n (by omega) 64 (by omega), widF_more 7 (n / 256) (by omega) 64 (by omega)]
  rw [widF]
  simp [Nat.ne_of_gt h]
theorem widF_le : ∀ (f n : Nat), widF f n ≤ f
  | 0, _ => Nat.le_refl _
  | f + 1, n => by
    unfold widF
    split
    · omega
    · have := widF_le f (n / 256); omega
theorem wid_le (n : Nat) (hb : n < 2 ^ 64) : wid n ≤ 8 := by
  unfold wid
  rw [widF_more 8 n (by omega) 64 (by omega)]
  exact widF_le 8 n
theorem be_length (n size : Nat) : (be n size).length = size := by simp [be]
theorem be_take (n size k : Nat) (h : k < size) : (be n size).take (k + 1) = (be n size).take k ++ [UInt8.ofNat (n / 2 ^ (8 * (size - 1 - k)))] := by
  rw [List.take_succ_eq_append_getElem (by rw [be_length]; exact h)]
  simp [be]
theorem u8_nat (x : Nat) : ((UInt8.ofNat x).toNat : Int) = ((x % 256 : Nat) : Int) := by simp
theorem u8_shift (n e : Nat) : ((n : Int) / 2 ^ e % 256) = ((UInt8.ofNat (n / 2 ^ e)).toNat : Int) := by rw [u8_nat]; simp
theorem numB_length (n : Nat) : (numB n).length = wid n + 1 := by simp [numB, be_length]
/-- bytes, packed -/
def bytesB (l : List UInt8) : List UInt8 := numB l.length ++ l
/-- where a number of either sign stands among those from 0 on -/
def foldZ (n : Int) : Nat := if n < 0 then (-2 * n - 1).toNat else (2 * n).toNat
/-- a number of 64 bits that is not negative, for one of either sign -/
def u64 (n : Int) : Nat := (n % 18446744073709551616).toNat
/-- a value, packed -/
def valB (k n : Int) (s : List UInt8) : List UInt8 := numB (u64 k) ++ numB (if k = 1 then foldZ n else u64 n) ++ bytesB s
theorem u64_lt (n : Int) : u64 n < 2 ^ 64 := by unfold u64; omega
theorem foldZ_lt (n : Int) (h1 : -9223372036854775808 ≤ n) (h2 : n ≤ 9223372036854775807) : foldZ n < 2 ^ 64 := by unfold foldZ; split <;> omega
/-- the number that bytes are, the highest first -/
def bval (l : List UInt8) : Nat := l.foldl (fun n x => n * 256 + x.toNat) 0
/-- the number that bytes begin with, and the rest -/
def getN (l : List UInt8) : Option (Nat × List UInt8) :=
  match l with
  | [] => none
  | s :: r => if s.toNat ≤ 8 ∧ s.toNat ≤ r.length ∧ wid (bval (r.take s.toNat)) = s.toNat then some (bval (r.take s.toNat), r.drop s.toNat) else none
/-- a reader's step: what it answers, what is left, and whether something is wrong -/
def stepN (l : List UInt8) (wr : Bool) : Nat × List UInt8 × Bool :=
  if wr then (0, [], true) else match getN l with
    | some (n, r) => (n, r, false)
    | none => (0, [], true)
theorem bval_snoc (l : List UInt8) (x : UInt8) : bval (l ++ [x]) = bval l * 256 + x.toNat := by simp [bval]
theorem bval_nil : bval [] = 0 := rfl
theorem bval_lt (l : List UInt8) : bval l < 256 ^ l.length := by
  suffices h : ∀ n (l : List UInt8), l.length = n → bval l < 256 ^ n from h _ l rfl
  intro n
  induction n with
  | zero => intro l h; have : l = [] := List.eq_nil_of_length_eq_zero h; subst this; decide
  | succ n ih =>
    intro l h
    obtain ⟨l', x, rfl⟩ : ∃ l' x, l = l' ++ [x] := ⟨l.dropLast, l.getLast (by intro e; subst e; simp at h), (List.dropLast_concat_getLast _).symm⟩
    have h' := ih l' (by simpa using h)
    have hx := x.toNat_lt
    rw [bval_snoc, Nat.pow_succ]
    have : x.toNat < 256 := hx
    omega
theorem or_byte (n x : Nat) (hn : n < 72057594037927936) (hx : x < 256) : bits .or .u64 ((n : Int) * 256) (x : Int) = ((n * 256 + x : Nat) : Int) := by
  rw [u64_or _ _ (by omega) (by omega) (by omega) (by omega)]
  have e1 : ((n : Int) * 256).toNat = 2 ^ 8 * n := by omega
  rw [e1, Int.toNat_natCast, ← Nat.two_pow_add_eq_or_of_lt (by simpa using hx) n]
  congr 1
  omega
/-- a reader's step for bytes -/
def stepB (l : List UInt8) (wr : Bool) (most : Int) : List UInt8 × List UInt8 × Bool :=
  if (stepN l wr).2.2 = true ∨ most < 0 ∨ most.toNat < (stepN l wr).1 ∨ (stepN l wr).2.1.length < (stepN l wr).1 then ([], [], true)
  else ((stepN l wr).2.1.take (stepN l wr).1, (stepN l wr).2.1.drop (stepN l wr).1, false)
theorem getN_lt {l : List UInt8} {n : Nat} {r : List UInt8} (h : getN l = some (n, r)) : n < 2 ^ 64 ∧ r.length < l.length := by
  unfold getN at h
  split at h
  · cases h
  · rename_i s r'
    split at h
    · rename_i hc
      simp only [Option.some.injEq, Prod.mk.injEq] at h
      obtain ⟨rfl, rfl⟩ := h
      have h1 := bval_lt (r'.take s.toNat)
      have h2 : (r'.take s.toNat).length ≤ 8 := by rw [List.length_take]; omega
      have h3 : (256 : Nat) ^ (r'.take s.toNat).length ≤ 256 ^ 8 := Nat.pow_le_pow_right (by omega) h2
      refine ⟨by omega, ?_⟩
      simp; omega
    · cases h
theorem stepN_lt (l : List UInt8) (wr : Bool) : (stepN l wr).1 < 2 ^ 64 ∧ (stepN l wr).2.1.length ≤ l.length := by
  unfold stepN
  split
  · simp
  · split
    · rename_i n r h
      have := getN_lt h
      exact ⟨this.1, by simp; omega⟩
    · simp
/-- the number of either sign that stands at a place -/
def unfoldZ (n : Nat) : Int := if n % 2 = 1 then -((n / 2 : Nat) : Int) - 1 else ((n / 2 : Nat) : Int)
/-- 64 bits, read as a number of either sign -/
def toI (n : Nat) : Int := if n < 9223372036854775808 then (n : Int) else (n : Int) - 18446744073709551616
/-- a reader's step for a value -/
def stepV (l : List UInt8) (wr : Bool) : (Int × Int × List UInt8) × List UInt8 × Bool :=
  let a := stepN l wr
  let c := stepN a.2.1 a.2.2
  let d := stepB c.2.1 c.2.2 40
  if d.2.2 = true ∨ 2147483647 < a.1 then ((0, 0, []), [], true)
  else if may a.1 (if a.1 = 1 then unfoldZ c.1 else toI c.1) d.1 = true then (((a.1 : Int), (if a.1 = 1 then unfoldZ c.1 else toI c.1), d.1), d.2.1, false)
  else ((0, 0, []), [], true)
theorem take_snoc (r : List UInt8) (k : Nat) (h : k < r.length) : r.take (k + 1) = r.take k ++ [r[k]] := by
  rw [List.take_succ_eq_append_getElem h]
end PM
end Go.Proofs.Ytklgibkdbdhaiaa
