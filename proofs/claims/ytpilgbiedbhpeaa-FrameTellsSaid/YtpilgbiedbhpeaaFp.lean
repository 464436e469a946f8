/-
  PLAIN FACTS ON FRAMES: sums, frames, and what bytes are frames of. No program is imported.
-/
import Derived.Test.YtpilgbiedbhpeaaPp
namespace Go.Proofs.Ytpilgbiedbhpeaa
namespace PM
open Go.RowKit
set_option linter.unusedVariables false
/-- one step of the sum -/
def b1 (n : Nat) : Nat := if n % 2 = 1 then (n / 2) ^^^ 3945912366 else n / 2
def bN : Nat → Nat → Nat
  | 0, n => n
  | k + 1, n => bN k (b1 n)
/-- one byte more -/
def crcB (n : Nat) (x : UInt8) : Nat := bN 8 (n ^^^ x.toNat)
def crcF (l : List UInt8) (n : Nat) : Nat := l.foldl crcB n
/-- bytes' sum -/
def crc (l : List UInt8) : Nat := 4294967295 - crcF l 4294967295
theorem b1_lt {n : Nat} (h : n < 4294967296) : b1 n < 4294967296 := by
  unfold b1
  split
  · exact Nat.xor_lt_two_pow (n := 32) (by omega) (by decide)
  · omega
theorem bN_lt : ∀ (k : Nat) {n : Nat}, n < 4294967296 → bN k n < 4294967296
  | 0, _, h => h
  | k + 1, _, h => bN_lt k (b1_lt h)
theorem bN_succ : ∀ (k n : Nat), bN (k + 1) n = b1 (bN k n)
  | 0, _ => rfl
  | k + 1, n => by
    show bN (k + 1) (b1 n) = b1 (bN k (b1 n))
    exact bN_succ k (b1 n)
theorem xor_byte_lt {n : Nat} (h : n < 4294967296) (x : UInt8) : n ^^^ x.toNat < 4294967296 :=
  Nat.xor_lt_two_pow (n := 32) h (by have := x.toNat_lt; omega)
theorem crcB_lt {n : Nat} (h : n < 4294967296) (x : UInt8) : crcB n x < 4294967296 := bN_lt 8 (xor_byte_lt h x)
theorem crcF_lt : ∀ (l : List UInt8) {n : Nat}, n < 4294967296 → crcF l n < 4294967296
  | [], _, h => h
  | x :: l, _, h => crcF_lt l (crcB_lt h x)
theorem crcF_snoc (l : List UInt8) (x : UInt8) (n : Nat) : crcF (l ++ [x]) n = crcB (crcF l n) x := by simp [crcF]
theorem crcF_append (l m : List UInt8) (n : Nat) : crcF (l ++ m) n = crcF m (crcF l n) := by simp [crcF]
theorem crc_lt (l : List UInt8) : crc l < 4294967296 := by unfold crc; omega
theorem b1_inj {n m : Nat} (hn : n < 4294967296) (hm : m < 4294967296) (h : b1 n = b1 m) : n = m := by
  have key : ∀ a b : Nat, a < 2147483648 → b < 2147483648 → a ^^^ 3945912366 ≠ b := by
    intro a b ha hb e
    have h1 : (a ^^^ 3945912366).testBit 31 = b.testBit 31 := by rw [e]
    rw [Nat.testBit_xor, Nat.testBit_lt_two_pow (show a < 2 ^ 31 by omega), Nat.testBit_lt_two_pow (show b < 2 ^ 31 by omega), show Nat.testBit 3945912366 31 = true by decide] at h1
    cases h1
  unfold b1 at h
  by_cases p : n % 2 = 1
  · by_cases q : m % 2 = 1
    · rw [if_pos p, if_pos q] at h
      have : n / 2 = m / 2 := by
        have := congrArg (· ^^^ 3945912366) h
        simpa [Nat.xor_assoc] using this
      omega
    · rw [if_pos p, if_neg q] at h
      exact absurd h (key _ _ (by omega) (by omega))
  · by_cases q : m % 2 = 1
    · rw [if_neg p, if_pos q] at h
      exact absurd h.symm (key _ _ (by omega) (by omega))
    · rw [if_neg p, if_neg q] at h
      omega
theorem bN_inj : ∀ (k : Nat) {n m : Nat}, n < 4294967296 → m < 4294967296 → bN k n = bN k m → n = m
  | 0, _, _, _, _, h => h
  | k + 1, _, _, hn, hm, h => b1_inj hn hm (bN_inj k (b1_lt hn) (b1_lt hm) h)
theorem crcF_inj : ∀ (l : List UInt8) {n m : Nat}, n < 4294967296 → m < 4294967296 → crcF l n = crcF l m → n = m
  | [], _, _, _, _, h => h
  | x :: l, n, m, hn, hm, h => by
    have h1 := crcF_inj l (crcB_lt hn x) (crcB_lt hm x) h
    have h2 := bN_inj 8 (xor_byte_lt hn x) (xor_byte_lt hm x) h1
    have := congrArg (· ^^^ x.toNat) h2
    simpa [Nat.xor_assoc] using this
theorem crc_ne (a c : List UInt8) {x y : UInt8} (h : x ≠ y) : crc (a ++ x :: c) ≠ crc (a ++ y :: c) := by
  intro e
  have hs : (4294967295 : Nat) < 4294967296 := by decide
  have l1 := crcF_lt (a ++ x :: c) hs
  have l2 := crcF_lt (a ++ y :: c) hs
  unfold crc at e
  have e1 : crcF (a ++ x :: c) 4294967295 = crcF (a ++ y :: c) 4294967295 := by omega
  rw [crcF_append, crcF_append] at e1
  have la := crcF_lt a hs
  have e2 := crcF_inj c (crcB_lt la x) (crcB_lt la y) e1
  have e3 := bN_inj 8 (xor_byte_lt la x) (xor_byte_lt la y) e2
  have e4 := congrArg (crcF a 4294967295 ^^^ ·) e3
  simp only [← Nat.xor_assoc, Nat.xor_self, Nat.zero_xor] at e4
  exact h (UInt8.toNat_inj.1 e4)
/-- a frame round bytes -/
def wrapL (b : List UInt8) : List UInt8 := be b.length 2 ++ be (crc b) 4 ++ b
theorem wrapL_length (b : List UInt8) : (wrapL b).length = 6 + b.length := by simp [wrapL, be_length]; omega
/-- what the frame holds that bytes begin with -/
def firstL (l : List UInt8) : List UInt8 :=
  if l.length < 6 then [] else if bval (l.take 2) = 0 ∨ 4000 < bval (l.take 2) ∨ l.length < 6 + bval (l.take 2) then [] else
  if (l.drop 2).take 4 = be (crc ((l.drop 6).take (bval (l.take 2)))) 4 then (l.drop 6).take (bval (l.take 2)) else []
theorem bval_be2 {n : Nat} (h : n < 65536) : bval (be n 2) = n := by
  have : be n 2 = [UInt8.ofNat (n / 256), UInt8.ofNat n] := by
    simp [be, List.range_succ]
  rw [this]
  simp [bval]
  omega
theorem first_wrap (h r : List UInt8) (h1 : 0 < h.length) (h2 : h.length ≤ 4000) : firstL (wrapL h ++ r) = h := by
  have e1 : (wrapL h ++ r).take 2 = be h.length 2 := by
    rw [wrapL, List.append_assoc, List.append_assoc]
    exact List.take_left' (be_length _ _)
  have e2 : (wrapL h ++ r).drop 2 = be (crc h) 4 ++ (h ++ r) := by
    rw [wrapL, List.append_assoc, List.append_assoc]
    exact List.drop_left' (be_length _ _)
  have e3 : (wrapL h ++ r).drop 6 = h ++ r := by
    rw [show (6 : Nat) = 2 + 4 from rfl, ← List.drop_drop, e2]
    exact List.drop_left' (be_length _ _)
  unfold firstL
  rw [e1, e2, e3, bval_be2 (by omega), List.take_left' rfl, List.take_left' (be_length _ _)]
  rw [if_neg (by rw [List.length_append, wrapL_length]; omega), if_neg (by rw [List.length_append, wrapL_length]; omega), if_pos rfl]
theorem be2_bval (l : List UInt8) (h : l.length = 2) : be (bval l) 2 = l := by
  match l, h with
  | [a, b], _ =>
    have ha := a.toNat_lt
    have hb := b.toNat_lt
    simp only [be, bval, List.range_succ, List.range_zero, List.nil_append, List.map_append, List.map_cons, List.map_nil, List.foldl_cons, List.foldl_nil]
    simp only [List.cons_append, List.nil_append, List.cons.injEq, and_true]
    constructor
    · apply UInt8.toNat_inj.1; simp; omega
    · apply UInt8.toNat_inj.1; simp
theorem first_some (l : List UInt8) (h : firstL l ≠ []) : ∃ r, l = wrapL (firstL l) ++ r ∧ 0 < (firstL l).length ∧ (firstL l).length ≤ 4000 := by
  unfold firstL at h ⊢
  by_cases h1 : l.length < 6
  · rw [if_pos h1] at h; exact absurd rfl h
  · rw [if_neg h1] at h ⊢
    by_cases h2 : bval (l.take 2) = 0 ∨ 4000 < bval (l.take 2) ∨ l.length < 6 + bval (l.take 2)
    · rw [if_pos h2] at h; exact absurd rfl h
    · rw [if_neg h2] at h ⊢
      by_cases h3 : (l.drop 2).take 4 = be (crc ((l.drop 6).take (bval (l.take 2)))) 4
      · rw [if_pos h3]
        have hl : ((l.drop 6).take (bval (l.take 2))).length = bval (l.take 2) := by simp; omega
        refine ⟨(l.drop 6).drop (bval (l.take 2)), ?_, by omega, by omega⟩
        rw [wrapL, hl, be2_bval _ (by simp; omega), ← h3, List.append_assoc, List.take_append_drop, List.append_assoc]
        conv => lhs; rw [← List.take_append_drop 2 l, ← List.take_append_drop 4 (l.drop 2)]
        rw [List.drop_drop]
      · rw [if_neg h3] at h; exact absurd rfl h
theorem first_cut (h : List UInt8) (k : Nat) (h2 : h.length ≤ 4000) (hk : k < 6 + h.length) : firstL ((wrapL h).take k) = [] := by
  have hl : ((wrapL h).take k).length = k := by rw [List.length_take, wrapL_length]; omega
  unfold firstL
  rw [hl]
  by_cases h6 : k < 6
  · rw [if_pos h6]
  · rw [if_neg h6, if_pos]
    have e1 : ((wrapL h).take k).take 2 = be h.length 2 := by
      rw [List.take_take, show min 2 k = 2 by omega, wrapL, List.append_assoc]
      exact List.take_left' (be_length _ _)
    rw [e1, bval_be2 (by omega)]
    omega
/-- what bytes are frames of -/
def scanF : Nat → List UInt8 → List (List UInt8)
  | 0, _ => []
  | f + 1, l => if firstL l = [] then [] else firstL l :: scanF f (l.drop (6 + (firstL l).length))
def scanL (l : List UInt8) : List (List UInt8) := scanF l.length l
/-- how many bytes frames have -/
def sizeL (ls : List (List UInt8)) : Nat := (ls.map fun h => 6 + h.length).sum
theorem first_lt (l : List UInt8) (h : firstL l ≠ []) : 6 + (firstL l).length ≤ l.length := by
  obtain ⟨r, e, _⟩ := first_some l h
  have := congrArg List.length e
  rw [List.length_append, wrapL_length] at this
  omega
theorem scanF_more : ∀ (f : Nat) (l : List UInt8), l.length ≤ f → scanF f l = scanL l := by
  intro f
  induction f using Nat.strongRecOn with
  | ind f ih =>
    intro l hl
    match f, ih, hl with
    | 0, _, hl =>
      have : l = [] := List.length_eq_zero_iff.1 (by omega)
      subst this; rfl
    | f + 1, ih, hl =>
      by_cases h : firstL l = []
      · unfold scanL
        cases hl' : l.length with
        | zero => simp [scanF, h]
        | succ n => simp [scanF, h]
      · have hlt := first_lt l h
        unfold scanL
        obtain ⟨n, hn⟩ : ∃ n, l.length = n + 1 := ⟨l.length - 1, by omega⟩
        rw [hn]
        simp only [scanF, h, if_false]
        rw [ih f (by omega) _ (by simp; omega)]
        by_cases hf : n = f
        · subst hf
          rw [ih n (by omega) _ (by simp; omega)]
        · rw [ih n (by omega) _ (by simp; omega)]
theorem scan_nil {l : List UInt8} (h : firstL l = []) : scanL l = [] := by
  unfold scanL
  cases hl : l.length with
  | zero => rfl
  | succ n => simp [scanF, h]
theorem scan_cons {l : List UInt8} (h : firstL l ≠ []) : scanL l = firstL l :: scanL (l.drop (6 + (firstL l).length)) := by
  have hlt := first_lt l h
  obtain ⟨n, hn⟩ : ∃ n, l.length = n + 1 := ⟨l.length - 1, by omega⟩
  unfold scanL
  rw [hn]
  simp only [scanF, h, if_false]
  rw [scanF_more n _ (by simp; omega)]
  rfl
theorem scan_wrap (h r : List UInt8) (h1 : 0 < h.length) (h2 : h.length ≤ 4000) : scanL (wrapL h ++ r) = h :: scanL r := by
  have e := first_wrap h r h1 h2
  have hne : firstL (wrapL h ++ r) ≠ [] := by rw [e]; intro e'; subst e'; simp at h1
  rw [scan_cons hne, e, ← wrapL_length h, List.drop_left]
/-- frames one behind the other -/
def joinW (ls : List (List UInt8)) : List UInt8 := (ls.map wrapL).flatten
theorem joinW_snoc (ls : List (List UInt8)) (x : List UInt8) : joinW (ls ++ [x]) = joinW ls ++ wrapL x := by simp [joinW]
theorem joinW_length (ls : List (List UInt8)) : (joinW ls).length = sizeL ls := by
  induction ls with
  | nil => rfl
  | cons x ls ih => simp only [joinW, sizeL, List.map_cons, List.flatten_cons, List.length_append, wrapL_length, List.sum_cons] at ih ⊢; omega
theorem sizeL_snoc (ls : List (List UInt8)) (x : List UInt8) : sizeL (ls ++ [x]) = sizeL ls + (6 + x.length) := by simp [sizeL]
theorem scan_join : ∀ (ls : List (List UInt8)) (r : List UInt8), (∀ x ∈ ls, 0 < x.length ∧ x.length ≤ 4000) → scanL (joinW ls ++ r) = ls ++ scanL r
  | [], _, _ => rfl
  | x :: ls, r, h => by
    have hx := h x (by simp)
    have ih := scan_join ls r (fun y hy => h y (by simp [hy]))
    show scanL ((wrapL x ++ joinW ls) ++ r) = _
    rw [List.append_assoc, scan_wrap x _ hx.1 hx.2, ih]
    rfl
/-- what is scanned stands there -/
theorem scan_stands (l : List UInt8) : ∃ r, l = joinW (scanL l) ++ r ∧ firstL r = [] ∧ ∀ x ∈ scanL l, 0 < x.length ∧ x.length ≤ 4000 := by
  have key : ∀ (n : Nat) (l : List UInt8), l.length ≤ n → ∃ r, l = joinW (scanL l) ++ r ∧ firstL r = [] ∧ ∀ x ∈ scanL l, 0 < x.length ∧ x.length ≤ 4000 := by
    intro n
    induction n with
    | zero =>
      intro l hl
      have : l = [] := List.length_eq_zero_iff.1 (by omega)
      subst this
      exact ⟨[], rfl, rfl, by simp [scanL, scanF]⟩
    | succ n ih =>
      intro l hl
      by_cases h : firstL l = []
      · rw [scan_nil h]
        exact ⟨l, rfl, h, by simp⟩
      · obtain ⟨r, e, h1, h2⟩ := first_some l h
        have hd : l.drop (6 + (firstL l).length) = r := by
          conv => lhs; rw [e]
          rw [show firstL (wrapL (firstL l) ++ r) = firstL l from by rw [← e], ← wrapL_length, List.drop_left]
        have hlt := first_lt l h
        obtain ⟨r', e', h3, h4⟩ := ih r (by rw [← hd]; simp; omega)
        rw [scan_cons h, hd]
        refine ⟨r', ?_, h3, ?_⟩
        · conv => lhs; rw [e]
          show _ = (wrapL (firstL l) ++ joinW (scanL r)) ++ r'
          rw [List.append_assoc, ← e']
        · intro x hx
          rcases List.mem_cons.1 hx with rfl | hx
          · exact ⟨h1, h2⟩
          · exact h4 x hx
  exact key _ l (Nat.le_refl _)
end PM
end Go.Proofs.Ytpilgbiedbhpeaa
