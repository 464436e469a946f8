/-
  RECORDS READ FROM BYTES: plain; what Unpack answers.
-/
import Derived.Test.YtphdadlpfjfeoaaJk
namespace Go.Proofs.Ytphdadlpfjfeoaa
open Go.RowKit
set_option linter.unusedVariables false
set_option linter.unusedSimpArgs false
namespace PM
def Rc0 : Rc := ⟨0, 0, En0, Id0⟩
theorem En0_wf : En0.wf := ⟨rfl, ⟨rfl, by decide, by decide⟩, rfl, by decide, by simp [En0], by simp [En0]⟩
theorem Id0_wf : Id0.wf := ⟨rfl, by decide, by decide⟩
theorem enNil_eq {x : En} (h : enNil x) : x = En0 := by
  obtain ⟨k, i, c, s, f, e⟩ := x
  obtain ⟨h1, h2, h3, h4, h5, h6⟩ := h
  simp only at h1 h2 h3 h4 h5 h6
  subst h1 h2 h3 h4 h5 h6
  rfl
theorem En0_nil : enNil En0 := ⟨rfl, rfl, rfl, rfl, rfl, rfl⟩
theorem rc_nobyte (a b c d e f g h i j k : Int) {x y : Value} (hx : isSl x = true) (hy : isSl y = true) : ∀ (n : Nat) (z : UInt8), (#[Value.int .i64 a, Value.int .u64 b, Value.int .i64 c, Value.int .i64 d, Value.int .u64 e, Value.int .u64 f, Value.int .i64 g, Value.int .u64 h, x, y, Value.int .i64 i, Value.int .u64 j, Value.int .u64 k] : Array Value)[n]? ≠ Option.some (bv z) := by
  intro n z he
  match n with
  | 0 => simp [bv] at he
  | 1 => simp [bv] at he
  | 2 => simp [bv] at he
  | 3 => simp [bv] at he
  | 4 => simp [bv] at he
  | 5 => simp [bv] at he
  | 6 => simp [bv] at he
  | 7 => simp [bv] at he
  | 8 => simp at he; subst he; simp [isSl, bv] at hx
  | 9 => simp at he; subst he; simp [isSl, bv] at hy
  | 10 => simp [bv] at he
  | 11 => simp [bv] at he
  | 12 => simp [bv] at he
  | n + 13 => simp at he
theorem Bx.set13 (r : Nat) (w : World) (a0 a1 a2 a3 a4 a5 a6 a7 a8 a9 a10 a11 a12 : Value) : Bx r w (((((((((((((w.setCell ⟨r, 0, Option.none⟩ a0).setCell ⟨r, 1, Option.none⟩ a1).setCell ⟨r, 2, Option.none⟩ a2).setCell ⟨r, 3, Option.none⟩ a3).setCell ⟨r, 4, Option.none⟩ a4).setCell ⟨r, 5, Option.none⟩ a5).setCell ⟨r, 6, Option.none⟩ a6).setCell ⟨r, 7, Option.none⟩ a7).setCell ⟨r, 8, Option.none⟩ a8).setCell ⟨r, 9, Option.none⟩ a9).setCell ⟨r, 10, Option.none⟩ a10).setCell ⟨r, 11, Option.none⟩ a11).setCell ⟨r, 12, Option.none⟩ a12) :=
  ((((((((((((Bx.set r 0 w a0).trans (Bx.set r 1 _ a1)).trans (Bx.set r 2 _ a2)).trans (Bx.set r 3 _ a3)).trans (Bx.set r 4 _ a4)).trans (Bx.set r 5 _ a5)).trans (Bx.set r 6 _ a6)).trans (Bx.set r 7 _ a7)).trans (Bx.set r 8 _ a8)).trans (Bx.set r 9 _ a9)).trans (Bx.set r 10 _ a10)).trans (Bx.set r 11 _ a11)).trans (Bx.set r 12 _ a12)
theorem BK.set13 {w : World} {r : Nat} {b0 b1 b2 b3 b4 b5 b6 b7 b8 b9 b10 b11 b12 : Value} {T : TypeId} (k : BK w r #[b0, b1, b2, b3, b4, b5, b6, b7, b8, b9, b10, b11, b12] T) (a0 a1 a2 a3 a4 a5 a6 a7 a8 a9 a10 a11 a12 : Value) : BK (((((((((((((w.setCell ⟨r, 0, Option.none⟩ a0).setCell ⟨r, 1, Option.none⟩ a1).setCell ⟨r, 2, Option.none⟩ a2).setCell ⟨r, 3, Option.none⟩ a3).setCell ⟨r, 4, Option.none⟩ a4).setCell ⟨r, 5, Option.none⟩ a5).setCell ⟨r, 6, Option.none⟩ a6).setCell ⟨r, 7, Option.none⟩ a7).setCell ⟨r, 8, Option.none⟩ a8).setCell ⟨r, 9, Option.none⟩ a9).setCell ⟨r, 10, Option.none⟩ a10).setCell ⟨r, 11, Option.none⟩ a11).setCell ⟨r, 12, Option.none⟩ a12) r #[a0, a1, a2, a3, a4, a5, a6, a7, a8, a9, a10, a11, a12] T := by
  have := (((((((((((((k.set 0 a0).set 1 a1).set 2 a2).set 3 a3).set 4 a4).set 5 a5).set 6 a6).set 7 a7).set 8 a8).set 9 a9).set 10 a10).set 11 a11).set 12 a12)
  simpa using this
open Classical in
noncomputable def finR (x : Rc) (l : List UInt8) (wr : Bool) : Option Rc := if wr = false ∧ l = [] ∧ rcP x then some x else none
theorem finR_yes {x : Rc} (h : rcP x) : finR x [] false = some x := by unfold finR; rw [if_pos ⟨rfl, rfl, h⟩]
theorem finR_no {x : Rc} {l : List UInt8} {wr : Bool} (h : ¬ (wr = false ∧ l = [] ∧ rcP x)) : finR x l wr = none := by unfold finR; rw [if_neg h]
theorem finR_some {x y : Rc} {l : List UInt8} {wr : Bool} (h : finR x l wr = some y) : wr = false ∧ l = [] ∧ rcP x ∧ y = x := by
  unfold finR at h
  split at h
  · rename_i hh
    injection h with h
    exact ⟨hh.1, hh.2.1, hh.2.2, h.symm⟩
  · cases h
noncomputable def decR2 (k : Int) (n : Nat) (S : List UInt8 × List UInt8 × Bool) : Option Rc := match decEn S.1 with
  | some e => finR ⟨k, n, e, Id0⟩ S.2.1 S.2.2
  | none => none
noncomputable def decRK (most : Int) (k : Int) (n : Nat) (l : List UInt8) (wr : Bool) : Option Rc :=
  if k = 2 ∨ k = 3 then decR2 k n (stepB l wr most)
  else if k = 4 ∨ k = 5 then finR ⟨k, n, En0, (readI l wr).1⟩ (readI l wr).2.1 (readI l wr).2.2
  else finR ⟨k, n, En0, Id0⟩ l wr
/-- the record that bytes are -/
noncomputable def decRc (l : List UInt8) : Option Rc := decRK l.length (sm (stepN l false).1) (stepN (stepN l false).2.1 (stepN l false).2.2).1 (stepN (stepN l false).2.1 (stepN l false).2.2).2.1 (stepN (stepN l false).2.1 (stepN l false).2.2).2.2
theorem decRc_eq {l l1 l2 : List UInt8} {w1 w2 : Bool} {k n : Nat} (h1 : stepN l false = (k, l1, w1)) (h2 : stepN l1 w1 = (n, l2, w2)) : decRc l = decRK l.length (sm k) n l2 w2 := by
  simp only [decRc, h1, h2]
theorem decRc_enc {x : Rc} (hx : x.wf) (h : rcP x) : decRc (rcB x) = some x := by
  obtain ⟨rk, rn, en, i⟩ := x
  obtain ⟨q1, q2, q3, q4⟩ := hx
  have hok := h
  simp only at q1 q2 q3 q4
  have hk : 1 ≤ rk ∧ rk ≤ 5 := by rcases h with ⟨⟨k, _⟩ | k, _⟩ | ⟨k | k, _⟩ | ⟨k, _⟩ <;> simp only at k <;> omega
  obtain ⟨R, hR⟩ : ∃ R, R = (if rk = 2 ∨ rk = 3 then bytesB (enB en) else if rk = 4 ∨ rk = 5 then idB i else []) := ⟨_, rfl⟩
  have hB : rcB ⟨rk, rn, en, i⟩ = numB (u64 rk) ++ (numB rn ++ R) := by simp only [rcB, hR, List.append_assoc]
  have hlen : R.length ≤ (rcB ⟨rk, rn, en, i⟩).length := by rw [hB]; simp only [List.length_append]; omega
  have e := decRc_eq (l := rcB ⟨rk, rn, en, i⟩) (by rw [hB]; exact stepN_num _ (u64_lt _) _) (stepN_num _ q2 _)
  rw [e, sm_u64 (by omega) (by omega)]
  unfold decRK
  by_cases k23 : rk = 2 ∨ rk = 3
  · rw [if_pos k23] at hR ⊢
    have hp : i = Id0 ∧ enOk en := by
      rcases h with ⟨_, h1, h2⟩ | ⟨k | k, _⟩ | ⟨k, _⟩
      · exact ⟨h1, h2⟩
      all_goals (simp only at k; omega)
    have hel := enB_le hp.2 q3
    have e1 : stepB R false ((rcB ⟨rk, rn, en, i⟩).length : Int) = (enB en, [], false) := by
      have := stepB_bytes (enB en) [] ((rcB ⟨rk, rn, en, i⟩).length : Int) (by omega) (by rw [hR, bytesB, List.length_append] at hlen; omega)
      rw [List.append_nil] at this
      rw [hR]
      exact this
    rw [e1]
    unfold decR2
    simp only [decEn_enc q3 hp.2]
    obtain ⟨rfl, _⟩ := hp
    exact finR_yes hok
  · rw [if_neg k23] at hR ⊢
    by_cases k45 : rk = 4 ∨ rk = 5
    · rw [if_pos k45] at hR ⊢
      have hp : (0 ≤ i.br ∧ i.br < 16) ∧ enNil en := by
        rcases h with ⟨⟨k, _⟩ | k, _⟩ | ⟨_, _, h1, h2⟩ | ⟨k, _⟩
        · simp only at k; omega
        · simp only at k; omega
        · exact ⟨h1, h2⟩
        · simp only at k; omega
      have e1 := readI_enc q4 hp.1.1 (by omega) []
      rw [List.append_nil] at e1
      rw [hR, e1]
      have := enNil_eq hp.2
      subst this
      exact finR_yes hok
    · rw [if_neg k45] at hR ⊢
      have hp : i = Id0 ∧ enNil en := by
        rcases h with ⟨⟨k, _⟩ | k, _⟩ | ⟨k, _⟩ | ⟨_, h1, h2⟩
        · simp only at k; omega
        · simp only at k; omega
        · simp only at k; omega
        · exact ⟨h1, h2⟩
      have := enNil_eq hp.2
      obtain ⟨h1, _⟩ := hp
      subst this h1 hR
      exact finR_yes hok
theorem decRc_back {b : List UInt8} {x : Rc} (h : decRc b = some x) : rcB x = b ∧ rcP x ∧ x.wf := by
  obtain ⟨k, l1, w1, e1⟩ : ∃ p q r, stepN b false = (p, q, r) := ⟨_, _, _, rfl⟩
  obtain ⟨n, l2, w2, e2⟩ : ∃ p q r, stepN l1 w1 = (p, q, r) := ⟨_, _, _, rfl⟩
  rw [decRc_eq e1 e2] at h
  have n1 := (stepN_lt b false).1
  have n2 := (stepN_lt l1 w1).1
  rw [e1] at n1; rw [e2] at n2
  simp only at n1 n2
  have key : ∀ {R}, w2 = false → l2 = R → 0 ≤ sm k → b = numB (u64 (sm k)) ++ (numB n ++ R) := by
    intro R hw hl hk
    subst hw hl
    have f1 := stepN_false (l := l1) (wr := w1) (by rw [e2])
    subst f1
    have b1 := stepN_back (l := b) (by rw [e1])
    have b2 := stepN_back (l := l1) (by rw [e2])
    rw [e1] at b1; rw [e2] at b2
    simp only at b1 b2
    rw [sm_back n1 hk, ← b2]
    exact b1
  unfold decRK at h
  split at h
  · rename_i hk
    unfold decR2 at h
    split at h
    · rename_i e hd
      obtain ⟨hw, hl, hok, rfl⟩ := finR_some h
      have g5 := stepB_false hw
      subst g5
      have b5 := stepB_back hw
      rw [hl, List.append_nil] at b5
      obtain ⟨d1, d2, d3⟩ := decEn_back hd
      have hb := key (R := bytesB (enB e)) rfl (by rw [d1]; exact b5) (by omega)
      refine ⟨?_, hok, sm_wf _, n2, d3, Id0_wf⟩
      rw [hb]
      simp only [rcB, if_pos hk, List.append_assoc]
    · cases h
  · rename_i hk
    split at h
    · rename_i hk2
      obtain ⟨hw, hl, hok, rfl⟩ := finR_some h
      have h0 : 0 ≤ (readI l2 w2).1.br := by
        rcases hok with ⟨⟨k, _⟩ | k, _⟩ | ⟨_, _, h1, _⟩ | ⟨k, _⟩
        · simp only at k; omega
        · simp only at k; omega
        · exact h1.1
        · simp only at k; omega
      have b5 := readI_back hw h0
      rw [hl, List.append_nil] at b5
      have hb := key (R := idB (readI l2 w2).1) b5.1 b5.2 (by omega)
      refine ⟨?_, hok, sm_wf _, n2, En0_wf, readI_wf _ _⟩
      rw [hb]
      simp only [rcB, if_neg hk, if_pos hk2, List.append_assoc]
    · rename_i hk2
      obtain ⟨hw, hl, hok, rfl⟩ := finR_some h
      have hk0 : 0 ≤ sm k := by rcases hok with ⟨⟨k, _⟩ | k, _⟩ | ⟨k | k, _⟩ | ⟨k, _⟩ <;> simp only at k <;> omega
      have hb := key (R := []) hw hl hk0
      refine ⟨?_, hok, sm_wf _, n2, En0_wf, Id0_wf⟩
      rw [hb]
      simp only [rcB, if_neg hk, if_neg hk2, List.append_assoc]
end PM
/-- what Unpack answers -/
def RetUN (W : World) (l : List UInt8) (e : Ending) (w' : World) : Prop :=
  ∃ (x : PM.Rc) (fv ev : Value) (n : Int), e = .returned (.tuple #[.agg (PM.rcC x fv ev).toArray, .int .i64 n]) ∧ (n = 0 ∧ PM.decRc l = some x ∨ n = 110 ∧ PM.decRc l = none ∧ x = PM.Rc0 ∧ fv = .slice none 0 0 ∧ ev = .slice none 0 0) ∧
    PM.OM PM.teL 5 114 W.heap.size w' fv x.en.fil ∧ PM.OEv 84 112 W.heap.size w' ev x.en.evs ∧ Below W.heap.size W w'
end Go.Proofs.Ytphdadlpfjfeoaa
