/-
  WHAT A RECORD DOES TO A STATE, PLAINLY: lists grow by at most one member of the record's own; a record does not go on twice; what lists keep. postilionlaw16.small.
-/
import Derived.Test.YtphdadlpfjfeoaaSe
import Derived.Test.YtphdadlpfjfeoaaWd
namespace Go.Proofs.Ytphdadlpfjfeoaa
open Go.RowKit
set_option linter.unusedVariables false
set_option linter.unusedSimpArgs false
namespace PM
def Fs0 : Fs := ⟨0, [], [], []⟩
/-- a state of few, small members -/
def FsOk (N : Nat) (s : Fs) : Prop := s.ls.length ≤ N ∧ s.ps.length ≤ N ∧ s.ab.length ≤ N ∧ (∀ x ∈ s.ls, EnS x) ∧ (∀ x ∈ s.ps, EnS x) ∧ s.lf < 2 ^ 64
theorem FsOk.nil : FsOk 0 Fs0 := ⟨Nat.le_refl _, Nat.le_refl _, Nat.le_refl _, by simp [Fs0], by simp [Fs0], by decide⟩
theorem FsOk.mono {N M : Nat} {s : Fs} (h : FsOk N s) (hm : N ≤ M) : FsOk M s := ⟨Nat.le_trans h.1 hm, Nat.le_trans h.2.1 hm, Nat.le_trans h.2.2.1 hm, h.2.2.2⟩
theorem FsOk.ensL {N : Nat} {s : Fs} (h : FsOk N s) (hN : N ≤ 1000) : EnsS s.ls := ⟨Nat.le_trans h.1 hN, h.2.2.2.1⟩
theorem FsOk.ensP {N : Nat} {s : Fs} (h : FsOk N s) (hN : N ≤ 1000) : EnsS s.ps := ⟨Nat.le_trans h.2.1 hN, h.2.2.2.2.1⟩
theorem noId_mem {i : Id} {l : List En} {x : En} (h : x ∈ noId i l) : x ∈ l := (List.mem_filter.1 h).1
theorem FsOk.stK {N : Nat} {s : Fs} {kd : Int} {n : Nat} {z : En} {i : Id} (h : FsOk N s) (hz : EnS z) (hn : n < 2 ^ 64) : FsOk (N + 1) (stK s kd n z i).1 := by
  have h' := h.mono (Nat.le_succ N)
  obtain ⟨h1, h2, h3, h4, h5, h6⟩ := h
  have hp := noId_len z.id s.ps
  have hq := noId_len i s.ps
  have hz4 : ∀ x ∈ s.ls ++ [z], EnS x := fun x hx => by
    rcases List.mem_append.1 hx with hx | hx
    · exact h4 x hx
    · simp at hx; subst hx; exact hz
  have hz5 : ∀ x ∈ s.ps ++ [z], EnS x := fun x hx => by
    rcases List.mem_append.1 hx with hx | hx
    · exact h5 x hx
    · simp at hx; subst hx; exact hz
  unfold PM.stK stL stE stP stA stF
  repeat' split
  all_goals first | exact h' | skip
  all_goals (refine ⟨?_, ?_, ?_, ?_, ?_, ?_⟩ <;> first | assumption | exact hz4 | exact hz5 | exact fun x hx => h5 x (noId_mem hx) | exact hn | (simp only [List.length_append, List.length_singleton]; omega) | (simp only; omega))
theorem hasE_snoc' (p : List En) (x : En) (i : Id) : hasE (p ++ [x]) i = (hasE p i || decide (x.id = i)) := by simp [hasE, isId]
theorem hasE_noId (i : Id) (l : List En) : hasE (noId i l) i = false := by
  unfold hasE noId
  rw [List.any_eq_false]
  intro x hx
  have := (List.mem_filter.1 hx).2
  simpa using this
theorem stK_code (s : Fs) (kd : Int) (n : Nat) (z : En) (i : Id) : (stK s kd n z i).2 = 0 ∨ stK s kd n z i = (s, 160) := by
  unfold stK stL stE stP stA stF
  repeat' split
  all_goals simp
/-- a record that goes on does not go on again -/
theorem stK_twice (s : Fs) (kd : Int) (n : Nat) (z : En) (i : Id) (h : (stK s kd n z i).2 = 0) : stK (stK s kd n z i).1 kd n z i = ((stK s kd n z i).1, 160) := by
  unfold stK at *
  split
  · rename_i hk
    rw [if_pos hk] at h
    unfold stL at *
    split at h
    · exact absurd h (by simp)
    · rename_i h1
      rw [if_neg h1]
      simp
  split
  · rename_i hk1 hk
    rw [if_neg hk1, if_pos hk] at h
    unfold stE at *
    split at h
    · exact absurd h (by simp)
    · rename_i h1
      have hn : n = s.ls.length := by
        simp only [Bool.or_eq_true, not_or] at h1
        have := h1.1.1
        simpa using this
      rw [if_neg h1]
      simp [hn]
  split
  · rename_i hk2 hk1 hk
    rw [if_neg hk2, if_neg hk1, if_pos hk] at h
    unfold stP at *
    split at h
    · exact absurd h (by simp)
    · rename_i h1
      rw [if_neg h1]
      simp [hasE_snoc']
  split
  · rename_i hk3 hk2 hk1 hk
    rw [if_neg hk3, if_neg hk2, if_neg hk1, if_pos hk] at h
    unfold stA at *
    split at h
    · exact absurd h (by simp)
    · rename_i h1
      rw [if_neg h1]
      simp [hasI]
  · rename_i hk3 hk2 hk1 hk
    rw [if_neg hk3, if_neg hk2, if_neg hk1, if_neg hk] at h
    unfold stF at *
    split at h
    · exact absurd h (by simp)
    · rename_i h1
      rw [if_neg h1]
      simp [hasE_noId]
/-- what grows -/
def Grown (s t : Fs) : Prop := (∃ l, t.ls = s.ls ++ l) ∧ (∃ l, t.ab = s.ab ++ l) ∧ s.lf ≤ t.lf
theorem Grown.refl (s : Fs) : Grown s s := ⟨⟨[], by simp⟩, ⟨[], by simp⟩, Nat.le_refl _⟩
theorem Grown.trans {s t u : Fs} (h : Grown s t) (k : Grown t u) : Grown s u := by
  obtain ⟨⟨a, ha⟩, ⟨b, hb⟩, hc⟩ := h
  obtain ⟨⟨d, hd⟩, ⟨e, he⟩, hf⟩ := k
  exact ⟨⟨a ++ d, by rw [hd, ha, List.append_assoc]⟩, ⟨b ++ e, by rw [he, hb, List.append_assoc]⟩, Nat.le_trans hc hf⟩
theorem stK_grown (s : Fs) (kd : Int) (n : Nat) (z : En) (i : Id) : Grown s (stK s kd n z i).1 := by
  unfold stK stL stE stP stA stF
  repeat' split
  all_goals first
    | exact Grown.refl s
    | exact ⟨⟨[z], rfl⟩, ⟨[], (List.append_nil _).symm⟩, Nat.le_refl _⟩
    | exact ⟨⟨[], (List.append_nil _).symm⟩, ⟨[i], rfl⟩, Nat.le_refl _⟩
    | exact ⟨⟨[], (List.append_nil _).symm⟩, ⟨[], (List.append_nil _).symm⟩, Nat.le_refl _⟩
    | (refine ⟨⟨[], (List.append_nil _).symm⟩, ⟨[], (List.append_nil _).symm⟩, ?_⟩; simp only; omega)
theorem stp_grown (s : Fs) (x : Rc) : Grown s (stp s x).1 := by
  unfold stp
  split
  · exact stK_grown _ _ _ _ _
  · exact Grown.refl s
theorem stp_twice (s : Fs) (x : Rc) (h : (stp s x).2 = 0) : stp (stp s x).1 x = ((stp s x).1, 160) := by
  unfold stp at *
  split at h
  · rename_i hx
    rw [if_pos hx, if_pos hx]
    exact stK_twice _ _ _ _ _ h
  · exact absurd h (by simp)
theorem stp_code (s : Fs) (x : Rc) : (stp s x).2 = 0 ∨ stp s x = (s, 160) ∨ stp s x = (s, 110) := by
  unfold stp
  split
  · rcases stK_code s x.kind x.n x.en x.id with h | h
    · exact .inl h
    · exact .inr (.inl h)
  · exact .inr (.inr rfl)
theorem FsOk.stp {N : Nat} {s : Fs} {x : Rc} (h : FsOk N s) (hz : EnS x.en) (hn : x.n < 2 ^ 64) : FsOk (N + 1) (stp s x).1 := by
  unfold PM.stp
  split
  · exact h.stK hz hn
  · exact h.mono (Nat.le_succ N)
end PM
set_option maxHeartbeats 1000000 in
theorem small16_any (kd : Int) (nn : Nat) (z : PM.En) (fa : Option Addr) (fc : Nat) (ea : Option Addr) (ec : Nat) (i : PM.Id) (w : World) (hf : PM.TV w (.slice fa z.fil.length fc) z.fil) (he : PM.EVL w (.slice ea z.evs.length ec) z.evs) :
    Calls Try.prog 12 #[.agg #[.int .i64 kd, .int .u64 (nn : Int), .int .i64 z.kind, .int .i64 z.id.br, .int .u64 (z.id.life : Int), .int .u64 (z.id.ser : Int), .int .i64 z.client, .int .u64 (z.sub : Int), .slice fa z.fil.length fc, .slice ea z.evs.length ec, .int .i64 i.br, .int .u64 (i.life : Int), .int .u64 (i.ser : Int)]] w fun e w' => (e = .returned (.bool true) ∧ PM.FewEn z ∨ e = .returned (.bool false)) ∧ Below w.heap.size w w' := by
  have hal : ∀ o, Below w.heap.size w (w.alloc o) := fun o => (Below.refl _ _).alloc (Nat.le_refl _) o
  have hcf := fun o => few11s_any z _ _ (w.alloc o) (hf.keep (hal o)) (PM.EVL.keepO (hal o) he)
  generalize z.fil.length = zF at *
  generalize z.evs.length = zE at *
  replace hal := PM.hid hal
  clear hf he
  unfold PM.enC at hcf
  go_enter Try.func12, Try.ntmps12
  go_wp2_with fail
  refine (hcf _).mono ?_
  rintro e w2 ⟨⟨rfl, hy⟩ | rfl, hB⟩
  · have hB2 := PM.hid (And.intro hy (PM.chain (hal.out _) hB))
    clear hB hcf hy
    go_wp2_with fail
    go_ret
    exact ⟨.inl ⟨rfl, hB2.out.1⟩, hB2.out.2⟩
  · have hB2 := PM.hid (PM.chain (hal.out _) hB)
    clear hB hcf
    go_wp2_with fail
    go_ret
    exact ⟨.inr rfl, hB2.out⟩
end Go.Proofs.Ytphdadlpfjfeoaa
