/-
  PLAINLY: the fewest records of a state make the state again, and are no more than it was made of.
-/
import Derived.Test.YtphdadlpfjfeoaaSk
import Derived.Test.YtphdadlpfjfeoaaSh
namespace Go.Proofs.Ytphdadlpfjfeoaa
open Go.RowKit
set_option linter.unusedVariables false
set_option linter.unusedSimpArgs false
namespace PM
def eids (l : List En) : List Id := l.map En.id
theorem hasE_ids {l : List En} {i : Id} : hasE l i = true ↔ i ∈ eids l := by
  rw [hasE_iff]
  simp [eids]
theorem noId_ids {l : List En} {i j : Id} : j ∈ eids (noId i l) ↔ j ∈ eids l ∧ j ≠ i := by
  unfold eids noId
  simp only [List.mem_map, List.mem_filter, isId, Bool.not_eq_true', decide_eq_false_iff_not]
  constructor
  · rintro ⟨x, ⟨h1, h2⟩, rfl⟩
    exact ⟨⟨x, h1, rfl⟩, h2⟩
  · rintro ⟨⟨x, h1, rfl⟩, h2⟩
    exact ⟨x, ⟨h1, h2⟩, rfl⟩
theorem noId_sub (i : Id) (l : List En) : List.Sublist (eids (noId i l)) (eids l) := (List.filter_sublist).map _
theorem noId_eq {i : Id} {l : List En} (h : i ∉ eids l) : noId i l = l := by
  unfold noId
  rw [List.filter_eq_self]
  intro x hx
  simp only [isId, Bool.not_eq_true', decide_eq_false_iff_not]
  rintro rfl
  exact h (List.mem_map.2 ⟨x, hx, rfl⟩)
/-- what holds of a state that records make -/
structure Gd (s : Fs) : Prop where
  lf : s.lf < 2 ^ 64
  okL : ∀ x ∈ s.ls, enOk x ∧ x.wf
  okP : ∀ x ∈ s.ps, enOk x ∧ x.wf
  okA : ∀ i ∈ s.ab, (0 ≤ i.br ∧ i.br < 16) ∧ i.wf
  nd1 : (eids s.ls).Nodup
  nd2 : (eids s.ps).Nodup
  nd3 : s.ab.Nodup
  d12 : ∀ i, i ∈ eids s.ls → i ∈ eids s.ps → False
  d13 : ∀ i, i ∈ eids s.ls → i ∈ s.ab → False
  d23 : ∀ i, i ∈ eids s.ps → i ∈ s.ab → False
theorem Gd.zero : Gd Fs0 := ⟨by decide, by simp [Fs0], by simp [Fs0], by simp [Fs0], by simp [Fs0, eids], by simp [Fs0, eids], by simp [Fs0], by simp [Fs0, eids], by simp [Fs0, eids], by simp [Fs0, eids]⟩
theorem nodup_snoc {α : Type} {l : List α} {x : α} (h : l.Nodup) (hx : x ∉ l) : (l ++ [x]).Nodup := by
  rw [List.nodup_append]
  refine ⟨h, by simp, ?_⟩
  intro a ha b hb
  simp at hb
  subst hb
  rintro rfl
  exact hx ha
theorem eids_snoc (l : List En) (x : En) : eids (l ++ [x]) = eids l ++ [x.id] := by simp [eids]
theorem hasE_not {l : List En} {i : Id} (h : ¬ hasE l i = true) : i ∉ eids l := fun k => h (hasE_ids.2 k)
theorem hasI_not {l : List Id} {i : Id} (h : ¬ hasI l i = true) : i ∉ l := fun k => h (hasI_iff.2 k)
theorem Gd.stp {s : Fs} {x : Rc} (h : Gd s) (hw : x.wf) : Gd (PM.stp s x).1 := by
  obtain ⟨g1, g2, g3, g4, g5, g6, g7, g8, g9, g10⟩ := h
  obtain ⟨w1, w2, w3, w4⟩ := hw
  unfold PM.stp
  split
  · rename_i hP
    have hk := rcP_kind hP
    unfold PM.stK
    split
    · unfold stL
      split
      · exact ⟨g1, g2, g3, g4, g5, g6, g7, g8, g9, g10⟩
      · exact ⟨w2, g2, g3, g4, g5, g6, g7, g8, g9, g10⟩
    split
    · rename_i hk1 hk2
      have hen : enOk x.en := by
        rcases hP with ⟨_, _, h⟩ | ⟨h | h, _⟩ | ⟨h, _⟩
        · exact h
        all_goals omega
      unfold stE
      split
      · exact ⟨g1, g2, g3, g4, g5, g6, g7, g8, g9, g10⟩
      · rename_i hc
        simp only [Bool.or_eq_true, not_or] at hc
        have n1 := hasE_not hc.1.2
        have n2 := hasI_not hc.2
        refine ⟨g1, ?_, fun y hy => g3 y (noId_mem hy), g4, ?_, g6.sublist (noId_sub _ _), g7, ?_, ?_, fun i hi => g10 i (noId_ids.1 hi).1⟩
        · intro y hy
          rcases List.mem_append.1 hy with hy | hy
          · exact g2 y hy
          · simp at hy; subst hy; exact ⟨hen, w3⟩
        · rw [eids_snoc]; exact nodup_snoc g5 n1
        · intro i hi hj
          obtain ⟨j1, j2⟩ := noId_ids.1 hj
          rw [eids_snoc] at hi
          rcases List.mem_append.1 hi with hi | hi
          · exact g8 i hi j1
          · simp at hi; exact j2 hi
        · intro i hi hj
          rw [eids_snoc] at hi
          rcases List.mem_append.1 hi with hi | hi
          · exact g9 i hi hj
          · simp at hi; subst hi; exact n2 hj
    split
    · rename_i hk1 hk2 hk3
      have hen : enOk x.en := by
        rcases hP with ⟨_, _, h⟩ | ⟨h | h, _⟩ | ⟨h, _⟩
        · exact h
        all_goals omega
      unfold stP
      split
      · exact ⟨g1, g2, g3, g4, g5, g6, g7, g8, g9, g10⟩
      · rename_i hc
        simp only [Bool.or_eq_true, not_or] at hc
        have n1 := hasE_not hc.1.1
        have n2 := hasE_not hc.1.2
        have n3 := hasI_not hc.2
        refine ⟨g1, g2, ?_, g4, g5, ?_, g7, ?_, g9, ?_⟩
        · intro y hy
          rcases List.mem_append.1 hy with hy | hy
          · exact g3 y hy
          · simp at hy; subst hy; exact ⟨hen, w3⟩
        · rw [eids_snoc]; exact nodup_snoc g6 n2
        · intro i hi hj
          rw [eids_snoc] at hj
          rcases List.mem_append.1 hj with hj | hj
          · exact g8 i hi hj
          · simp at hj; subst hj; exact n1 hi
        · intro i hi hj
          rw [eids_snoc] at hi
          rcases List.mem_append.1 hi with hi | hi
          · exact g10 i hi hj
          · simp at hi; subst hi; exact n3 hj
    split
    · rename_i hk1 hk2 hk3 hk4
      have hid : 0 ≤ x.id.br ∧ x.id.br < 16 := by
        rcases hP with ⟨⟨h, _⟩ | h, _⟩ | ⟨_, _, h, _⟩ | ⟨h, _⟩
        · omega
        · omega
        · exact h
        · omega
      unfold stA
      split
      · exact ⟨g1, g2, g3, g4, g5, g6, g7, g8, g9, g10⟩
      · rename_i hc
        simp only [Bool.or_eq_true, not_or] at hc
        have n1 := hasE_not hc.1
        have n2 := hasI_not hc.2
        refine ⟨g1, g2, fun y hy => g3 y (noId_mem hy), ?_, g5, g6.sublist (noId_sub _ _), nodup_snoc g7 n2, fun i hi hj => g8 i hi (noId_ids.1 hj).1, ?_, ?_⟩
        · intro y hy
          rcases List.mem_append.1 hy with hy | hy
          · exact g4 y hy
          · simp at hy; subst hy; exact ⟨hid, w4⟩
        · intro i hi hj
          rcases List.mem_append.1 hj with hj | hj
          · exact g9 i hi hj
          · simp at hj; subst hj; exact n1 hi
        · intro i hi hj
          obtain ⟨j1, j2⟩ := noId_ids.1 hi
          rcases List.mem_append.1 hj with hj | hj
          · exact g10 i j1 hj
          · simp at hj; exact j2 hj
    · unfold stF
      split
      · exact ⟨g1, g2, g3, g4, g5, g6, g7, g8, g9, g10⟩
      · exact ⟨g1, g2, fun y hy => g3 y (noId_mem hy), g4, g5, g6.sublist (noId_sub _ _), g7, fun i hi hj => g8 i hi (noId_ids.1 hj).1, g9, fun i hi => g10 i (noId_ids.1 hi).1⟩
  · exact ⟨g1, g2, g3, g4, g5, g6, g7, g8, g9, g10⟩
theorem md_gd : ∀ (l : List Rc) (s : Fs), (∀ x ∈ l, x.wf) → Gd s → Gd (l.foldl md1 s)
  | [], s, _, h => h
  | x :: l, s, hw, h => by
    refine md_gd l _ (fun y hy => hw y (List.mem_cons_of_mem _ hy)) ?_
    unfold md1
    split
    · exact h.stp (hw x List.mem_cons_self)
    · exact h
theorem mdP_gd {l : List Rc} (hw : ∀ x ∈ l, x.wf) : Gd (mdP l) := md_gd _ _ (fun x hx => hw x (List.mem_of_mem_take hx)) Gd.zero
/-- how many records a state wants -/
theorem recL_len (s : Fs) : (recL s).length = (r0 s.lf).length + s.ls.length + s.ps.length + s.ab.length := by
  unfold recL
  simp only [List.length_append, rL_len, List.length_map]
theorem stp_len (s : Fs) (x : Rc) : (recL (PM.stp s x).1).length ≤ (recL s).length + 1 := by
  rw [recL_len, recL_len]
  have hp := noId_len x.en.id s.ps
  have hq := noId_len x.id s.ps
  have h0 := r0_len s.lf
  unfold PM.stp
  split
  · unfold PM.stK stL stE stP stA stF
    repeat' split
    all_goals first | (simp only [List.length_append, List.length_singleton]; omega) | (simp only; omega) | (simp only; have := r0_len x.n; omega)
  · simp only; omega
theorem md_len : ∀ (l : List Rc) (s : Fs), (recL (l.foldl md1 s)).length ≤ (recL s).length + l.length
  | [], s => by simp
  | x :: l, s => by
    have h := md_len l (md1 s x)
    have h2 : (recL (md1 s x)).length ≤ (recL s).length + 1 := by
      unfold md1
      split
      · exact stp_len s x
      · omega
    simp only [List.foldl_cons, List.length_cons]
    omega
theorem mdP_len (l : List Rc) : (recL (mdP l)).length ≤ l.length := by
  have h := md_len (l.take 40) Fs0
  have h2 : (recL Fs0).length = 0 := by rw [recL_len]; simp [Fs0, r0]
  rw [h2, List.length_take] at h
  unfold mdP
  omega
/-- records that go on, one behind the other -/
def Go (l : List Rc) (s t : Fs) : Prop := ∀ rest, allL (l.map rcB ++ rest) s = allL rest t
theorem Go.nil (s : Fs) : Go [] s s := fun _ => rfl
theorem Go.app {l m : List Rc} {s t u : Fs} (h : Go l s t) (k : Go m t u) : Go (l ++ m) s u := fun rest => by
  rw [List.map_append, List.append_assoc, h, k]
theorem Go.one {x : Rc} {s t : Fs} (hw : x.wf) (hP : rcP x) (h : stK s x.kind x.n x.en x.id = (t, 0)) : Go [x] s t := fun rest => by
  have h2 : al1 s (rcB x) = (t, 0) := by
    rw [al1_ok (decRc_enc hw hP)]
    unfold PM.stp
    rw [if_pos hP, h]
  simp only [List.map_cons, List.map_nil, List.cons_append, List.nil_append, allL, h2, if_true]
theorem wfK (k : Int) (h : k = 1 ∨ k = 2 ∨ k = 3 ∨ k = 4) : (Lit.int .i64 k).wf = true := by
  rcases h with rfl | rfl | rfl | rfl <;> decide
theorem En9_wf : En9.wf := ⟨by decide, by unfold Id.wf; decide, by decide, by decide, by simp [En9], by simp [En9]⟩
theorem En9_nil : enNil En9 := ⟨rfl, rfl, rfl, rfl, rfl, rfl⟩
theorem r0_ok {n : Nat} (hn : n < 2 ^ 64) : ∀ x ∈ r0 n, x.wf ∧ rcP x := by
  unfold r0
  split
  · simp
  · intro x hx
    simp at hx
    subst hx
    exact ⟨⟨wfK 1 (.inl rfl), hn, En9_wf, Id0_wf⟩, .inr (.inr ⟨rfl, rfl, En9_nil⟩)⟩
theorem rP_ok {x : En} (h : enOk x ∧ x.wf) : (rP x).wf ∧ rcP (rP x) := ⟨⟨wfK 3 (by simp), show (0 : Nat) < 2 ^ 64 from by decide, h.2, Id0_wf⟩, .inl ⟨.inl ⟨rfl, rfl⟩, rfl, h.1⟩⟩
theorem rA_ok {i : Id} (h : (0 ≤ i.br ∧ i.br < 16) ∧ i.wf) : (rA i).wf ∧ rcP (rA i) := ⟨⟨wfK 4 (by simp), show (0 : Nat) < 2 ^ 64 from by decide, En9_wf, h.2⟩, .inr (.inl ⟨.inl rfl, rfl, h.1, En9_nil⟩)⟩
theorem rE_ok {n : Nat} {x : En} (h : enOk x ∧ x.wf) (hn : n < 2 ^ 64) : Rc.wf ⟨2, n, x, Id0⟩ ∧ rcP ⟨2, n, x, Id0⟩ := ⟨⟨wfK 2 (by simp), hn, h.2, Id0_wf⟩, .inl ⟨.inr rfl, rfl, h.1⟩⟩
theorem rL_ok : ∀ (l : List En) (n : Nat), (∀ x ∈ l, enOk x ∧ x.wf) → n + l.length < 2 ^ 64 → ∀ x ∈ rL n l, x.wf ∧ rcP x
  | [], _, _, _ => by simp [rL]
  | y :: l, n, h, hn => by
    intro x hx
    simp only [List.length_cons] at hn
    rcases List.mem_cons.1 hx with rfl | hx
    · exact rE_ok (h y List.mem_cons_self) (by omega)
    · exact rL_ok l (n + 1) (fun z hz => h z (List.mem_cons_of_mem _ hz)) (by omega) x hx
theorem recL_ok {s : Fs} (h : Gd s) (hn : s.ls.length ≤ 1000) : ∀ x ∈ recL s, x.wf ∧ rcP x := by
  intro x hx
  unfold recL at hx
  rcases List.mem_append.1 hx with hx | hx
  · rcases List.mem_append.1 hx with hx | hx
    · rcases List.mem_append.1 hx with hx | hx
      · exact r0_ok h.lf x hx
      · exact rL_ok s.ls 0 h.okL (by omega) x hx
    · obtain ⟨y, hy, rfl⟩ := List.mem_map.1 hx
      exact rP_ok (h.okP y hy)
  · obtain ⟨y, hy, rfl⟩ := List.mem_map.1 hx
    exact rA_ok (h.okA y hy)
theorem Go.r0 {n : Nat} (hn : n < 2 ^ 64) : Go (PM.r0 n) Fs0 ⟨n, [], [], []⟩ := by
  have hok := r0_ok hn
  unfold PM.r0 at *
  split
  · rename_i h
    subst h
    exact Go.nil _
  · rename_i h
    rw [if_neg h] at hok
    obtain ⟨h1, h2⟩ := hok _ List.mem_cons_self
    refine Go.one h1 h2 ?_
    unfold PM.stK stL Fs0
    rw [if_pos rfl, if_neg (by simp; omega)]
theorem no_true {b : Bool} (h : b = false) : ¬ b = true := by simp [h]
theorem hasE_f {l : List En} {i : Id} (h : i ∉ eids l) : hasE l i = false := by
  cases hb : hasE l i
  · rfl
  · exact (h (hasE_ids.1 hb)).elim
theorem hasI_f {l : List Id} {i : Id} (h : i ∉ l) : hasI l i = false := by
  cases hb : hasI l i
  · rfl
  · exact (h (hasI_iff.1 hb)).elim
theorem Go.rL {lf : Nat} : ∀ (l L : List En), (∀ x ∈ l, enOk x ∧ x.wf) → L.length + l.length < 2 ^ 64 → (eids (L ++ l)).Nodup → Go (PM.rL L.length l) ⟨lf, L, [], []⟩ ⟨lf, L ++ l, [], []⟩
  | [], L, _, _, _ => by rw [List.append_nil]; exact Go.nil _
  | y :: l, L, h, hn, hd => by
    simp only [List.length_cons] at hn
    obtain ⟨h1, h2⟩ := rE_ok (n := L.length) (h y List.mem_cons_self) (by omega)
    have hny : y.id ∉ eids L := by
      unfold eids at hd ⊢
      rw [List.map_append, List.nodup_append] at hd
      exact fun hm => hd.2.2 _ hm y.id (by simp) rfl
    have g1 : Go [⟨2, L.length, y, Id0⟩] ⟨lf, L, [], []⟩ ⟨lf, L ++ [y], [], []⟩ := by
      refine Go.one h1 h2 ?_
      unfold PM.stK stE
      rw [if_neg (show ¬ (2 : Int) = 1 from by decide), if_pos rfl, if_neg (no_true (by simp only [hasE_f hny]; simp [hasI]))]
      rfl
    have g2 := Go.rL (lf := lf) l (L ++ [y]) (fun z hz => h z (List.mem_cons_of_mem _ hz)) (by simp only [List.length_append, List.length_singleton]; omega) (by rw [List.append_assoc]; exact hd)
    rw [List.length_append, List.length_singleton, List.append_assoc] at g2
    have := Go.app g1 g2
    simpa [PM.rL] using this
theorem Go.rP {lf : Nat} {L : List En} : ∀ (l P : List En), (∀ x ∈ l, enOk x ∧ x.wf) → (eids (P ++ l)).Nodup → (∀ i ∈ eids l, i ∉ eids L) → Go (l.map PM.rP) ⟨lf, L, P, []⟩ ⟨lf, L, P ++ l, []⟩
  | [], P, _, _, _ => by rw [List.append_nil]; exact Go.nil _
  | y :: l, P, h, hd, hL => by
    obtain ⟨h1, h2⟩ := rP_ok (h y List.mem_cons_self)
    have hny : y.id ∉ eids P := by
      unfold eids at hd ⊢
      rw [List.map_append, List.nodup_append] at hd
      exact fun hm => hd.2.2 _ hm y.id (by simp) rfl
    have hnl : y.id ∉ eids L := hL y.id (by simp [eids])
    have g1 : Go [PM.rP y] ⟨lf, L, P, []⟩ ⟨lf, L, P ++ [y], []⟩ := by
      refine Go.one h1 h2 ?_
      unfold PM.stK stP PM.rP
      rw [if_neg (show ¬ (3 : Int) = 1 from by decide), if_neg (show ¬ (3 : Int) = 2 from by decide), if_pos rfl, if_neg (no_true (by simp only [hasE_f hny, hasE_f hnl]; simp [hasI]))]
    have g2 := Go.rP (lf := lf) l (P ++ [y]) (fun z hz => h z (List.mem_cons_of_mem _ hz)) (by rw [List.append_assoc]; exact hd) (fun i hi => hL i (by simp only [eids, List.map_cons]; exact List.mem_cons_of_mem _ hi))
    rw [List.append_assoc] at g2
    exact Go.app g1 g2
theorem Go.rA {lf : Nat} {L P : List En} : ∀ (l A : List Id), (∀ i ∈ l, (0 ≤ i.br ∧ i.br < 16) ∧ i.wf) → (A ++ l).Nodup → (∀ i ∈ l, i ∉ eids L ∧ i ∉ eids P) → Go (l.map PM.rA) ⟨lf, L, P, A⟩ ⟨lf, L, P, A ++ l⟩
  | [], A, _, _, _ => by rw [List.append_nil]; exact Go.nil _
  | y :: l, A, h, hd, hL => by
    obtain ⟨h1, h2⟩ := rA_ok (h y List.mem_cons_self)
    have hny : y ∉ A := by
      rw [List.nodup_append] at hd
      exact fun hm => hd.2.2 _ hm y (by simp) rfl
    obtain ⟨hnl, hnp⟩ := hL y List.mem_cons_self
    have g1 : Go [PM.rA y] ⟨lf, L, P, A⟩ ⟨lf, L, P, A ++ [y]⟩ := by
      refine Go.one h1 h2 ?_
      unfold PM.stK stA PM.rA
      rw [if_neg (show ¬ (4 : Int) = 1 from by decide), if_neg (show ¬ (4 : Int) = 2 from by decide), if_neg (show ¬ (4 : Int) = 3 from by decide), if_pos rfl, if_neg (no_true (by simp only [hasE_f hnl, hasI_f hny]; rfl))]
      simp only [noId_eq hnp]
    have g2 := Go.rA (lf := lf) l (A ++ [y]) (fun z hz => h z (List.mem_cons_of_mem _ hz)) (by rw [List.append_assoc]; exact hd) (fun i hi => hL i (List.mem_cons_of_mem _ hi))
    rw [List.append_assoc] at g2
    exact Go.app g1 g2
/-- the fewest records of a state make it again -/
theorem back_all {s : Fs} (h : Gd s) (hn : s.ls.length ≤ 1000) : allP ((recL s).map rcB) = (s, 0) := by
  have h1 := Go.r0 h.lf
  have h2 := Go.rL (lf := s.lf) s.ls [] h.okL (by simp; omega) (by simpa using h.nd1)
  have h3 := Go.rP (lf := s.lf) (L := s.ls) s.ps [] h.okP (by simpa using h.nd2) (fun i hi hj => h.d12 i hj hi)
  have h4 := Go.rA (lf := s.lf) (L := s.ls) (P := s.ps) s.ab [] h.okA (by simpa using h.nd3) (fun i hi => ⟨fun hj => h.d13 i hj hi, fun hj => h.d23 i hj hi⟩)
  simp only [List.nil_append, List.length_nil] at h2 h3 h4
  have hg : Go (recL s) Fs0 s := ((h1.app h2).app h3).app h4
  have := hg []
  rw [List.append_nil] at this
  unfold allP
  rw [this]
  rfl
theorem rcB_le {x : Rc} (hw : x.wf) (hP : rcP x) : (rcB x).length ≤ 50000 := by
  have hn : ∀ n, n < 2 ^ 64 → (numB n).length ≤ 9 := fun n h => by rw [numB_length]; have := wid_le n h; omega
  unfold rcB
  simp only [List.length_append]
  have h1 := hn (u64 x.kind) (u64_lt _)
  have h2 := hn x.n hw.2.1
  split
  · rename_i hk
    have hen : enOk x.en := by
      rcases hP with ⟨_, _, h⟩ | ⟨h | h, _⟩ | ⟨h, _⟩
      · exact h
      all_goals omega
    have h3 := enB_le hen hw.2.2.1
    rw [bytesB, List.length_append]
    have := hn (enB x.en).length (by omega)
    omega
  split
  · have : (idB x.id).length ≤ 27 := by
      unfold idB
      simp only [List.length_append]
      have a := hn (u64 x.id.br) (u64_lt _)
      have b := hn x.id.life hw.2.2.2.2.1
      have c := hn x.id.ser hw.2.2.2.2.2
      omega
    omega
  · simp; omega
theorem Gd.wfL {s : Fs} (h : Gd s) : ∀ x ∈ s.ls, x.wf := fun x hx => (h.okL x hx).2
theorem Gd.wfP {s : Fs} (h : Gd s) : ∀ x ∈ s.ps, x.wf := fun x hx => (h.okP x hx).2
end PM
end Go.Proofs.Ytphdadlpfjfeoaa
