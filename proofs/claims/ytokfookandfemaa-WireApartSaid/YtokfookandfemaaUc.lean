/-
  BYTES TO MESSAGES, plain: what a reader makes of bytes; a message's bytes are decoded as it, whatever stands behind is left; bytes that are a message are its.
-/
import Derived.Test.YtokfookandfemaaUb
namespace Go.Proofs.Ytokfookandfemaa
open Go.RowKit
set_option linter.unusedVariables false
set_option linter.unusedSimpArgs false
namespace PM
/-- a reader's state: bytes that are left; wrong; bad -/
structure Rs where
  l : List UInt8
  wr : Bool
  bad : Bool
theorem Rs_eta {s : Rs} (h1 : s.wr = false) (h2 : s.bad = false) : s = ⟨s.l, false, false⟩ := by
  obtain ⟨l, w, b⟩ := s
  simp only at h1 h2
  subst h1 h2
  rfl
def En00 : En := ⟨0, ⟨0, 0, 0⟩, 0, 0, [], []⟩
def rdId (s : Rs) : Id × Rs := ((readI s.l s.wr).1, ⟨(readI s.l s.wr).2.1, (readI s.l s.wr).2.2, s.bad⟩)
def rdVo (s : Rs) : Vo × Rs :=
  (⟨(rdId s).1, decide ((stepN (rdId s).2.l (rdId s).2.wr).1 = 1)⟩, ⟨(stepN (rdId s).2.l (rdId s).2.wr).2.1, (stepN (rdId s).2.l (rdId s).2.wr).2.2, s.bad || decide (1 < (stepN (rdId s).2.l (rdId s).2.wr).1)⟩)
def enOr (o : Option En) : En := match o with | some x => x | none => En00
noncomputable def rdEn (long : Nat) (s : Rs) : En × Rs :=
  (enOr (decEn (stepB s.l s.wr long).1), ⟨(stepB s.l s.wr long).2.1, (stepB s.l s.wr long).2.2, s.bad || (decEn (stepB s.l s.wr long).1).isNone⟩)
def rdN {α : Type} (f : Rs → α × Rs) : Nat → Rs → List α × Rs
  | 0, s => ([], s)
  | k + 1, s => ((rdN f k s).1 ++ [(f (rdN f k s).2).1], (f (rdN f k s).2).2)
def rdL {α : Type} (f : Rs → α × Rs) (s : Rs) : List α × Rs :=
  if 16 < (stepN s.l s.wr).1 then ([], ⟨(stepN s.l s.wr).2.1, (stepN s.l s.wr).2.2, true⟩) else rdN f (stepN s.l s.wr).1 ⟨(stepN s.l s.wr).2.1, (stepN s.l s.wr).2.2, s.bad⟩
/-- what is left never grows -/
def Sh {α : Type} (f : Rs → α × Rs) : Prop := ∀ s, (f s).2.l.length ≤ s.l.length
/-- once wrong, or bad, ever so -/
def Mo {α : Type} (f : Rs → α × Rs) : Prop := ∀ s, (f s).2.wr = false → (f s).2.bad = false → s.wr = false ∧ s.bad = false
theorem rdId_sh : Sh rdId := fun s => readI_le _ _
theorem stepN_sh (l : List UInt8) (wr : Bool) : (stepN l wr).2.1.length ≤ l.length := (stepN_lt l wr).2
theorem rdVo_sh : Sh rdVo := fun s => Nat.le_trans (stepN_sh _ _) (rdId_sh s)
theorem rdEn_sh (n : Nat) : Sh (rdEn n) := fun s => (stepB_lt _ _ _).2
theorem rdN_sh {α : Type} {f : Rs → α × Rs} (h : Sh f) : ∀ k, Sh (rdN f k)
  | 0, s => Nat.le_refl _
  | k + 1, s => Nat.le_trans (h _) (rdN_sh h k s)
theorem rdL_sh {α : Type} {f : Rs → α × Rs} (h : Sh f) : Sh (rdL f) := fun s => by
  unfold rdL
  split
  · exact stepN_sh _ _
  · exact Nat.le_trans (rdN_sh h _ _) (stepN_sh _ _)
theorem rdN_len {α : Type} {f : Rs → α × Rs} : ∀ k s, (rdN f k s).1.length = k
  | 0, s => rfl
  | k + 1, s => by simp [rdN, rdN_len k s]
theorem rdL_len {α : Type} {f : Rs → α × Rs} (s : Rs) : (rdL f s).1.length ≤ 16 := by
  unfold rdL
  split
  · simp
  · rw [rdN_len]; omega
theorem readI_wr {l : List UInt8} {wr : Bool} (h : (readI l wr).2.2 = false) : wr = false := by
  obtain ⟨a, l1, w1, s1⟩ : ∃ a b c, stepN l wr = (a, b, c) := ⟨_, _, _, rfl⟩
  obtain ⟨b, l2, w2, s2⟩ : ∃ a b c, stepN l1 w1 = (a, b, c) := ⟨_, _, _, rfl⟩
  obtain ⟨c, l3, w3, s3⟩ : ∃ a b c, stepN l2 w2 = (a, b, c) := ⟨_, _, _, rfl⟩
  rw [readI_eq s1 s2 s3] at h
  simp only at h
  subst h
  have e2 := stepN_false (l := l2) (wr := w2) (by rw [s3])
  subst e2
  have e1 := stepN_false (l := l1) (wr := w1) (by rw [s2])
  subst e1
  exact stepN_false (l := l) (wr := wr) (by rw [s1])
theorem rdId_mo : Mo rdId := fun s h1 h2 => ⟨readI_wr h1, h2⟩
theorem rdVo_mo : Mo rdVo := fun s h1 h2 => by
  have h3 := stepN_false h1
  have h4 : (s.bad || decide (1 < (stepN (rdId s).2.l (rdId s).2.wr).1)) = false := h2
  rw [Bool.or_eq_false_iff] at h4
  exact rdId_mo s h3 h4.1
theorem rdEn_mo (n : Nat) : Mo (rdEn n) := fun s h1 h2 => by
  have h4 : (s.bad || (decEn (stepB s.l s.wr n).1).isNone) = false := h2
  rw [Bool.or_eq_false_iff] at h4
  exact ⟨stepB_false h1, h4.1⟩
theorem rdN_mo {α : Type} {f : Rs → α × Rs} (h : Mo f) : ∀ k, Mo (rdN f k)
  | 0, s, h1, h2 => ⟨h1, h2⟩
  | k + 1, s, h1, h2 => by
    obtain ⟨h3, h4⟩ := h _ h1 h2
    exact rdN_mo h k s h3 h4
theorem rdL_mo {α : Type} {f : Rs → α × Rs} (h : Mo f) : Mo (rdL f) := fun s h1 h2 => by
  unfold rdL at h1 h2
  split at h1
  · rename_i hb
    rw [if_pos hb] at h2
    cases h2
  · rename_i hb
    rw [if_neg hb] at h2
    obtain ⟨h3, h4⟩ := rdN_mo h _ _ h1 h2
    exact ⟨stepN_false h3, h4⟩
/-- a member's bytes are read as it -/
def Rt {α : Type} (f : Rs → α × Rs) (b : α → List UInt8) (x : α) : Prop := ∀ r, f ⟨b x ++ r, false, false⟩ = (x, ⟨r, false, false⟩)
theorem rdId_rt {x : Id} (hx : x.wf) (h : 0 ≤ x.br ∧ x.br < 16) : Rt rdId idB x := fun r => by
  unfold rdId
  simp only
  rw [readI_enc hx h.1 (by omega) r]
theorem rdVo_rt {x : Vo} (hx : x.id.wf) (h : 0 ≤ x.id.br ∧ x.id.br < 16) : Rt rdVo voB x := fun r => by
  have h1 := rdId_rt hx h (numB (if x.yes then 1 else 0) ++ r)
  unfold rdVo voB
  rw [List.append_assoc, h1]
  simp only
  rw [stepN_num _ (by split <;> omega)]
  obtain ⟨i, y⟩ := x
  cases y <;> rfl
theorem rdEn_rt {n : Nat} {x : En} (hx : x.wf) (hok : enOk x) (hn : (enB x).length ≤ n) : Rt (rdEn n) enBB x := fun r => by
  have h1 := enB_le hok hx
  unfold rdEn enBB
  simp only
  rw [stepB_bytes (enB x) r n (by omega) (by omega)]
  simp only
  rw [decEn_enc hx hok]
  rfl
theorem rdN_rt {α : Type} {f : Rs → α × Rs} {b : α → List UInt8} {l : List α} (h : ∀ x ∈ l, Rt f b x) (r : List UInt8) : ∀ k, k ≤ l.length → rdN f k ⟨(l.map b).flatten ++ r, false, false⟩ = (l.take k, ⟨((l.drop k).map b).flatten ++ r, false, false⟩)
  | 0, _ => by simp [rdN]
  | k + 1, hk => by
    have ih := rdN_rt h r k (by omega)
    have hx : l[k]? = some (l[k]'(by omega)) := List.getElem?_eq_getElem _
    have hd : l.drop k = l[k]'(by omega) :: l.drop (k + 1) := List.drop_eq_getElem_cons _
    have h1 := h _ (List.mem_of_getElem? hx) (((l.drop (k + 1)).map b).flatten ++ r)
    unfold rdN
    rw [ih, hd]
    simp only [List.map_cons, List.flatten_cons, List.append_assoc]
    rw [h1]
    simp only
    rw [take_at hx]
theorem rdL_rt {α : Type} {f : Rs → α × Rs} {b : α → List UInt8} {l : List α} (h : ∀ x ∈ l, Rt f b x) (hl : l.length ≤ 16) (r : List UInt8) : rdL f ⟨lstB b l ++ r, false, false⟩ = (l, ⟨r, false, false⟩) := by
  unfold rdL lstB
  simp only
  rw [List.append_assoc, stepN_num _ (by omega)]
  simp only
  rw [if_neg (by omega), rdN_rt h r l.length (Nat.le_refl _)]
  simp
/-- bytes that are read as a member are its -/
def Bk {α : Type} (f : Rs → α × Rs) (b : α → List UInt8) (p : α → Prop) (q : α → Prop) : Prop := ∀ l, (f ⟨l, false, false⟩).2.wr = false → (f ⟨l, false, false⟩).2.bad = false → p (f ⟨l, false, false⟩).1 → q (f ⟨l, false, false⟩).1 ∧ l = b (f ⟨l, false, false⟩).1 ++ (f ⟨l, false, false⟩).2.l
theorem rdId_bk : Bk rdId idB (fun i => 0 ≤ i.br) Id.wf := fun l h1 _ h3 => ⟨readI_wf _ _, (readI_back h1 h3).2⟩
theorem rdVo_bk : Bk rdVo voB (fun v => 0 ≤ v.id.br) (fun v => v.id.wf) := fun l h1 h2 h3 => by
  have hw : (rdId ⟨l, false, false⟩).2.wr = false := stepN_false h1
  have hi := rdId_bk l hw rfl h3
  have hn := h1
  unfold rdVo at hn h2
  simp only at hn h2
  rw [hw] at hn h2
  have hb := stepN_back hn
  have h4 : decide (1 < (stepN (rdId ⟨l, false, false⟩).2.l false).1) = false := by simpa using h2
  refine ⟨hi.1, ?_⟩
  have he : (rdVo ⟨l, false, false⟩).2.l = (stepN (rdId ⟨l, false, false⟩).2.l false).2.1 := by unfold rdVo; simp only; rw [hw]
  have hv : voB (rdVo ⟨l, false, false⟩).1 = idB (rdId ⟨l, false, false⟩).1 ++ numB (stepN (rdId ⟨l, false, false⟩).2.l false).1 := by
    unfold voB rdVo
    simp only
    rw [hw]
    have h5 : ¬ 1 < (stepN (rdId ⟨l, false, false⟩).2.l false).1 := by simpa using h4
    by_cases h6 : (stepN (rdId ⟨l, false, false⟩).2.l false).1 = 1
    · rw [h6]; rfl
    · have h7 : (stepN (rdId ⟨l, false, false⟩).2.l false).1 = 0 := by omega
      rw [h7]; rfl
  rw [he, hv, List.append_assoc, ← hb]
  exact hi.2
theorem rdEn_bk (n : Nat) : Bk (rdEn n) enBB (fun _ => True) (fun x => enOk x ∧ x.wf) := fun l h1 h2 _ => by
  have h4 : ((false : Bool) || (decEn (stepB l false n).1).isNone) = false := h2
  cases hd : decEn (stepB l false n).1 with
  | none => rw [hd] at h4; cases h4
  | some x =>
    obtain ⟨g1, g2, g3⟩ := decEn_back hd
    have hx : (rdEn n ⟨l, false, false⟩).1 = x := by unfold rdEn; simp only; rw [hd]; rfl
    rw [hx]
    refine ⟨⟨g2, g3⟩, ?_⟩
    have hb := stepB_back (l := l) (most := n) h1
    unfold enBB
    rw [g1]
    exact hb
theorem rdN_bk {α : Type} {f : Rs → α × Rs} {b : α → List UInt8} {p q : α → Prop} (hm : Mo f) (h : Bk f b p q) : ∀ k, Bk (rdN f k) (fun l => (l.map b).flatten) (fun l => ∀ x ∈ l, p x) (fun l => ∀ x ∈ l, q x)
  | 0, l, _, _, _ => ⟨fun x hx => by simp [rdN] at hx, by simp [rdN]⟩
  | k + 1, l, h1, h2, h3 => by
    obtain ⟨g1, g2⟩ := hm _ h1 h2
    have h3' : ∀ x ∈ (rdN f k ⟨l, false, false⟩).1 ++ [(f (rdN f k ⟨l, false, false⟩).2).1], p x := h3
    have ih := rdN_bk hm h k l g1 g2 fun x hx => h3' x (by simp [hx])
    have he := Rs_eta g1 g2
    have h1' := h1
    have h2' := h2
    unfold rdN at h1' h2'
    simp only at h1' h2'
    rw [he] at h1' h2'
    have hl := h _ h1' h2' (by rw [← he]; exact h3' _ (by simp))
    rw [← he] at hl
    refine ⟨fun x hx => ?_, ?_⟩
    · have hx' : x ∈ (rdN f k ⟨l, false, false⟩).1 ++ [(f (rdN f k ⟨l, false, false⟩).2).1] := hx
      rw [List.mem_append, List.mem_singleton] at hx'
      rcases hx' with hx' | rfl
      · exact ih.1 x hx'
      · exact hl.1
    · unfold rdN
      simp only [List.map_append, List.flatten_append, List.map_cons, List.map_nil, List.flatten_cons, List.flatten_nil, List.append_nil, List.append_assoc]
      rw [← hl.2]
      exact ih.2
theorem rdL_bk {α : Type} {f : Rs → α × Rs} {b : α → List UInt8} {p q : α → Prop} (hm : Mo f) (h : Bk f b p q) : Bk (rdL f) (lstB b) (fun l => ∀ x ∈ l, p x) (fun l => ∀ x ∈ l, q x) := fun l h1 h2 h3 => by
  by_cases hb : 16 < (stepN l false).1
  · unfold rdL at h2
    simp only at h2
    rw [if_pos hb] at h2
    cases h2
  · have he : rdL f ⟨l, false, false⟩ = rdN f (stepN l false).1 ⟨(stepN l false).2.1, (stepN l false).2.2, false⟩ := by
      unfold rdL
      simp only
      rw [if_neg hb]
    rw [he] at h1 h2 h3 ⊢
    have hw := (rdN_mo hm _ _ h1 h2).1
    simp only at hw
    rw [hw] at h1 h2 h3 ⊢
    have hs := stepN_back hw
    obtain ⟨g1, g2⟩ := rdN_bk hm h _ _ h1 h2 h3
    refine ⟨g1, ?_⟩
    unfold lstB
    rw [rdN_len, List.append_assoc, ← g2]
    exact hs
/-- the message that bytes may be, and what is left -/
noncomputable def rdM (l : List UInt8) : Ms × Rs :=
  let k := stepN l false
  let h := stepN k.2.1 k.2.2
  let s : Rs := ⟨h.2.1, h.2.2, false⟩
  if sm k.1 = 1 then
    let a := rdL rdVo s
    let b := rdL (rdEn l.length) a.2
    (⟨sm k.1, h.1, a.1, b.1, [], [], [], []⟩, b.2)
  else if sm k.1 = 2 then
    let a := rdL (rdEn l.length) s
    let b := rdL (rdEn l.length) a.2
    let c := rdL rdId b.2
    let d := rdL rdId c.2
    (⟨sm k.1, h.1, [], [], a.1, b.1, c.1, d.1⟩, d.2)
  else (⟨sm k.1, h.1, [], [], [], [], [], []⟩, s)
open Classical in
noncomputable def finM (m : Ms) (s : Rs) : Option Ms := if s.bad = false ∧ (s.wr = false ∧ s.l = []) ∧ msOkB m = true then some m else none
noncomputable def decM (l : List UInt8) : Option Ms := finM (rdM l).1 (rdM l).2
theorem finM_some {m y : Ms} {s : Rs} (h : finM m s = some y) : s.bad = false ∧ (s.wr = false ∧ s.l = []) ∧ msOkB m = true ∧ y = m := by
  unfold finM at h
  split at h
  · rename_i hh
    injection h with h
    exact ⟨hh.1, hh.2.1, hh.2.2, h.symm⟩
  · cases h
theorem rdM_1 {l : List UInt8} (h : sm (stepN l false).1 = 1) : rdM l = (⟨1, (stepN (stepN l false).2.1 (stepN l false).2.2).1, (rdL rdVo ⟨(stepN (stepN l false).2.1 (stepN l false).2.2).2.1, (stepN (stepN l false).2.1 (stepN l false).2.2).2.2, false⟩).1,
    (rdL (rdEn l.length) (rdL rdVo ⟨(stepN (stepN l false).2.1 (stepN l false).2.2).2.1, (stepN (stepN l false).2.1 (stepN l false).2.2).2.2, false⟩).2).1, [], [], [], []⟩, (rdL (rdEn l.length) (rdL rdVo ⟨(stepN (stepN l false).2.1 (stepN l false).2.2).2.1, (stepN (stepN l false).2.1 (stepN l false).2.2).2.2, false⟩).2).2) := by
  unfold rdM
  simp only
  rw [if_pos h, h]
/-- the four lists of a command -/
noncomputable def rdC (n : Nat) (s : Rs) : (List En × List En × List Id × List Id) × Rs :=
  (((rdL (rdEn n) s).1, (rdL (rdEn n) (rdL (rdEn n) s).2).1, (rdL rdId (rdL (rdEn n) (rdL (rdEn n) s).2).2).1, (rdL rdId (rdL rdId (rdL (rdEn n) (rdL (rdEn n) s).2).2).2).1), (rdL rdId (rdL rdId (rdL (rdEn n) (rdL (rdEn n) s).2).2).2).2)
theorem rdM_2 {l : List UInt8} (h : sm (stepN l false).1 = 2) : rdM l = (⟨2, (stepN (stepN l false).2.1 (stepN l false).2.2).1, [], [], (rdC l.length ⟨(stepN (stepN l false).2.1 (stepN l false).2.2).2.1, (stepN (stepN l false).2.1 (stepN l false).2.2).2.2, false⟩).1.1,
    (rdC l.length ⟨(stepN (stepN l false).2.1 (stepN l false).2.2).2.1, (stepN (stepN l false).2.1 (stepN l false).2.2).2.2, false⟩).1.2.1, (rdC l.length ⟨(stepN (stepN l false).2.1 (stepN l false).2.2).2.1, (stepN (stepN l false).2.1 (stepN l false).2.2).2.2, false⟩).1.2.2.1, (rdC l.length ⟨(stepN (stepN l false).2.1 (stepN l false).2.2).2.1, (stepN (stepN l false).2.1 (stepN l false).2.2).2.2, false⟩).1.2.2.2⟩,
    (rdC l.length ⟨(stepN (stepN l false).2.1 (stepN l false).2.2).2.1, (stepN (stepN l false).2.1 (stepN l false).2.2).2.2, false⟩).2) := by
  unfold rdM rdC
  simp only
  rw [if_neg (by rw [h]; decide), if_pos h, h]
theorem rdM_0 {l : List UInt8} (h1 : sm (stepN l false).1 ≠ 1) (h2 : sm (stepN l false).1 ≠ 2) : rdM l = (⟨sm (stepN l false).1, (stepN (stepN l false).2.1 (stepN l false).2.2).1, [], [], [], [], [], []⟩, ⟨(stepN (stepN l false).2.1 (stepN l false).2.2).2.1, (stepN (stepN l false).2.1 (stepN l false).2.2).2.2, false⟩) := by
  unfold rdM
  simp only
  rw [if_neg h1, if_neg h2]
theorem flat_mem_le {α : Type} {b : α → List UInt8} {l : List α} {x : α} (h : x ∈ l) : (b x).length ≤ (lstB b l).length := by
  unfold lstB
  rw [List.length_append]
  have : (b x).length ≤ (l.map b).flatten.length := by
    induction l with
    | nil => cases h
    | cons y l ih =>
      simp only [List.map_cons, List.flatten_cons, List.length_append]
      rcases List.mem_cons.1 h with rfl | h
      · omega
      · have := ih h
        omega
  omega
theorem enBB_len (x : En) : (enB x).length ≤ (enBB x).length := by
  unfold enBB bytesB
  rw [List.length_append]
  omega
theorem rdM_rt {m : Ms} (hm : m.wf) (hok : MsOk m) (t : List UInt8) : rdM (msB m ++ t) = (m, ⟨t, false, false⟩) := by
  have h64 : u64 m.kind < 2 ^ 64 := u64_lt _
  obtain ⟨kd, hv, vo, ak, es, ps, ab, en⟩ := m
  obtain ⟨n, hn⟩ : ∃ n, n = (msB ⟨kd, hv, vo, ak, es, ps, ab, en⟩ ++ t).length := ⟨_, rfl⟩
  have hbig : ∀ x, (x ∈ ak ∧ kd = 1) ∨ ((x ∈ es ∨ x ∈ ps) ∧ kd ≠ 1) → (enB x).length ≤ n := fun x hx => by
    have h1 := enBB_len x
    rw [hn]
    unfold msB
    simp only [List.length_append]
    rcases hx with ⟨hx, hk⟩ | ⟨hx | hx, hk⟩
    · have := flat_mem_le (b := enBB) hx
      rw [if_pos hk, List.length_append]
      omega
    · have := flat_mem_le (b := enBB) hx
      rw [if_neg hk, List.length_append]
      omega
    · have := flat_mem_le (b := enBB) hx
      rw [if_neg hk, List.length_append, List.length_append]
      omega
  have hs1 : stepN (msB ⟨kd, hv, vo, ak, es, ps, ab, en⟩ ++ t) false = (u64 kd, numB hv ++ ((if kd = 1 then lstB voB vo ++ lstB enBB ak else lstB enBB es ++ (lstB enBB ps ++ (lstB idB ab ++ lstB idB en))) ++ t), false) := by
    unfold msB
    simp only
    rw [List.append_assoc, List.append_assoc, stepN_num _ h64]
  have hs2 : ∀ r, stepN (numB hv ++ r) false = (hv, r, false) := fun r => stepN_num hv hm.hv r
  have hsm : sm (u64 kd) = kd := by
    rcases hok.kind with ⟨k, _⟩ | ⟨k, _⟩
    · simp only at k; subst k; rfl
    · simp only at k; subst k; rfl
  rcases hok.kind with ⟨k, h1, h2, h3, h4⟩ | ⟨k, h1, h2⟩
  · simp only at k h1 h2 h3 h4
    subst k h1 h2 h3 h4
    rw [rdM_1 (by rw [hs1]; exact hsm), hs1]
    simp only
    rw [hs2]
    simp only [if_true]
    rw [List.append_assoc, rdL_rt (fun x hx => rdVo_rt (hm.vo x hx) (hok.votes.2 x hx)) hok.votes.1]
    simp only
    rw [← hn, rdL_rt (fun x hx => rdEn_rt (hm.ak x hx) (hok.asks.2 x hx) (hbig x (.inl ⟨hx, rfl⟩))) hok.asks.1]
  · simp only at k h1 h2
    subst k h1 h2
    rw [rdM_2 (by rw [hs1]; exact hsm), hs1]
    simp only
    rw [hs2]
    rw [if_neg (by decide)]
    unfold rdC
    simp only
    rw [List.append_assoc, List.append_assoc, List.append_assoc, ← hn]
    rw [rdL_rt (fun x hx => rdEn_rt (hm.en x hx) (hok.entries.2 x hx) (hbig x (.inr ⟨.inl hx, by decide⟩))) hok.entries.1]
    simp only
    rw [rdL_rt (fun x hx => rdEn_rt (hm.pr x hx) (hok.prepares.2 x hx) (hbig x (.inr ⟨.inr hx, by decide⟩))) hok.prepares.1]
    simp only
    rw [rdL_rt (fun x hx => rdId_rt (hm.ab x hx) (hok.aborts.2 x hx)) hok.aborts.1]
    simp only
    rw [rdL_rt (fun x hx => rdId_rt (hm.es x hx) (hok.ends.2 x hx)) hok.ends.1]
theorem decM_enc {m : Ms} (hm : m.wf) (hok : msOkB m = true) : decM (msB m) = some m := by
  have h := rdM_rt hm (msOk_iff.1 hok) []
  rw [List.append_nil] at h
  unfold decM finM
  rw [h]
  exact if_pos ⟨rfl, ⟨rfl, rfl⟩, hok⟩
theorem decM_long {m : Ms} (hm : m.wf) (hok : msOkB m = true) {t : List UInt8} (ht : t ≠ []) : decM (msB m ++ t) = none := by
  have h := rdM_rt hm (msOk_iff.1 hok) t
  unfold decM finM
  rw [h]
  exact if_neg fun hh => ht hh.2.1.2
theorem decM_back {l : List UInt8} {m : Ms} (h : decM l = some m) : msB m = l ∧ msOkB m = true ∧ m.wf := by
  obtain ⟨hb, ⟨hw, hl⟩, hok, rfl⟩ := finM_some h
  have hM := msOk_iff.1 hok
  have hs64 := (stepN_lt l false).1
  have hv64 := (stepN_lt (stepN l false).2.1 (stepN l false).2.2).1
  by_cases k1 : sm (stepN l false).1 = 1
  · rw [rdM_1 k1] at hM hb hw hl hok ⊢
    simp only at hb hw hl hM hok ⊢
    obtain ⟨w3, b3⟩ := rdL_mo (rdEn_mo l.length) _ hw hb
    obtain ⟨w2, b2⟩ := rdL_mo rdVo_mo _ w3 b3
    simp only at w2 b2
    have w1 := stepN_false w2
    have e1 := stepN_back (l := l) w1
    rw [w1] at w2 w3 b3 hM hb hw hl hok ⊢
    have e2 := stepN_back w2
    rw [w2] at w3 b3 hM hb hw hl hok ⊢
    generalize hq : (stepN (stepN l false).2.1 false).2.1 = r2 at *
    obtain ⟨q3, e3⟩ := rdL_bk rdVo_mo rdVo_bk r2 w3 b3 (fun v hv => (hM.votes.2 v hv).1)
    have et := Rs_eta w3 b3
    rw [et] at hM hb hw hl hok ⊢
    obtain ⟨q4, e4⟩ := rdL_bk (rdEn_mo l.length) (rdEn_bk l.length) _ hw hb (fun _ _ => trivial)
    rw [hl, List.append_nil] at e4
    refine ⟨?_, hok, ⟨rfl, (by rw [w1] at hv64; exact hv64), q3, fun x hx => (q4 x hx).2, by simp, by simp, by simp, by simp⟩⟩
    unfold msB
    simp only
    rw [if_pos trivial, ← e4, ← e3, ← e2]
    have hku : u64 1 = (stepN l false).1 := by rw [← sm_back hs64 (by rw [k1]; decide), k1]
    rw [hku]
    exact e1.symm
  · by_cases k2 : sm (stepN l false).1 = 2
    · rw [rdM_2 k2] at hM hb hw hl hok ⊢
      unfold rdC at hM hb hw hl hok ⊢
      simp only at hb hw hl hM hok ⊢
      obtain ⟨w6, b6⟩ := rdL_mo rdId_mo _ hw hb
      obtain ⟨w5, b5⟩ := rdL_mo rdId_mo _ w6 b6
      obtain ⟨w4, b4⟩ := rdL_mo (rdEn_mo l.length) _ w5 b5
      obtain ⟨w2, b2⟩ := rdL_mo (rdEn_mo l.length) _ w4 b4
      simp only at w2 b2
      have w1 := stepN_false w2
      have e1 := stepN_back (l := l) w1
      rw [w1] at w2 w4 b4 w5 b5 w6 b6 hM hb hw hl hok ⊢
      have e2 := stepN_back w2
      rw [w2] at w4 b4 w5 b5 w6 b6 hM hb hw hl hok ⊢
      generalize hq : (stepN (stepN l false).2.1 false).2.1 = r2 at *
      obtain ⟨q3, e3⟩ := rdL_bk (rdEn_mo l.length) (rdEn_bk l.length) r2 w4 b4 (fun _ _ => trivial)
      rw [Rs_eta w4 b4] at w5 b5 w6 b6 hM hb hw hl hok ⊢
      obtain ⟨q4, e4⟩ := rdL_bk (rdEn_mo l.length) (rdEn_bk l.length) _ w5 b5 (fun _ _ => trivial)
      rw [Rs_eta w5 b5] at w6 b6 hM hb hw hl hok ⊢
      obtain ⟨q5, e5⟩ := rdL_bk rdId_mo rdId_bk _ w6 b6 (fun v hv => (hM.aborts.2 v hv).1)
      rw [Rs_eta w6 b6] at hM hb hw hl hok ⊢
      obtain ⟨q6, e6⟩ := rdL_bk rdId_mo rdId_bk _ hw hb (fun v hv => (hM.ends.2 v hv).1)
      rw [hl, List.append_nil] at e6
      refine ⟨?_, hok, ⟨rfl, (by rw [w1] at hv64; exact hv64), by simp, by simp, fun x hx => (q3 x hx).2, fun x hx => (q4 x hx).2, q5, q6⟩⟩
      unfold msB
      simp only
      rw [if_neg (by decide), ← e6, ← e5, ← e4, ← e3, ← e2]
      have hku : u64 2 = (stepN l false).1 := by rw [← sm_back hs64 (by rw [k2]; decide), k2]
      rw [hku]
      exact e1.symm
    · exfalso
      rw [rdM_0 k1 k2] at hM
      rcases hM.kind with ⟨k, _⟩ | ⟨k, _⟩
      · exact k1 k
      · exact k2 k
theorem decM_cut {m : Ms} (hm : m.wf) (hok : msOkB m = true) {c t : List UInt8} (h : msB m = c ++ t) (ht : t ≠ []) : decM c = none := by
  cases hd : decM c with
  | none => rfl
  | some y =>
    obtain ⟨h1, h2, h3⟩ := decM_back hd
    have h4 := decM_long h3 h2 ht
    rw [h1, ← h, decM_enc hm hok] at h4
    cases h4
end PM
end Go.Proofs.Ytokfookandfemaa
