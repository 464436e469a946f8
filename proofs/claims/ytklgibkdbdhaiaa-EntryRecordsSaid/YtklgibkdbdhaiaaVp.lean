/-
  PLAIN FUNCTIONS OF VALUES: which of two comes first, and whether a value may be, on numbers and lists of bytes. No program is imported.
-/
import Derived.WalkKit
namespace Go.Proofs.Ytklgibkdbdhaiaa
namespace PM
open Go.RowKit
theorem bcell {W w1 : World} (hb : Below W.heap.size W w1) : (∀ b o, b < W.heap.size → w1.cell? ⟨b, o, none⟩ = W.cell? ⟨b, o, none⟩) ∧ (∀ b o, b < W.heap.size → w1.frozen? ⟨b, o, none⟩ = W.frozen? ⟨b, o, none⟩) :=
  ⟨fun b o h => hb.cell (p := ⟨b, o, none⟩) h, fun b o h => hb.frozen (p := ⟨b, o, none⟩) h⟩

theorem chain {w W w1 : World} (h : Below w.heap.size w W) (hb : Below W.heap.size W w1) : Below w.heap.size w w1 := h.trans (hb.mono h.size)
/-- a block of cells, whole, at its number -/
def Blk (w : World) (b : Nat) (cs : Array Value) : Prop := ∃ T f, w.heap[b]? = some (.cells cs T f)
theorem Blk.lt {w : World} {b : Nat} {cs : Array Value} (h : Blk w b cs) : b < w.heap.size := by
  obtain ⟨T, f, h⟩ := h
  exact (Array.getElem?_eq_some_iff.1 h).1
theorem Blk.cell {w : World} {b : Nat} {cs : Array Value} (h : Blk w b cs) (i : Nat) : w.cell? ⟨b, i, none⟩ = cs[i]? := by
  obtain ⟨T, f, h⟩ := h
  simp [World.cell?, h]
theorem Blk.keep {W w : World} {b : Nat} {cs : Array Value} (hb : Below W.heap.size W w) (h : Blk W b cs) : Blk w b cs := by
  obtain ⟨T, f, h'⟩ := h
  exact ⟨T, f, (hb.block b (Blk.lt ⟨T, f, h'⟩)).trans h'⟩
theorem Blk.new (w : World) (cs : Array Value) (T : TypeId) (f : Nat × Nat) : Blk (w.alloc (.cells cs T f)) w.heap.size cs :=
  ⟨T, f, by show (w.heap.push _)[w.heap.size]? = _; simp⟩
theorem Blk.alloc {w : World} {b : Nat} {cs : Array Value} (h : Blk w b cs) (o : Obj) : Blk (w.alloc o) b cs :=
  h.keep (Below.alloc (Below.refl _ _) (Nat.le_refl _) o)
theorem Blk.two (w : World) (A B : Array Value) (T U : TypeId) (f g : Nat × Nat) :
    Blk ((w.alloc (.cells A T f)).alloc (.cells B U g)) w.heap.size A ∧ Blk ((w.alloc (.cells A T f)).alloc (.cells B U g)) (w.heap.size + 1) B := by
  refine ⟨(Blk.new w A T f).alloc _, ?_⟩
  have h := Blk.new (w.alloc (.cells A T f)) B U g
  rwa [World.size_alloc] at h
theorem Blk.three (w : World) (A B C : Array Value) (T U V : TypeId) (f g i : Nat × Nat) :
    Blk (((w.alloc (.cells A T f)).alloc (.cells B U g)).alloc (.cells C V i)) w.heap.size A ∧ Blk (((w.alloc (.cells A T f)).alloc (.cells B U g)).alloc (.cells C V i)) (w.heap.size + 1) B ∧ Blk (((w.alloc (.cells A T f)).alloc (.cells B U g)).alloc (.cells C V i)) (w.heap.size + 1 + 1) C := by
  refine ⟨(Blk.two w A B T U f g).1.alloc _, (Blk.two w A B T U f g).2.alloc _, ?_⟩
  have h := Blk.new ((w.alloc (.cells A T f)).alloc (.cells B U g)) C V i
  rwa [World.size_alloc, World.size_alloc] at h
/-- cells of a block that was there, behind one step more -/
theorem held2 {wa W W' : World} {a b : Addr} {x y : Value} (h : W.cell? a = some x ∧ W.cell? b = some y ∧ Below wa.heap.size wa W) (hb : Below W.heap.size W W') :
    W'.cell? a = some x ∧ W'.cell? b = some y ∧ Below wa.heap.size wa W' :=
  ⟨by rw [hb.cell (World.block_lt_of_cell? W _ h.1)]; exact h.1, by rw [hb.cell (World.block_lt_of_cell? W _ h.2.1)]; exact h.2.1, chain h.2.2 hb⟩
/-- which of two numbers comes first -/
def plI (a b : Int) : Int := if a < b then -1 else if b < a then 1 else 0
/-- which of two texts comes first -/
def plS (a b : List UInt8) : Int := if a < b then -1 else if b < a then 1 else 0
/-- which of two values comes first -/
def ord (k n : Int) (s : List UInt8) (k' n' : Int) (s' : List UInt8) : Int :=
  if plI k k' = 0 then (if plI n n' = 0 then plS s s' else plI n n') else plI k k'
/-- whether a value may be -/
def may (k n : Int) (s : List UInt8) : Bool :=
  if k = 1 then decide (s = []) else if k = 2 then decide (n = 0 ∧ s.length ≤ 40) else if k = 3 then decide ((n = 0 ∨ n = 1) ∧ s = []) else false
/-- the number of the error -/
def mayE (k n : Int) (s : List UInt8) : Int := if may k n s then 0 else 10

/-- whether one value comes ahead of another one, place by place -/
def lessV (k n : Int) (s : List UInt8) (k' n' : Int) (s' : List UInt8) : Bool :=
  if k = k' then (if n = n' then decide (s < s') else decide (n < n')) else decide (k < k')
/-- whether a text begins with another one -/
def beg (k : Int) (s : List UInt8) (k' : Int) (s' : List UInt8) : Bool := decide (k = 2) && decide (k' = 2) && s'.isPrefixOf s
theorem ret_int {k : IntKind} {a b : Int} (h : a = b) : Ending.returned (.int k a) = .returned (.int k b) := by rw [h]
theorem ret_bool {a b : Bool} (h : a = b) : Ending.returned (.bool a) = .returned (.bool b) := by rw [h]
theorem bytesLess_eq : ∀ (x y : List UInt8), Op.bytesLess x y = decide (x < y)
  | [], [] => by simp [Op.bytesLess]
  | _ :: _, [] => by simp [Op.bytesLess]
  | [], _ :: _ => by simp [Op.bytesLess]
  | a :: x, b :: y => by
    rw [Op.bytesLess, bytesLess_eq x y]
    simp only [List.cons_lt_cons_iff]
    by_cases h1 : a < b <;> by_cases h2 : a = b <;> by_cases h3 : x < y <;> simp [h1, h2, h3]
theorem plI_bd (a b : Int) : -1 ≤ plI a b ∧ plI a b ≤ 1 := by unfold plI; split <;> (try split) <;> omega
theorem plS_bd (a b : List UInt8) : -1 ≤ plS a b ∧ plS a b ≤ 1 := by unfold plS; split <;> (try split) <;> omega
theorem ord_bd (k n : Int) (s : List UInt8) (k' n' : Int) (s' : List UInt8) : -1 ≤ ord k n s k' n' s' ∧ ord k n s k' n' s' ≤ 1 := by
  unfold ord; have := plI_bd k k'; have := plI_bd n n'; have := plS_bd s s'; split <;> (try split) <;> omega
theorem may_one (n : Int) (s : List UInt8) : may 1 n s = decide (s = []) := by simp [may]
theorem may_two (n : Int) (s : List UInt8) : may 2 n s = decide (n = 0 ∧ s.length ≤ 40) := by simp [may]
theorem may_three (n : Int) (s : List UInt8) : may 3 n s = decide ((n = 0 ∨ n = 1) ∧ s = []) := by simp [may]
theorem may_other (k n : Int) (s : List UInt8) (h1 : ¬ k = 1) (h2 : ¬ k = 2) (h3 : ¬ k = 3) : may k n s = false := by simp [may, *]
theorem isEmpty_iff (s : ByteArray) : s.toList.isEmpty = decide (s.data.toList = []) := by
  rw [ByteArray.toList_eq, Bool.eq_iff_iff]; simp
theorem size_len (s : ByteArray) : s.size = s.data.toList.length := (Array.length_toList (xs := s.data)).symm
theorem take_beq (s p : List UInt8) : (decide (p.length ≤ s.length) && (s.take p.length == p)) = p.isPrefixOf s := by
  rw [Bool.eq_iff_iff]
  simp only [Bool.and_eq_true, decide_eq_true_eq, beq_iff_eq, List.isPrefixOf_iff_prefix]
  constructor
  · rintro ⟨_, h⟩; exact ⟨s.drop p.length, by conv => rhs; rw [← List.take_append_drop p.length s, h]⟩
  · rintro ⟨t, rfl⟩; simp
theorem extract_toList (s : ByteArray) (n : Nat) : (s.extract 0 n).toList = s.data.toList.take n := by
  rw [ByteArray.toList_eq]; simp
theorem beg_two (s s' : ByteArray) (h : s'.size ≤ s.size) : ((s.extract 0 s'.size).toList == s'.toList) = beg 2 s.data.toList 2 s'.data.toList := by
  have e := take_beq s.data.toList s'.data.toList
  rw [extract_toList, ByteArray.toList_eq, PM.size_len s']
  rw [PM.size_len s', PM.size_len s] at h
  simp only [h, decide_true, Bool.true_and] at e
  rw [e]
  simp [beg]
theorem beg_short (k k' : Int) (s s' : ByteArray) (h : ¬ s'.size ≤ s.size) : beg k s.data.toList k' s'.data.toList = false := by
  have e := take_beq s.data.toList s'.data.toList
  rw [PM.size_len s', PM.size_len s] at h
  simp only [h, decide_false, Bool.false_and] at e
  simp [beg, ← e]
theorem beg_not (k k' : Int) (s s' : List UInt8) (h : ¬ (k = 2 ∧ k' = 2)) : beg k s k' s' = false := by
  unfold beg
  by_cases h1 : k = 2 <;> by_cases h2 : k' = 2 <;> simp_all
theorem lt_irr (s : List UInt8) : ¬ s < s := List.lt_irrefl s
theorem lt_tri (a b : List UInt8) (h : ¬ a < b) (h' : ¬ b < a) : a = b := List.le_antisymm h' h
theorem lt_asy (a b : List UInt8) (h : a < b) : ¬ b < a := List.lt_asymm h
theorem ord_less (k n : Int) (s : List UInt8) (k' n' : Int) (s' : List UInt8) :
    ord k n s k' n' s' = if lessV k n s k' n' s' then -1 else if lessV k' n' s' k n s then 1 else 0 := by
  unfold ord lessV plI plS
  by_cases hk : k = k'
  · subst hk
    by_cases hn : n = n'
    · subst hn; simp
    · by_cases h : n < n'
      · simp [h, hn]
      · have h2 : n' < n := by omega
        have h3 : ¬ n' = n := by omega
        simp [h, h2, hn, h3]
  · by_cases h : k < k'
    · simp [h, hk]
    · have h2 : k' < k := by omega
      have h3 : ¬ k' = k := by omega
      simp [h, h2, hk, h3]
theorem ord_anti (k n : Int) (s : List UInt8) (k' n' : Int) (s' : List UInt8) : ord k' n' s' k n s = - ord k n s k' n' s' := by
  have hI : ∀ a b : Int, plI b a = - plI a b := fun a b => by unfold plI; (repeat' split) <;> omega
  have hS : ∀ a b : List UInt8, plS b a = - plS a b := fun a b => by
    unfold plS
    by_cases h : a < b
    · simp [h, lt_asy a b h]
    · by_cases h' : b < a <;> simp [h, h']
  unfold ord
  rw [hI k k', hI n n', hS s s']
  by_cases h : plI k k' = 0
  · by_cases h2 : plI n n' = 0 <;> simp [h, h2]
  · simp [h]
theorem plI_zero (a b : Int) (h : plI a b = 0) : a = b := by unfold plI at h; split at h <;> (try split at h) <;> omega
theorem plS_zero (a b : List UInt8) (h : plS a b = 0) : a = b := by
  unfold plS at h
  by_cases h1 : a < b
  · simp [h1] at h
  · by_cases h2 : b < a
    · simp [h1, h2] at h
    · exact lt_tri a b h1 h2
theorem ord_zero (k n : Int) (s : List UInt8) (k' n' : Int) (s' : List UInt8) (h : ord k n s k' n' s' = 0) : k = k' ∧ n = n' ∧ s = s' := by
  unfold ord at h
  split at h
  · split at h
    · exact ⟨plI_zero _ _ ‹_›, plI_zero _ _ ‹_›, plS_zero _ _ h⟩
    · exact absurd h ‹_›
  · exact absurd h ‹_›
theorem ord_self (k n : Int) (s : List UInt8) : ord k n s k n s = 0 := by
  have := ord_anti k n s k n s
  omega
theorem lessV_iff (k n : Int) (s : List UInt8) (k' n' : Int) (s' : List UInt8) :
    lessV k n s k' n' s' = true ↔ k < k' ∨ (k = k' ∧ (n < n' ∨ (n = n' ∧ s < s'))) := by
  unfold lessV
  by_cases hk : k = k'
  · subst hk
    by_cases hn : n = n'
    · subst hn; simp
    · simp [hn]
  · simp [hk]
theorem ord_neg (k n : Int) (s : List UInt8) (k' n' : Int) (s' : List UInt8) : ord k n s k' n' s' < 0 ↔ lessV k n s k' n' s' = true := by
  rw [ord_less]
  by_cases h : lessV k n s k' n' s' = true
  · simp [h]
  · simp only [h]
    by_cases h2 : lessV k' n' s' k n s = true <;> simp [h2]
theorem lessV_trans (k n : Int) (s : List UInt8) (k' n' : Int) (s' : List UInt8) (k2 n2 : Int) (s2 : List UInt8)
    (h1 : lessV k n s k' n' s' = true) (h2 : lessV k' n' s' k2 n2 s2 = true) : lessV k n s k2 n2 s2 = true := by
  rw [lessV_iff] at *
  rcases h1 with h1 | ⟨rfl, h1 | ⟨rfl, h1⟩⟩
  · rcases h2 with h2 | ⟨rfl, h2 | ⟨rfl, h2⟩⟩
    · exact .inl (by omega)
    · exact .inl (by omega)
    · exact .inl (by omega)
  · rcases h2 with h2 | ⟨rfl, h2 | ⟨rfl, h2⟩⟩
    · exact .inl (by omega)
    · exact .inr ⟨rfl, .inl (by omega)⟩
    · exact .inr ⟨rfl, .inl (by omega)⟩
  · rcases h2 with h2 | ⟨rfl, h2 | ⟨rfl, h2⟩⟩
    · exact .inl (by omega)
    · exact .inr ⟨rfl, .inl (by omega)⟩
    · exact .inr ⟨rfl, .inr ⟨rfl, List.lt_trans h1 h2⟩⟩
theorem ord_trans (k n : Int) (s : List UInt8) (k' n' : Int) (s' : List UInt8) (k2 n2 : Int) (s2 : List UInt8)
    (h1 : ord k n s k' n' s' < 0) (h2 : ord k' n' s' k2 n2 s2 ≤ 0) : ord k n s k2 n2 s2 < 0 := by
  by_cases h : ord k' n' s' k2 n2 s2 = 0
  · obtain ⟨rfl, rfl, rfl⟩ := ord_zero _ _ _ _ _ _ h
    exact h1
  · rw [ord_neg] at *
    exact lessV_trans _ _ _ _ _ _ _ _ _ h1 ((ord_neg _ _ _ _ _ _).1 (by omega))
theorem mayE_text (s : ByteArray) : (mayE 2 0 s.data.toList == 0) = decide ((s.size : Int) ≤ 40) := by
  rw [size_len]
  by_cases h : s.data.toList.length ≤ 40
  · have h' : ((s.data.toList.length : Int) ≤ 40) := by omega
    simp only [mayE, may_two, h, h', and_self, decide_true, if_true]; rfl
  · have h' : ¬ ((s.data.toList.length : Int) ≤ 40) := by omega
    simp only [mayE, may_two, h, h', and_false, decide_false]; rfl
theorem mayE_bool (p : Prop) [Decidable p] : mayE 3 (if p then 1 else 0) [] = 0 := by
  by_cases h : p <;> simp [mayE, may_three, h]
theorem ord_ints (n m : Int) : decide (ord 1 n [] 1 m [] < 0) = decide (n < m) := by
  have e := ord_neg 1 n [] 1 m []
  rw [lessV_iff] at e
  simp at e
  simp [e]
theorem ord_texts (s t : ByteArray) : decide (ord 2 0 s.data.toList 2 0 t.data.toList < 0) = Op.bytesLess s.toList t.toList := by
  rw [bytesLess_eq, ByteArray.toList_eq, ByteArray.toList_eq]
  have e := ord_neg 2 0 s.data.toList 2 0 t.data.toList
  rw [lessV_iff] at e
  simp at e
  simp [e]
theorem beg_append (s t : ByteArray) : beg 2 (s ++ t).data.toList 2 s.data.toList = true := by
  simp [beg]
theorem beg_none (s : List UInt8) : beg 2 s 2 [] = true := by
  simp [beg]
theorem bytes_ext {s s' : ByteArray} (h : s.data.toList = s'.data.toList) : s = s' := by
  cases s; cases s'; simp at h; simp [h]
end PM
end Go.Proofs.Ytklgibkdbdhaiaa
