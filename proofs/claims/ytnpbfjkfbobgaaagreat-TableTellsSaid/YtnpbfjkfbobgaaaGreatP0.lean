import Derived.WalkKit
/-
  PLAIN FUNCTIONS OF VALUES: which of two comes first, and whether a value may be, on numbers and lists of bytes. No program is imported.
-/
namespace Go.Proofs.YtnpbfjkfbobgaaaGreat
namespace PM
open Go.RowKit
theorem bcell {W w1 : World} (hb : Below W.heap.size W w1) : (∀ b o, b < W.heap.size → w1.cell? ⟨b, o, none⟩ = W.cell? ⟨b, o, none⟩) ∧ (∀ b o, b < W.heap.size → w1.frozen? ⟨b, o, none⟩ = W.frozen? ⟨b, o, none⟩) :=
  ⟨fun b o h => hb.cell (p := ⟨b, o, none⟩) h, fun b o h => hb.frozen (p := ⟨b, o, none⟩) h⟩

theorem chain {w W w1 : World} (h : Below w.heap.size w W) (hb : Below W.heap.size W w1) : Below w.heap.size w w1 := h.trans (hb.mono h.size)
/-- a block of cells, whole, at its number -/
def Blk (w : World) (b : Nat) (cs : Array Value) : Prop := ∃ T f, w.heap[b]? = some (.cells cs T f)
theorem Blk.lt {w : World} {b : Nat} {cs : Array Value} (h : Blk w b cs) : b < w.heap.size := by
  obtain ⟨T, f, h⟩ := h
  exact (Array.getElem?_eq_some_iff.1 h).1
theorem Blk.cell {w : World} {b : Nat} {cs : Array Value} (h : Blk w b cs) (i : Nat) : w.cell? ⟨b, i, none⟩ = cs[i]? := by
  obtain ⟨T, f, h⟩ := h
  simp [World.cell?, h]
theorem Blk.keep {W w : World} {b : Nat} {cs : Array Value} (hb : Below W.heap.size W w) (h : Blk W b cs) : Blk w b cs := by
  obtain ⟨T, f, h'⟩ := h
  exact ⟨T, f, (hb.block b (Blk.lt ⟨T, f, h'⟩)).trans h'⟩
theorem Blk.new (w : World) (cs : Array Value) (T : TypeId) (f : Nat × Nat) : Blk (w.alloc (.cells cs T f)) w.heap.size cs :=
  ⟨T, f, by show (w.heap.push _)[w.heap.size]? = _; simp⟩
theorem Blk.alloc {w : World} {b : Nat} {cs : Array Value} (h : Blk w b cs) (o : Obj) : Blk (w.alloc o) b cs :=
  h.keep (Below.alloc (Below.refl _ _) (Nat.le_refl _) o)
theorem Blk.two (w : World) (A B : Array Value) (T U : TypeId) (f g : Nat × Nat) :
    Blk ((w.alloc (.cells A T f)).alloc (.cells B U g)) w.heap.size A ∧ Blk ((w.alloc (.cells A T f)).alloc (.cells B U g)) (w.heap.size + 1) B := by
  refine ⟨(Blk.new w A T f).alloc _, ?_⟩
  have h := Blk.new (w.alloc (.cells A T f)) B U g
  rwa [World.size_alloc] at h
theorem Blk.three (w : World) (A B C : Array Value) (T U V : TypeId) (f g i : Nat × Nat) :
    Blk (((w.alloc (.cells A T f)).alloc (.cells B U g)).alloc (.cells C V i)) w.heap.size A ∧ Blk (((w.alloc (.cells A T f)).alloc (.cells B U g)).alloc (.cells C V i)) (w.heap.size + 1) B ∧ Blk (((w.alloc (.cells A T f)).alloc (.cells B U g)).alloc (.cells C V i)) (w.heap.size + 1 + 1) C := by
  refine ⟨(Blk.two w A B T U f g).1.alloc _, (Blk.two w A B T U f g).2.alloc _, ?_⟩
  have h := Blk.new ((w.alloc (.cells A T f)).alloc (.cells B U g)) C V i
  rwa [World.size_alloc, World.size_alloc] at h
/-- cells of a block that was there, behind one step more -/
theorem held2 {wa W W' : World} {a b : Addr} {x y : Value} (h : W.cell? a = some x ∧ W.cell? b = some y ∧ Below wa.heap.size wa W) (hb : Below W.heap.size W W') :
    W'.cell? a = some x ∧ W'.cell? b = some y ∧ Below wa.heap.size wa W' :=
  ⟨by rw [hb.cell (World.block_lt_of_cell? W _ h.1)]; exact h.1, by rw [hb.cell (World.block_lt_of_cell? W _ h.2.1)]; exact h.2.1, chain h.2.2 hb⟩
/-- which of two numbers comes first -/
def plI (a b : Int) : Int := if a < b then -1 else if b < a then 1 else 0
/-- which of two texts comes first -/
def plS (a b : List UInt8) : Int := if a < b then -1 else if b < a then 1 else 0
/-- which of two values comes first -/
def ord (k n : Int) (s : List UInt8) (k' n' : Int) (s' : List UInt8) : Int :=
  if plI k k' = 0 then (if plI n n' = 0 then plS s s' else plI n n') else plI k k'
/-- whether a value may be -/
def may (k n : Int) (s : List UInt8) : Bool :=
  if k = 1 then decide (s = []) else if k = 2 then decide (n = 0 ∧ s.length ≤ 40) else if k = 3 then decide ((n = 0 ∨ n = 1) ∧ s = []) else false
/-- the number of the error -/
def mayE (k n : Int) (s : List UInt8) : Int := if may k n s then 0 else 10

/-- whether one value comes ahead of another one, place by place -/
def lessV (k n : Int) (s : List UInt8) (k' n' : Int) (s' : List UInt8) : Bool :=
  if k = k' then (if n = n' then decide (s < s') else decide (n < n')) else decide (k < k')
/-- whether a text begins with another one -/
def beg (k : Int) (s : List UInt8) (k' : Int) (s' : List UInt8) : Bool := decide (k = 2) && decide (k' = 2) && s'.isPrefixOf s
theorem ret_int {k : IntKind} {a b : Int} (h : a = b) : Ending.returned (.int k a) = .returned (.int k b) := by rw [h]
theorem ret_bool {a b : Bool} (h : a = b) : Ending.returned (.bool a) = .returned (.bool b) := by rw [h]
theorem bytesLess_eq : ∀ (x y : List UInt8), Op.bytesLess x y = decide (x < y)
  | [], [] => by simp [Op.bytesLess]
  | _ :: _, [] => by simp [Op.bytesLess]
  | [], _ :: _ => by simp [Op.bytesLess]
  | a :: x, b :: y => by
    rw [Op.bytesLess, bytesLess_eq x y]
    simp only [List.cons_lt_cons_iff]
    by_cases h1 : a < b <;> by_cases h2 : a = b <;> by_cases h3 : x < y <;> simp [h1, h2, h3]
theorem plI_bd (a b : Int) : -1 ≤ plI a b ∧ plI a b ≤ 1 := by unfold plI; split <;> (try split) <;> omega
theorem plS_bd (a b : List UInt8) : -1 ≤ plS a b ∧ plS a b ≤ 1 := by unfold plS; split <;> (try split) <;> omega
theorem ord_bd (k n : Int) (s : List UInt8) (k' n' : Int) (s' : List UInt8) : -1 ≤ ord k n s k' n' s' ∧ ord k n s k' n' s' ≤ 1 := by
  unfold ord; have := plI_bd k k'; have := plI_bd n n'; have := plS_bd s s'; split <;> (try split) <;> omega
theorem may_one (n : Int) (s : List UInt8) : may 1 n s = decide (s = []) := by simp [may]
theorem may_two (n : Int) (s : List UInt8) : may 2 n s = decide (n = 0 ∧ s.length ≤ 40) := by simp [may]
theorem may_three (n : Int) (s : List UInt8) : may 3 n s = decide ((n = 0 ∨ n = 1) ∧ s = []) := by simp [may]
theorem may_other (k n : Int) (s : List UInt8) (h1 : ¬ k = 1) (h2 : ¬ k = 2) (h3 : ¬ k = 3) : may k n s = false := by simp [may, *]
theorem isEmpty_iff (s : ByteArray) : s.toList.isEmpty = decide (s.data.toList = []) := by
  rw [ByteArray.toList_eq, Bool.eq_iff_iff]; simp
theorem size_len (s : ByteArray) : s.size = s.data.toList.length := (Array.length_toList (xs := s.data)).symm
theorem take_beq (s p : List UInt8) : (decide (p.length ≤ s.length) && (s.take p.length == p)) = p.isPrefixOf s := by
  rw [Bool.eq_iff_iff]
  simp only [Bool.and_eq_true, decide_eq_true_eq, beq_iff_eq, List.isPrefixOf_iff_prefix]
  constructor
  · rintro ⟨_, h⟩; exact ⟨s.drop p.length, by conv => rhs; rw [← List.take_append_drop p.length s, h]⟩
  · rintro ⟨t, rfl⟩; simp
theorem extract_toList (s : ByteArray) (n : Nat) : (s.extract 0 n).toList = s.data.toList.take n := by
  rw [ByteArray.toList_eq]; simp
theorem beg_two (s s' : ByteArray) (h : s'.size ≤ s.size) : ((s.extract 0 s'.size).toList == s'.toList) = beg 2 s.data.toList 2 s'.data.toList := by
  have e := take_beq s.data.toList s'.data.toList
  rw [extract_toList, ByteArray.toList_eq, PM.size_len s']
  rw [PM.size_len s', PM.size_len s] at h
  simp only [h, decide_true, Bool.true_and] at e
  rw [e]
  simp [beg]
theorem beg_short (k k' : Int) (s s' : ByteArray) (h : ¬ s'.size ≤ s.size) : beg k s.data.toList k' s'.data.toList = false := by
  have e := take_beq s.data.toList s'.data.toList
  rw [PM.size_len s', PM.size_len s] at h
  simp only [h, decide_false, Bool.false_and] at e
  simp [beg, ← e]
theorem beg_not (k k' : Int) (s s' : List UInt8) (h : ¬ (k = 2 ∧ k' = 2)) : beg k s k' s' = false := by
  unfold beg
  by_cases h1 : k = 2 <;> by_cases h2 : k' = 2 <;> simp_all
theorem lt_irr (s : List UInt8) : ¬ s < s := List.lt_irrefl s
theorem lt_tri (a b : List UInt8) (h : ¬ a < b) (h' : ¬ b < a) : a = b := List.le_antisymm h' h
theorem lt_asy (a b : List UInt8) (h : a < b) : ¬ b < a := List.lt_asymm h
theorem ord_less (k n : Int) (s : List UInt8) (k' n' : Int) (s' : List UInt8) :
    ord k n s k' n' s' = if lessV k n s k' n' s' then -1 else if lessV k' n' s' k n s then 1 else 0 := by
  unfold ord lessV plI plS
  by_cases hk : k = k'
  · subst hk
    by_cases hn : n = n'
    · subst hn; simp
    · by_cases h : n < n'
      · simp [h, hn]
      · have h2 : n' < n := by omega
        have h3 : ¬ n' = n := by omega
        simp [h, h2, hn, h3]
  · by_cases h : k < k'
    · simp [h, hk]
    · have h2 : k' < k := by omega
      have h3 : ¬ k' = k := by omega
      simp [h, h2, hk, h3]
theorem ord_anti (k n : Int) (s : List UInt8) (k' n' : Int) (s' : List UInt8) : ord k' n' s' k n s = - ord k n s k' n' s' := by
  have hI : ∀ a b : Int, plI b a = - plI a b := fun a b => by unfold plI; (repeat' split) <;> omega
  have hS : ∀ a b : List UInt8, plS b a = - plS a b := fun a b => by
    unfold plS
    by_cases h : a < b
    · simp [h, lt_asy a b h]
    · by_cases h' : b < a <;> simp [h, h']
  unfold ord
  rw [hI k k', hI n n', hS s s']
  by_cases h : plI k k' = 0
  · by_cases h2 : plI n n' = 0 <;> simp [h, h2]
  · simp [h]
theorem plI_zero (a b : Int) (h : plI a b = 0) : a = b := by unfold plI at h; split at h <;> (try split at h) <;> omega
theorem plS_zero (a b : List UInt8) (h : plS a b = 0) : a = b := by
  unfold plS at h
  by_cases h1 : a < b
  · simp [h1] at h
  · by_cases h2 : b < a
    · simp [h1, h2] at h
    · exact lt_tri a b h1 h2
theorem ord_zero (k n : Int) (s : List UInt8) (k' n' : Int) (s' : List UInt8) (h : ord k n s k' n' s' = 0) : k = k' ∧ n = n' ∧ s = s' := by
  unfold ord at h
  split at h
  · split at h
    · exact ⟨plI_zero _ _ ‹_›, plI_zero _ _ ‹_›, plS_zero _ _ h⟩
    · exact absurd h ‹_›
  · exact absurd h ‹_›
theorem ord_self (k n : Int) (s : List UInt8) : ord k n s k n s = 0 := by
  have := ord_anti k n s k n s
  omega
theorem lessV_iff (k n : Int) (s : List UInt8) (k' n' : Int) (s' : List UInt8) :
    lessV k n s k' n' s' = true ↔ k < k' ∨ (k = k' ∧ (n < n' ∨ (n = n' ∧ s < s'))) := by
  unfold lessV
  by_cases hk : k = k'
  · subst hk
    by_cases hn : n = n'
    · subst hn; simp
    · simp [hn]
  · simp [hk]
theorem ord_neg (k n : Int) (s : List UInt8) (k' n' : Int) (s' : List UInt8) : ord k n s k' n' s' < 0 ↔ lessV k n s k' n' s' = true := by
  rw [ord_less]
  by_cases h : lessV k n s k' n' s' = true
  · simp [h]
  · simp only [h]
    by_cases h2 : lessV k' n' s' k n s = true <;> simp [h2]
theorem lessV_trans (k n : Int) (s : List UInt8) (k' n' : Int) (s' : List UInt8) (k2 n2 : Int) (s2 : List UInt8)
    (h1 : lessV k n s k' n' s' = true) (h2 : lessV k' n' s' k2 n2 s2 = true) : lessV k n s k2 n2 s2 = true := by
  rw [lessV_iff] at *
  rcases h1 with h1 | ⟨rfl, h1 | ⟨rfl, h1⟩⟩
  · rcases h2 with h2 | ⟨rfl, h2 | ⟨rfl, h2⟩⟩
    · exact .inl (by omega)
    · exact .inl (by omega)
    · exact .inl (by omega)
  · rcases h2 with h2 | ⟨rfl, h2 | ⟨rfl, h2⟩⟩
    · exact .inl (by omega)
    · exact .inr ⟨rfl, .inl (by omega)⟩
    · exact .inr ⟨rfl, .inl (by omega)⟩
  · rcases h2 with h2 | ⟨rfl, h2 | ⟨rfl, h2⟩⟩
    · exact .inl (by omega)
    · exact .inr ⟨rfl, .inl (by omega)⟩
    · exact .inr ⟨rfl, .inr ⟨rfl, List.lt_trans h1 h2⟩⟩
theorem ord_trans (k n : Int) (s : List UInt8) (k' n' : Int) (s' : List UInt8) (k2 n2 : Int) (s2 : List UInt8)
    (h1 : ord k n s k' n' s' < 0) (h2 : ord k' n' s' k2 n2 s2 ≤ 0) : ord k n s k2 n2 s2 < 0 := by
  by_cases h : ord k' n' s' k2 n2 s2 = 0
  · obtain ⟨rfl, rfl, rfl⟩ := ord_zero _ _ _ _ _ _ h
    exact h1
  · rw [ord_neg] at *
    exact lessV_trans _ _ _ _ _ _ _ _ _ h1 ((ord_neg _ _ _ _ _ _).1 (by omega))
theorem mayE_text (s : ByteArray) : (mayE 2 0 s.data.toList == 0) = decide ((s.size : Int) ≤ 40) := by
  rw [size_len]
  by_cases h : s.data.toList.length ≤ 40
  · have h' : ((s.data.toList.length : Int) ≤ 40) := by omega
    simp only [mayE, may_two, h, h', and_self, decide_true, if_true]; rfl
  · have h' : ¬ ((s.data.toList.length : Int) ≤ 40) := by omega
    simp only [mayE, may_two, h, h', and_false, decide_false]; rfl
theorem mayE_bool (p : Prop) [Decidable p] : mayE 3 (if p then 1 else 0) [] = 0 := by
  by_cases h : p <;> simp [mayE, may_three, h]
theorem ord_ints (n m : Int) : decide (ord 1 n [] 1 m [] < 0) = decide (n < m) := by
  have e := ord_neg 1 n [] 1 m []
  rw [lessV_iff] at e
  simp at e
  simp [e]
theorem ord_texts (s t : ByteArray) : decide (ord 2 0 s.data.toList 2 0 t.data.toList < 0) = Op.bytesLess s.toList t.toList := by
  rw [bytesLess_eq, ByteArray.toList_eq, ByteArray.toList_eq]
  have e := ord_neg 2 0 s.data.toList 2 0 t.data.toList
  rw [lessV_iff] at e
  simp at e
  simp [e]
theorem beg_append (s t : ByteArray) : beg 2 (s ++ t).data.toList 2 s.data.toList = true := by
  simp [beg]
theorem beg_none (s : List UInt8) : beg 2 s 2 [] = true := by
  simp [beg]
theorem bytes_ext {s s' : ByteArray} (h : s.data.toList = s'.data.toList) : s = s' := by
  cases s; cases s'; simp at h; simp [h]
end PM
end Go.Proofs.YtnpbfjkfbobgaaaGreat

/-
  PLAIN FUNCTIONS OF PACKING: how many bytes a number needs, and which these are.
-/
namespace Go.Proofs.YtnpbfjkfbobgaaaGreat
namespace PM

/-- how many bytes a number needs: by as many steps as it has bits at most -/
def widF : Nat → Nat → Nat
  | 0, _ => 0
  | f + 1, n => if n = 0 then 0 else widF f (n / 256) + 1
def wid (n : Nat) : Nat := widF 64 n
/-- the number's bytes, so many, the highest first -/
def be (n size : Nat) : List UInt8 := (List.range size).map fun i => UInt8.ofNat (n / 2 ^ (8 * (size - 1 - i)))
/-- a number, packed -/
def numB (n : Nat) : List UInt8 := UInt8.ofNat (wid n) :: be n (wid n)

theorem widF_zero (f : Nat) : widF f 0 = 0 := by cases f <;> rfl
theorem widF_more : ∀ (f n : Nat), n < 256 ^ f → ∀ g, f ≤ g → widF g n = widF f n
  | 0, n, h, g, _ => by
    have : n = 0 := by simpa using h
    subst this
    simp [widF_zero]
  | f + 1, n, h, g, hg => by
    obtain ⟨g', rfl⟩ : ∃ g', g = g' + 1 := ⟨g - 1, by omega⟩
    unfold widF
    by_cases h0 : n = 0
    · simp [h0]
    · simp only [h0, if_false]
      rw [widF_more f (n / 256) (by rw [Nat.pow_succ] at h; omega) g' (by omega)]
theorem wid_zero : wid 0 = 0 := rfl
theorem wid_step (n : Nat) (h : 0 < n) (hb : n < 2 ^ 64) : wid n = wid (n / 256) + 1 := by
  unfold wid
  rw [widF_more 8 n (by omega) 64 (by omega), widF_more 7 (n / 256) (by omega) 64 (by omega)]
  rw [widF]
  simp [Nat.ne_of_gt h]
theorem widF_le : ∀ (f n : Nat), widF f n ≤ f
  | 0, _ => Nat.le_refl _
  | f + 1, n => by
    unfold widF
    split
    · omega
    · have := widF_le f (n / 256); omega
theorem wid_le (n : Nat) (hb : n < 2 ^ 64) : wid n ≤ 8 := by
  unfold wid
  rw [widF_more 8 n (by omega) 64 (by omega)]
  exact widF_le 8 n
theorem be_length (n size : Nat) : (be n size).length = size := by simp [be]
theorem be_take (n size k : Nat) (h : k < size) : (be n size).take (k + 1) = (be n size).take k ++ [UInt8.ofNat (n / 2 ^ (8 * (size - 1 - k)))] := by
  rw [List.take_succ_eq_append_getElem (by rw [be_length]; exact h)]
  simp [be]
theorem u8_nat (x : Nat) : ((UInt8.ofNat x).toNat : Int) = ((x % 256 : Nat) : Int) := by simp
theorem u8_shift (n e : Nat) : ((n : Int) / 2 ^ e % 256) = ((UInt8.ofNat (n / 2 ^ e)).toNat : Int) := by rw [u8_nat]; simp
theorem numB_length (n : Nat) : (numB n).length = wid n + 1 := by simp [numB, be_length]
/-- bytes, packed -/
def bytesB (l : List UInt8) : List UInt8 := numB l.length ++ l
/-- where a number of either sign stands among those from 0 on -/
def foldZ (n : Int) : Nat := if n < 0 then (-2 * n - 1).toNat else (2 * n).toNat
/-- a number of 64 bits that is not negative, for one of either sign -/
def u64 (n : Int) : Nat := (n % 18446744073709551616).toNat
/-- a value, packed -/
def valB (k n : Int) (s : List UInt8) : List UInt8 := numB (u64 k) ++ numB (if k = 1 then foldZ n else u64 n) ++ bytesB s
theorem u64_lt (n : Int) : u64 n < 2 ^ 64 := by unfold u64; omega
theorem foldZ_lt (n : Int) (h1 : -9223372036854775808 ≤ n) (h2 : n ≤ 9223372036854775807) : foldZ n < 2 ^ 64 := by unfold foldZ; split <;> omega
/-- the number that bytes are, the highest first -/
def bval (l : List UInt8) : Nat := l.foldl (fun n x => n * 256 + x.toNat) 0
/-- the number that bytes begin with, and the rest -/
def getN (l : List UInt8) : Option (Nat × List UInt8) :=
  match l with
  | [] => none
  | s :: r => if s.toNat ≤ 8 ∧ s.toNat ≤ r.length ∧ wid (bval (r.take s.toNat)) = s.toNat then some (bval (r.take s.toNat), r.drop s.toNat) else none
/-- a reader's step: what it answers, what is left, and whether something is wrong -/
def stepN (l : List UInt8) (wr : Bool) : Nat × List UInt8 × Bool :=
  if wr then (0, [], true) else match getN l with
    | some (n, r) => (n, r, false)
    | none => (0, [], true)
theorem bval_snoc (l : List UInt8) (x : UInt8) : bval (l ++ [x]) = bval l * 256 + x.toNat := by simp [bval]
theorem bval_nil : bval [] = 0 := rfl
theorem bval_lt (l : List UInt8) : bval l < 256 ^ l.length := by
  suffices h : ∀ n (l : List UInt8), l.length = n → bval l < 256 ^ n from h _ l rfl
  intro n
  induction n with
  | zero => intro l h; have : l = [] := List.eq_nil_of_length_eq_zero h; subst this; decide
  | succ n ih =>
    intro l h
    obtain ⟨l', x, rfl⟩ : ∃ l' x, l = l' ++ [x] := ⟨l.dropLast, l.getLast (by intro e; subst e; simp at h), (List.dropLast_concat_getLast _).symm⟩
    have h' := ih l' (by simpa using h)
    have hx := x.toNat_lt
    rw [bval_snoc, Nat.pow_succ]
    have : x.toNat < 256 := hx
    omega
theorem or_byte (n x : Nat) (hn : n < 72057594037927936) (hx : x < 256) : bits .or .u64 ((n : Int) * 256) (x : Int) = ((n * 256 + x : Nat) : Int) := by
  rw [u64_or _ _ (by omega) (by omega) (by omega) (by omega)]
  have e1 : ((n : Int) * 256).toNat = 2 ^ 8 * n := by omega
  rw [e1, Int.toNat_natCast, ← Nat.two_pow_add_eq_or_of_lt (by simpa using hx) n]
  congr 1
  omega
/-- a reader's step for bytes -/
def stepB (l : List UInt8) (wr : Bool) (most : Int) : List UInt8 × List UInt8 × Bool :=
  if (stepN l wr).2.2 = true ∨ most < 0 ∨ most.toNat < (stepN l wr).1 ∨ (stepN l wr).2.1.length < (stepN l wr).1 then ([], [], true)
  else ((stepN l wr).2.1.take (stepN l wr).1, (stepN l wr).2.1.drop (stepN l wr).1, false)
theorem getN_lt {l : List UInt8} {n : Nat} {r : List UInt8} (h : getN l = some (n, r)) : n < 2 ^ 64 ∧ r.length < l.length := by
  unfold getN at h
  split at h
  · cases h
  · rename_i s r'
    split at h
    · rename_i hc
      simp only [Option.some.injEq, Prod.mk.injEq] at h
      obtain ⟨rfl, rfl⟩ := h
      have h1 := bval_lt (r'.take s.toNat)
      have h2 : (r'.take s.toNat).length ≤ 8 := by rw [List.length_take]; omega
      have h3 : (256 : Nat) ^ (r'.take s.toNat).length ≤ 256 ^ 8 := Nat.pow_le_pow_right (by omega) h2
      refine ⟨by omega, ?_⟩
      simp; omega
    · cases h
theorem stepN_lt (l : List UInt8) (wr : Bool) : (stepN l wr).1 < 2 ^ 64 ∧ (stepN l wr).2.1.length ≤ l.length := by
  unfold stepN
  split
  · simp
  · split
    · rename_i n r h
      have := getN_lt h
      exact ⟨this.1, by simp; omega⟩
    · simp
/-- the number of either sign that stands at a place -/
def unfoldZ (n : Nat) : Int := if n % 2 = 1 then -((n / 2 : Nat) : Int) - 1 else ((n / 2 : Nat) : Int)
/-- 64 bits, read as a number of either sign -/
def toI (n : Nat) : Int := if n < 9223372036854775808 then (n : Int) else (n : Int) - 18446744073709551616
/-- a reader's step for a value -/
def stepV (l : List UInt8) (wr : Bool) : (Int × Int × List UInt8) × List UInt8 × Bool :=
  let a := stepN l wr
  let c := stepN a.2.1 a.2.2
  let d := stepB c.2.1 c.2.2 40
  if d.2.2 = true ∨ 2147483647 < a.1 then ((0, 0, []), [], true)
  else if may a.1 (if a.1 = 1 then unfoldZ c.1 else toI c.1) d.1 = true then (((a.1 : Int), (if a.1 = 1 then unfoldZ c.1 else toI c.1), d.1), d.2.1, false)
  else ((0, 0, []), [], true)
theorem take_snoc (r : List UInt8) (k : Nat) (h : k < r.length) : r.take (k + 1) = r.take k ++ [r[k]] := by
  rw [List.take_succ_eq_append_getElem h]
end PM
end Go.Proofs.YtnpbfjkfbobgaaaGreat

/-
  PLAIN FACTS ON PACKED NUMBERS: their bytes stand in the numbers' order; bytes that are packed are read back.
-/
namespace Go.Proofs.YtnpbfjkfbobgaaaGreat
namespace PM

theorem pow_256 (k : Nat) : (2 : Nat) ^ (8 * k) = 256 ^ k := by rw [Nat.pow_mul]
theorem be_zero (n : Nat) : be n 0 = [] := rfl
theorem be_succ (n k : Nat) : be n (k + 1) = UInt8.ofNat (n / 256 ^ k) :: be n k := by
  unfold be
  rw [List.range_succ_eq_map, List.map_cons, List.map_map]
  congr 1
  · rw [← pow_256]; simp
  · apply List.map_congr_left
    intro i hi
    simp only [Function.comp_def]
    congr 3
    omega
theorem u8_mod (x : Nat) : UInt8.ofNat x = UInt8.ofNat (x % 256) := by
  apply UInt8.toNat_inj.1; simp
theorem be_mod (n : Nat) : ∀ k, be n k = be (n % 256 ^ k) k := by
  suffices h : ∀ k j, k ≤ j → be n k = be (n % 256 ^ j) k from fun k => h k k (Nat.le_refl _)
  intro k
  induction k with
  | zero => intro j _; rfl
  | succ k ih =>
    intro j hj
    rw [be_succ, be_succ, ← ih j (by omega)]
    congr 1
    rw [u8_mod, u8_mod (n % 256 ^ j / 256 ^ k)]
    congr 1
    obtain ⟨d, rfl⟩ : ∃ d, j = k + 1 + d := ⟨j - (k + 1), by omega⟩
    have e1 : 256 ^ (k + 1 + d) = 256 ^ k * (256 * 256 ^ d) := by
      rw [show k + 1 + d = k + (1 + d) from by omega, Nat.pow_add, Nat.pow_add 256 1 d]
    rw [e1, Nat.mod_mul_right_div_self, Nat.mod_mul_right_mod]
theorem be_lt : ∀ (k n m : Nat), n < 256 ^ k → m < 256 ^ k → (be n k < be m k ↔ n < m)
  | 0, n, m, hn, hm => by
    simp at hn hm
    subst hn hm
    simp [be_zero, List.lt_irrefl]
  | k + 1, n, m, hn, hm => by
    rw [be_succ, be_succ, List.cons_lt_cons_iff]
    have hp : 0 < 256 ^ k := Nat.pow_pos (by omega)
    rw [Nat.pow_succ] at hn hm
    have q1 : n / 256 ^ k < 256 := Nat.div_lt_of_lt_mul hn
    have q2 : m / 256 ^ k < 256 := Nat.div_lt_of_lt_mul hm
    have i1 : UInt8.ofNat (n / 256 ^ k) < UInt8.ofNat (m / 256 ^ k) ↔ n / 256 ^ k < m / 256 ^ k := by
      rw [UInt8.lt_iff_toNat_lt]; simp [Nat.mod_eq_of_lt q1, Nat.mod_eq_of_lt q2]
    have i2 : UInt8.ofNat (n / 256 ^ k) = UInt8.ofNat (m / 256 ^ k) ↔ n / 256 ^ k = m / 256 ^ k := by
      rw [← UInt8.toNat_inj]; simp [Nat.mod_eq_of_lt q1, Nat.mod_eq_of_lt q2]
    rw [i1, i2, be_mod n k, be_mod m k, be_lt k _ _ (Nat.mod_lt _ hp) (Nat.mod_lt _ hp)]
    have d1 := Nat.div_add_mod n (256 ^ k)
    have d2 := Nat.div_add_mod m (256 ^ k)
    have r1 := Nat.mod_lt n hp
    have r2 := Nat.mod_lt m hp
    constructor
    · rintro (h | ⟨h, h'⟩)
      · have : 256 ^ k * (n / 256 ^ k + 1) ≤ 256 ^ k * (m / 256 ^ k) := Nat.mul_le_mul_left _ h
        rw [Nat.mul_add] at this
        omega
      · rw [h] at d1; omega
    · intro h
      by_cases he : n / 256 ^ k = m / 256 ^ k
      · right; refine ⟨he, ?_⟩; rw [he] at d1; omega
      · left
        have : n / 256 ^ k ≤ m / 256 ^ k := Nat.div_le_div_right (by omega)
        omega
theorem wid_pow (n : Nat) (hn : n < 2 ^ 64) : n < 256 ^ wid n := by
  suffices h : ∀ f m, m < 256 ^ f → m < 256 ^ widF f m by
    unfold wid
    rw [widF_more 8 n (by omega) 64 (by omega)]
    exact h 8 n (by omega)
  intro f
  induction f with
  | zero => intro m h; simpa [widF] using h
  | succ f ih =>
    intro m h
    unfold widF
    by_cases h0 : m = 0
    · simp [h0]
    · simp only [h0, if_false]
      have := ih (m / 256) (by rw [Nat.pow_succ] at h; omega)
      rw [Nat.pow_succ]; omega
theorem wid_le_of (n : Nat) (hn : n < 2 ^ 64) (k : Nat) (h : n < 256 ^ k) : wid n ≤ k := by
  by_cases hk : k ≤ 64
  · unfold wid
    rw [widF_more k n h 64 hk]
    exact widF_le k n
  · have := wid_le n hn; omega
theorem wid_mono (n m : Nat) (hm : m < 2 ^ 64) (h : n ≤ m) : wid n ≤ wid m :=
  wid_le_of n (by omega) _ (Nat.lt_of_le_of_lt h (wid_pow m hm))
theorem wid_u8 (n : Nat) (hn : n < 2 ^ 64) : (UInt8.ofNat (wid n)).toNat = wid n := by
  have := wid_le n hn
  simp; omega
theorem numB_lt (n m : Nat) (hn : n < 2 ^ 64) (hm : m < 2 ^ 64) : numB n < numB m ↔ n < m := by
  unfold numB
  rw [List.cons_lt_cons_iff, UInt8.lt_iff_toNat_lt, ← UInt8.toNat_inj, wid_u8 n hn, wid_u8 m hm]
  constructor
  · rintro (h | ⟨h, h'⟩)
    · refine Nat.lt_of_not_le fun hle => ?_
      have := wid_mono m n hn hle
      omega
    · rw [h] at h'
      have h1 := wid_pow n hn
      rw [h] at h1
      exact (be_lt _ n m h1 (wid_pow m hm)).1 h'
  · intro h
    have h1 := wid_mono n m hm (by omega)
    by_cases he : wid n = wid m
    · right
      refine ⟨he, ?_⟩
      rw [he]
      have h2 := wid_pow n hn
      rw [he] at h2
      exact (be_lt _ n m h2 (wid_pow m hm)).2 h
    · left; omega
theorem numB_inj (n m : Nat) (hn : n < 2 ^ 64) (hm : m < 2 ^ 64) (h : numB n = numB m) : n = m := by
  by_cases h1 : n < m
  · have := (numB_lt n m hn hm).2 h1
    rw [h] at this
    exact absurd this (List.lt_irrefl _)
  · by_cases h2 : m < n
    · have := (numB_lt m n hm hn).2 h2
      rw [h] at this
      exact absurd this (List.lt_irrefl _)
    · omega
theorem numB_prefix (n m : Nat) (hn : n < 2 ^ 64) (hm : m < 2 ^ 64) (t : List UInt8) (h : numB n ++ t = numB m) : n = m := by
  have hl := congrArg List.length h
  have h0 : UInt8.ofNat (wid n) = UInt8.ofNat (wid m) := by
    have := congrArg List.head? h
    simpa [numB] using this
  have hw : wid n = wid m := by rw [← wid_u8 n hn, ← wid_u8 m hm, h0]
  rw [List.length_append, numB_length, numB_length, hw] at hl
  have : t = [] := List.eq_nil_of_length_eq_zero (by omega)
  subst this
  exact numB_inj n m hn hm (by simpa using h)
theorem get_zero (s : ByteArray) (h : 0 < s.size) (x : UInt8) (l : List UInt8) (hl : s.data.toList = x :: l) : s[0] = x := by
  have h1 : s.data.toList[0]? = some x := by rw [hl]; rfl
  have h2 : s.data[0]? = some x := by simpa using h1
  have h3 : s.data[0]'(by exact h) = x := by
    have := Array.getElem?_eq_some_iff.1 h2
    exact this.2
  exact h3
end PM
end Go.Proofs.YtnpbfjkfbobgaaaGreat

/-
  PLAIN FACTS ON PACKED NUMBERS, BYTES, VALUES: what is read to the end is packed so.
-/
namespace Go.Proofs.YtnpbfjkfbobgaaaGreat
namespace PM
theorem bval_cons (x : UInt8) (t : List UInt8) : bval (x :: t) = x.toNat * 256 ^ t.length + bval t := by
  suffices h : ∀ n (t : List UInt8), t.length = n → bval (x :: t) = x.toNat * 256 ^ n + bval t from h _ t rfl
  intro n
  induction n with
  | zero => intro t h; have : t = [] := List.eq_nil_of_length_eq_zero h; subst this; simp [bval]
  | succ n ih =>
    intro t h
    obtain ⟨t', y, rfl⟩ : ∃ t' y, t = t' ++ [y] := ⟨t.dropLast, t.getLast (by intro e; subst e; simp at h), (List.dropLast_concat_getLast _).symm⟩
    have h' := ih t' (by simpa using h)
    rw [← List.cons_append, bval_snoc, bval_snoc, h', Nat.pow_succ, Nat.add_mul, Nat.mul_assoc, Nat.add_assoc]
theorem be_bval : ∀ t : List UInt8, be (bval t) t.length = t
  | [] => rfl
  | x :: t => by
    have hlt := bval_lt t
    have hp : 0 < 256 ^ t.length := Nat.pow_pos (by omega)
    rw [List.length_cons, be_succ, bval_cons, Nat.mul_comm, Nat.mul_add_div hp, Nat.div_eq_of_lt hlt, Nat.add_zero, be_mod, Nat.mul_add_mod, Nat.mod_eq_of_lt hlt, be_bval t]
    simp
theorem getN_back {l : List UInt8} {n : Nat} {r : List UInt8} (h : getN l = some (n, r)) : l = numB n ++ r := by
  unfold getN at h
  split at h
  · cases h
  · rename_i s r'
    split at h
    · rename_i hc
      simp only [Option.some.injEq, Prod.mk.injEq] at h
      obtain ⟨rfl, rfl⟩ := h
      unfold numB
      rw [hc.2.2]
      have e1 : UInt8.ofNat s.toNat = s := by simp
      have e2 : (r'.take s.toNat).length = s.toNat := List.length_take_of_le hc.2.1
      have e3 := be_bval (r'.take s.toNat)
      rw [e2] at e3
      rw [e1, e3, List.cons_append, List.take_append_drop]
    · cases h
theorem stepN_back {l : List UInt8} (h : (stepN l false).2.2 = false) : l = numB (stepN l false).1 ++ (stepN l false).2.1 := by
  unfold stepN at *
  simp only [Bool.false_eq_true, if_false] at *
  cases hg : getN l with
  | none => rw [hg] at h; simp at h
  | some p => obtain ⟨n, r⟩ := p; simp only; exact getN_back hg
theorem stepN_wr (l : List UInt8) : stepN l true = (0, [], true) := rfl
theorem stepB_back {l : List UInt8} {most : Int} (h : (stepB l false most).2.2 = false) : l = bytesB (stepB l false most).1 ++ (stepB l false most).2.1 := by
  unfold stepB at *
  split
  · rename_i hc; rw [if_pos hc] at h; simp at h
  · rename_i hc
    simp only [not_or] at hc
    obtain ⟨h1, h2, h3, h4⟩ := hc
    have h1' : (stepN l false).2.2 = false := by simpa using h1
    have hb := stepN_back h1'
    unfold bytesB
    rw [List.length_take_of_le (by omega), List.append_assoc, List.take_append_drop]
    exact hb
theorem stepB_wr (l : List UInt8) (most : Int) : stepB l true most = ([], [], true) := by
  unfold stepB; simp [stepN_wr]
theorem unfold_fold (n : Nat) (hn : n < 2 ^ 64) : foldZ (unfoldZ n) = n := by unfold foldZ unfoldZ; split <;> split <;> omega
theorem u64_toI (n : Nat) (hn : n < 2 ^ 64) : u64 (toI n) = n := by unfold u64 toI; split <;> omega
theorem u64_nat (n : Nat) (hn : n < 2 ^ 64) : u64 (n : Int) = n := by unfold u64; omega
theorem stepN_false {l : List UInt8} {wr : Bool} (h : (stepN l wr).2.2 = false) : wr = false := by
  cases wr
  · rfl
  · rw [stepN_wr] at h; cases h
theorem stepB_false {l : List UInt8} {wr : Bool} {m : Int} (h : (stepB l wr m).2.2 = false) : wr = false := by
  cases wr
  · rfl
  · rw [stepB_wr] at h; cases h
/-- the number of a value that is read -/
def pickZ (k n : Nat) : Int := if k = 1 then unfoldZ n else toI n
theorem stepV_eq (l : List UInt8) (wr : Bool) (n1 n2 : Nat) (r1 r2 r3 s : List UInt8) (w1 w2 w3 : Bool) (h1 : stepN l wr = (n1, r1, w1)) (h2 : stepN r1 w1 = (n2, r2, w2)) (h3 : stepB r2 w2 40 = (s, r3, w3)) :
    stepV l wr = if w3 = true ∨ 2147483647 < n1 then ((0, 0, []), [], true) else if may n1 (pickZ n1 n2) s = true then (((n1 : Int), pickZ n1 n2, s), r3, false) else ((0, 0, []), [], true) := by
  unfold stepV pickZ
  simp only [h1, h2, h3]
theorem pickZ_back (n1 n2 : Nat) (h : n2 < 2 ^ 64) : (if (n1 : Int) = 1 then foldZ (pickZ n1 n2) else u64 (pickZ n1 n2)) = n2 := by
  unfold pickZ
  by_cases h1 : n1 = 1
  · subst h1; simp [unfold_fold n2 h]
  · have h' : ¬ ((n1 : Int) = 1) := by omega
    rw [if_neg h', if_neg h1]; exact u64_toI n2 h
theorem pickZ_lt (n1 n2 : Nat) (h : n2 < 2 ^ 64) : -9223372036854775808 ≤ pickZ n1 n2 ∧ pickZ n1 n2 ≤ 9223372036854775807 := by
  unfold pickZ unfoldZ toI; split <;> split <;> omega
theorem stepV_back {l : List UInt8} (h : (stepV l false).2.2 = false) :
    l = valB (stepV l false).1.1 (stepV l false).1.2.1 (stepV l false).1.2.2 ++ (stepV l false).2.1 ∧ may (stepV l false).1.1 (stepV l false).1.2.1 (stepV l false).1.2.2 = true := by
  obtain ⟨n1, r1, w1, h1⟩ : ∃ n r w, stepN l false = (n, r, w) := ⟨_, _, _, rfl⟩
  obtain ⟨n2, r2, w2, h2⟩ : ∃ n r w, stepN r1 w1 = (n, r, w) := ⟨_, _, _, rfl⟩
  obtain ⟨s, r3, w3, h3⟩ : ∃ n r w, stepB r2 w2 40 = (n, r, w) := ⟨_, _, _, rfl⟩
  have he := stepV_eq l false n1 n2 r1 r2 r3 s w1 w2 w3 h1 h2 h3
  by_cases hc : w3 = true ∨ 2147483647 < n1
  · rw [if_pos hc] at he; rw [he] at h; cases h
  · by_cases hm : may n1 (pickZ n1 n2) s = true
    · rw [if_neg hc, if_pos hm] at he
      rw [he]
      refine ⟨?_, hm⟩
      simp only [not_or] at hc
      have f3 : w3 = false := by simpa using hc.1
      subst f3
      have f2 : w2 = false := stepB_false (by rw [h3])
      subst f2
      have f1 : w1 = false := stepN_false (by rw [h2])
      subst f1
      have b1 := stepN_back (l := l) (by rw [h1])
      have b2 := stepN_back (l := r1) (by rw [h2])
      have b3 := stepB_back (l := r2) (most := 40) (by rw [h3])
      have l2 := (stepN_lt r1 false).1
      rw [h1] at b1
      rw [h2] at b2 l2
      rw [h3] at b3
      simp only at b1 b2 b3 l2 ⊢
      unfold valB
      rw [u64_nat n1 (by omega), pickZ_back n1 n2 l2, b1, b2, b3]
      simp
    · rw [if_neg hc, if_neg hm] at he; rw [he] at h; cases h
theorem stepV_lt (l : List UInt8) (wr : Bool) : -9223372036854775808 ≤ (stepV l wr).1.1 ∧ (stepV l wr).1.1 ≤ 9223372036854775807 ∧ -9223372036854775808 ≤ (stepV l wr).1.2.1 ∧ (stepV l wr).1.2.1 ≤ 9223372036854775807 ∧ (stepV l wr).1.2.2.length ≤ 40 := by
  obtain ⟨n1, r1, w1, h1⟩ : ∃ n r w, stepN l wr = (n, r, w) := ⟨_, _, _, rfl⟩
  obtain ⟨n2, r2, w2, h2⟩ : ∃ n r w, stepN r1 w1 = (n, r, w) := ⟨_, _, _, rfl⟩
  obtain ⟨s, r3, w3, h3⟩ : ∃ n r w, stepB r2 w2 40 = (n, r, w) := ⟨_, _, _, rfl⟩
  have he := stepV_eq l wr n1 n2 r1 r2 r3 s w1 w2 w3 h1 h2 h3
  have l2 := (stepN_lt r1 w1).1
  have l3 : (stepB r2 w2 40).1.length ≤ 40 := by
    unfold stepB
    split
    · simp
    · simp only [List.length_take]; omega
  rw [h2] at l2
  rw [h3] at l3
  have hz := pickZ_lt n1 n2 l2
  rw [he]
  by_cases hc : w3 = true ∨ 2147483647 < n1
  · rw [if_pos hc]; simp
  · rw [if_neg hc]
    by_cases hm : may n1 (pickZ n1 n2) s = true
    · rw [if_pos hm]; simp only at l3 ⊢; exact ⟨by omega, by omega, hz.1, hz.2, l3⟩
    · rw [if_neg hm]; simp
theorem stepB_lt (l : List UInt8) (wr : Bool) (m : Int) : (stepB l wr m).1.length ≤ l.length ∧ (stepB l wr m).2.1.length ≤ l.length := by
  have l1 := stepN_lt l wr
  unfold stepB
  split
  · simp
  · simp only [List.length_take, List.length_drop]; omega
theorem mayE_of {k n : Int} {s : List UInt8} (h : may k n s = true) : mayE k n s = 0 := by unfold mayE; rw [if_pos h]
end PM
end Go.Proofs.YtnpbfjkfbobgaaaGreat

/-
  PLAIN FACTS ON PACKING: what is packed is read back, whatever stands behind.
-/
namespace Go.Proofs.YtnpbfjkfbobgaaaGreat
namespace PM
theorem bval_be : ∀ (k n : Nat), n < 256 ^ k → bval (be n k) = n
  | 0, n, h => by simp at h; subst h; rfl
  | k + 1, n, h => by
    have hp : 0 < 256 ^ k := Nat.pow_pos (by decide)
    rw [be_succ, bval_cons, be_length, be_mod n k, bval_be k (n % 256 ^ k) (Nat.mod_lt _ hp)]
    have h1 : n / 256 ^ k < 256 := Nat.div_lt_of_lt_mul (by rw [Nat.pow_succ] at h; exact h)
    have h2 : (UInt8.ofNat (n / 256 ^ k)).toNat = n / 256 ^ k := by simp; omega
    rw [h2]
    exact Nat.div_add_mod' n (256 ^ k)
theorem getN_numB (n : Nat) (hn : n < 2 ^ 64) (r : List UInt8) : getN (numB n ++ r) = some (n, r) := by
  have h1 := wid_le n hn
  have h2 := wid_u8 n hn
  have h3 := be_length n (wid n)
  have h4 := bval_be (wid n) n (wid_pow n hn)
  unfold numB getN
  simp only [List.cons_append]
  rw [h2]
  have e1 : (be n (wid n) ++ r).take (wid n) = be n (wid n) := by rw [List.take_append_of_le_length (by omega), List.take_of_length_le (by omega)]
  have e2 : (be n (wid n) ++ r).drop (wid n) = r := by rw [List.drop_append_of_le_length (by omega), List.drop_eq_nil_of_le (by omega)]; rfl
  rw [e1, e2, h4, if_pos ⟨h1, by rw [List.length_append]; omega, rfl⟩]
theorem stepN_num (n : Nat) (hn : n < 2 ^ 64) (r : List UInt8) : stepN (numB n ++ r) false = (n, r, false) := by
  unfold stepN
  rw [getN_numB n hn r]
  simp
theorem stepB_bytes (m r : List UInt8) (most : Int) (hm : m.length < 2 ^ 64) (h0 : (m.length : Int) ≤ most) : stepB (bytesB m ++ r) false most = (m, r, false) := by
  have h := stepN_num m.length hm (m ++ r)
  unfold stepB bytesB
  rw [List.append_assoc, h]
  simp only
  rw [if_neg (by rw [List.length_append]; simp; omega)]
  simp
theorem may_kind {k n : Int} {s : List UInt8} (h : may k n s = true) : (k = 1 ∨ k = 2 ∨ k = 3) ∧ s.length ≤ 40 := by
  unfold may at h
  split at h
  · simp at h; subst h; exact ⟨by omega, by simp⟩
  · split at h
    · simp at h; exact ⟨by omega, h.2⟩
    · split at h
      · simp at h; rw [h.2]; exact ⟨by omega, by simp⟩
      · cases h
theorem toI_u64 (n : Int) (h1 : -9223372036854775808 ≤ n) (h2 : n ≤ 9223372036854775807) : toI (u64 n) = n := by unfold toI u64; split <;> omega
theorem unfoldZ_foldZ (n : Int) : unfoldZ (foldZ n) = n := by unfold unfoldZ foldZ; split <;> split <;> omega
theorem stepV_val (k n : Int) (s r : List UInt8) (hm : may k n s = true) (h1 : -9223372036854775808 ≤ n) (h2 : n ≤ 9223372036854775807) : stepV (valB k n s ++ r) false = ((k, n, s), r, false) := by
  obtain ⟨hk, hs⟩ := may_kind hm
  have hu : u64 k = k.toNat := by unfold u64; omega
  have s1 := stepN_num (u64 k) (u64_lt k) (numB (if k = 1 then foldZ n else u64 n) ++ bytesB s ++ r)
  have s2 := stepN_num (if k = 1 then foldZ n else u64 n) (by split; exact foldZ_lt n h1 h2; exact u64_lt n) (bytesB s ++ r)
  have s3 := stepB_bytes s r 40 (by omega) (by omega)
  have he := stepV_eq (valB k n s ++ r) false _ _ _ _ _ _ _ _ _ (by unfold valB; simpa only [List.append_assoc] using s1) (by simpa only [List.append_assoc] using s2) s3
  rw [he, if_neg (by simp; omega)]
  have hp : pickZ (u64 k) (if k = 1 then foldZ n else u64 n) = n := by
    unfold pickZ
    by_cases h : k = 1
    · subst h
      rw [if_pos (by decide), if_pos rfl, unfoldZ_foldZ]
    · rw [if_neg (by omega), if_neg h, toI_u64 n h1 h2]
  have hkk : ((u64 k : Nat) : Int) = k := by omega
  rw [hp, hkk, if_pos hm]
end PM
end Go.Proofs.YtnpbfjkfbobgaaaGreat
