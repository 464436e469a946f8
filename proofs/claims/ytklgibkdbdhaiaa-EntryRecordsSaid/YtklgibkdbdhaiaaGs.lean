/-
  SLICES OF WHATEVER ONE-CELL ELEMENTS: what a slice reads as ('ES'), a row that the call itself has made ('OE'), and append, with a word on where the row lies behind. Over any program.
-/
import Derived.WalkKit
import Derived.WalkLawsBesides
import Derived.Handy
import Derived.OpenShut
import Derived.Laws.AppendOwnNone
namespace Go.Proofs.Ytklgibkdbdhaiaa
namespace PM
open Go.RowKit
set_option linter.unusedVariables false
/-- a row's block, behind a step: the old one, or one that was not there -/
def Sep (w : World) (v v' : Value) : Prop := v'.ownBlock = v.ownBlock ∨ ∀ k, v'.ownBlock = some k → w.heap.size ≤ k
/-- two rows that lie apart -/
def Apart (x y : Value) : Prop := ∀ k, x.ownBlock = some k → y.ownBlock ≠ some k
theorem Apart.symm {x y : Value} (h : Apart x y) : Apart y x := fun k h1 h2 => h k h2 h1
theorem Apart.nil (x : Value) (n c : Nat) : Apart x (.slice none n c) := fun k _ h => by simp [Value.ownBlock] at h
theorem Apart.sep {w : World} {x x' y : Value} (h : Apart x y) (hs : Sep w x x') (hy : ∀ k, y.ownBlock = some k → k < w.heap.size) : Apart x' y := by
  intro k hk hk'
  rcases hs with e | e
  · exact h k (e ▸ hk) hk'
  · have := e k hk; have := hy k hk'; omega

section
variable {P : Program} {w : World}
theorem run_append_sep (base : Nat) (t ty e : TypeId) (i : TypeInfo) (z : Value) (size bytes : Nat) (ht : P.underlying t = some (.slice e)) (hi : P.info? e = some i) (hz : i.zero = some z)
    (hsize : i.size = size) (hby : i.bytes = bytes) (hzs : z.cells.size = size) (hsz : 0 < size)
    (v : Value) (n : Nat) (xs : List Value) (hown : w.ownsRow base e size v n xs)
    (a : Addr) (m c : Nat) (news : List Value) (hl : news.length = m * size) (hnews : ∀ j u, news[j]? = some u → w.cell? (a.add j) = some u) (h1 : ∀ u ∈ news, u.oneCell' = true)
    (h63 : n + m ≤ maxLen) (hbytes : (n + m) * bytes ≤ 140737488355328) (hbase : base ≤ w.heap.size) :
    ∃ v' w', (Builtin.append_ #[t, t] ty #[v, .slice (some a) m c]).run P w = .ok v' w' ∧ w'.ownsRow base e size v' (n + m) (xs ++ news) ∧ w.grownBy w' v.ownBlock ∧ Sep w v v' := by
  obtain ⟨v', w', hr, h2, h3, _⟩ := run_append_own (P := P) w base t ty e i z size bytes ht hi hz hsize hby hzs hsz v n xs hown a m c news hl hnews h1 h63 hbytes hbase
  refine ⟨v', w', hr, h2, h3, ?_⟩
  rcases hown.2 with ⟨rfl, rfl⟩ | ⟨g, cap, cur, rfl, hbg, hg, hnc, hcm, hcs, htake⟩
  · have hx : xs = [] := List.eq_nil_of_length_eq_zero (by simpa using hown.1)
    subst hx
    obtain ⟨v2, w2, hr2, g2, _⟩ := run_append_own (P := P) w w.heap.size t ty e i z size bytes ht hi hz hsize hby hzs hsz (.slice none 0 0) 0 [] (World.ownsRow_nil w _ e size) a m c news hl hnews h1 h63 hbytes (Nat.le_refl _)
    rw [hr] at hr2
    injection hr2 with e1 e2
    subst e1
    exact .inr fun k hk => (World.ownsRow.lt g2 k hk).1
  · subst hsize
    subst hby
    by_cases hroom : n + m ≤ cap
    · have hfit : n * i.size + news.length ≤ cur.size := by rw [hl, hcs, ← Nat.add_mul]; exact Nat.mul_le_mul_right _ hroom
      have hr2 := run_append_room (P := P) w t ty e i ht hi g n cap cur hg a m c news hl hnews h1 hroom hfit
      rw [hr] at hr2
      injection hr2 with e1 e2
      subst e1
      exact .inl rfl
    · have holds : ∀ j u, xs[j]? = some u → w.cell? ((⟨g, 0, none⟩ : Addr).add j) = some u := hown.cells (g := g) rfl
      have h63' := h63
      simp only [maxLen] at h63'
      have hr2 := run_append_grow (P := P) w t ty e i z ht hi hz ⟨g, 0, none⟩ n cap xs hown.1 holds a m c news hl hnews (by omega) (by omega) (growslice_fits (by omega) hbytes)
      rw [hr] at hr2
      injection hr2 with e1 e2
      subst e1
      refine .inr fun k hk => ?_
      simp [Value.ownBlock] at hk
      omega
theorem wpList_append_sep {ops : Array Oper} {rest : List Oper} {o : Oper} {a : Act} {Q : Exit → Act → World → Prop} (hgd : o.guard = none) (s x : Operand) (t : TypeId)
    (ho : o.op = .call { callee := .builtin .append, args := #[s, x], argTypes := #[t, t] })
    (base : Nat) (e : TypeId) (i : TypeInfo) (z : Value) (size bytes : Nat) (ht : P.underlying t = some (.slice e)) (hi : P.info? e = some i) (hz : i.zero = some z)
    (hsize : i.size = size) (hby : i.bytes = bytes) (hzs : z.cells.size = size) (hsz : 0 < size)
    (v : Value) (n : Nat) (xs : List Value) (hs : a.eval s = v) (hown : w.ownsRow base e size v n xs)
    (ad : Addr) (m c : Nat) (news : List Value) (hx : a.eval x = .slice (some ad) m c) (hl : news.length = m * size) (hnews : ∀ j u, news[j]? = some u → w.cell? (ad.add j) = some u) (h1 : ∀ u ∈ news, u.oneCell' = true)
    (h63 : n + m ≤ maxLen) (hbytes : (n + m) * bytes ≤ 140737488355328) (hbase : base ≤ w.heap.size)
    (h : ∀ v' w', w'.ownsRow base e size v' (n + m) (xs ++ news) → w.grownBy w' v.ownBlock → Sep w v v' → wpList P ops Q rest (a.put o.dst v') w') : wpList P ops Q (o :: rest) a w := by
  refine wpList_plain hgd fun K hK => ?_
  obtain ⟨v', w', hr, h2, h3, h4⟩ := run_append_sep (P := P) (w := w) base t o.type e i z size bytes ht hi hz hsize hby hzs hsz v n xs hown ad m c news hl hnews h1 h63 hbytes hbase
  unfold Oper.wp execOp
  simp only [ho, resolve, invoke, builtin, Sem.run_bind, Sem.run_pure, Result.andThen_ok, List.map_toArray, List.map_cons, List.map_nil, hs, hx, hr]
  exact hK _ _ (h v' w' h2 h3 h4)
end

/-- what a slice of one-cell elements reads as -/
def ES {α : Type} (e : α → Value) (w : World) (v : Value) (l : List α) : Prop :=
  (v = .slice none 0 0 ∧ l = []) ∨
  (∃ b off cap, v = .slice (some ⟨b, off, none⟩) l.length cap ∧ l.length ≤ cap ∧ cap ≤ maxLen ∧ ∀ i x, l[i]? = some x → w.cell? ⟨b, off + i, none⟩ = some (e x)) ∨
  (∃ x cap, v = .slice (some x) 0 cap ∧ l = [] ∧ cap ≤ maxLen)
section
variable {α : Type} {e : α → Value}
theorem ES.keep {W w : World} {v : Value} {l : List α} (hb : Below W.heap.size W w) (h : ES e W v l) : ES e w v l := by
  rcases h with h | ⟨b, off, cap, rfl, h1, h2, h3⟩ | h
  · exact .inl h
  · refine .inr (.inl ⟨b, off, cap, rfl, h1, h2, fun i x hi => ?_⟩)
    have hc := h3 i x hi
    rw [hb.cell (World.block_lt_of_cell? W _ hc)]
    exact hc
  · exact .inr (.inr h)
theorem ES.nil (w : World) : ES e w (.slice none 0 0) [] := .inl ⟨rfl, rfl⟩
theorem ES.len {w : World} {v : Value} {l : List α} (h : ES e w v l) : ∃ a cap, v = .slice a l.length cap := by
  rcases h with ⟨rfl, rfl⟩ | ⟨b, off, cap, rfl, _⟩ | ⟨x, cap, rfl, rfl, _⟩
  · exact ⟨_, _, rfl⟩
  · exact ⟨_, _, rfl⟩
  · exact ⟨_, _, rfl⟩
theorem ES.bound {w : World} {v : Value} {l : List α} (h : ES e w v l) : l.length ≤ maxLen := by
  rcases h with ⟨rfl, rfl⟩ | ⟨b, off, cap, rfl, h1, h2, _⟩ | ⟨x, cap, rfl, rfl, _⟩
  · simp
  · exact Nat.le_trans h1 h2
  · simp
/-- a slice with an element: where it lies -/
theorem ES.open1 {w : World} {v : Value} {l : List α} (h : ES e w v l) (hl : 0 < l.length) : ∃ b off cap, v = .slice (some ⟨b, off, none⟩) l.length cap ∧ l.length ≤ cap ∧ cap ≤ maxLen ∧ ∀ i x, l[i]? = some x → w.cell? ⟨b, off + i, none⟩ = some (e x) := by
  rcases h with ⟨rfl, rfl⟩ | h | ⟨x, cap, rfl, rfl, _⟩
  · simp at hl
  · exact h
  · simp at hl
theorem ES.lit (W : World) (E : TypeId) (l : List α) (hl : l.length ≤ maxLen) : ES e (W.alloc (.cells (l.map e).toArray E)) (.slice (Option.some ⟨W.heap.size, 0, Option.none⟩) l.length l.length) l := by
  refine .inr (.inl ⟨W.heap.size, 0, l.length, rfl, Nat.le_refl _, hl, fun i x hi => ?_⟩)
  rw [Nat.zero_add, World.cell?_alloc_new]
  simp [hi]
/-- a row that the call itself has made: from block number B on -/
def OE (e : α → Value) (E : TypeId) (B : Nat) (w : World) (v : Value) (l : List α) : Prop := w.ownsRow B E 1 v l.length (l.map e)
variable {E : TypeId} {B : Nat}
theorem OE.es {w : World} {v : Value} {l : List α} (h : OE e E B w v l) : ES e w v l := by
  rcases h.2 with ⟨rfl, h0⟩ | ⟨g, cap, cur, rfl, hB, hg, hn, hm, hs, ht⟩
  · exact .inl ⟨rfl, List.length_eq_zero_iff.1 h0⟩
  · refine .inr (.inl ⟨g, 0, cap, rfl, hn, hm, fun i x hi => ?_⟩)
    have hi' : i < l.length := (List.getElem?_eq_some_iff.1 hi).1
    have e1 : cur.toList[i]? = some (e x) := by
      have e2 : (cur.toList.take (l.length * 1))[i]? = some (e x) := by rw [ht]; simp [hi]
      rw [List.getElem?_take_of_lt (by omega)] at e2
      exact e2
    have e3 : cur[i]? = some (e x) := by simpa using e1
    rw [Nat.zero_add]
    simp only [World.cell?, hg]
    simpa using e3
theorem OE.lt {w : World} {v : Value} {l : List α} (h : OE e E B w v l) : ∀ k, v.ownBlock = some k → B ≤ k ∧ k < w.heap.size := World.ownsRow.lt h
theorem OE.keep {W w : World} {v : Value} {l : List α} (hb : Below W.heap.size W w) (h : OE e E B W v l) : OE e E B w v l := by
  refine ⟨h.1, ?_⟩
  rcases h.2 with hn | ⟨g, cap, cur, hv, hB, hg, r⟩
  · exact .inl hn
  · exact .inr ⟨g, cap, cur, hv, hB, (hb.block g (Array.getElem?_eq_some_iff.1 hg).1).trans hg, r⟩
theorem OE.nilrow (w : World) : OE e E B w (.slice none 0 0) [] := World.ownsRow_nil w B E 1
theorem OE.below {a w w' : World} {v : Value} {l : List α} (h : OE e E B w v l) (hb : Below B a w) (hg : w.grownBy w' v.ownBlock) (hB : B ≤ w.heap.size) : Below B a w' :=
  hb.grown hg hB fun k hk => (h.lt k hk).1
/-- a row stays while another one, which lies apart, is turned -/
theorem OE.kept {β : Type} {e' : β → Value} {w w' : World} {x v : Value} {l : List β} (h : OE e' E B w v l) (hg : w.grownBy w' x.ownBlock) (ha : Apart x v) : OE e' E B w' v l := by
  refine World.ownsRow.kept h hg ?_
  by_cases hn : v.ownBlock = none
  · exact .inl hn
  · right
    intro he
    obtain ⟨k, hk⟩ := Option.ne_none_iff_exists'.1 hn
    exact ha k (he ▸ hk) hk
theorem ES.kept {w w' : World} {v : Value} {row : Option Nat} {l : List α} (h : ES e w v l) (hg : w.grownBy w' row) (hr : ∀ b off n cap, v = .slice (some ⟨b, off, none⟩) n cap → row ≠ some b) : ES e w' v l := by
  rcases h with h | ⟨b, off, cap, rfl, h1, h2, h3⟩ | h
  · exact .inl h
  · refine .inr (.inl ⟨b, off, cap, rfl, h1, h2, fun i x hi => ?_⟩)
    exact hg.cell (h3 i x hi) (fun he => hr b off _ cap rfl he.symm)
  · exact .inr (.inr h)
/-- the type facts of a slice of one-cell elements -/
structure ElTy (P : Program) (T E : TypeId) (nb : Nat) : Prop where
  sl : P.underlying T = some (.slice E)
  row : ∃ i z, P.info? E = some i ∧ i.zero = some z ∧ i.size = 1 ∧ i.bytes = nb ∧ z.cells.size = 1
section
variable {P : Program} {w : World} {ops : Array Oper} {rest : List Oper} {o : Oper} {a : Act} {Q : Exit → Act → World → Prop}
/-- append onto a row of the call's own -/
theorem wpList_es {T : TypeId} {nb : Nat} (ET : ElTy P T E nb) (B : Nat) (hgd : o.guard = none) (s x : Operand)
    (ho : o.op = .call { callee := .builtin .append, args := #[s, x], argTypes := #[T, T] })
    (v xv : Value) (l m : List α) (h1 : ∀ u ∈ m, (e u).oneCell' = true) (hs : a.eval s = v) (hx : a.eval x = xv) (hown : OE e E B w v l) (hsrc : ES e w xv m) (hn : (l.length + m.length) * nb ≤ 140737488355328) (hn2 : l.length + m.length ≤ maxLen) (hB : B ≤ w.heap.size)
    (h : ∀ v' w', OE e E B w' v' (l ++ m) → Below B w w' → w.grownBy w' v.ownBlock → Sep w v v' → wpList P ops Q rest (a.put o.dst v') w') : wpList P ops Q (o :: rest) a w := by
  obtain ⟨i, z, hi, hz, hsz, hby, hzs⟩ := ET.row
  rcases hsrc with ⟨rfl, rfl⟩ | ⟨b, off, cap, rfl, h1', h2, h3⟩ | ⟨x0, cap, rfl, rfl, _⟩
  · refine wpList_append_own_none hgd s x T ho B E i 1 ET.sl hi v l.length (l.map e) hs hown hx ?_
    exact h v w (by simpa using hown) (Below.refl _ _) ⟨rfl, rfl, rfl, Nat.le_refl _, fun _ _ _ => rfl⟩ (.inl rfl)
  · refine wpList_append_sep hgd s x T ho B E i z 1 nb ET.sl hi hz hsz hby hzs (by decide) v l.length (l.map e) hs hown ⟨b, off, none⟩ m.length cap (m.map e) hx (by simp) ?_ ?_ hn2 hn hB ?_
    · intro j u hu
      rw [List.getElem?_map] at hu
      obtain ⟨y, hy, rfl⟩ := Option.map_eq_some_iff.1 hu
      have := h3 j y hy
      have ea : (⟨b, off, none⟩ : Addr).add j = ⟨b, off + j, none⟩ := by unfold Addr.add; split <;> simp_all
      rw [ea]; exact this
    · intro u hu
      obtain ⟨y, hy, rfl⟩ := List.mem_map.1 hu
      exact h1 y hy
    · intro v' w' hown' hgr hsp
      exact h v' w' (by simpa [OE] using hown') (hown.below (Below.refl _ _) hgr hB) hgr hsp
  · refine wpList_append_sep hgd s x T ho B E i z 1 nb ET.sl hi hz hsz hby hzs (by decide) v l.length (l.map e) hs hown x0 0 cap [] hx (by simp) (by simp) (by simp) (by simpa using hn2) (by simpa using hn) hB ?_
    intro v' w' hown' hgr hsp
    exact h v' w' (by simpa [OE] using hown') (hown.below (Below.refl _ _) hgr hB) hgr hsp
/-- append of one element, out of a new block -/
theorem wpList_es1 {T : TypeId} {nb : Nat} (ET : ElTy P T E nb) (B : Nat) (W : World) (hgd : o.guard = none) (s x : Operand)
    (ho : o.op = .call { callee := .builtin .append, args := #[s, x], argTypes := #[T, T] })
    (v : Value) (l : List α) (c : α) (ev : Value) (h1 : (e c).oneCell' = true) (hs : a.eval s = v) (hx : a.eval x = .slice (Option.some ⟨W.heap.size, 0, Option.none⟩) 1 1) (hw : w = W.alloc (.cells #[ev] E)) (hc : ev = e c)
    (hown : OE e E B W v l) (hn : (l.length + 1) * nb ≤ 140737488355328) (hn2 : l.length + 1 ≤ maxLen) (hB : B ≤ W.heap.size)
    (h : ∀ v' w', OE e E B w' v' (l ++ [c]) → Below B W w' → W.grownBy w' v.ownBlock → Sep W v v' → wpList P ops Q rest (a.put o.dst v') w') : wpList P ops Q (o :: rest) a w := by
  subst hc
  subst hw
  have hb0 : Below W.heap.size W (W.alloc (.cells #[e c] E)) := (Below.refl _ _).alloc (Nat.le_refl _) _
  refine wpList_es (w := W.alloc (.cells #[e c] E)) ET B hgd s x ho v _ l [c] (by simpa using h1) hs hx (hown.keep hb0) ?_ (by simpa using hn) (by simpa using hn2) (Nat.le_trans hB hb0.size) fun v' w' h1 h2 h3 h4 => ?_
  · have := ES.lit (e := e) W E [c] (by simp only [maxLen]; simp)
    simpa using this
  · refine h v' w' h1 ((hb0.mono hB).trans h2) ⟨h3.os, h3.tape, h3.output, Nat.le_trans (by simp) h3.size, fun k hk hne => ?_⟩ ?_
    · rw [h3.block k (by simp; omega) hne]
      exact Below.heap_alloc W _ k hk
    · rcases h4 with h4 | h4
      · exact .inl h4
      · exact .inr fun k hk => by have := h4 k hk; simp at this; omega
end
end
theorem ret_i {k : IntKind} {a b : Int} (h : a = b) : Ending.returned (.int k a) = .returned (.int k b) := by rw [h]
theorem ret_b {a b : Bool} (h : a = b) : Ending.returned (.bool a) = .returned (.bool b) := by rw [h]
theorem hid {p : Prop} (h : p) : Hid p := h
theorem cellA {wa W : World} {p : Addr} {v : Value} (hB : Below wa.heap.size wa W) (h : wa.cell? p = some v) : W.cell? p = some v := by
  rw [hB.cell (World.block_lt_of_cell? wa _ h)]; exact h
theorem cellK {B : Nat} {wa W : World} {p : Addr} {v : Value} (hB : Below B wa W) (h : wa.cell? p = some v) (hp : p.block < B := by exact World.block_lt_of_cell? _ _ ‹_›) : W.cell? p = some v := by
  rw [hB.cell hp]; exact h
/-- a row of numbers -/
abbrev iv : Int → Value := Value.int .i64
/-- the numbers of a slice that came in -/
theorem ES.of_ints {w : World} {x : Addr} {len cap : Nat} {zs : List Int} (hl : len ≤ cap) (hm : cap ≤ maxLen) (hz : zs.length = cap)
    (hc : ∀ i, i < zs.length → w.cell? (x.add i) = some (.int .i64 (zs.getD i 0))) : ∃ l, ES iv w (.slice (some x) len cap) l ∧ l.length = len := by
  refine ⟨zs.take len, ?_, by simp; omega⟩
  have hlen : (zs.take len).length = len := by simp; omega
  by_cases h0 : len = 0
  · subst h0
    exact .inr (.inr ⟨x, cap, rfl, by simp, hm⟩)
  · obtain ⟨b, off, spot⟩ := x
    have hc0 := hc 0 (by omega)
    have hspot : spot = none := by simpa [Addr.add] using World.cell?_spot hc0
    subst hspot
    refine .inr (.inl ⟨b, off, cap, by rw [hlen], by rw [hlen]; exact hl, hm, fun i y hi => ?_⟩)
    have hi' : i < len := by have := (List.getElem?_eq_some_iff.1 hi).1; rwa [hlen] at this
    have hci := hc i (by omega)
    have ea : (⟨b, off, none⟩ : Addr).add i = ⟨b, off + i, none⟩ := by unfold Addr.add; split <;> simp_all
    rw [ea] at hci
    rw [hci, List.getD_eq_getElem?_getD]
    rw [List.getElem?_take_of_lt hi'] at hi
    rw [hi]
    rfl
theorem ES.cells {w : World} {v : Value} {l : List Int} (h : ES iv w v l) : (∃ a cap, v = .slice a 0 cap ∧ l = []) ∨
    (∃ b off cap, v = .slice (some ⟨b, off, none⟩) l.length cap ∧ 0 < l.length ∧ l.length ≤ cap ∧ cap ≤ maxLen ∧ ∀ i : Nat, i < l.length → w.cell? ⟨b, off + i, none⟩ = some (.int .i64 (l.getD i 0))) := by
  by_cases h0 : 0 < l.length
  · obtain ⟨b, off, cap, e, h1, h2, h3⟩ := h.open1 h0
    refine .inr ⟨b, off, cap, e, h0, h1, h2, fun i hi => ?_⟩
    rw [h3 i l[i] (List.getElem?_eq_getElem hi), List.getD_eq_getElem?_getD, List.getElem?_eq_getElem hi]
    rfl
  · have : l = [] := List.length_eq_zero_iff.1 (by omega)
    subst this
    obtain ⟨a, cap, e⟩ := h.len
    exact .inl ⟨a, cap, e, rfl⟩
theorem OE.set {α : Type} {e : α → Value} {E : TypeId} {B : Nat} {w : World} {g n cap i : Nat} {l : List α} (h : OE e E B w (.slice (some ⟨g, 0, none⟩) n cap) l) (hi : i < l.length) (x : α) :
    OE e E B (w.setCell ⟨g, i, none⟩ (e x)) (.slice (some ⟨g, 0, none⟩) n cap) (l.set i x) := by
  rcases h.2 with ⟨hc, _⟩ | ⟨g', cap', cur, hv, hB, hg, hcap, hm, hs, ht⟩
  · cases hc
  · simp at hv
    obtain ⟨rfl, rfl, rfl⟩ := hv
    refine ⟨by simp, .inr ⟨g, cap, cur.setIfInBounds i (e x), by simp, hB, ?_, by simpa using hcap, hm, by simpa using hs, ?_⟩⟩
    · have hlt := (Array.getElem?_eq_some_iff.1 hg).1
      show (w.heap.modify g _)[g]? = _
      rw [Array.getElem?_modify, if_pos rfl, hg]
      rfl
    · rw [Array.toList_setIfInBounds, List.take_set, List.length_set, ht, List.map_set]
theorem OE.cellAt {α : Type} {e : α → Value} {E : TypeId} {B : Nat} {w : World} {g n cap i : Nat} {l : List α} (h : OE e E B w (.slice (some ⟨g, 0, none⟩) n cap) l) (x : α) (hi : l[i]? = some x) :
    w.cell? ⟨g, i, none⟩ = some (e x) ∧ w.frozen? ⟨g, i, none⟩ = false := by
  rcases h.2 with ⟨hc, _⟩ | ⟨g', cap', cur, hv, hB, hg, hcap, hm, hs, ht⟩
  · cases hc
  · simp at hv
    obtain ⟨rfl, rfl, rfl⟩ := hv
    have hil : i < l.length := (List.getElem?_eq_some_iff.1 hi).1
    have e1 : cur.toList[i]? = some (e x) := by
      have e2 : (cur.toList.take (l.length * 1))[i]? = some (e x) := by rw [ht]; simp [hi]
      rw [List.getElem?_take_of_lt (by omega)] at e2
      exact e2
    have e3 : cur[i]? = some (e x) := by simpa using e1
    constructor
    · simp only [World.cell?, hg]; simpa using e3
    · simp [World.frozen?, hg]
end PM
end Go.Proofs.Ytklgibkdbdhaiaa
