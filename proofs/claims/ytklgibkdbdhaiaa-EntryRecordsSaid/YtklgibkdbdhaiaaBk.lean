/-
  BYTES IN MEMORY: what a slice of bytes reads as ('BS'), a slice that the call itself has made ('OW'), and the laws of append, make, and the conversions, in these words. Over any program.
-/
import Derived.WalkKit
import Derived.WalkLawsBesides
import Derived.Handy
import Derived.OpenShut
import Derived.Lib.Strings
import Derived.Laws.BytesArg
import Derived.Laws.AppendOwnNone
namespace Go.Proofs.Ytklgibkdbdhaiaa
namespace PM
open Go.RowKit

/-- a byte, as a cell holds it -/
def bv (b : UInt8) : Value := .int .u8 (b.toNat : Int)
/-- the type facts of a slice of bytes -/
structure ByteTy (P : Program) (T E : TypeId) : Prop where
  sl : P.underlying T = some (.slice E)
  el : P.underlying E = some (.int .u8)
  row : ∃ i z, P.info? E = some i ∧ i.zero = some z ∧ i.size = 1 ∧ i.bytes = 1 ∧ z.cells.size = 1

/-- the bytes that a slice reads as -/
def BS (w : World) (v : Value) (l : List UInt8) : Prop :=
  (v = .slice none 0 0 ∧ l = []) ∨
  (∃ b off cap, v = .slice (some ⟨b, off, none⟩) l.length cap ∧ l.length ≤ cap ∧ cap ≤ maxLen ∧ ∀ i x, l[i]? = some x → w.cell? ⟨b, off + i, none⟩ = some (bv x)) ∨
  (∃ x cap, v = .slice (some x) 0 cap ∧ l = [] ∧ cap ≤ maxLen)

theorem BS.keep {W w : World} {v : Value} {l : List UInt8} (hb : Below W.heap.size W w) (h : BS W v l) : BS w v l := by
  rcases h with h | ⟨b, off, cap, rfl, h1, h2, h3⟩ | h
  · exact .inl h
  · refine .inr (.inl ⟨b, off, cap, rfl, h1, h2, fun i x hi => ?_⟩)
    have hc := h3 i x hi
    rw [hb.cell (World.block_lt_of_cell? W _ hc)]
    exact hc
  · exact .inr (.inr h)
/-- the bytes of a slice that came in -/
theorem BS.of_ints {w : World} {x : Addr} {len cap : Nat} {zs : List Int} (hl : len ≤ cap) (hm : cap ≤ maxLen) (hz : zs.length = cap)
    (hc : ∀ i, i < zs.length → w.cell? (x.add i) = some (.int .u8 (zs.getD i 0))) (hw : ∀ n ∈ zs, (Lit.int .u8 n).wf = true) :
    ∃ l, BS w (.slice (some x) len cap) l ∧ l.length = len := by
  refine ⟨(zs.take len).map fun n => UInt8.ofNat n.toNat, ?_, by simp; omega⟩
  have hlen : ((zs.take len).map fun n => UInt8.ofNat n.toNat).length = len := by simp; omega
  by_cases h0 : len = 0
  · subst h0
    exact .inr (.inr ⟨x, cap, rfl, by simp, hm⟩)
  · obtain ⟨b, off, spot⟩ := x
    have hc0 := hc 0 (by omega)
    have hspot : spot = none := by simpa [Addr.add] using World.cell?_spot hc0
    subst hspot
    refine .inr (.inl ⟨b, off, cap, by rw [hlen], by rw [hlen]; exact hl, hm, fun i y hi => ?_⟩)
    have hi' : i < len := by have := (List.getElem?_eq_some_iff.1 hi).1; rwa [hlen] at this
    have hci := hc i (by omega)
    have ea : (⟨b, off, none⟩ : Addr).add i = ⟨b, off + i, none⟩ := by unfold Addr.add; split <;> simp_all
    rw [ea] at hci
    rw [hci]
    have hiz : i < zs.length := by omega
    have hb := Go.bounds_u8 (hw zs[i] (List.getElem_mem hiz))
    have hy : UInt8.ofNat (zs[i]).toNat = y := by
      rw [List.getElem?_map, List.getElem?_take_of_lt hi', List.getElem?_eq_getElem hiz] at hi
      simpa using hi
    rw [List.getD_eq_getElem?_getD, List.getElem?_eq_getElem hiz, Option.getD_some, ← hy]
    unfold bv
    congr 2
    simp
    omega
theorem BS.nil (w : World) : BS w (.slice none 0 0) [] := .inl ⟨rfl, rfl⟩
theorem BS.cut {w : World} {b off cap k : Nat} {l : List UInt8} (h1 : l.length ≤ cap) (h2 : cap ≤ maxLen) (h3 : ∀ i x, l[i]? = some x → w.cell? ⟨b, off + i, none⟩ = some (bv x)) (hk : k ≤ l.length) :
    BS w (.slice (some ⟨b, off + k, none⟩) (l.length - k) (cap - k)) (l.drop k) ∧ (k = l.length → BS w (.slice (some ⟨b, off, none⟩) (l.length - k) (cap - k)) (l.drop k)) := by
  constructor
  · refine .inr (.inl ⟨b, off + k, cap - k, by rw [List.length_drop], by rw [List.length_drop]; omega, by omega, fun i x hi => ?_⟩)
    rw [List.getElem?_drop] at hi
    rw [Nat.add_assoc]
    exact h3 _ _ hi
  · intro e
    refine .inr (.inl ⟨b, off, cap - k, by rw [List.length_drop], by rw [List.length_drop]; omega, by omega, fun i x hi => ?_⟩)
    rw [List.getElem?_drop] at hi
    have := (List.getElem?_eq_some_iff.1 hi).1
    omega
theorem BS.take {w : World} {b off cap k : Nat} {l : List UInt8} (h1 : l.length ≤ cap) (h2 : cap ≤ maxLen) (h3 : ∀ i x, l[i]? = some x → w.cell? ⟨b, off + i, none⟩ = some (bv x)) (hk : k ≤ l.length) :
    BS w (.slice (some ⟨b, off, none⟩) k cap) (l.take k) := by
  refine .inr (.inl ⟨b, off, cap, by rw [List.length_take_of_le hk], by rw [List.length_take_of_le hk]; omega, h2, fun i x hi => ?_⟩)
  rw [List.getElem?_take] at hi
  split at hi
  · exact h3 _ _ hi
  · cases hi
theorem BS.len {w : World} {v : Value} {l : List UInt8} (h : BS w v l) : ∃ a cap, v = .slice a l.length cap := by
  rcases h with ⟨rfl, rfl⟩ | ⟨b, off, cap, rfl, _⟩ | ⟨x, cap, rfl, rfl, _⟩
  · exact ⟨_, _, rfl⟩
  · exact ⟨_, _, rfl⟩
  · exact ⟨_, _, rfl⟩
theorem BS.bound {w : World} {v : Value} {l : List UInt8} (h : BS w v l) : l.length ≤ maxLen := by
  rcases h with ⟨rfl, rfl⟩ | ⟨b, off, cap, rfl, h1, h2, _⟩ | ⟨x, cap, rfl, rfl, _⟩
  · simp
  · exact Nat.le_trans h1 h2
  · simp

/-- a row of bytes that the call itself has made: from block number B on -/
def OW (E : TypeId) (B : Nat) (w : World) (v : Value) (l : List UInt8) : Prop := w.ownsRow B E 1 v l.length (l.map bv)

theorem OW.bs {E : TypeId} {B : Nat} {w : World} {v : Value} {l : List UInt8} (h : OW E B w v l) : BS w v l := by
  rcases h.2 with ⟨rfl, h0⟩ | ⟨g, cap, cur, rfl, hB, hg, hn, hm, hs, ht⟩
  · exact .inl ⟨rfl, List.length_eq_zero_iff.1 h0⟩
  · refine .inr (.inl ⟨g, 0, cap, rfl, hn, hm, fun i x hi => ?_⟩)
    have hi' : i < l.length := (List.getElem?_eq_some_iff.1 hi).1
    have e1 : cur.toList[i]? = some (bv x) := by
      have e2 : (cur.toList.take (l.length * 1))[i]? = some (bv x) := by rw [ht]; simp [hi]
      rw [List.getElem?_take_of_lt (by omega)] at e2
      exact e2
    have e3 : cur[i]? = some (bv x) := by simpa using e1
    rw [Nat.zero_add]
    simp only [World.cell?, hg]
    simpa using e3
theorem OW.lt {E : TypeId} {B : Nat} {w : World} {v : Value} {l : List UInt8} (h : OW E B w v l) : ∀ k, v.ownBlock = some k → B ≤ k ∧ k < w.heap.size := World.ownsRow.lt h
theorem OW.mono {E : TypeId} {B B' : Nat} {w : World} {v : Value} {l : List UInt8} (h : OW E B w v l) (hB : B' ≤ B) : OW E B' w v l := by
  refine ⟨h.1, ?_⟩
  rcases h.2 with hn | ⟨g, cap, cur, hv, hb, r⟩
  · exact .inl hn
  · exact .inr ⟨g, cap, cur, hv, Nat.le_trans hB hb, r⟩
theorem OW.keep {E : TypeId} {B : Nat} {W w : World} {v : Value} {l : List UInt8} (hb : Below W.heap.size W w) (h : OW E B W v l) : OW E B w v l := by
  refine ⟨h.1, ?_⟩
  rcases h.2 with hn | ⟨g, cap, cur, hv, hB, hg, r⟩
  · exact .inl hn
  · exact .inr ⟨g, cap, cur, hv, hB, (hb.block g (Array.getElem?_eq_some_iff.1 hg).1).trans hg, r⟩
theorem OW.nilrow (E : TypeId) (B : Nat) (w : World) : OW E B w (.slice none 0 0) [] := World.ownsRow_nil w B E 1
theorem OW.form {E : TypeId} {B : Nat} {w : World} {v : Value} {l : List UInt8} (h : OW E B w v l) (hl : l ≠ []) : ∃ g cap, v = .slice (some ⟨g, 0, none⟩) l.length cap ∧ B ≤ g := by
  rcases h.2 with ⟨rfl, h0⟩ | ⟨g, cap, cur, rfl, hB, _⟩
  · exact absurd (List.length_eq_zero_iff.1 h0) hl
  · exact ⟨g, cap, rfl, hB⟩
/-- what a law leaves: the slice's own block alone may have been written -/
theorem OW.below {E : TypeId} {B : Nat} {a w w' : World} {v : Value} {l : List UInt8} (h : OW E B w v l) (hb : Below B a w) (hg : w.grownBy w' v.ownBlock) (hB : B ≤ w.heap.size) : Below B a w' :=
  hb.grown hg hB fun k hk => (h.lt k hk).1

section
variable {P : Program} {w : World} {ops : Array Oper} {rest : List Oper} {o : Oper} {a : Act} {Q : Exit → Act → World → Prop}

/-- append onto a row of the call's own, of bytes that are read -/
theorem wpList_app {T E : TypeId} (BT : ByteTy P T E) (B : Nat) (hgd : o.guard = none) (s x : Operand)
    (ho : o.op = .call { callee := .builtin .append, args := #[s, x], argTypes := #[T, T] })
    (v xv : Value) (l m : List UInt8) (hs : a.eval s = v) (hx : a.eval x = xv) (hown : OW E B w v l) (hsrc : BS w xv m) (hn : l.length + m.length ≤ 140737488355328) (hB : B ≤ w.heap.size)
    (h : ∀ v' w', OW E B w' v' (l ++ m) → Below B w w' → w.grownBy w' v.ownBlock → wpList P ops Q rest (a.put o.dst v') w') : wpList P ops Q (o :: rest) a w := by
  obtain ⟨i, z, hi, hz, hsz, hby, hzs⟩ := BT.row
  rcases hsrc with ⟨rfl, rfl⟩ | ⟨b, off, cap, rfl, h1, h2, h3⟩ | ⟨x0, cap, rfl, rfl, _⟩
  · refine wpList_append_own_none hgd s x T ho B E i 1 BT.sl hi v l.length (l.map bv) hs hown hx ?_
    have h' := h v w (by simpa using hown) (Below.refl _ _) ⟨rfl, rfl, rfl, Nat.le_refl _, fun _ _ _ => rfl⟩
    exact h'
  · refine wpList_append_own w hgd s x T ho B E i z 1 1 BT.sl hi hz hsz hby hzs (by decide) v l.length (l.map bv) hs hown ⟨b, off, none⟩ m.length cap (m.map bv) hx (by simp) ?_ ?_ (by unfold maxLen; omega) (by omega) hB ?_
    · intro j u hu
      rw [List.getElem?_map] at hu
      obtain ⟨y, hy, rfl⟩ := Option.map_eq_some_iff.1 hu
      have := h3 j y hy
      have ea : (⟨b, off, none⟩ : Addr).add j = ⟨b, off + j, none⟩ := by unfold Addr.add; split <;> simp_all
      rw [ea]; exact this
    · intro u hu
      obtain ⟨y, _, rfl⟩ := List.mem_map.1 hu
      rfl
    · intro v' w' hown' hgr _
      exact h v' w' (by simpa [OW] using hown') (hown.below (Below.refl _ _) hgr hB) hgr
  · refine wpList_append_own w hgd s x T ho B E i z 1 1 BT.sl hi hz hsz hby hzs (by decide) v l.length (l.map bv) hs hown x0 0 cap [] hx (by simp) (by simp) (by simp) (by unfold maxLen; simp at hn; omega) (by simp at hn; omega) hB ?_
    intro v' w' hown' hgr _
    exact h v' w' (by simpa [OW] using hown') (hown.below (Below.refl _ _) hgr hB) hgr

theorem BS.one (W : World) (E : TypeId) (b : UInt8) : BS (W.alloc (.cells #[.int .u8 (b.toNat : Int)] E)) (.slice (Option.some ⟨W.heap.size, 0, Option.none⟩) 1 1) [b] := by
  refine .inr (.inl ⟨W.heap.size, 0, 1, rfl, by simp, by unfold maxLen; omega, fun i x hi => ?_⟩)
  have h0 : i = 0 := by have := (List.getElem?_eq_some_iff.1 hi).1; simp at this; omega
  subst h0
  simp at hi
  subst hi
  simp [bv]
theorem BS.lit (W : World) (E : TypeId) (l : List UInt8) (hl : l.length ≤ maxLen) : BS (W.alloc (.cells (l.map bv).toArray E)) (.slice (Option.some ⟨W.heap.size, 0, Option.none⟩) l.length l.length) l := by
  refine .inr (.inl ⟨W.heap.size, 0, l.length, rfl, Nat.le_refl _, hl, fun i x hi => ?_⟩)
  rw [Nat.zero_add, World.cell?_alloc_new]
  simp [hi]
/-- append of one byte onto a row of the call's own -/
theorem wpList_app1 {T E : TypeId} (BT : ByteTy P T E) (B : Nat) (W : World) (hgd : o.guard = none) (s x : Operand)
    (ho : o.op = .call { callee := .builtin .append, args := #[s, x], argTypes := #[T, T] })
    (v : Value) (l : List UInt8) (c : Int) (b : UInt8) (hs : a.eval s = v) (hx : a.eval x = .slice (Option.some ⟨W.heap.size, 0, Option.none⟩) 1 1) (hw : w = W.alloc (.cells #[.int .u8 c] E)) (hc : c = (b.toNat : Int))
    (hown : OW E B W v l) (hn : l.length + 1 ≤ 140737488355328) (hB : B ≤ W.heap.size)
    (h : ∀ v' w', OW E B w' v' (l ++ [b]) → Below B W w' → wpList P ops Q rest (a.put o.dst v') w') : wpList P ops Q (o :: rest) a w := by
  subst hc
  subst hw
  have hb0 : Below W.heap.size W (W.alloc (.cells #[.int .u8 (b.toNat : Int)] E)) := (Below.refl _ _).alloc (Nat.le_refl _) _
  refine wpList_app BT B hgd s x ho v _ l [b] hs hx (hown.keep hb0) (BS.one W E b) (by simpa using hn) (Nat.le_trans hB hb0.size) fun v' w' h1 h2 _ => h v' w' h1 ((hb0.mono hB).trans h2)

/-- a new row with room for n bytes, none of them there yet -/
theorem wpList_mk0 {T E : TypeId} (BT : ByteTy P T E) (B : Nat) (hgd : o.guard = none) (l c : Operand) (hop : o.op = Op.makeSlice T l c)
    (kl kc : IntKind) (C : Int) (n : Nat) (hl : a.eval l = .int kl 0) (hc : a.eval c = .int kc C) (hC : C = (n : Int)) (hn : n ≤ 140737488355328) (hB : B ≤ w.heap.size)
    (h : ∀ v' w', OW E B w' v' [] → Below B w w' → w.grownBy w' none → wpList P ops Q rest (a.put o.dst v') w') : wpList P ops Q (o :: rest) a w := by
  obtain ⟨i, z, hi, hz, hsz, hby, hzs⟩ := BT.row
  refine wpList_make_own w hgd l c T hop B E i z 1 BT.sl hi hz hsz kl kc C n hl hc hC (by rw [hby]; omega) (by unfold maxLen; omega) hB ?_
  intro w' h1 h2
  exact h _ w' h1 ((Below.refl _ _).grown h2 hB (by simp)) h2

/-- a text's bytes, in new memory -/
theorem wpList_tobytes {S T E : TypeId} (BT : ByteTy P T E) (hS : P.underlying S = some .string) (hgd : o.guard = none) (x : Operand) (hop : o.op = Op.convert S T x)
    (s : ByteArray) (hx : a.eval x = .string s) (hs : s.size ≤ 140737488355328)
    (h : ∀ v' w', BS w' v' s.data.toList → Below w.heap.size w w' → wpList P ops Q rest (a.put o.dst v') w') : wpList P ops Q (o :: rest) a w := by
  refine wpList_plain hgd fun K hK => ?_
  have hr := run_bytes_of_string (P := P) w S T E s hS BT.sl BT.el
  have hlen : s.size = s.data.toList.length := (Array.length_toList (xs := s.data)).symm
  have hcap := grownCap_ge w s.size 0 E
  have hcap2 := grownCap_le_maxLen w s.size 0 E (by unfold maxLen; omega)
  unfold Oper.wp
  simp [execOp, hop, hx, hr, Result.andThen]
  refine hK _ _ (h _ _ (.inr (.inl ⟨w.heap.size, 0, grownCap w s.size 0 E, by rw [hlen], by omega, hcap2, fun i y hi => ?_⟩)) (((Below.refl _ _).drew).alloc (Nat.le_refl _) _))
  rw [Nat.zero_add]
  rw [show w.heap.size = w.drew.heap.size from rfl, World.cell?_alloc_mark]
  have hi' : i < s.data.size := by have := (List.getElem?_eq_some_iff.1 hi).1; simpa using this
  have hy : s.data[i]? = some y := by simpa using hi
  simp [bytesRow, Array.getElem?_append, hy, bv]
  intro hle
  have : s.size = s.data.size := rfl
  omega
end

/-- a text's bytes, in new memory: the value, and the world behind -/
def convV (E : TypeId) (w : World) (s : ByteArray) : Value := .slice (Option.some ⟨w.heap.size, 0, Option.none⟩) s.size (grownCap w s.size 0 E)
def convW (E : TypeId) (w : World) (s : ByteArray) : World := w.drew.alloc (.cells (bytesRow s (grownCap w s.size 0 E)) E ((bytesRow s (grownCap w s.size 0 E)).size, (bytesRow s (grownCap w s.size 0 E)).size + 1))
theorem run_conv {P : Program} {S T E : TypeId} (BT : ByteTy P T E) (hS : P.underlying S = some .string) (w : World) (s : ByteArray) :
    (convert S T (.string s)).run P w = .ok (convV E w s) (convW E w s) := run_bytes_of_string w S T E s hS BT.sl BT.el
theorem convW_below (E : TypeId) (w : World) (s : ByteArray) : Below w.heap.size w (convW E w s) := ((Below.refl _ _).drew).alloc (Nat.le_refl _) _
theorem convW_bs (E : TypeId) (w : World) (s : ByteArray) (hs : s.size ≤ 140737488355328) : BS (convW E w s) (convV E w s) s.data.toList := by
  have hlen : s.size = s.data.toList.length := (Array.length_toList (xs := s.data)).symm
  have hcap := grownCap_ge w s.size 0 E
  have hcap2 := grownCap_le_maxLen w s.size 0 E (by unfold maxLen; omega)
  refine .inr (.inl ⟨w.heap.size, 0, grownCap w s.size 0 E, by unfold convV; rw [hlen], by omega, hcap2, fun i y hi => ?_⟩)
  unfold convW
  rw [Nat.zero_add]
  rw [show w.heap.size = w.drew.heap.size from rfl, World.cell?_alloc_mark]
  have hi' : i < s.data.size := by have := (List.getElem?_eq_some_iff.1 hi).1; simpa using this
  have hy : s.data[i]? = some y := by simpa using hi
  simp [bytesRow, Array.getElem?_append, hy, bv]
  intro hle
  have : s.size = s.data.size := rfl
  omega

/-- a slice's bytes, as a text -/
theorem run_str {P : Program} {T E S : TypeId} (BT : ByteTy P T E) (hS : P.underlying S = some .string) {w : World} {v : Value} {l : List UInt8} (h : BS w v l) :
    (convert T S v).run P w = .ok (.string ⟨l.toArray⟩) w := by
  rcases h with ⟨rfl, rfl⟩ | ⟨b, off, cap, rfl, h1, h2, h3⟩ | ⟨x, cap, rfl, rfl, _⟩
  · exact run_convert_bytes_nil w T E BT.sl BT.el 0 0 S hS
  · refine run_convert_bytes_back w T S E ⟨b, off, none⟩ cap l BT.sl BT.el hS fun j hj => ?_
    have := h3 j l[j] (by simp [hj])
    have ea : (⟨b, off, none⟩ : Addr).add j = ⟨b, off + j, none⟩ := by unfold Addr.add; split <;> simp_all
    rw [ea]; exact this
  · exact run_convert_bytes_back w T S E x cap [] BT.sl BT.el hS (fun j hj => by simp at hj)

/-- a block of cells, whole, that may be written -/
def BK (w : World) (b : Nat) (cs : Array Value) (T : TypeId) : Prop := w.heap[b]? = Option.some (.cells cs T (0, 0))
theorem BK.lt {w : World} {b : Nat} {cs : Array Value} {T : TypeId} (h : BK w b cs T) : b < w.heap.size := (Array.getElem?_eq_some_iff.1 h).1
theorem BK.cell {w : World} {b : Nat} {cs : Array Value} {T : TypeId} (h : BK w b cs T) (i : Nat) : w.cell? ⟨b, i, Option.none⟩ = cs[i]? := by
  unfold BK at h; simp [World.cell?, h]
theorem BK.free {w : World} {b : Nat} {cs : Array Value} {T : TypeId} (h : BK w b cs T) (i : Nat) : w.frozen? ⟨b, i, Option.none⟩ = false := by
  unfold BK at h; simp [World.frozen?, h]
theorem BK.set {w : World} {b : Nat} {cs : Array Value} {T : TypeId} (h : BK w b cs T) (i : Nat) (u : Value) : BK (w.setCell ⟨b, i, Option.none⟩ u) b (cs.setIfInBounds i u) T := by
  unfold BK at *
  simp [World.setCell, Array.getElem?_modify, h]
theorem BK.keep {W w : World} {b : Nat} {cs : Array Value} {T : TypeId} (hb : Below W.heap.size W w) (h : BK W b cs T) : BK w b cs T :=
  (hb.block b h.lt).trans h
theorem BK.new (w : World) (cs : Array Value) (T : TypeId) : BK (w.alloc (.cells cs T)) w.heap.size cs T := by
  show (w.heap.push _)[w.heap.size]? = _; simp
/-- of what was there just one block may have turned -/
structure Bx (b : Nat) (w w' : World) : Prop where
  os : w'.os = w.os
  tape : w'.tape = w.tape
  output : w'.output = w.output
  size : w.heap.size ≤ w'.heap.size
  block : ∀ k, k < w.heap.size → k ≠ b → w'.heap[k]? = w.heap[k]?
theorem Bx.refl (b : Nat) (w : World) : Bx b w w := ⟨rfl, rfl, rfl, Nat.le_refl _, fun _ _ _ => rfl⟩
theorem Bx.trans {b : Nat} {x y z : World} (h : Bx b x y) (k : Bx b y z) : Bx b x z :=
  ⟨k.os.trans h.os, k.tape.trans h.tape, k.output.trans h.output, Nat.le_trans h.size k.size, fun i hi hn => (k.block i (Nat.lt_of_lt_of_le hi h.size) hn).trans (h.block i hi hn)⟩
theorem Bx.of {b : Nat} {x y : World} (h : Below x.heap.size x y) : Bx b x y := ⟨h.os, h.tape, h.output, h.size, fun k hk _ => h.block k hk⟩
theorem Bx.set (b i : Nat) (w : World) (u : Value) : Bx b w (w.setCell ⟨b, i, Option.none⟩ u) :=
  ⟨rfl, rfl, rfl, by simp [World.setCell], fun k hk hn => Below.heap_setCell _ _ _ _ hn⟩
theorem Bx.below {B b : Nat} {x y z : World} (h : Below B x y) (k : Bx b y z) (hb : B ≤ b) (hB : B ≤ y.heap.size) : Below B x z :=
  ⟨k.os.trans h.os, k.tape.trans h.tape, k.output.trans h.output, Nat.le_trans h.size k.size, fun i hi => (k.block i (Nat.lt_of_lt_of_le hi hB) (by omega)).trans (h.block i hi)⟩
theorem BK.keepx {W w : World} {b g : Nat} {cs : Array Value} {T : TypeId} (hx : Bx b W w) (hne : g ≠ b) (h : BK W g cs T) : BK w g cs T :=
  (hx.block g h.lt hne).trans h
theorem BS.keepx {W w : World} {b : Nat} {v : Value} {l : List UInt8} {cs : Array Value} {T : TypeId} (hx : Bx b W w) (hb : BK W b cs T) (hne : ∀ (i : Nat) (y : UInt8), cs[i]? ≠ Option.some (bv y)) (h : BS W v l) : BS w v l := by
  rcases h with h | ⟨g, off, cap, rfl, h1, h2, h3⟩ | h
  · exact .inl h
  · refine .inr (.inl ⟨g, off, cap, rfl, h1, h2, fun i x hi => ?_⟩)
    have hc := h3 i x hi
    have hgb : g ≠ b := fun e => by
      subst e
      rw [hb.cell] at hc
      exact hne _ _ hc
    have hlt := World.block_lt_of_cell? W _ hc
    rw [World.cell?_of_block (hx.block g hlt hgb)]
    exact hc
  · exact .inr (.inr h)
theorem OW.keepx {E : TypeId} {B b : Nat} {W w : World} {v : Value} {l : List UInt8} (hx : Bx b W w) (hb : b < B) (h : OW E B W v l) : OW E B w v l := by
  refine ⟨h.1, ?_⟩
  rcases h.2 with hn | ⟨g, cap, cur, hv, hB, hg, r⟩
  · exact .inl hn
  · exact .inr ⟨g, cap, cur, hv, hB, (hx.block g (Array.getElem?_eq_some_iff.1 hg).1 (by omega)).trans hg, r⟩
/-- a reader: its bytes that are left, and whether something was wrong -/
def RD (T : TypeId) (w : World) (b : Nat) (l : List UInt8) (wr : Bool) : Prop := ∃ v, BK w b #[v, .bool wr] T ∧ BS w v l
theorem RD.nobyte (v : Value) (w : World) (l : List UInt8) (wr : Bool) (h : BS w v l) : ∀ (i : Nat) (y : UInt8), (#[v, Value.bool wr] : Array Value)[i]? ≠ Option.some (bv y) := by
  intro i y he
  obtain ⟨a, cap, rfl⟩ := h.len
  match i with
  | 0 => simp [bv] at he
  | 1 => simp [bv] at he
  | i + 2 => simp at he
theorem RD.put {T : TypeId} {w : World} {b : Nat} {v v' : Value} {l l' : List UInt8} {wr : Bool} (hk : BK w b #[v, .bool wr] T) (hs : BS w v l) (h' : BS w v' l') : RD T (w.setCell ⟨b, 0, Option.none⟩ v') b l' wr :=
  ⟨v', by have := hk.set 0 v'; simpa using this, h'.keepx (Bx.set b 0 w v') hk (RD.nobyte _ _ _ _ hs)⟩
theorem RD.keep {T : TypeId} {W w : World} {b : Nat} {l : List UInt8} {wr : Bool} (hb : Below W.heap.size W w) (h : RD T W b l wr) : RD T w b l wr := by
  obtain ⟨v, h1, h2⟩ := h
  exact ⟨v, h1.keep hb, h2.keep hb⟩
theorem RD.lt {T : TypeId} {w : World} {b : Nat} {l : List UInt8} {wr : Bool} (h : RD T w b l wr) : b < w.heap.size := by
  obtain ⟨v, h1, _⟩ := h; exact h1.lt
/-- other bytes, and another reader, while a reader goes on -/
theorem BS.keepr {T : TypeId} {W w : World} {b : Nat} {v : Value} {l m : List UInt8} {wr : Bool} (hx : Bx b W w) (hr : RD T W b m wr) (h : BS W v l) : BS w v l := by
  obtain ⟨u, h1, h2⟩ := hr
  exact h.keepx hx h1 (RD.nobyte _ _ _ _ h2)
theorem RD.keepr {T : TypeId} {W w : World} {b c : Nat} {l m : List UInt8} {wr wr' : Bool} (hx : Bx c W w) (hne : b ≠ c) (hr : RD T W c m wr') (h : RD T W b l wr) : RD T w b l wr := by
  obtain ⟨u, h1, h2⟩ := hr
  obtain ⟨v, k1, k2⟩ := h
  exact ⟨v, k1.keepx hx hne, k2.keepx hx h1 (RD.nobyte _ _ _ _ h2)⟩
theorem RD.keepy {T U : TypeId} {W w : World} {b r : Nat} {l : List UInt8} {wr : Bool} {cs : Array Value} (hx : Bx r W w) (hne : b ≠ r) (hr : BK W r cs U) (hnb : ∀ (i : Nat) (y : UInt8), cs[i]? ≠ Option.some (bv y)) (h : RD T W b l wr) : RD T w b l wr := by
  obtain ⟨v, h1, h2⟩ := h
  exact ⟨v, h1.keepx hx hne, h2.keepx hx hr hnb⟩
theorem Bx.low {b r : Nat} {x y z : World} (h : Bx b x y) (k : Bx r y z) (hr : x.heap.size ≤ r) : Bx b x z :=
  ⟨k.os.trans h.os, k.tape.trans h.tape, k.output.trans h.output, Nat.le_trans h.size k.size, fun i hi hn => (k.block i (Nat.lt_of_lt_of_le hi h.size) (by omega)).trans (h.block i hi hn)⟩
theorem val_nobyte (k n : Int) (s : ByteArray) : ∀ (i : Nat) (y : UInt8), (#[Value.int .i64 k, Value.int .i64 n, Value.string s] : Array Value)[i]? ≠ Option.some (bv y) := by
  intro i y he
  match i with
  | 0 => simp [bv] at he
  | 1 => simp [bv] at he
  | 2 => simp [bv] at he
  | i + 3 => simp at he
theorem Bx.set3 (r : Nat) (w : World) (x y z : Value) : Bx r w (((w.setCell ⟨r, 0, Option.none⟩ x).setCell ⟨r, 1, Option.none⟩ y).setCell ⟨r, 2, Option.none⟩ z) :=
  ((Bx.set r 0 w x).trans (Bx.set r 1 _ y)).trans (Bx.set r 2 _ z)
theorem BK.set3 {w : World} {r : Nat} {a b c : Value} {T : TypeId} (h : BK w r #[a, b, c] T) (x y z : Value) : BK (((w.setCell ⟨r, 0, Option.none⟩ x).setCell ⟨r, 1, Option.none⟩ y).setCell ⟨r, 2, Option.none⟩ z) r #[x, y, z] T := by
  have := ((h.set 0 x).set 1 y).set 2 z
  simpa using this
/-- the end of a call that hands back bytes of its own -/
def RetB (E : TypeId) (B : Nat) (W : World) (l : List UInt8) (e : Ending) (w' : World) : Prop := ∃ v, e = .returned v ∧ OW E B w' v l ∧ Below W.heap.size W w'
end PM
end Go.Proofs.Ytklgibkdbdhaiaa
