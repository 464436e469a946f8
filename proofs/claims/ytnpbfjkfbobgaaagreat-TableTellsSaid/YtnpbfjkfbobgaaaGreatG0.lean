import Derived.WalkKit
import Derived.WalkLawsBesides
import Derived.Handy
import Derived.OpenShut
import Derived.Lib.Strings
import Derived.Laws.BytesArg
import Derived.Laws.AppendOwnNone
import Derived.Laws.Slices
import Derived.Deep.Slices
import Derived.Deep.Strs
import Derived.OwnWalk
import Derived.MapKept
/-
  BYTES IN MEMORY: what a slice of bytes reads as ('BS'), a slice that the call itself has made ('OW'), and the laws of append, make, and the conversions, in these words. Over any program.
-/
namespace Go.Proofs.YtnpbfjkfbobgaaaGreat
namespace PM
open Go.RowKit

/-- a byte, as a cell holds it -/
def bv (b : UInt8) : Value := .int .u8 (b.toNat : Int)
/-- the type facts of a slice of bytes -/
structure ByteTy (P : Program) (T E : TypeId) : Prop where
  sl : P.underlying T = some (.slice E)
  el : P.underlying E = some (.int .u8)
  row : ∃ i z, P.info? E = some i ∧ i.zero = some z ∧ i.size = 1 ∧ i.bytes = 1 ∧ z.cells.size = 1

/-- the bytes that a slice reads as -/
def BS (w : World) (v : Value) (l : List UInt8) : Prop :=
  (v = .slice none 0 0 ∧ l = []) ∨
  (∃ b off cap, v = .slice (some ⟨b, off, none⟩) l.length cap ∧ l.length ≤ cap ∧ cap ≤ maxLen ∧ ∀ i x, l[i]? = some x → w.cell? ⟨b, off + i, none⟩ = some (bv x)) ∨
  (∃ x cap, v = .slice (some x) 0 cap ∧ l = [] ∧ cap ≤ maxLen)

theorem BS.keep {W w : World} {v : Value} {l : List UInt8} (hb : Below W.heap.size W w) (h : BS W v l) : BS w v l := by
  rcases h with h | ⟨b, off, cap, rfl, h1, h2, h3⟩ | h
  · exact .inl h
  · refine .inr (.inl ⟨b, off, cap, rfl, h1, h2, fun i x hi => ?_⟩)
    have hc := h3 i x hi
    rw [hb.cell (World.block_lt_of_cell? W _ hc)]
    exact hc
  · exact .inr (.inr h)
/-- the bytes of a slice that came in -/
theorem BS.of_ints {w : World} {x : Addr} {len cap : Nat} {zs : List Int} (hl : len ≤ cap) (hm : cap ≤ maxLen) (hz : zs.length = cap)
    (hc : ∀ i, i < zs.length → w.cell? (x.add i) = some (.int .u8 (zs.getD i 0))) (hw : ∀ n ∈ zs, (Lit.int .u8 n).wf = true) :
    ∃ l, BS w (.slice (some x) len cap) l ∧ l.length = len := by
  refine ⟨(zs.take len).map fun n => UInt8.ofNat n.toNat, ?_, by simp; omega⟩
  have hlen : ((zs.take len).map fun n => UInt8.ofNat n.toNat).length = len := by simp; omega
  by_cases h0 : len = 0
  · subst h0
    exact .inr (.inr ⟨x, cap, rfl, by simp, hm⟩)
  · obtain ⟨b, off, spot⟩ := x
    have hc0 := hc 0 (by omega)
    have hspot : spot = none := by simpa [Addr.add] using World.cell?_spot hc0
    subst hspot
    refine .inr (.inl ⟨b, off, cap, by rw [hlen], by rw [hlen]; exact hl, hm, fun i y hi => ?_⟩)
    have hi' : i < len := by have := (List.getElem?_eq_some_iff.1 hi).1; rwa [hlen] at this
    have hci := hc i (by omega)
    have ea : (⟨b, off, none⟩ : Addr).add i = ⟨b, off + i, none⟩ := by unfold Addr.add; split <;> simp_all
    rw [ea] at hci
    rw [hci]
    have hiz : i < zs.length := by omega
    have hb := Go.bounds_u8 (hw zs[i] (List.getElem_mem hiz))
    have hy : UInt8.ofNat (zs[i]).toNat = y := by
      rw [List.getElem?_map, List.getElem?_take_of_lt hi', List.getElem?_eq_getElem hiz] at hi
      simpa using hi
    rw [List.getD_eq_getElem?_getD, List.getElem?_eq_getElem hiz, Option.getD_some, ← hy]
    unfold bv
    congr 2
    simp
    omega
theorem BS.nil (w : World) : BS w (.slice none 0 0) [] := .inl ⟨rfl, rfl⟩
theorem BS.cut {w : World} {b off cap k : Nat} {l : List UInt8} (h1 : l.length ≤ cap) (h2 : cap ≤ maxLen) (h3 : ∀ i x, l[i]? = some x → w.cell? ⟨b, off + i, none⟩ = some (bv x)) (hk : k ≤ l.length) :
    BS w (.slice (some ⟨b, off + k, none⟩) (l.length - k) (cap - k)) (l.drop k) ∧ (k = l.length → BS w (.slice (some ⟨b, off, none⟩) (l.length - k) (cap - k)) (l.drop k)) := by
  constructor
  · refine .inr (.inl ⟨b, off + k, cap - k, by rw [List.length_drop], by rw [List.length_drop]; omega, by omega, fun i x hi => ?_⟩)
    rw [List.getElem?_drop] at hi
    rw [Nat.add_assoc]
    exact h3 _ _ hi
  · intro e
    refine .inr (.inl ⟨b, off, cap - k, by rw [List.length_drop], by rw [List.length_drop]; omega, by omega, fun i x hi => ?_⟩)
    rw [List.getElem?_drop] at hi
    have := (List.getElem?_eq_some_iff.1 hi).1
    omega
theorem BS.take {w : World} {b off cap k : Nat} {l : List UInt8} (h1 : l.length ≤ cap) (h2 : cap ≤ maxLen) (h3 : ∀ i x, l[i]? = some x → w.cell? ⟨b, off + i, none⟩ = some (bv x)) (hk : k ≤ l.length) :
    BS w (.slice (some ⟨b, off, none⟩) k cap) (l.take k) := by
  refine .inr (.inl ⟨b, off, cap, by rw [List.length_take_of_le hk], by rw [List.length_take_of_le hk]; omega, h2, fun i x hi => ?_⟩)
  rw [List.getElem?_take] at hi
  split at hi
  · exact h3 _ _ hi
  · cases hi
theorem BS.len {w : World} {v : Value} {l : List UInt8} (h : BS w v l) : ∃ a cap, v = .slice a l.length cap := by
  rcases h with ⟨rfl, rfl⟩ | ⟨b, off, cap, rfl, _⟩ | ⟨x, cap, rfl, rfl, _⟩
  · exact ⟨_, _, rfl⟩
  · exact ⟨_, _, rfl⟩
  · exact ⟨_, _, rfl⟩
theorem BS.bound {w : World} {v : Value} {l : List UInt8} (h : BS w v l) : l.length ≤ maxLen := by
  rcases h with ⟨rfl, rfl⟩ | ⟨b, off, cap, rfl, h1, h2, _⟩ | ⟨x, cap, rfl, rfl, _⟩
  · simp
  · exact Nat.le_trans h1 h2
  · simp

/-- a row of bytes that the call itself has made: from block number B on -/
def OW (E : TypeId) (B : Nat) (w : World) (v : Value) (l : List UInt8) : Prop := w.ownsRow B E 1 v l.length (l.map bv)

theorem OW.bs {E : TypeId} {B : Nat} {w : World} {v : Value} {l : List UInt8} (h : OW E B w v l) : BS w v l := by
  rcases h.2 with ⟨rfl, h0⟩ | ⟨g, cap, cur, rfl, hB, hg, hn, hm, hs, ht⟩
  · exact .inl ⟨rfl, List.length_eq_zero_iff.1 h0⟩
  · refine .inr (.inl ⟨g, 0, cap, rfl, hn, hm, fun i x hi => ?_⟩)
    have hi' : i < l.length := (List.getElem?_eq_some_iff.1 hi).1
    have e1 : cur.toList[i]? = some (bv x) := by
      have e2 : (cur.toList.take (l.length * 1))[i]? = some (bv x) := by rw [ht]; simp [hi]
      rw [List.getElem?_take_of_lt (by omega)] at e2
      exact e2
    have e3 : cur[i]? = some (bv x) := by simpa using e1
    rw [Nat.zero_add]
    simp only [World.cell?, hg]
    simpa using e3
theorem OW.lt {E : TypeId} {B : Nat} {w : World} {v : Value} {l : List UInt8} (h : OW E B w v l) : ∀ k, v.ownBlock = some k → B ≤ k ∧ k < w.heap.size := World.ownsRow.lt h
theorem OW.mono {E : TypeId} {B B' : Nat} {w : World} {v : Value} {l : List UInt8} (h : OW E B w v l) (hB : B' ≤ B) : OW E B' w v l := by
  refine ⟨h.1, ?_⟩
  rcases h.2 with hn | ⟨g, cap, cur, hv, hb, r⟩
  · exact .inl hn
  · exact .inr ⟨g, cap, cur, hv, Nat.le_trans hB hb, r⟩
theorem OW.keep {E : TypeId} {B : Nat} {W w : World} {v : Value} {l : List UInt8} (hb : Below W.heap.size W w) (h : OW E B W v l) : OW E B w v l := by
  refine ⟨h.1, ?_⟩
  rcases h.2 with hn | ⟨g, cap, cur, hv, hB, hg, r⟩
  · exact .inl hn
  · exact .inr ⟨g, cap, cur, hv, hB, (hb.block g (Array.getElem?_eq_some_iff.1 hg).1).trans hg, r⟩
theorem OW.nilrow (E : TypeId) (B : Nat) (w : World) : OW E B w (.slice none 0 0) [] := World.ownsRow_nil w B E 1
theorem OW.form {E : TypeId} {B : Nat} {w : World} {v : Value} {l : List UInt8} (h : OW E B w v l) (hl : l ≠ []) : ∃ g cap, v = .slice (some ⟨g, 0, none⟩) l.length cap ∧ B ≤ g := by
  rcases h.2 with ⟨rfl, h0⟩ | ⟨g, cap, cur, rfl, hB, _⟩
  · exact absurd (List.length_eq_zero_iff.1 h0) hl
  · exact ⟨g, cap, rfl, hB⟩
/-- what a law leaves: the slice's own block alone may have been written -/
theorem OW.below {E : TypeId} {B : Nat} {a w w' : World} {v : Value} {l : List UInt8} (h : OW E B w v l) (hb : Below B a w) (hg : w.grownBy w' v.ownBlock) (hB : B ≤ w.heap.size) : Below B a w' :=
  hb.grown hg hB fun k hk => (h.lt k hk).1

section
variable {P : Program} {w : World} {ops : Array Oper} {rest : List Oper} {o : Oper} {a : Act} {Q : Exit → Act → World → Prop}

/-- append onto a row of the call's own, of bytes that are read -/
theorem wpList_app {T E : TypeId} (BT : ByteTy P T E) (B : Nat) (hgd : o.guard = none) (s x : Operand)
    (ho : o.op = .call { callee := .builtin .append, args := #[s, x], argTypes := #[T, T] })
    (v xv : Value) (l m : List UInt8) (hs : a.eval s = v) (hx : a.eval x = xv) (hown : OW E B w v l) (hsrc : BS w xv m) (hn : l.length + m.length ≤ 140737488355328) (hB : B ≤ w.heap.size)
    (h : ∀ v' w', OW E B w' v' (l ++ m) → Below B w w' → w.grownBy w' v.ownBlock → wpList P ops Q rest (a.put o.dst v') w') : wpList P ops Q (o :: rest) a w := by
  obtain ⟨i, z, hi, hz, hsz, hby, hzs⟩ := BT.row
  rcases hsrc with ⟨rfl, rfl⟩ | ⟨b, off, cap, rfl, h1, h2, h3⟩ | ⟨x0, cap, rfl, rfl, _⟩
  · refine wpList_append_own_none hgd s x T ho B E i 1 BT.sl hi v l.length (l.map bv) hs hown hx ?_
    have h' := h v w (by simpa using hown) (Below.refl _ _) ⟨rfl, rfl, rfl, Nat.le_refl _, fun _ _ _ => rfl⟩
    exact h'
  · refine wpList_append_own w hgd s x T ho B E i z 1 1 BT.sl hi hz hsz hby hzs (by decide) v l.length (l.map bv) hs hown ⟨b, off, none⟩ m.length cap (m.map bv) hx (by simp) ?_ ?_ (by unfold maxLen; omega) (by omega) hB ?_
    · intro j u hu
      rw [List.getElem?_map] at hu
      obtain ⟨y, hy, rfl⟩ := Option.map_eq_some_iff.1 hu
      have := h3 j y hy
      have ea : (⟨b, off, none⟩ : Addr).add j = ⟨b, off + j, none⟩ := by unfold Addr.add; split <;> simp_all
      rw [ea]; exact this
    · intro u hu
      obtain ⟨y, _, rfl⟩ := List.mem_map.1 hu
      rfl
    · intro v' w' hown' hgr _
      exact h v' w' (by simpa [OW] using hown') (hown.below (Below.refl _ _) hgr hB) hgr
  · refine wpList_append_own w hgd s x T ho B E i z 1 1 BT.sl hi hz hsz hby hzs (by decide) v l.length (l.map bv) hs hown x0 0 cap [] hx (by simp) (by simp) (by simp) (by unfold maxLen; simp at hn; omega) (by simp at hn; omega) hB ?_
    intro v' w' hown' hgr _
    exact h v' w' (by simpa [OW] using hown') (hown.below (Below.refl _ _) hgr hB) hgr

theorem BS.one (W : World) (E : TypeId) (b : UInt8) : BS (W.alloc (.cells #[.int .u8 (b.toNat : Int)] E)) (.slice (Option.some ⟨W.heap.size, 0, Option.none⟩) 1 1) [b] := by
  refine .inr (.inl ⟨W.heap.size, 0, 1, rfl, by simp, by unfold maxLen; omega, fun i x hi => ?_⟩)
  have h0 : i = 0 := by have := (List.getElem?_eq_some_iff.1 hi).1; simp at this; omega
  subst h0
  simp at hi
  subst hi
  simp [bv]
theorem BS.lit (W : World) (E : TypeId) (l : List UInt8) (hl : l.length ≤ maxLen) : BS (W.alloc (.cells (l.map bv).toArray E)) (.slice (Option.some ⟨W.heap.size, 0, Option.none⟩) l.length l.length) l := by
  refine .inr (.inl ⟨W.heap.size, 0, l.length, rfl, Nat.le_refl _, hl, fun i x hi => ?_⟩)
  rw [Nat.zero_add, World.cell?_alloc_new]
  simp [hi]
/-- append of one byte onto a row of the call's own -/
theorem wpList_app1 {T E : TypeId} (BT : ByteTy P T E) (B : Nat) (W : World) (hgd : o.guard = none) (s x : Operand)
    (ho : o.op = .call { callee := .builtin .append, args := #[s, x], argTypes := #[T, T] })
    (v : Value) (l : List UInt8) (c : Int) (b : UInt8) (hs : a.eval s = v) (hx : a.eval x = .slice (Option.some ⟨W.heap.size, 0, Option.none⟩) 1 1) (hw : w = W.alloc (.cells #[.int .u8 c] E)) (hc : c = (b.toNat : Int))
    (hown : OW E B W v l) (hn : l.length + 1 ≤ 140737488355328) (hB : B ≤ W.heap.size)
    (h : ∀ v' w', OW E B w' v' (l ++ [b]) → Below B W w' → wpList P ops Q rest (a.put o.dst v') w') : wpList P ops Q (o :: rest) a w := by
  subst hc
  subst hw
  have hb0 : Below W.heap.size W (W.alloc (.cells #[.int .u8 (b.toNat : Int)] E)) := (Below.refl _ _).alloc (Nat.le_refl _) _
  refine wpList_app BT B hgd s x ho v _ l [b] hs hx (hown.keep hb0) (BS.one W E b) (by simpa using hn) (Nat.le_trans hB hb0.size) fun v' w' h1 h2 _ => h v' w' h1 ((hb0.mono hB).trans h2)

/-- a new row with room for n bytes, none of them there yet -/
theorem wpList_mk0 {T E : TypeId} (BT : ByteTy P T E) (B : Nat) (hgd : o.guard = none) (l c : Operand) (hop : o.op = Op.makeSlice T l c)
    (kl kc : IntKind) (C : Int) (n : Nat) (hl : a.eval l = .int kl 0) (hc : a.eval c = .int kc C) (hC : C = (n : Int)) (hn : n ≤ 140737488355328) (hB : B ≤ w.heap.size)
    (h : ∀ v' w', OW E B w' v' [] → Below B w w' → w.grownBy w' none → wpList P ops Q rest (a.put o.dst v') w') : wpList P ops Q (o :: rest) a w := by
  obtain ⟨i, z, hi, hz, hsz, hby, hzs⟩ := BT.row
  refine wpList_make_own w hgd l c T hop B E i z 1 BT.sl hi hz hsz kl kc C n hl hc hC (by rw [hby]; omega) (by unfold maxLen; omega) hB ?_
  intro w' h1 h2
  exact h _ w' h1 ((Below.refl _ _).grown h2 hB (by simp)) h2

/-- a text's bytes, in new memory -/
theorem wpList_tobytes {S T E : TypeId} (BT : ByteTy P T E) (hS : P.underlying S = some .string) (hgd : o.guard = none) (x : Operand) (hop : o.op = Op.convert S T x)
    (s : ByteArray) (hx : a.eval x = .string s) (hs : s.size ≤ 140737488355328)
    (h : ∀ v' w', BS w' v' s.data.toList → Below w.heap.size w w' → wpList P ops Q rest (a.put o.dst v') w') : wpList P ops Q (o :: rest) a w := by
  refine wpList_plain hgd fun K hK => ?_
  have hr := run_bytes_of_string (P := P) w S T E s hS BT.sl BT.el
  have hlen : s.size = s.data.toList.length := (Array.length_toList (xs := s.data)).symm
  have hcap := grownCap_ge w s.size 0 E
  have hcap2 := grownCap_le_maxLen w s.size 0 E (by unfold maxLen; omega)
  unfold Oper.wp
  simp [execOp, hop, hx, hr, Result.andThen]
  refine hK _ _ (h _ _ (.inr (.inl ⟨w.heap.size, 0, grownCap w s.size 0 E, by rw [hlen], by omega, hcap2, fun i y hi => ?_⟩)) (((Below.refl _ _).drew).alloc (Nat.le_refl _) _))
  rw [Nat.zero_add]
  rw [show w.heap.size = w.drew.heap.size from rfl, World.cell?_alloc_mark]
  have hi' : i < s.data.size := by have := (List.getElem?_eq_some_iff.1 hi).1; simpa using this
  have hy : s.data[i]? = some y := by simpa using hi
  simp [bytesRow, Array.getElem?_append, hy, bv]
  intro hle
  have : s.size = s.data.size := rfl
  omega
end

/-- a text's bytes, in new memory: the value, and the world behind -/
def convV (E : TypeId) (w : World) (s : ByteArray) : Value := .slice (Option.some ⟨w.heap.size, 0, Option.none⟩) s.size (grownCap w s.size 0 E)
def convW (E : TypeId) (w : World) (s : ByteArray) : World := w.drew.alloc (.cells (bytesRow s (grownCap w s.size 0 E)) E ((bytesRow s (grownCap w s.size 0 E)).size, (bytesRow s (grownCap w s.size 0 E)).size + 1))
theorem run_conv {P : Program} {S T E : TypeId} (BT : ByteTy P T E) (hS : P.underlying S = some .string) (w : World) (s : ByteArray) :
    (convert S T (.string s)).run P w = .ok (convV E w s) (convW E w s) := run_bytes_of_string w S T E s hS BT.sl BT.el
theorem convW_below (E : TypeId) (w : World) (s : ByteArray) : Below w.heap.size w (convW E w s) := ((Below.refl _ _).drew).alloc (Nat.le_refl _) _
theorem convW_bs (E : TypeId) (w : World) (s : ByteArray) (hs : s.size ≤ 140737488355328) : BS (convW E w s) (convV E w s) s.data.toList := by
  have hlen : s.size = s.data.toList.length := (Array.length_toList (xs := s.data)).symm
  have hcap := grownCap_ge w s.size 0 E
  have hcap2 := grownCap_le_maxLen w s.size 0 E (by unfold maxLen; omega)
  refine .inr (.inl ⟨w.heap.size, 0, grownCap w s.size 0 E, by unfold convV; rw [hlen], by omega, hcap2, fun i y hi => ?_⟩)
  unfold convW
  rw [Nat.zero_add]
  rw [show w.heap.size = w.drew.heap.size from rfl, World.cell?_alloc_mark]
  have hi' : i < s.data.size := by have := (List.getElem?_eq_some_iff.1 hi).1; simpa using this
  have hy : s.data[i]? = some y := by simpa using hi
  simp [bytesRow, Array.getElem?_append, hy, bv]
  intro hle
  have : s.size = s.data.size := rfl
  omega

/-- a slice's bytes, as a text -/
theorem run_str {P : Program} {T E S : TypeId} (BT : ByteTy P T E) (hS : P.underlying S = some .string) {w : World} {v : Value} {l : List UInt8} (h : BS w v l) :
    (convert T S v).run P w = .ok (.string ⟨l.toArray⟩) w := by
  rcases h with ⟨rfl, rfl⟩ | ⟨b, off, cap, rfl, h1, h2, h3⟩ | ⟨x, cap, rfl, rfl, _⟩
  · exact run_convert_bytes_nil w T E BT.sl BT.el 0 0 S hS
  · refine run_convert_bytes_back w T S E ⟨b, off, none⟩ cap l BT.sl BT.el hS fun j hj => ?_
    have := h3 j l[j] (by simp [hj])
    have ea : (⟨b, off, none⟩ : Addr).add j = ⟨b, off + j, none⟩ := by unfold Addr.add; split <;> simp_all
    rw [ea]; exact this
  · exact run_convert_bytes_back w T S E x cap [] BT.sl BT.el hS (fun j hj => by simp at hj)

/-- a block of cells, whole, that may be written -/
def BK (w : World) (b : Nat) (cs : Array Value) (T : TypeId) : Prop := w.heap[b]? = Option.some (.cells cs T (0, 0))
theorem BK.lt {w : World} {b : Nat} {cs : Array Value} {T : TypeId} (h : BK w b cs T) : b < w.heap.size := (Array.getElem?_eq_some_iff.1 h).1
theorem BK.cell {w : World} {b : Nat} {cs : Array Value} {T : TypeId} (h : BK w b cs T) (i : Nat) : w.cell? ⟨b, i, Option.none⟩ = cs[i]? := by
  unfold BK at h; simp [World.cell?, h]
theorem BK.free {w : World} {b : Nat} {cs : Array Value} {T : TypeId} (h : BK w b cs T) (i : Nat) : w.frozen? ⟨b, i, Option.none⟩ = false := by
  unfold BK at h; simp [World.frozen?, h]
theorem BK.set {w : World} {b : Nat} {cs : Array Value} {T : TypeId} (h : BK w b cs T) (i : Nat) (u : Value) : BK (w.setCell ⟨b, i, Option.none⟩ u) b (cs.setIfInBounds i u) T := by
  unfold BK at *
  simp [World.setCell, Array.getElem?_modify, h]
theorem BK.keep {W w : World} {b : Nat} {cs : Array Value} {T : TypeId} (hb : Below W.heap.size W w) (h : BK W b cs T) : BK w b cs T :=
  (hb.block b h.lt).trans h
theorem BK.new (w : World) (cs : Array Value) (T : TypeId) : BK (w.alloc (.cells cs T)) w.heap.size cs T := by
  show (w.heap.push _)[w.heap.size]? = _; simp
/-- of what was there just one block may have turned -/
structure Bx (b : Nat) (w w' : World) : Prop where
  os : w'.os = w.os
  tape : w'.tape = w.tape
  output : w'.output = w.output
  size : w.heap.size ≤ w'.heap.size
  block : ∀ k, k < w.heap.size → k ≠ b → w'.heap[k]? = w.heap[k]?
theorem Bx.refl (b : Nat) (w : World) : Bx b w w := ⟨rfl, rfl, rfl, Nat.le_refl _, fun _ _ _ => rfl⟩
theorem Bx.trans {b : Nat} {x y z : World} (h : Bx b x y) (k : Bx b y z) : Bx b x z :=
  ⟨k.os.trans h.os, k.tape.trans h.tape, k.output.trans h.output, Nat.le_trans h.size k.size, fun i hi hn => (k.block i (Nat.lt_of_lt_of_le hi h.size) hn).trans (h.block i hi hn)⟩
theorem Bx.of {b : Nat} {x y : World} (h : Below x.heap.size x y) : Bx b x y := ⟨h.os, h.tape, h.output, h.size, fun k hk _ => h.block k hk⟩
theorem Bx.set (b i : Nat) (w : World) (u : Value) : Bx b w (w.setCell ⟨b, i, Option.none⟩ u) :=
  ⟨rfl, rfl, rfl, by simp [World.setCell], fun k hk hn => Below.heap_setCell _ _ _ _ hn⟩
theorem Bx.below {B b : Nat} {x y z : World} (h : Below B x y) (k : Bx b y z) (hb : B ≤ b) (hB : B ≤ y.heap.size) : Below B x z :=
  ⟨k.os.trans h.os, k.tape.trans h.tape, k.output.trans h.output, Nat.le_trans h.size k.size, fun i hi => (k.block i (Nat.lt_of_lt_of_le hi hB) (by omega)).trans (h.block i hi)⟩
theorem BK.keepx {W w : World} {b g : Nat} {cs : Array Value} {T : TypeId} (hx : Bx b W w) (hne : g ≠ b) (h : BK W g cs T) : BK w g cs T :=
  (hx.block g h.lt hne).trans h
theorem BS.keepx {W w : World} {b : Nat} {v : Value} {l : List UInt8} {cs : Array Value} {T : TypeId} (hx : Bx b W w) (hb : BK W b cs T) (hne : ∀ (i : Nat) (y : UInt8), cs[i]? ≠ Option.some (bv y)) (h : BS W v l) : BS w v l := by
  rcases h with h | ⟨g, off, cap, rfl, h1, h2, h3⟩ | h
  · exact .inl h
  · refine .inr (.inl ⟨g, off, cap, rfl, h1, h2, fun i x hi => ?_⟩)
    have hc := h3 i x hi
    have hgb : g ≠ b := fun e => by
      subst e
      rw [hb.cell] at hc
      exact hne _ _ hc
    have hlt := World.block_lt_of_cell? W _ hc
    rw [World.cell?_of_block (hx.block g hlt hgb)]
    exact hc
  · exact .inr (.inr h)
theorem OW.keepx {E : TypeId} {B b : Nat} {W w : World} {v : Value} {l : List UInt8} (hx : Bx b W w) (hb : b < B) (h : OW E B W v l) : OW E B w v l := by
  refine ⟨h.1, ?_⟩
  rcases h.2 with hn | ⟨g, cap, cur, hv, hB, hg, r⟩
  · exact .inl hn
  · exact .inr ⟨g, cap, cur, hv, hB, (hx.block g (Array.getElem?_eq_some_iff.1 hg).1 (by omega)).trans hg, r⟩
/-- a reader: its bytes that are left, and whether something was wrong -/
def RD (T : TypeId) (w : World) (b : Nat) (l : List UInt8) (wr : Bool) : Prop := ∃ v, BK w b #[v, .bool wr] T ∧ BS w v l
theorem RD.nobyte (v : Value) (w : World) (l : List UInt8) (wr : Bool) (h : BS w v l) : ∀ (i : Nat) (y : UInt8), (#[v, Value.bool wr] : Array Value)[i]? ≠ Option.some (bv y) := by
  intro i y he
  obtain ⟨a, cap, rfl⟩ := h.len
  match i with
  | 0 => simp [bv] at he
  | 1 => simp [bv] at he
  | i + 2 => simp at he
theorem RD.put {T : TypeId} {w : World} {b : Nat} {v v' : Value} {l l' : List UInt8} {wr : Bool} (hk : BK w b #[v, .bool wr] T) (hs : BS w v l) (h' : BS w v' l') : RD T (w.setCell ⟨b, 0, Option.none⟩ v') b l' wr :=
  ⟨v', by have := hk.set 0 v'; simpa using this, h'.keepx (Bx.set b 0 w v') hk (RD.nobyte _ _ _ _ hs)⟩
theorem RD.keep {T : TypeId} {W w : World} {b : Nat} {l : List UInt8} {wr : Bool} (hb : Below W.heap.size W w) (h : RD T W b l wr) : RD T w b l wr := by
  obtain ⟨v, h1, h2⟩ := h
  exact ⟨v, h1.keep hb, h2.keep hb⟩
theorem RD.lt {T : TypeId} {w : World} {b : Nat} {l : List UInt8} {wr : Bool} (h : RD T w b l wr) : b < w.heap.size := by
  obtain ⟨v, h1, _⟩ := h; exact h1.lt
/-- other bytes, and another reader, while a reader goes on -/
theorem BS.keepr {T : TypeId} {W w : World} {b : Nat} {v : Value} {l m : List UInt8} {wr : Bool} (hx : Bx b W w) (hr : RD T W b m wr) (h : BS W v l) : BS w v l := by
  obtain ⟨u, h1, h2⟩ := hr
  exact h.keepx hx h1 (RD.nobyte _ _ _ _ h2)
theorem RD.keepr {T : TypeId} {W w : World} {b c : Nat} {l m : List UInt8} {wr wr' : Bool} (hx : Bx c W w) (hne : b ≠ c) (hr : RD T W c m wr') (h : RD T W b l wr) : RD T w b l wr := by
  obtain ⟨u, h1, h2⟩ := hr
  obtain ⟨v, k1, k2⟩ := h
  exact ⟨v, k1.keepx hx hne, k2.keepx hx h1 (RD.nobyte _ _ _ _ h2)⟩
theorem RD.keepy {T U : TypeId} {W w : World} {b r : Nat} {l : List UInt8} {wr : Bool} {cs : Array Value} (hx : Bx r W w) (hne : b ≠ r) (hr : BK W r cs U) (hnb : ∀ (i : Nat) (y : UInt8), cs[i]? ≠ Option.some (bv y)) (h : RD T W b l wr) : RD T w b l wr := by
  obtain ⟨v, h1, h2⟩ := h
  exact ⟨v, h1.keepx hx hne, h2.keepx hx hr hnb⟩
theorem Bx.low {b r : Nat} {x y z : World} (h : Bx b x y) (k : Bx r y z) (hr : x.heap.size ≤ r) : Bx b x z :=
  ⟨k.os.trans h.os, k.tape.trans h.tape, k.output.trans h.output, Nat.le_trans h.size k.size, fun i hi hn => (k.block i (Nat.lt_of_lt_of_le hi h.size) (by omega)).trans (h.block i hi hn)⟩
theorem val_nobyte (k n : Int) (s : ByteArray) : ∀ (i : Nat) (y : UInt8), (#[Value.int .i64 k, Value.int .i64 n, Value.string s] : Array Value)[i]? ≠ Option.some (bv y) := by
  intro i y he
  match i with
  | 0 => simp [bv] at he
  | 1 => simp [bv] at he
  | 2 => simp [bv] at he
  | i + 3 => simp at he
theorem Bx.set3 (r : Nat) (w : World) (x y z : Value) : Bx r w (((w.setCell ⟨r, 0, Option.none⟩ x).setCell ⟨r, 1, Option.none⟩ y).setCell ⟨r, 2, Option.none⟩ z) :=
  ((Bx.set r 0 w x).trans (Bx.set r 1 _ y)).trans (Bx.set r 2 _ z)
theorem BK.set3 {w : World} {r : Nat} {a b c : Value} {T : TypeId} (h : BK w r #[a, b, c] T) (x y z : Value) : BK (((w.setCell ⟨r, 0, Option.none⟩ x).setCell ⟨r, 1, Option.none⟩ y).setCell ⟨r, 2, Option.none⟩ z) r #[x, y, z] T := by
  have := ((h.set 0 x).set 1 y).set 2 z
  simpa using this
/-- the end of a call that hands back bytes of its own -/
def RetB (E : TypeId) (B : Nat) (W : World) (l : List UInt8) (e : Ending) (w' : World) : Prop := ∃ v, e = .returned v ∧ OW E B w' v l ∧ Below W.heap.size W w'
end PM
end Go.Proofs.YtnpbfjkfbobgaaaGreat

/-
  SLICES OF WHATEVER ONE-CELL ELEMENTS: what a slice reads as ('ES'), a row that the call itself has made ('OE'), and append, with a word on where the row lies behind. Over any program.
-/
namespace Go.Proofs.YtnpbfjkfbobgaaaGreat
namespace PM
open Go.RowKit
set_option linter.unusedVariables false
/-- a row's block, behind a step: the old one, or one that was not there -/
def Sep (w : World) (v v' : Value) : Prop := v'.ownBlock = v.ownBlock ∨ ∀ k, v'.ownBlock = some k → w.heap.size ≤ k
/-- two rows that lie apart -/
def Apart (x y : Value) : Prop := ∀ k, x.ownBlock = some k → y.ownBlock ≠ some k
theorem Apart.symm {x y : Value} (h : Apart x y) : Apart y x := fun k h1 h2 => h k h2 h1
theorem Apart.nil (x : Value) (n c : Nat) : Apart x (.slice none n c) := fun k _ h => by simp [Value.ownBlock] at h
theorem Apart.sep {w : World} {x x' y : Value} (h : Apart x y) (hs : Sep w x x') (hy : ∀ k, y.ownBlock = some k → k < w.heap.size) : Apart x' y := by
  intro k hk hk'
  rcases hs with e | e
  · exact h k (e ▸ hk) hk'
  · have := e k hk; have := hy k hk'; omega

section
variable {P : Program} {w : World}
theorem run_append_sep (base : Nat) (t ty e : TypeId) (i : TypeInfo) (z : Value) (size bytes : Nat) (ht : P.underlying t = some (.slice e)) (hi : P.info? e = some i) (hz : i.zero = some z)
    (hsize : i.size = size) (hby : i.bytes = bytes) (hzs : z.cells.size = size) (hsz : 0 < size)
    (v : Value) (n : Nat) (xs : List Value) (hown : w.ownsRow base e size v n xs)
    (a : Addr) (m c : Nat) (news : List Value) (hl : news.length = m * size) (hnews : ∀ j u, news[j]? = some u → w.cell? (a.add j) = some u) (h1 : ∀ u ∈ news, u.oneCell' = true)
    (h63 : n + m ≤ maxLen) (hbytes : (n + m) * bytes ≤ 140737488355328) (hbase : base ≤ w.heap.size) :
    ∃ v' w', (Builtin.append_ #[t, t] ty #[v, .slice (some a) m c]).run P w = .ok v' w' ∧ w'.ownsRow base e size v' (n + m) (xs ++ news) ∧ w.grownBy w' v.ownBlock ∧ Sep w v v' := by
  obtain ⟨v', w', hr, h2, h3, _⟩ := run_append_own (P := P) w base t ty e i z size bytes ht hi hz hsize hby hzs hsz v n xs hown a m c news hl hnews h1 h63 hbytes hbase
  refine ⟨v', w', hr, h2, h3, ?_⟩
  rcases hown.2 with ⟨rfl, rfl⟩ | ⟨g, cap, cur, rfl, hbg, hg, hnc, hcm, hcs, htake⟩
  · have hx : xs = [] := List.eq_nil_of_length_eq_zero (by simpa using hown.1)
    subst hx
    obtain ⟨v2, w2, hr2, g2, _⟩ := run_append_own (P := P) w w.heap.size t ty e i z size bytes ht hi hz hsize hby hzs hsz (.slice none 0 0) 0 [] (World.ownsRow_nil w _ e size) a m c news hl hnews h1 h63 hbytes (Nat.le_refl _)
    rw [hr] at hr2
    injection hr2 with e1 e2
    subst e1
    exact .inr fun k hk => (World.ownsRow.lt g2 k hk).1
  · subst hsize
    subst hby
    by_cases hroom : n + m ≤ cap
    · have hfit : n * i.size + news.length ≤ cur.size := by rw [hl, hcs, ← Nat.add_mul]; exact Nat.mul_le_mul_right _ hroom
      have hr2 := run_append_room (P := P) w t ty e i ht hi g n cap cur hg a m c news hl hnews h1 hroom hfit
      rw [hr] at hr2
      injection hr2 with e1 e2
      subst e1
      exact .inl rfl
    · have holds : ∀ j u, xs[j]? = some u → w.cell? ((⟨g, 0, none⟩ : Addr).add j) = some u := hown.cells (g := g) rfl
      have h63' := h63
      simp only [maxLen] at h63'
      have hr2 := run_append_grow (P := P) w t ty e i z ht hi hz ⟨g, 0, none⟩ n cap xs hown.1 holds a m c news hl hnews (by omega) (by omega) (growslice_fits (by omega) hbytes)
      rw [hr] at hr2
      injection hr2 with e1 e2
      subst e1
      refine .inr fun k hk => ?_
      simp [Value.ownBlock] at hk
      omega
theorem wpList_append_sep {ops : Array Oper} {rest : List Oper} {o : Oper} {a : Act} {Q : Exit → Act → World → Prop} (hgd : o.guard = none) (s x : Operand) (t : TypeId)
    (ho : o.op = .call { callee := .builtin .append, args := #[s, x], argTypes := #[t, t] })
    (base : Nat) (e : TypeId) (i : TypeInfo) (z : Value) (size bytes : Nat) (ht : P.underlying t = some (.slice e)) (hi : P.info? e = some i) (hz : i.zero = some z)
    (hsize : i.size = size) (hby : i.bytes = bytes) (hzs : z.cells.size = size) (hsz : 0 < size)
    (v : Value) (n : Nat) (xs : List Value) (hs : a.eval s = v) (hown : w.ownsRow base e size v n xs)
    (ad : Addr) (m c : Nat) (news : List Value) (hx : a.eval x = .slice (some ad) m c) (hl : news.length = m * size) (hnews : ∀ j u, news[j]? = some u → w.cell? (ad.add j) = some u) (h1 : ∀ u ∈ news, u.oneCell' = true)
    (h63 : n + m ≤ maxLen) (hbytes : (n + m) * bytes ≤ 140737488355328) (hbase : base ≤ w.heap.size)
    (h : ∀ v' w', w'.ownsRow base e size v' (n + m) (xs ++ news) → w.grownBy w' v.ownBlock → Sep w v v' → wpList P ops Q rest (a.put o.dst v') w') : wpList P ops Q (o :: rest) a w := by
  refine wpList_plain hgd fun K hK => ?_
  obtain ⟨v', w', hr, h2, h3, h4⟩ := run_append_sep (P := P) (w := w) base t o.type e i z size bytes ht hi hz hsize hby hzs hsz v n xs hown ad m c news hl hnews h1 h63 hbytes hbase
  unfold Oper.wp execOp
  simp only [ho, resolve, invoke, builtin, Sem.run_bind, Sem.run_pure, Result.andThen_ok, List.map_toArray, List.map_cons, List.map_nil, hs, hx, hr]
  exact hK _ _ (h v' w' h2 h3 h4)
end

/-- what a slice of one-cell elements reads as -/
def ES {α : Type} (e : α → Value) (w : World) (v : Value) (l : List α) : Prop :=
  (v = .slice none 0 0 ∧ l = []) ∨
  (∃ b off cap, v = .slice (some ⟨b, off, none⟩) l.length cap ∧ l.length ≤ cap ∧ cap ≤ maxLen ∧ ∀ i x, l[i]? = some x → w.cell? ⟨b, off + i, none⟩ = some (e x)) ∨
  (∃ x cap, v = .slice (some x) 0 cap ∧ l = [] ∧ cap ≤ maxLen)
section
variable {α : Type} {e : α → Value}
theorem ES.keep {W w : World} {v : Value} {l : List α} (hb : Below W.heap.size W w) (h : ES e W v l) : ES e w v l := by
  rcases h with h | ⟨b, off, cap, rfl, h1, h2, h3⟩ | h
  · exact .inl h
  · refine .inr (.inl ⟨b, off, cap, rfl, h1, h2, fun i x hi => ?_⟩)
    have hc := h3 i x hi
    rw [hb.cell (World.block_lt_of_cell? W _ hc)]
    exact hc
  · exact .inr (.inr h)
theorem ES.nil (w : World) : ES e w (.slice none 0 0) [] := .inl ⟨rfl, rfl⟩
theorem ES.len {w : World} {v : Value} {l : List α} (h : ES e w v l) : ∃ a cap, v = .slice a l.length cap := by
  rcases h with ⟨rfl, rfl⟩ | ⟨b, off, cap, rfl, _⟩ | ⟨x, cap, rfl, rfl, _⟩
  · exact ⟨_, _, rfl⟩
  · exact ⟨_, _, rfl⟩
  · exact ⟨_, _, rfl⟩
theorem ES.bound {w : World} {v : Value} {l : List α} (h : ES e w v l) : l.length ≤ maxLen := by
  rcases h with ⟨rfl, rfl⟩ | ⟨b, off, cap, rfl, h1, h2, _⟩ | ⟨x, cap, rfl, rfl, _⟩
  · simp
  · exact Nat.le_trans h1 h2
  · simp
/-- a slice with an element: where it lies -/
theorem ES.open1 {w : World} {v : Value} {l : List α} (h : ES e w v l) (hl : 0 < l.length) : ∃ b off cap, v = .slice (some ⟨b, off, none⟩) l.length cap ∧ l.length ≤ cap ∧ cap ≤ maxLen ∧ ∀ i x, l[i]? = some x → w.cell? ⟨b, off + i, none⟩ = some (e x) := by
  rcases h with ⟨rfl, rfl⟩ | h | ⟨x, cap, rfl, rfl, _⟩
  · simp at hl
  · exact h
  · simp at hl
theorem ES.lit (W : World) (E : TypeId) (l : List α) (hl : l.length ≤ maxLen) : ES e (W.alloc (.cells (l.map e).toArray E)) (.slice (Option.some ⟨W.heap.size, 0, Option.none⟩) l.length l.length) l := by
  refine .inr (.inl ⟨W.heap.size, 0, l.length, rfl, Nat.le_refl _, hl, fun i x hi => ?_⟩)
  rw [Nat.zero_add, World.cell?_alloc_new]
  simp [hi]
/-- a row that the call itself has made: from block number B on -/
def OE (e : α → Value) (E : TypeId) (B : Nat) (w : World) (v : Value) (l : List α) : Prop := w.ownsRow B E 1 v l.length (l.map e)
variable {E : TypeId} {B : Nat}
theorem OE.es {w : World} {v : Value} {l : List α} (h : OE e E B w v l) : ES e w v l := by
  rcases h.2 with ⟨rfl, h0⟩ | ⟨g, cap, cur, rfl, hB, hg, hn, hm, hs, ht⟩
  · exact .inl ⟨rfl, List.length_eq_zero_iff.1 h0⟩
  · refine .inr (.inl ⟨g, 0, cap, rfl, hn, hm, fun i x hi => ?_⟩)
    have hi' : i < l.length := (List.getElem?_eq_some_iff.1 hi).1
    have e1 : cur.toList[i]? = some (e x) := by
      have e2 : (cur.toList.take (l.length * 1))[i]? = some (e x) := by rw [ht]; simp [hi]
      rw [List.getElem?_take_of_lt (by omega)] at e2
      exact e2
    have e3 : cur[i]? = some (e x) := by simpa using e1
    rw [Nat.zero_add]
    simp only [World.cell?, hg]
    simpa using e3
theorem OE.lt {w : World} {v : Value} {l : List α} (h : OE e E B w v l) : ∀ k, v.ownBlock = some k → B ≤ k ∧ k < w.heap.size := World.ownsRow.lt h
theorem OE.keep {W w : World} {v : Value} {l : List α} (hb : Below W.heap.size W w) (h : OE e E B W v l) : OE e E B w v l := by
  refine ⟨h.1, ?_⟩
  rcases h.2 with hn | ⟨g, cap, cur, hv, hB, hg, r⟩
  · exact .inl hn
  · exact .inr ⟨g, cap, cur, hv, hB, (hb.block g (Array.getElem?_eq_some_iff.1 hg).1).trans hg, r⟩
theorem OE.nilrow (w : World) : OE e E B w (.slice none 0 0) [] := World.ownsRow_nil w B E 1
theorem OE.below {a w w' : World} {v : Value} {l : List α} (h : OE e E B w v l) (hb : Below B a w) (hg : w.grownBy w' v.ownBlock) (hB : B ≤ w.heap.size) : Below B a w' :=
  hb.grown hg hB fun k hk => (h.lt k hk).1
/-- a row stays while another one, which lies apart, is turned -/
theorem OE.kept {β : Type} {e' : β → Value} {w w' : World} {x v : Value} {l : List β} (h : OE e' E B w v l) (hg : w.grownBy w' x.ownBlock) (ha : Apart x v) : OE e' E B w' v l := by
  refine World.ownsRow.kept h hg ?_
  by_cases hn : v.ownBlock = none
  · exact .inl hn
  · right
    intro he
    obtain ⟨k, hk⟩ := Option.ne_none_iff_exists'.1 hn
    exact ha k (he ▸ hk) hk
theorem ES.kept {w w' : World} {v : Value} {row : Option Nat} {l : List α} (h : ES e w v l) (hg : w.grownBy w' row) (hr : ∀ b off n cap, v = .slice (some ⟨b, off, none⟩) n cap → row ≠ some b) : ES e w' v l := by
  rcases h with h | ⟨b, off, cap, rfl, h1, h2, h3⟩ | h
  · exact .inl h
  · refine .inr (.inl ⟨b, off, cap, rfl, h1, h2, fun i x hi => ?_⟩)
    exact hg.cell (h3 i x hi) (fun he => hr b off _ cap rfl he.symm)
  · exact .inr (.inr h)
/-- the type facts of a slice of one-cell elements -/
structure ElTy (P : Program) (T E : TypeId) (nb : Nat) : Prop where
  sl : P.underlying T = some (.slice E)
  row : ∃ i z, P.info? E = some i ∧ i.zero = some z ∧ i.size = 1 ∧ i.bytes = nb ∧ z.cells.size = 1
section
variable {P : Program} {w : World} {ops : Array Oper} {rest : List Oper} {o : Oper} {a : Act} {Q : Exit → Act → World → Prop}
/-- append onto a row of the call's own -/
theorem wpList_es {T : TypeId} {nb : Nat} (ET : ElTy P T E nb) (B : Nat) (hgd : o.guard = none) (s x : Operand)
    (ho : o.op = .call { callee := .builtin .append, args := #[s, x], argTypes := #[T, T] })
    (v xv : Value) (l m : List α) (h1 : ∀ u ∈ m, (e u).oneCell' = true) (hs : a.eval s = v) (hx : a.eval x = xv) (hown : OE e E B w v l) (hsrc : ES e w xv m) (hn : (l.length + m.length) * nb ≤ 140737488355328) (hn2 : l.length + m.length ≤ maxLen) (hB : B ≤ w.heap.size)
    (h : ∀ v' w', OE e E B w' v' (l ++ m) → Below B w w' → w.grownBy w' v.ownBlock → Sep w v v' → wpList P ops Q rest (a.put o.dst v') w') : wpList P ops Q (o :: rest) a w := by
  obtain ⟨i, z, hi, hz, hsz, hby, hzs⟩ := ET.row
  rcases hsrc with ⟨rfl, rfl⟩ | ⟨b, off, cap, rfl, h1', h2, h3⟩ | ⟨x0, cap, rfl, rfl, _⟩
  · refine wpList_append_own_none hgd s x T ho B E i 1 ET.sl hi v l.length (l.map e) hs hown hx ?_
    exact h v w (by simpa using hown) (Below.refl _ _) ⟨rfl, rfl, rfl, Nat.le_refl _, fun _ _ _ => rfl⟩ (.inl rfl)
  · refine wpList_append_sep hgd s x T ho B E i z 1 nb ET.sl hi hz hsz hby hzs (by decide) v l.length (l.map e) hs hown ⟨b, off, none⟩ m.length cap (m.map e) hx (by simp) ?_ ?_ hn2 hn hB ?_
    · intro j u hu
      rw [List.getElem?_map] at hu
      obtain ⟨y, hy, rfl⟩ := Option.map_eq_some_iff.1 hu
      have := h3 j y hy
      have ea : (⟨b, off, none⟩ : Addr).add j = ⟨b, off + j, none⟩ := by unfold Addr.add; split <;> simp_all
      rw [ea]; exact this
    · intro u hu
      obtain ⟨y, hy, rfl⟩ := List.mem_map.1 hu
      exact h1 y hy
    · intro v' w' hown' hgr hsp
      exact h v' w' (by simpa [OE] using hown') (hown.below (Below.refl _ _) hgr hB) hgr hsp
  · refine wpList_append_sep hgd s x T ho B E i z 1 nb ET.sl hi hz hsz hby hzs (by decide) v l.length (l.map e) hs hown x0 0 cap [] hx (by simp) (by simp) (by simp) (by simpa using hn2) (by simpa using hn) hB ?_
    intro v' w' hown' hgr hsp
    exact h v' w' (by simpa [OE] using hown') (hown.below (Below.refl _ _) hgr hB) hgr hsp
/-- append of one element, out of a new block -/
theorem wpList_es1 {T : TypeId} {nb : Nat} (ET : ElTy P T E nb) (B : Nat) (W : World) (hgd : o.guard = none) (s x : Operand)
    (ho : o.op = .call { callee := .builtin .append, args := #[s, x], argTypes := #[T, T] })
    (v : Value) (l : List α) (c : α) (ev : Value) (h1 : (e c).oneCell' = true) (hs : a.eval s = v) (hx : a.eval x = .slice (Option.some ⟨W.heap.size, 0, Option.none⟩) 1 1) (hw : w = W.alloc (.cells #[ev] E)) (hc : ev = e c)
    (hown : OE e E B W v l) (hn : (l.length + 1) * nb ≤ 140737488355328) (hn2 : l.length + 1 ≤ maxLen) (hB : B ≤ W.heap.size)
    (h : ∀ v' w', OE e E B w' v' (l ++ [c]) → Below B W w' → W.grownBy w' v.ownBlock → Sep W v v' → wpList P ops Q rest (a.put o.dst v') w') : wpList P ops Q (o :: rest) a w := by
  subst hc
  subst hw
  have hb0 : Below W.heap.size W (W.alloc (.cells #[e c] E)) := (Below.refl _ _).alloc (Nat.le_refl _) _
  refine wpList_es (w := W.alloc (.cells #[e c] E)) ET B hgd s x ho v _ l [c] (by simpa using h1) hs hx (hown.keep hb0) ?_ (by simpa using hn) (by simpa using hn2) (Nat.le_trans hB hb0.size) fun v' w' h1 h2 h3 h4 => ?_
  · have := ES.lit (e := e) W E [c] (by simp only [maxLen]; simp)
    simpa using this
  · refine h v' w' h1 ((hb0.mono hB).trans h2) ⟨h3.os, h3.tape, h3.output, Nat.le_trans (by simp) h3.size, fun k hk hne => ?_⟩ ?_
    · rw [h3.block k (by simp; omega) hne]
      exact Below.heap_alloc W _ k hk
    · rcases h4 with h4 | h4
      · exact .inl h4
      · exact .inr fun k hk => by have := h4 k hk; simp at this; omega
end
end
theorem ret_i {k : IntKind} {a b : Int} (h : a = b) : Ending.returned (.int k a) = .returned (.int k b) := by rw [h]
theorem ret_b {a b : Bool} (h : a = b) : Ending.returned (.bool a) = .returned (.bool b) := by rw [h]
theorem hid {p : Prop} (h : p) : Hid p := h
theorem cellA {wa W : World} {p : Addr} {v : Value} (hB : Below wa.heap.size wa W) (h : wa.cell? p = some v) : W.cell? p = some v := by
  rw [hB.cell (World.block_lt_of_cell? wa _ h)]; exact h
theorem cellK {B : Nat} {wa W : World} {p : Addr} {v : Value} (hB : Below B wa W) (h : wa.cell? p = some v) (hp : p.block < B := by exact World.block_lt_of_cell? _ _ ‹_›) : W.cell? p = some v := by
  rw [hB.cell hp]; exact h
/-- a row of numbers -/
abbrev iv : Int → Value := Value.int .i64
/-- the numbers of a slice that came in -/
theorem ES.of_ints {w : World} {x : Addr} {len cap : Nat} {zs : List Int} (hl : len ≤ cap) (hm : cap ≤ maxLen) (hz : zs.length = cap)
    (hc : ∀ i, i < zs.length → w.cell? (x.add i) = some (.int .i64 (zs.getD i 0))) : ∃ l, ES iv w (.slice (some x) len cap) l ∧ l.length = len := by
  refine ⟨zs.take len, ?_, by simp; omega⟩
  have hlen : (zs.take len).length = len := by simp; omega
  by_cases h0 : len = 0
  · subst h0
    exact .inr (.inr ⟨x, cap, rfl, by simp, hm⟩)
  · obtain ⟨b, off, spot⟩ := x
    have hc0 := hc 0 (by omega)
    have hspot : spot = none := by simpa [Addr.add] using World.cell?_spot hc0
    subst hspot
    refine .inr (.inl ⟨b, off, cap, by rw [hlen], by rw [hlen]; exact hl, hm, fun i y hi => ?_⟩)
    have hi' : i < len := by have := (List.getElem?_eq_some_iff.1 hi).1; rwa [hlen] at this
    have hci := hc i (by omega)
    have ea : (⟨b, off, none⟩ : Addr).add i = ⟨b, off + i, none⟩ := by unfold Addr.add; split <;> simp_all
    rw [ea] at hci
    rw [hci, List.getD_eq_getElem?_getD]
    rw [List.getElem?_take_of_lt hi'] at hi
    rw [hi]
    rfl
theorem ES.cells {w : World} {v : Value} {l : List Int} (h : ES iv w v l) : (∃ a cap, v = .slice a 0 cap ∧ l = []) ∨
    (∃ b off cap, v = .slice (some ⟨b, off, none⟩) l.length cap ∧ 0 < l.length ∧ l.length ≤ cap ∧ cap ≤ maxLen ∧ ∀ i : Nat, i < l.length → w.cell? ⟨b, off + i, none⟩ = some (.int .i64 (l.getD i 0))) := by
  by_cases h0 : 0 < l.length
  · obtain ⟨b, off, cap, e, h1, h2, h3⟩ := h.open1 h0
    refine .inr ⟨b, off, cap, e, h0, h1, h2, fun i hi => ?_⟩
    rw [h3 i l[i] (List.getElem?_eq_getElem hi), List.getD_eq_getElem?_getD, List.getElem?_eq_getElem hi]
    rfl
  · have : l = [] := List.length_eq_zero_iff.1 (by omega)
    subst this
    obtain ⟨a, cap, e⟩ := h.len
    exact .inl ⟨a, cap, e, rfl⟩
theorem OE.set {α : Type} {e : α → Value} {E : TypeId} {B : Nat} {w : World} {g n cap i : Nat} {l : List α} (h : OE e E B w (.slice (some ⟨g, 0, none⟩) n cap) l) (hi : i < l.length) (x : α) :
    OE e E B (w.setCell ⟨g, i, none⟩ (e x)) (.slice (some ⟨g, 0, none⟩) n cap) (l.set i x) := by
  rcases h.2 with ⟨hc, _⟩ | ⟨g', cap', cur, hv, hB, hg, hcap, hm, hs, ht⟩
  · cases hc
  · simp at hv
    obtain ⟨rfl, rfl, rfl⟩ := hv
    refine ⟨by simp, .inr ⟨g, cap, cur.setIfInBounds i (e x), by simp, hB, ?_, by simpa using hcap, hm, by simpa using hs, ?_⟩⟩
    · have hlt := (Array.getElem?_eq_some_iff.1 hg).1
      show (w.heap.modify g _)[g]? = _
      rw [Array.getElem?_modify, if_pos rfl, hg]
      rfl
    · rw [Array.toList_setIfInBounds, List.take_set, List.length_set, ht, List.map_set]
theorem OE.cellAt {α : Type} {e : α → Value} {E : TypeId} {B : Nat} {w : World} {g n cap i : Nat} {l : List α} (h : OE e E B w (.slice (some ⟨g, 0, none⟩) n cap) l) (x : α) (hi : l[i]? = some x) :
    w.cell? ⟨g, i, none⟩ = some (e x) ∧ w.frozen? ⟨g, i, none⟩ = false := by
  rcases h.2 with ⟨hc, _⟩ | ⟨g', cap', cur, hv, hB, hg, hcap, hm, hs, ht⟩
  · cases hc
  · simp at hv
    obtain ⟨rfl, rfl, rfl⟩ := hv
    have hil : i < l.length := (List.getElem?_eq_some_iff.1 hi).1
    have e1 : cur.toList[i]? = some (e x) := by
      have e2 : (cur.toList.take (l.length * 1))[i]? = some (e x) := by rw [ht]; simp [hi]
      rw [List.getElem?_take_of_lt (by omega)] at e2
      exact e2
    have e3 : cur[i]? = some (e x) := by simpa using e1
    constructor
    · simp only [World.cell?, hg]; simpa using e3
    · simp [World.frozen?, hg]
end PM
end Go.Proofs.YtnpbfjkfbobgaaaGreat

/-
  SLICES OF ELEMENTS OF SOME CELLS (structs): what a slice reads as ('EM'), a row that the call itself has made ('OM'), and append. Over any program.
-/
namespace Go.Proofs.YtnpbfjkfbobgaaaGreat
namespace PM
open Go.RowKit
set_option linter.unusedVariables false
variable {α : Type} {e : α → List Value} {c : Nat}
/-- an element's cells, from a place on -/
def Lies (w : World) (b off : Nat) (l : List Value) : Prop := ∀ j u, l[j]? = some u → w.cell? ⟨b, off + j, none⟩ = some u
/-- what a slice of elements of c cells reads as -/
def EM (e : α → List Value) (c : Nat) (w : World) (v : Value) (l : List α) : Prop :=
  ∃ ad cap, v = .slice ad l.length cap ∧ l.length ≤ cap ∧ cap ≤ maxLen ∧ (0 < l.length → ∃ b off, ad = some ⟨b, off, none⟩ ∧ ∀ i x, l[i]? = some x → Lies w b (off + i * c) (e x))
theorem Lies.keep {W w : World} {b off : Nat} {l : List Value} (hb : Below W.heap.size W w) (h : Lies W b off l) : Lies w b off l := fun j u hu => by
  have := h j u hu
  rw [hb.cell (World.block_lt_of_cell? W _ this)]; exact this
theorem EM.keep {W w : World} {v : Value} {l : List α} (hb : Below W.heap.size W w) (h : EM e c W v l) : EM e c w v l := by
  obtain ⟨ad, cap, hv, h1, h2, h3⟩ := h
  refine ⟨ad, cap, hv, h1, h2, fun hp => ?_⟩
  obtain ⟨b, off, ha, h4⟩ := h3 hp
  exact ⟨b, off, ha, fun i x hi => (h4 i x hi).keep hb⟩
theorem EM.nil (w : World) : EM e c w (.slice none 0 0) [] := ⟨none, 0, rfl, Nat.le_refl _, by simp, fun h => absurd h (by simp)⟩
theorem EM.nil' (w : World) (ad : Option Addr) (cap : Nat) (h : cap ≤ maxLen) : EM e c w (.slice ad 0 cap) [] := ⟨ad, cap, rfl, Nat.zero_le _, h, fun h => absurd h (by simp)⟩
theorem EM.len {w : World} {v : Value} {l : List α} (h : EM e c w v l) : ∃ ad cap, v = .slice ad l.length cap := by
  obtain ⟨ad, cap, hv, _⟩ := h
  exact ⟨ad, cap, hv⟩
theorem EM.bound {w : World} {v : Value} {l : List α} (h : EM e c w v l) : l.length ≤ maxLen := by
  obtain ⟨ad, cap, hv, h1, h2, _⟩ := h
  omega
theorem EM.open1 {w : World} {v : Value} {l : List α} (h : EM e c w v l) (hl : 0 < l.length) : ∃ b off cap, v = .slice (some ⟨b, off, none⟩) l.length cap ∧ l.length ≤ cap ∧ cap ≤ maxLen ∧ ∀ i x, l[i]? = some x → Lies w b (off + i * c) (e x) := by
  obtain ⟨ad, cap, hv, h1, h2, h3⟩ := h
  obtain ⟨b, off, rfl, h4⟩ := h3 hl
  exact ⟨b, off, cap, hv, h1, h2, h4⟩
theorem flat_get (he : ∀ x, (e x).length = c) : ∀ (l : List α) (i : Nat) (x : α), l[i]? = some x → ∀ j u, (e x)[j]? = some u → (l.flatMap e)[i * c + j]? = some u
  | [], i, x, h, _, _, _ => by simp at h
  | y :: l, 0, x, h, j, u, hu => by
    simp at h; subst h
    rw [List.flatMap_cons, Nat.zero_mul, Nat.zero_add, List.getElem?_append_left (List.getElem?_eq_some_iff.1 hu).1]; exact hu
  | y :: l, i + 1, x, h, j, u, hu => by
    have ih := flat_get he l i x (by simpa using h) j u hu
    rw [List.flatMap_cons, List.getElem?_append_right (by rw [he, Nat.succ_mul]; omega), he, show (i + 1) * c + j - c = i * c + j by rw [Nat.succ_mul]; omega]
    exact ih
theorem flat_len (he : ∀ x, (e x).length = c) (l : List α) : (l.flatMap e).length = l.length * c := by
  induction l with
  | nil => simp
  | cons y l ih => rw [List.flatMap_cons, List.length_append, he, ih, List.length_cons, Nat.succ_mul]; omega
theorem flat_inv (hc : 0 < c) (he : ∀ x, (e x).length = c) (l : List α) (k : Nat) (u : Value) (h : (l.flatMap e)[k]? = some u) : ∃ x, l[k / c]? = some x ∧ (e x)[k % c]? = some u := by
  have hk := (List.getElem?_eq_some_iff.1 h).1
  rw [flat_len he] at hk
  have h1 : k / c < l.length := Nat.div_lt_of_lt_mul (by rw [Nat.mul_comm]; exact hk)
  refine ⟨l[k / c], List.getElem?_eq_getElem h1, ?_⟩
  have h2 : k % c < (e l[k / c]).length := by rw [he]; exact Nat.mod_lt _ hc
  have h3 := flat_get he l (k / c) _ (List.getElem?_eq_getElem h1) (k % c) _ (List.getElem?_eq_getElem h2)
  rw [Nat.div_add_mod' k c, h] at h3
  rw [List.getElem?_eq_getElem h2, ← h3]
/-- a row that the call itself has made: from block number B on -/
def OM (e : α → List Value) (c : Nat) (E : TypeId) (B : Nat) (w : World) (v : Value) (l : List α) : Prop := w.ownsRow B E c v l.length (l.flatMap e)
variable {E : TypeId} {B : Nat}
theorem OM.em (he : ∀ x, (e x).length = c) {w : World} {v : Value} {l : List α} (h : OM e c E B w v l) : EM e c w v l := by
  rcases h.2 with ⟨rfl, h0⟩ | ⟨g, cap, cur, rfl, hB, hg, hn, hm, hs, ht⟩
  · have : l = [] := List.length_eq_zero_iff.1 h0
    subst this
    exact EM.nil _
  · refine ⟨_, cap, rfl, hn, hm, fun _ => ⟨g, 0, rfl, fun i x hi j u hu => ?_⟩⟩
    have e0 := flat_get he l i x hi j u hu
    have hlt := (List.getElem?_eq_some_iff.1 e0).1
    rw [flat_len he] at hlt
    have e1 : cur.toList[i * c + j]? = some u := by
      rw [← ht, List.getElem?_take_of_lt hlt] at e0
      exact e0
    have e3 : cur[i * c + j]? = some u := by simpa using e1
    rw [Nat.zero_add]
    simp only [World.cell?, hg]
    simpa using e3
theorem OM.lt {w : World} {v : Value} {l : List α} (h : OM e c E B w v l) : ∀ k, v.ownBlock = some k → B ≤ k ∧ k < w.heap.size := World.ownsRow.lt h
theorem OM.keep {W w : World} {v : Value} {l : List α} (hb : Below W.heap.size W w) (h : OM e c E B W v l) : OM e c E B w v l := by
  refine ⟨h.1, ?_⟩
  rcases h.2 with hn | ⟨g, cap, cur, hv, hB, hg, r⟩
  · exact .inl hn
  · exact .inr ⟨g, cap, cur, hv, hB, (hb.block g (Array.getElem?_eq_some_iff.1 hg).1).trans hg, r⟩
theorem OM.mono {B' : Nat} (hb : B' ≤ B) {w : World} {v : Value} {l : List α} (h : OM e c E B w v l) : OM e c E B' w v l := by
  refine ⟨h.1, ?_⟩
  rcases h.2 with hn | ⟨g, cap, cur, hv, hB, r⟩
  · exact .inl hn
  · exact .inr ⟨g, cap, cur, hv, Nat.le_trans hb hB, r⟩
theorem OM.nilrow (w : World) : OM e c E B w (.slice none 0 0) [] := World.ownsRow_nil w B E c
theorem OM.below {a w w' : World} {v : Value} {l : List α} (h : OM e c E B w v l) (hb : Below B a w) (hg : w.grownBy w' v.ownBlock) (hB : B ≤ w.heap.size) : Below B a w' :=
  hb.grown hg hB fun k hk => (h.lt k hk).1
theorem OM.kept {β : Type} {e' : β → List Value} {c' : Nat} {w w' : World} {x v : Value} {l : List β} (h : OM e' c' E B w v l) (hg : w.grownBy w' x.ownBlock) (ha : Apart x v) : OM e' c' E B w' v l := by
  refine World.ownsRow.kept h hg ?_
  by_cases hn : v.ownBlock = none
  · exact .inl hn
  · right
    intro he
    obtain ⟨k, hk⟩ := Option.ne_none_iff_exists'.1 hn
    exact ha k (he ▸ hk) hk
theorem EM.kept {w w' : World} {v : Value} {row : Option Nat} {l : List α} (h : EM e c w v l) (hg : w.grownBy w' row) (hr : ∀ k, v.ownBlock = some k → row ≠ some k) : EM e c w' v l := by
  obtain ⟨ad, cap, hv, h1, h2, h3⟩ := h
  refine ⟨ad, cap, hv, h1, h2, fun hp => ?_⟩
  obtain ⟨b, off, rfl, h4⟩ := h3 hp
  exact ⟨b, off, rfl, fun i x hi j u hu => hg.cell (h4 i x hi j u hu) (fun e => hr b (by rw [hv]; rfl) e.symm)⟩
theorem OM.made (w : World) (z : Array Value) (cap : Nat) (hm : cap ≤ maxLen) (hs : z.size = cap * c) (hB : B ≤ w.heap.size) : OM e c E B (w.alloc (.cells z E)) (.slice (some ⟨w.heap.size, 0, none⟩) 0 cap) [] :=
  World.ownsRow_made w z cap hB hm hs
/-- the type facts of a slice of elements -/
structure MTy (P : Program) (T E : TypeId) (c nb : Nat) : Prop where
  sl : P.underlying T = some (.slice E)
  pos : 0 < c
  row : ∃ i z, P.info? E = some i ∧ i.zero = some z ∧ i.size = c ∧ i.bytes = nb ∧ z.cells.size = c
section
variable {P : Program} {w : World} {ops : Array Oper} {rest : List Oper} {o : Oper} {a : Act} {Q : Exit → Act → World → Prop}
/-- append onto a row of the call's own -/
theorem wpList_em {T : TypeId} {nb : Nat} (ET : MTy P T E c nb) (he : ∀ x, (e x).length = c) (h1 : ∀ x, ∀ u ∈ e x, u.oneCell' = true) (B : Nat) (hgd : o.guard = none) (s x : Operand)
    (ho : o.op = .call { callee := .builtin .append, args := #[s, x], argTypes := #[T, T] })
    (v xv : Value) (l m : List α) (hs : a.eval s = v) (hx : a.eval x = xv) (hown : OM e c E B w v l) (hsrc : EM e c w xv m) (hn : (l.length + m.length) * nb ≤ 140737488355328) (hn2 : l.length + m.length ≤ maxLen) (hB : B ≤ w.heap.size)
    (h : ∀ v' w', OM e c E B w' v' (l ++ m) → Below B w w' → w.grownBy w' v.ownBlock → Sep w v v' → wpList P ops Q rest (a.put o.dst v') w') : wpList P ops Q (o :: rest) a w := by
  obtain ⟨i, z, hi, hz, hsz, hby, hzs⟩ := ET.row
  obtain ⟨ad, cap, rfl, h1', h2, h3⟩ := hsrc
  by_cases h0 : ad = none
  · subst h0
    by_cases hm : 0 < m.length
    · obtain ⟨_, _, ha, _⟩ := h3 hm
      cases ha
    · have hm0 : m = [] := List.length_eq_zero_iff.1 (by omega)
      subst hm0
      by_cases hc0 : cap = 0
      · subst hc0
        refine wpList_append_own_none hgd s x T ho B E i c ET.sl hi v l.length (l.flatMap e) hs hown (by simpa using hx) ?_
        exact h v w (by simpa using hown) (Below.refl _ _) ⟨rfl, rfl, rfl, Nat.le_refl _, fun _ _ _ => rfl⟩ (.inl rfl)
      · refine wpList_plain hgd fun K hK => ?_
        have hrun : (Builtin.append_ #[T, T] o.type #[v, .slice none 0 cap]).run P w = .ok v w := by
          rcases hown.2 with ⟨rfl, h00⟩ | ⟨g, cap', cur, rfl, _, _, hnc, _⟩
          · simp [Builtin.append_, run_underlying ET.sl, sizeOf, typeInfo, hi, Builtin.lenOf, Builtin.firstCells]
          · simp [Builtin.append_, run_underlying ET.sl, sizeOf, typeInfo, hi, Builtin.lenOf, Builtin.firstCells, hnc, storeCells]
        unfold Oper.wp
        simp [execOp, ho, resolve, invoke, builtin, hs, hx, hrun, Result.andThen]
        exact hK _ _ (h v w (by simpa using hown) (Below.refl _ _) ⟨rfl, rfl, rfl, Nat.le_refl _, fun _ _ _ => rfl⟩ (.inl rfl))
  · obtain ⟨ad0, rfl⟩ := Option.ne_none_iff_exists'.1 h0
    refine wpList_append_sep hgd s x T ho B E i z c nb ET.sl hi hz hsz hby hzs ET.pos v l.length (l.flatMap e) hs hown ad0 m.length cap (m.flatMap e) hx (flat_len he m) ?_ ?_ hn2 hn hB ?_
    · intro j u hu
      obtain ⟨y, hy, hu'⟩ := flat_inv ET.pos he m j u hu
      obtain ⟨b, off, ha, h4⟩ := h3 (Nat.lt_of_le_of_lt (Nat.zero_le _) (List.getElem?_eq_some_iff.1 hy).1)
      cases ha
      have ea : (⟨b, off, none⟩ : Addr).add j = ⟨b, off + j, none⟩ := by unfold Addr.add; split <;> simp_all
      rw [ea]
      have := h4 _ y hy _ u hu'
      rw [show off + j / c * c + j % c = off + j by rw [Nat.add_assoc, Nat.div_add_mod']] at this
      exact this
    · intro u hu
      obtain ⟨y, hy, hu⟩ := List.mem_flatMap.1 hu
      exact h1 y u hu
    · intro v' w' hown' hgr hsp
      exact h v' w' (by simpa [OM] using hown') (hown.below (Below.refl _ _) hgr hB) hgr hsp
theorem EM.lit (he : ∀ x, (e x).length = c) (W : World) (E : TypeId) (x : α) : EM e c (W.alloc (.cells (e x).toArray E)) (.slice (Option.some ⟨W.heap.size, 0, Option.none⟩) 1 1) [x] := by
  refine ⟨_, 1, rfl, Nat.le_refl _, by simp only [maxLen]; omega, fun _ => ⟨W.heap.size, 0, rfl, fun i y hi j u hu => ?_⟩⟩
  cases i with
  | zero =>
    simp at hi
    subst hi
    rw [Nat.zero_mul, Nat.zero_add, World.cell?_alloc_new]
    try rw [Nat.zero_add]
    simpa using hu
  | succ i => simp at hi
/-- append of one element, out of a new block -/
theorem wpList_em1 {T : TypeId} {nb : Nat} (ET : MTy P T E c nb) (he : ∀ x, (e x).length = c) (h1 : ∀ x, ∀ u ∈ e x, u.oneCell' = true) (B : Nat) (W : World) (hgd : o.guard = none) (s x : Operand)
    (ho : o.op = .call { callee := .builtin .append, args := #[s, x], argTypes := #[T, T] })
    (v : Value) (l : List α) (y : α) (ev : Array Value) (hs : a.eval s = v) (hx : a.eval x = .slice (Option.some ⟨W.heap.size, 0, Option.none⟩) 1 1) (hw : w = W.alloc (.cells ev E)) (hy : ev = (e y).toArray)
    (hown : OM e c E B W v l) (hn : (l.length + 1) * nb ≤ 140737488355328) (hn2 : l.length + 1 ≤ maxLen) (hB : B ≤ W.heap.size)
    (h : ∀ v' w', OM e c E B w' v' (l ++ [y]) → Below B W w' → W.grownBy w' v.ownBlock → Sep W v v' → wpList P ops Q rest (a.put o.dst v') w') : wpList P ops Q (o :: rest) a w := by
  subst hy
  subst hw
  have hb0 : Below W.heap.size W (W.alloc (.cells (e y).toArray E)) := (Below.refl _ _).alloc (Nat.le_refl _) _
  refine wpList_em (w := W.alloc (.cells (e y).toArray E)) ET he h1 B hgd s x ho v _ l [y] hs hx (hown.keep hb0) (EM.lit he W E y) (by simpa using hn) (by simpa using hn2) (Nat.le_trans hB hb0.size) fun v' w' g1 g2 g3 g4 => ?_
  refine h v' w' g1 ((hb0.mono hB).trans g2) ⟨g3.os, g3.tape, g3.output, Nat.le_trans (by simp) g3.size, fun k hk hne => ?_⟩ ?_
  · rw [g3.block k (by simp; omega) hne]
    exact Below.heap_alloc W _ k hk
  · rcases g4 with g4 | g4
    · exact .inl g4
    · exact .inr fun k hk => by have := g4 k hk; simp at this; omega
end
end PM
end Go.Proofs.YtnpbfjkfbobgaaaGreat

/-
  A ROW OF THE CALL's OWN, WITH A PROPERTY OF ALL ITS CELLS (those behind its length too): append, and bytes that stay. Over any program.
-/
namespace Go.Proofs.YtnpbfjkfbobgaaaGreat
namespace PM
open Go.RowKit
set_option linter.unusedVariables false
/-- no byte -/
def NoB (x : Value) : Prop := ∀ y : UInt8, x ≠ bv y
/-- all cells of a block are no bytes -/
def NB (w : World) (g : Nat) : Prop := ∀ i x, w.cell? ⟨g, i, none⟩ = some x → NoB x
theorem NB.same {w w' : World} {g : Nat} (h : NB w g) (he : w'.heap[g]? = w.heap[g]?) : NB w' g := fun i x hx => h i x (by rw [← World.cell?_of_block (a := ⟨g, i, none⟩) he]; exact hx)
theorem NB.keep {w w' : World} {g : Nat} (hb : Below w.heap.size w w') (hg : g < w.heap.size) (h : NB w g) : NB w' g := h.same (hb.block g hg)
theorem NB.keepx {w w' : World} {g b : Nat} (hx : Bx b w w') (hg : g < w.heap.size) (hne : g ≠ b) (h : NB w g) : NB w' g := h.same (hx.block g hg hne)
theorem NB.of {w : World} {g : Nat} {cs : Array Value} {E : TypeId} (hg : w.heap[g]? = some (.cells cs E (0, 0))) (h : ∀ x ∈ cs.toList, NoB x) : NB w g := fun i x hx => by
  simp only [World.cell?, hg] at hx
  have hx' : cs[i]? = some x := by simpa using hx
  exact h x (List.mem_iff_getElem?.2 ⟨i, by simpa using hx'⟩)
theorem NB.mem {w : World} {g : Nat} {cs : Array Value} {E : TypeId} (hg : w.heap[g]? = some (.cells cs E (0, 0))) (h : NB w g) : ∀ x ∈ cs.toList, NoB x := fun x hx => by
  obtain ⟨i, hi⟩ := List.mem_iff_getElem?.1 hx
  refine h i x ?_
  simp only [World.cell?, hg]
  simpa using hi
theorem noB_at {z : Array Value} (hp : 0 < z.size) (h : ∀ x ∈ z.toList, NoB x) (i : Nat) : NoB z[i % z.size]! := by
  have hlt : i % z.size < z.size := Nat.mod_lt _ hp
  rw [getElem!_pos z (i % z.size) hlt]
  exact h _ (by simp)
theorem noB_zero {z : Array Value} (h : ∀ x ∈ z.toList, NoB x) (k : Nat) : ∀ x ∈ (Builtin.zeroCells z k).toList, NoB x := by
  intro x hx
  simp [Builtin.zeroCells] at hx
  obtain ⟨i, hi, rfl⟩ := hx
  exact noB_at (Nat.pos_of_ne_zero fun h0 => by rw [h0] at hi; omega) h i
theorem noB_made {z : Array Value} (hp : 0 < z.size) (h : ∀ x ∈ z.toList, NoB x) (k : Nat) : ∀ x ∈ (madeCells z k).toList, NoB x := by
  intro x hx
  simp [madeCells] at hx
  obtain ⟨i, hi, rfl⟩ := hx
  exact noB_at hp h i
/-- bytes stay while a row that has none is turned -/
theorem BS.keptn {w w' : World} {v : Value} {g : Nat} {l : List UInt8} (h : BS w v l) (hg : w.grownBy w' (some g)) (hn : NB w g) : BS w' v l := by
  rcases h with h | ⟨b, off, cap, rfl, h1, h2, h3⟩ | h
  · exact .inl h
  · refine .inr (.inl ⟨b, off, cap, rfl, h1, h2, fun i x hi => ?_⟩)
    have hc := h3 i x hi
    exact hg.cell hc (fun he => by injection he with he; subst he; exact hn _ _ hc x rfl)
  · exact .inr (.inr h)
theorem BK.kept {w w' : World} {b g : Nat} {cs : Array Value} {T : TypeId} (h : BK w b cs T) (hg : w.grownBy w' (some g)) (hne : b ≠ g) : BK w' b cs T := (hg.block b h.lt (by simpa using hne)).trans h
theorem RD.kept {T : TypeId} {w w' : World} {b g : Nat} {l : List UInt8} {wr : Bool} (h : RD T w b l wr) (hg : w.grownBy w' (some g)) (hn : NB w g) (hne : b ≠ g) : RD T w' b l wr := by
  obtain ⟨v, h1, h2⟩ := h
  exact ⟨v, h1.kept hg hne, h2.keptn hg hn⟩
variable {α : Type} {e : α → List Value} {c : Nat} {E : TypeId} {B : Nat}
/-- another block than one of another type -/
theorem OM.ne {w : World} {g n cap b : Nat} {l : List α} {cs : Array Value} {T : TypeId} (h : OM e c E B w (.slice (some ⟨g, 0, none⟩) n cap) l) (hb : BK w b cs T) (hT : T ≠ E) : b ≠ g := by
  rcases h.2 with ⟨hc, _⟩ | ⟨g', cap', cur, hv, hB, hg, r⟩
  · cases hc
  · simp at hv
    obtain ⟨rfl, _, rfl⟩ := hv
    intro e
    subst e
    rw [hb] at hg
    injection hg with hg
    injection hg with _ hg _
    exact hT hg
theorem OM.keepx {w w' : World} {b : Nat} {v : Value} {l : List α} {cs : Array Value} {T : TypeId} (h : OM e c E B w v l) (hx : Bx b w w') (hb : BK w b cs T) (hT : T ≠ E) : OM e c E B w' v l := by
  refine ⟨h.1, ?_⟩
  rcases h.2 with hn | ⟨g, cap, cur, rfl, hB, hg, r⟩
  · exact .inl hn
  · exact .inr ⟨g, cap, cur, rfl, hB, (hx.block g (Array.getElem?_eq_some_iff.1 hg).1 (fun e => (OM.ne h hb hT) e.symm)).trans hg, r⟩
section
variable {P : Program} {w : World} {ops : Array Oper} {rest : List Oper} {o : Oper} {a : Act} {Q : Exit → Act → World → Prop}
/-- append of one element, out of a new block, onto a row that lies somewhere: where no byte is, none comes -/
theorem wpList_em1n {T : TypeId} {nb : Nat} (ET : MTy P T E c nb) (hz0 : ∀ i z, P.info? E = some i → i.zero = some z → ∀ x ∈ z.cells.toList, NoB x) (he : ∀ x, (e x).length = c) (h1 : ∀ x, ∀ u ∈ e x, u.oneCell' = true) (hnb : ∀ x, ∀ u ∈ e x, NoB u) (B : Nat) (W : World) (hgd : o.guard = none) (s x : Operand)
    (ho : o.op = .call { callee := .builtin .append, args := #[s, x], argTypes := #[T, T] })
    (g n cap : Nat) (l : List α) (y : α) (ev : Array Value) (hs : a.eval s = .slice (Option.some ⟨g, 0, Option.none⟩) n cap) (hx : a.eval x = .slice (Option.some ⟨W.heap.size, 0, Option.none⟩) 1 1) (hw : w = W.alloc (.cells ev E)) (hy : ev = (e y).toArray)
    (hown : OM e c E B W (.slice (some ⟨g, 0, none⟩) n cap) l) (hg : NB W g) (hn : (l.length + 1) * nb ≤ 140737488355328) (hn2 : l.length + 1 ≤ maxLen) (hB : B ≤ W.heap.size)
    (h : ∀ g' cap' w', OM e c E B w' (.slice (some ⟨g', 0, none⟩) (n + 1) cap') (l ++ [y]) → NB w' g' → Below B W w' → W.grownBy w' (some g) → wpList P ops Q rest (a.put o.dst (.slice (some ⟨g', 0, none⟩) (n + 1) cap')) w') : wpList P ops Q (o :: rest) a w := by
  have hln : l.length = n := by
    rcases hown.2 with ⟨hc, _⟩ | ⟨g', cap', cur, hv, hB, hg, r⟩
    · cases hc
    · simp at hv; exact hv.2.1.symm
  subst hln
  obtain ⟨i, z, hi, hz, hsz, hby, hzs⟩ := ET.row
  have hz1 := hz0 i z hi hz
  subst hy
  subst hw
  have hb0 : Below W.heap.size W (W.alloc (.cells (e y).toArray E)) := (Below.refl _ _).alloc (Nat.le_refl _) _
  have hgl := (hown.lt g rfl).2
  have hown' := hown.keep hb0
  have hg' := hg.keep hb0 hgl
  have hsrc : ∀ j u, (e y)[j]? = some u → (W.alloc (.cells (e y).toArray E)).cell? ((⟨W.heap.size, 0, none⟩ : Addr).add j) = some u := fun j u hu => by
    have ea : (⟨W.heap.size, 0, none⟩ : Addr).add j = ⟨W.heap.size, j, none⟩ := by unfold Addr.add; split <;> simp_all
    rw [ea, World.cell?_alloc_new]
    simpa using hu
  refine wpList_plain hgd fun K hK => ?_
  obtain ⟨v', w', hr, g1, g2, g3⟩ := run_append_sep (P := P) (w := W.alloc (.cells (e y).toArray E)) B T o.type E i z c nb ET.sl hi hz hsz hby hzs ET.pos _ l.length (l.flatMap e) hown' ⟨W.heap.size, 0, none⟩ 1 1 (e y) (by rw [he]; omega) hsrc (h1 y) hn2 hn (Nat.le_trans hB hb0.size)
  have hgr : W.grownBy w' (some g) := ⟨g2.os, g2.tape, g2.output, Nat.le_trans (by simp) g2.size, fun k hk hne => by rw [g2.block k (by simp; omega) hne]; exact Below.heap_alloc W _ k hk⟩
  have fin : ∀ g' cap', v' = .slice (some ⟨g', 0, none⟩) (l.length + 1) cap' → NB w' g' → K (a.put o.dst v') w' := fun g' cap' e1 h2 => by
    subst e1
    exact hK _ _ (h g' cap' w' (by simpa [OM] using g1) h2 (hown.below (Below.refl _ _) hgr hB) hgr)
  unfold Oper.wp execOp
  simp only [ho, resolve, invoke, builtin, Sem.run_bind, Sem.run_pure, Result.andThen_ok, List.map_toArray, List.map_cons, List.map_nil, hs, hx, hr]
  rcases hown'.2 with ⟨hc, _⟩ | ⟨g0, cap0, cur, hv, hB0, hg0, hnc, hcm, hcs, htake⟩
  · cases hc
  · simp at hv
    obtain ⟨rfl, rfl⟩ := hv
    have hcur := hg'.mem hg0
    subst hsz
    subst hby
    by_cases hroom : l.length + 1 ≤ cap
    · have hfit : l.length * i.size + (e y).length ≤ cur.size := by rw [he, hcs, ← Nat.succ_mul]; exact Nat.mul_le_mul_right _ hroom
      have hr2 := run_append_room (P := P) _ T o.type E i ET.sl hi g l.length cap cur hg0 ⟨W.heap.size, 0, none⟩ 1 1 (e y) (by rw [he]; omega) hsrc (h1 y) hroom hfit
      rw [hr] at hr2
      injection hr2 with e1 e2
      refine fin g cap e1 ?_
      rw [e2]
      refine NB.of (setRow_heap _ g cur _ E (0, 0) hg0) fun u hu => ?_
      simp only [List.mem_append] at hu
      rcases hu with (hu | hu) | hu
      · exact hcur u (List.mem_of_mem_take hu)
      · exact hnb y u hu
      · exact hcur u (List.mem_of_mem_drop hu)
    · have holds : ∀ j u, (l.flatMap e)[j]? = some u → (W.alloc (.cells (e y).toArray E)).cell? ((⟨g, 0, none⟩ : Addr).add j) = some u := World.ownsRow.cells hown' (g := g) rfl
      have h63' := hn2
      simp only [maxLen] at h63'
      have hr2 := run_append_grow (P := P) _ T o.type E i z ET.sl hi hz ⟨g, 0, none⟩ l.length cap (l.flatMap e) hown'.1 holds ⟨W.heap.size, 0, none⟩ 1 1 (e y) (by rw [he]; omega) hsrc (by omega) (by omega) (growslice_fits (by omega) hn)
      rw [hr] at hr2
      injection hr2 with e1 e2
      refine fin _ _ e1 ?_
      rw [e2]
      refine NB.of (E := E) (heap_alloc_new _ _) fun u hu => ?_
      simp only [Array.toList_append, List.mem_append] at hu
      rcases hu with (hu | hu) | hu
      · obtain ⟨q, _, hq⟩ := List.mem_flatMap.1 hu
        exact hnb q u hq
      · exact hnb y u hu
      · exact noB_zero hz1 _ u hu
/-- make of a row -/
theorem run_mkm {T : TypeId} {nb : Nat} (ET : MTy P T E c nb) (hz0 : ∀ i z, P.info? E = some i → i.zero = some z → ∀ x ∈ z.cells.toList, NoB x) (w : World) (B : Nat) (kl kc : IntKind) (n : Nat) (hn : nb * n ≤ 281474976710656) (hn2 : n ≤ maxLen) (hB : B ≤ w.heap.size) :
    ∃ g w', (Instr.makeSlice T (.int kl 0) (.int kc (n : Int))).run P w = .ok (.slice (some ⟨g, 0, none⟩) 0 n) w' ∧ OM e c E B w' (.slice (some ⟨g, 0, none⟩) 0 n) [] ∧ NB w' g ∧ w.heap.size ≤ g ∧ Below w.heap.size w w' := by
  obtain ⟨i, z, hi, hz, hsz, hby, hzs⟩ := ET.row
  have hz1 := hz0 i z hi hz
  have hb : (i.bytes : Int) * (n : Int) ≤ 281474976710656 := by
    have h0 : ((nb * n : Nat) : Int) ≤ 281474976710656 := by omega
    rw [hby]
    rwa [Int.natCast_mul] at h0
  have h63 : (n : Int) ≤ 9223372036854775807 := by unfold maxLen at hn2; omega
  have hr := run_make (P := P) w T E i z ET.sl hi hz kl kc 0 n (Int.le_refl _) (by omega) hb h63
  simp only [Int.toNat_zero, Int.toNat_natCast] at hr
  refine ⟨w.heap.size, _, hr, World.ownsRow_made w _ n hB hn2 (by rw [size_madeCells, hsz]), ?_, Nat.le_refl _, (Below.refl _ _).alloc (Nat.le_refl _) _⟩
  exact NB.of (E := E) (heap_alloc_new _ _) (noB_made (by rw [hzs]; exact ET.pos) hz1 _)
end
end PM
end Go.Proofs.YtnpbfjkfbobgaaaGreat

/-
  SLICES OF ELEMENTS OF SOME CELLS, CUT: 'v[K:]', 'v[:K]'. Over any program.
-/
namespace Go.Proofs.YtnpbfjkfbobgaaaGreat
namespace PM
open Go.RowKit
set_option linter.unusedVariables false
variable {α : Type} {e : α → List Value} {c nb : Nat} {P : Program} {T E : TypeId}
theorem MTy.size (MT : MTy P T E c nb) : P.underlying T = some (.slice (P.elem T)) ∧ ∀ w : World, (sizeOf (P.elem T)).run P w = .ok c w := by
  obtain ⟨i, z, hi, hz, hsz, _⟩ := MT.row
  have hel : P.elem T = E := by simp [Program.elem, MT.sl]
  refine ⟨by rw [hel]; exact MT.sl, fun w => ?_⟩
  rw [hel, run_sizeOf w hi]; simp [Program.cellsOf, hi, hsz]
theorem run_restM (MT : MTy P T E c nb) {w : World} {v : Value} {l : List α} (h : EM e c w v l) {K : Nat} (hK : K ≤ l.length) :
    ∃ a k, (∀ W : World, (Instr.slice T v (some (.int .i64 (K : Int))) none none).run P W = .ok (.slice a (l.length - K) k) W) ∧ EM e c w (.slice a (l.length - K) k) (l.drop K) := by
  obtain ⟨hT, hs⟩ := MT.size
  obtain ⟨ad, cap, rfl, h1, h2, h3⟩ := h
  refine ⟨if cap = K then ad else ad.map (·.add (K * c)), cap - K, fun W => ?_, ?_⟩
  · rw [run_slice_l W T ad l.length cap hT .i64 K (by omega) (by omega), hs]
    simp [Result.andThen, sliced]
  · refine ⟨_, _, by rw [List.length_drop], by rw [List.length_drop]; omega, by omega, fun hp => ?_⟩
    rw [List.length_drop] at hp
    obtain ⟨b, off, rfl, h4⟩ := h3 (by omega)
    refine ⟨b, off + K * c, ?_, fun i x hi => ?_⟩
    · rw [if_neg (by omega), Option.map_some]
      unfold Addr.add; split <;> simp_all
    · rw [List.getElem?_drop] at hi
      have := h4 (K + i) x hi
      rw [Nat.add_mul, ← Nat.add_assoc] at this
      exact this
theorem run_takeM (MT : MTy P T E c nb) {w : World} {v : Value} {l : List α} (h : EM e c w v l) {K : Nat} (hK : K ≤ l.length) :
    ∃ a k, (∀ W : World, (Instr.slice T v none (some (.int .i64 (K : Int))) none).run P W = .ok (.slice a K k) W) ∧ EM e c w (.slice a K k) (l.take K) := by
  obtain ⟨hT, hs⟩ := MT.size
  obtain ⟨ad, cap, rfl, h1, h2, h3⟩ := h
  refine ⟨if cap = 0 then ad else ad.map (·.add (0 * c)), cap - 0, fun W => ?_, ?_⟩
  · rw [run_slice_h W T ad l.length cap hT .i64 K (by omega) (by omega), hs]
    simp [Result.andThen, sliced]
  · refine ⟨_, _, by rw [List.length_take_of_le hK], by rw [List.length_take_of_le hK]; omega, by omega, fun hp => ?_⟩
    rw [List.length_take_of_le hK] at hp
    obtain ⟨b, off, rfl, h4⟩ := h3 (by omega)
    refine ⟨b, off, ?_, fun i x hi => ?_⟩
    · rw [if_neg (by omega), Option.map_some]
      unfold Addr.add; split <;> simp_all
    · refine h4 i x ?_
      rw [List.getElem?_take] at hi
      split at hi
      · exact hi
      · cases hi
end PM
end Go.Proofs.YtnpbfjkfbobgaaaGreat

/-
  SLICES OF ELEMENTS OF SOME CELLS (structs), AS THEY CAME IN. Over any program.
-/
namespace Go.Proofs.YtnpbfjkfbobgaaaGreat
namespace PM
open Go.RowKit Go.ChangeShapes Go.WideShapes Go.ChangeAt Go.Deep
set_option linter.unusedVariables false
theorem add_put (b off j : Nat) : (⟨b, off, none⟩ : Addr).add j = ⟨b, off + j, none⟩ := by unfold Addr.add; split <;> simp_all
theorem EM.of_trod {α : Type} {el : α → List Value} {c : Nat} {wf : α → Prop} {y0 : α} {H : Type} {enc : TypeId × Value → H} {P : Program} {w : World} {base : Nat} {held : Bool} {fuel : Nat} {t e : TypeId} {v : Value} {x : DataW H × List MemPlace}
    (ht : P.underlying t = some (.slice e)) (ce : P.cellsOf e = c) (hc : 0 < c) (heL : ∀ y, (el y).length = c)
    (hel : ∀ n cs x, DataW.trod enc P w base (fun _ => true) held n e cs = some x → ∃ y, wf y ∧ cs = el y)
    (h : DataW.trod enc P w base (fun _ => true) held fuel t [v] = some x) : ∃ es, EM el c w v es ∧ ∀ x ∈ es, wf x := by
  rcases open_slice ht h with ⟨h0, _⟩ | ⟨a, len, cap, m, n, D, Pl, hcs, hb, hl, hm, hmm, _, hx⟩
  · simp at h0
    subst h0
    exact ⟨[], EM.nil _, by simp⟩
  · simp at hcs
    subst hcs
    have hmc : m = cap := by simpa using hmm
    have each : ∀ i, i < len → ∃ y : α, wf y ∧ ∀ j u, (el y)[j]? = some u → w.cell? (a.add (i * c + j)) = some u := by
      intro i hi
      obtain ⟨cs', g1, g2⟩ := hx i (by omega)
      rw [ce] at g1
      obtain ⟨_, hlen, hcell⟩ := World.cells?_some g1
      obtain ⟨y, hy, rfl⟩ := hel _ _ _ g2
      refine ⟨y, hy, fun j u hu => ?_⟩
      have hj := (List.getElem?_eq_some_iff.1 hu).1
      have := hcell j (by omega)
      rw [add_add] at this
      rw [this]; exact hu
    obtain ⟨f, hf⟩ : ∃ f : Nat → α, ∀ i, i < len → wf (f i) ∧ ∀ j u, (el (f i))[j]? = some u → w.cell? (a.add (i * c + j)) = some u := by
      classical
      refine ⟨fun i => if hi : i < len then (each i hi).choose else y0, fun i hi => ?_⟩
      simp only [hi, dif_pos]
      exact (each i hi).choose_spec
    refine ⟨(List.range len).map f, ⟨some a, cap, by simp, by simpa using hl, hm, fun hp => ?_⟩, ?_⟩
    · have hp' : 0 < len := by simpa using hp
      obtain ⟨b, off, spot⟩ := a
      have h00 := (hf 0 hp').2 0 _ (List.getElem?_eq_getElem (by rw [heL]; exact hc))
      have hspot : spot = none := by simpa [Addr.add] using World.cell?_spot h00
      subst hspot
      refine ⟨b, off, rfl, fun i x hi j u hu => ?_⟩
      have hi' : i < len := by have := (List.getElem?_eq_some_iff.1 hi).1; simpa using this
      simp [hi'] at hi
      subst hi
      have := (hf i hi').2 j u hu
      rw [add_put, ← Nat.add_assoc] at this
      exact this
    · intro x hx'
      obtain ⟨i, hi, rfl⟩ := List.mem_map.1 hx'
      exact (hf i (by simpa using hi)).1
end PM
end Go.Proofs.YtnpbfjkfbobgaaaGreat

/-
  A ROW OF THE CALL's OWN, EMPTY AT FIRST OR NOT, WITHOUT A BYTE IN ITS CELLS: append of an element. Over any program.
-/
namespace Go.Proofs.YtnpbfjkfbobgaaaGreat
namespace PM
open Go.RowKit
set_option linter.unusedVariables false
/-- a row's block, if it has one, has no bytes -/
def NBv (w : World) (v : Value) : Prop := ∀ g, v.ownBlock = some g → NB w g
theorem NBv.nil (w : World) : NBv w (.slice none 0 0) := fun g h => by simp [Value.ownBlock] at h
theorem BS.keptv {w w' : World} {v x : Value} {l : List UInt8} (h : BS w v l) (hg : w.grownBy w' x.ownBlock) (hn : NBv w x) : BS w' v l := by
  rcases h with h | ⟨b, off, cap, rfl, h1, h2, h3⟩ | h
  · exact .inl h
  · refine .inr (.inl ⟨b, off, cap, rfl, h1, h2, fun i y hi => ?_⟩)
    have hc := h3 i y hi
    exact hg.cell hc (fun he => hn b he.symm _ _ hc y rfl)
  · exact .inr (.inr h)
theorem RD.keptv {T : TypeId} {w w' : World} {b : Nat} {x : Value} {l : List UInt8} {wr : Bool} (h : RD T w b l wr) (hg : w.grownBy w' x.ownBlock) (hn : NBv w x) (hne : ∀ g, x.ownBlock = some g → b ≠ g) : RD T w' b l wr := by
  obtain ⟨v, h1, h2⟩ := h
  exact ⟨v, (hg.block b h1.lt (fun he => hne b he.symm rfl)).trans h1, h2.keptv hg hn⟩
variable {α : Type} {e : α → List Value} {c : Nat} {E : TypeId} {B : Nat}
theorem OM.nev {w : World} {v : Value} {b : Nat} {l : List α} {cs : Array Value} {T : TypeId} (h : OM e c E B w v l) (hb : BK w b cs T) (hT : T ≠ E) : ∀ g, v.ownBlock = some g → b ≠ g := by
  intro g hg
  rcases h.2 with ⟨rfl, _⟩ | ⟨g', cap', cur, rfl, hB, hgg, r⟩
  · simp [Value.ownBlock] at hg
  · simp [Value.ownBlock] at hg
    subst hg
    intro e
    subst e
    rw [hb] at hgg
    injection hgg with hgg
    injection hgg with _ hgg _
    exact hT hgg
theorem NBv.keepx {w w' : World} {b : Nat} {v : Value} (hx : Bx b w w') (hl : ∀ g, v.ownBlock = some g → g < w.heap.size) (hne : ∀ g, v.ownBlock = some g → b ≠ g) (h : NBv w v) : NBv w' v :=
  fun g hg => (h g hg).keepx hx (hl g hg) (Ne.symm (hne g hg))
theorem NBv.keep {w w' : World} {v : Value} (hb : Below w.heap.size w w') (hl : ∀ g, v.ownBlock = some g → g < w.heap.size) (h : NBv w v) : NBv w' v :=
  fun g hg => (h g hg).keep hb (hl g hg)
section
variable {P : Program} {w : World} {ops : Array Oper} {rest : List Oper} {o : Oper} {a : Act} {Q : Exit → Act → World → Prop}
theorem wpList_em1v {T : TypeId} {nb : Nat} (ET : MTy P T E c nb) (hz0 : ∀ i z, P.info? E = some i → i.zero = some z → ∀ x ∈ z.cells.toList, NoB x) (he : ∀ x, (e x).length = c) (h1 : ∀ x, ∀ u ∈ e x, u.oneCell' = true) (hnb : ∀ x, ∀ u ∈ e x, NoB u) (B : Nat) (W : World) (hgd : o.guard = none) (s x : Operand)
    (ho : o.op = .call { callee := .builtin .append, args := #[s, x], argTypes := #[T, T] })
    (v : Value) (l : List α) (y : α) (ev : Array Value) (hs : a.eval s = v) (hx : a.eval x = .slice (Option.some ⟨W.heap.size, 0, Option.none⟩) 1 1) (hw : w = W.alloc (.cells ev E)) (hy : ev = (e y).toArray)
    (hown : OM e c E B W v l) (hg : NBv W v) (hn : (l.length + 1) * nb ≤ 140737488355328) (hn2 : l.length + 1 ≤ maxLen) (hB : B ≤ W.heap.size)
    (h : ∀ v' w', OM e c E B w' v' (l ++ [y]) → NBv w' v' → Below B W w' → W.grownBy w' v.ownBlock → wpList P ops Q rest (a.put o.dst v') w') : wpList P ops Q (o :: rest) a w := by
  have hown0 := hown
  rcases hown.2 with ⟨rfl, hl0⟩ | ⟨g, cap, cur, rfl, hbg, hgg, hnc, hcm, hcs, htake⟩
  · have hln : l = [] := List.length_eq_zero_iff.1 hl0
    subst hln
    obtain ⟨i, z, hi, hz, hsz, hby, hzs⟩ := ET.row
    have hz1 := hz0 i z hi hz
    subst hy
    subst hw
    have hb0 : Below W.heap.size W (W.alloc (.cells (e y).toArray E)) := (Below.refl _ _).alloc (Nat.le_refl _) _
    have hown' := hown.keep hb0
    have hsrc : ∀ j u, (e y)[j]? = some u → (W.alloc (.cells (e y).toArray E)).cell? ((⟨W.heap.size, 0, none⟩ : Addr).add j) = some u := fun j u hu => by
      have ea : (⟨W.heap.size, 0, none⟩ : Addr).add j = ⟨W.heap.size, j, none⟩ := by unfold Addr.add; split <;> simp_all
      rw [ea, World.cell?_alloc_new]
      simpa using hu
    refine wpList_plain hgd fun K hK => ?_
    obtain ⟨v', w', hr, g1, g2, _⟩ := run_append_sep (P := P) (w := W.alloc (.cells (e y).toArray E)) B T o.type E i z c nb ET.sl hi hz hsz hby hzs ET.pos _ 0 [] hown' ⟨W.heap.size, 0, none⟩ 1 1 (e y) (by rw [he]; omega) hsrc (h1 y) (by simpa using hn2) (by simpa using hn) (Nat.le_trans hB hb0.size)
    have hgr : W.grownBy w' (Value.slice none 0 0).ownBlock := ⟨g2.os, g2.tape, g2.output, Nat.le_trans (by simp) g2.size, fun k hk hne => by rw [g2.block k (by simp; omega) hne]; exact Below.heap_alloc W _ k hk⟩
    have hr2 := run_append_nil (P := P) (W.alloc (.cells (e y).toArray E)) T o.type E i z ET.sl hi hz ⟨W.heap.size, 0, none⟩ 1 1 (e y) (by rw [he, hsz]; omega) hsrc (by omega) (by omega) (by rw [hby]; simp only [List.length_nil, Nat.zero_add] at hn; omega)
    rw [hr] at hr2
    injection hr2 with e1 e2
    unfold Oper.wp execOp
    simp only [ho, resolve, invoke, builtin, Sem.run_bind, Sem.run_pure, Result.andThen_ok, List.map_toArray, List.map_cons, List.map_nil, hs, hx, hr]
    refine hK _ _ (h v' w' (by simpa [OM] using g1) (fun g hg => ?_) (hown.below (Below.refl _ _) hgr hB) hgr)
    rw [e1] at hg
    simp [Value.ownBlock] at hg
    subst hg
    rw [e2]
    refine NB.of (E := E) (by have := heap_alloc_new (W.alloc (.cells (e y).toArray E)).drew (.cells ((e y).toArray ++ Builtin.zeroCells z.cells (grownCap (W.alloc (.cells (e y).toArray E)) 1 0 E - 1)) E); simpa using this) fun u hu => ?_
    simp only [Array.toList_append, List.mem_append] at hu
    rcases hu with hu | hu
    · exact hnb y u hu
    · exact noB_zero hz1 _ u hu
  · refine wpList_em1n ET hz0 he h1 hnb B W hgd s x ho g l.length cap l y ev hs hx hw hy hown0 (hg g rfl) hn hn2 hB fun g' cap' w' t1 t2 t3 t4 => ?_
    exact h _ w' t1 (fun k hk => by simp [Value.ownBlock] at hk; subst hk; exact t2) t3 t4
end
end PM
end Go.Proofs.YtnpbfjkfbobgaaaGreat

/-
  APPEND WHOSE SECOND ARGUMENT HAS A SLICE TYPE OF ITS OWN. Over any program.
-/
namespace Go.Proofs.YtnpbfjkfbobgaaaGreat
namespace PM
open Go.RowKit
set_option linter.unusedVariables false
section
variable {P : Program} {w : World} {ops : Array Oper} {rest : List Oper} {o : Oper} {a : Act} {Q : Exit → Act → World → Prop}
theorem append_two {T T' E E' : TypeId} (h1 : P.underlying T = some (.slice E)) (h2 : P.underlying T' = some (.slice E')) (ty : TypeId) (s x : Value) (w : World) :
    (Builtin.append_ #[T, T'] ty #[s, x]).run P w = (Builtin.append_ #[T, T] ty #[s, x]).run P w := by
  cases s <;> simp [Builtin.append_, run_underlying h1, run_underlying h2]
variable {α : Type} {e : α → List Value} {c : Nat} {E : TypeId}
theorem wpList_em2 {T T' E' : TypeId} {nb : Nat} (ET : MTy P T E c nb) (hT' : P.underlying T' = some (.slice E')) (he : ∀ x, (e x).length = c) (h1 : ∀ x, ∀ u ∈ e x, u.oneCell' = true) (B : Nat) (hgd : o.guard = none) (s x : Operand)
    (ho : o.op = .call { callee := .builtin .append, args := #[s, x], argTypes := #[T, T'] })
    (v xv : Value) (l m : List α) (hs : a.eval s = v) (hx : a.eval x = xv) (hown : OM e c E B w v l) (hsrc : EM e c w xv m) (hn : (l.length + m.length) * nb ≤ 140737488355328) (hn2 : l.length + m.length ≤ maxLen) (hB : B ≤ w.heap.size)
    (h : ∀ v' w', OM e c E B w' v' (l ++ m) → Below B w w' → w.grownBy w' v.ownBlock → Sep w v v' → wpList P ops Q rest (a.put o.dst v') w') : wpList P ops Q (o :: rest) a w := by
  obtain ⟨i, z, hi, hz, hsz, hby, hzs⟩ := ET.row
  obtain ⟨ad, cap, rfl, h1', h2, h3⟩ := hsrc
  refine wpList_plain hgd fun K hK => ?_
  by_cases h0 : ad = none
  · subst h0
    by_cases hm : 0 < m.length
    · obtain ⟨_, _, ha, _⟩ := h3 hm
      cases ha
    · have hm0 : m = [] := List.length_eq_zero_iff.1 (by omega)
      subst hm0
      have hrun : (Builtin.append_ #[T, T] o.type #[v, .slice none 0 cap]).run P w = .ok v w := by
        rcases hown.2 with ⟨rfl, h00⟩ | ⟨g, cap', cur, rfl, _, _, hnc, _⟩
        · simp [Builtin.append_, run_underlying ET.sl, sizeOf, typeInfo, hi, Builtin.lenOf, Builtin.firstCells]
        · simp [Builtin.append_, run_underlying ET.sl, sizeOf, typeInfo, hi, Builtin.lenOf, Builtin.firstCells, hnc, storeCells]
      unfold Oper.wp
      simp [execOp, ho, resolve, invoke, builtin, hs, hx, append_two ET.sl hT', hrun, Result.andThen]
      exact hK _ _ (h v w (by simpa using hown) (Below.refl _ _) ⟨rfl, rfl, rfl, Nat.le_refl _, fun _ _ _ => rfl⟩ (.inl rfl))
  · obtain ⟨ad0, rfl⟩ := Option.ne_none_iff_exists'.1 h0
    obtain ⟨v', w', hr, g2, g3, g4⟩ := run_append_sep (P := P) (w := w) B T o.type E i z c nb ET.sl hi hz hsz hby hzs ET.pos v l.length (l.flatMap e) hown ad0 m.length cap (m.flatMap e) (flat_len he m) (by
      intro j u hu
      obtain ⟨y, hy, hu'⟩ := flat_inv ET.pos he m j u hu
      obtain ⟨b, off, ha, h4⟩ := h3 (Nat.lt_of_le_of_lt (Nat.zero_le _) (List.getElem?_eq_some_iff.1 hy).1)
      cases ha
      have ea : (⟨b, off, none⟩ : Addr).add j = ⟨b, off + j, none⟩ := by unfold Addr.add; split <;> simp_all
      rw [ea]
      have := h4 _ y hy _ u hu'
      rw [show off + j / c * c + j % c = off + j by rw [Nat.add_assoc, Nat.div_add_mod']] at this
      exact this) (by
      intro u hu
      obtain ⟨y, hy, hu⟩ := List.mem_flatMap.1 hu
      exact h1 y u hu) hn2 hn hB
    unfold Oper.wp execOp
    simp only [ho, resolve, invoke, builtin, Sem.run_bind, Sem.run_pure, Result.andThen_ok, List.map_toArray, List.map_cons, List.map_nil, hs, hx, append_two ET.sl hT', hr]
    exact hK _ _ (h v' w' (by simpa [OM] using g2) (hown.below (Below.refl _ _) g3 hB) g3 g4)
end
end PM
end Go.Proofs.YtnpbfjkfbobgaaaGreat

/-
  EVENTS: A SLICE OF STRUCTS OF A TEXT AND A VALUE (a number, a number, a text), AS IT CAME IN. Over any program.
-/
namespace Go.Proofs.YtnpbfjkfbobgaaaGreat
namespace PM
open Go.RowKit Go.ChangeShapes Go.WideShapes Go.ChangeAt Go.Deep
set_option linter.unusedVariables false
/-- an attribute -/
structure At where
  name : ByteArray
  k : Int
  n : Int
  s : ByteArray
def At.wf (x : At) : Prop := x.name.size ≤ maxLen ∧ (Lit.int .i64 x.k).wf = true ∧ (Lit.int .i64 x.n).wf = true ∧ x.s.size ≤ maxLen
/-- one of them, at its place -/
def AtE (w : World) (b off : Nat) (x : At) : Prop :=
  w.cell? ⟨b, off, Option.none⟩ = Option.some (.string x.name) ∧ w.cell? ⟨b, off + 1, Option.none⟩ = Option.some (.int .i64 x.k) ∧ w.cell? ⟨b, off + 2, Option.none⟩ = Option.some (.int .i64 x.n) ∧ w.cell? ⟨b, off + 3, Option.none⟩ = Option.some (.string x.s)
/-- all of them -/
def EV (w : World) (v : Value) (es : List At) : Prop := ∃ ad cap, v = .slice ad es.length cap ∧ es.length ≤ cap ∧ cap ≤ maxLen ∧ (0 < es.length → ∃ b off, ad = Option.some ⟨b, off, Option.none⟩ ∧ ∀ i x, es[i]? = Option.some x → AtE w b (off + i * 4) x)
theorem AtE.keep {W w : World} {b off : Nat} {x : At} (hb : Below W.heap.size W w) (h : AtE W b off x) : AtE w b off x := by
  obtain ⟨h1, h2, h3, h4⟩ := h
  have hlt := World.block_lt_of_cell? W _ h1
  exact ⟨(hb.cell hlt).trans h1, (hb.cell (p := ⟨b, off + 1, Option.none⟩) hlt).trans h2, (hb.cell (p := ⟨b, off + 2, Option.none⟩) hlt).trans h3, (hb.cell (p := ⟨b, off + 3, Option.none⟩) hlt).trans h4⟩
theorem EV.keep {W w : World} {v : Value} {es : List At} (hb : Below W.heap.size W w) (h : EV W v es) : EV w v es := by
  obtain ⟨ad, cap, e, h1, h2, h3⟩ := h
  refine ⟨ad, cap, e, h1, h2, fun hp => ?_⟩
  obtain ⟨b, off, e', h4⟩ := h3 hp
  exact ⟨b, off, e', fun i x hi => (h4 i x hi).keep hb⟩
theorem EV.nil (w : World) : EV w (.slice none 0 0) [] := ⟨none, 0, rfl, Nat.le_refl _, by simp, fun h => absurd h (by simp)⟩
theorem EV.of_trod {H : Type} {enc : TypeId × Value → H} {P : Program} {w : World} {base : Nat} {held : Bool} {fuel : Nat} {t e : TypeId} {f0 f1 h0 h1 h2 : Field} {v : Value} {x : DataW H × List MemPlace}
    (ht : P.underlying t = some (.slice e)) (he : P.underlying e = some (.struct #[f0, f1])) (hs : P.underlying f1.type = some (.struct #[h0, h1, h2])) (ce : P.cellsOf e = 4) (o0 : f0.offset = 0) (o1 : f1.offset = 1)
    (c0 : P.cellsOf f0.type = 1) (c1 : P.cellsOf f1.type = 3) (p0 : h0.offset = 0) (p1 : h1.offset = 1) (p2 : h2.offset = 2) (d0 : P.cellsOf h0.type = 1) (d1 : P.cellsOf h1.type = 1) (d2 : P.cellsOf h2.type = 1)
    (t0 : P.underlying f0.type = some .string) (u0 : P.underlying h0.type = some (.int .i64)) (u1 : P.underlying h1.type = some (.int .i64)) (u2 : P.underlying h2.type = some .string)
    (h : DataW.trod enc P w base (fun _ => true) held fuel t [v] = some x) : ∃ es, EV w v es ∧ ∀ x ∈ es, At.wf x := by
  rcases open_slice ht h with ⟨h0, _⟩ | ⟨a, len, cap, m, n, D, Pl, hcs, hb, hl, hm, hmm, _, hx⟩
  · simp at h0
    subst h0
    exact ⟨[], EV.nil _, by simp⟩
  · simp at hcs
    subst hcs
    have hmc : m = cap := by simpa using hmm
    have each : ∀ i, i < len → ∃ y : At, y.wf ∧ w.cell? (a.add (i * 4)) = Option.some (.string y.name) ∧ w.cell? (a.add (i * 4 + 1)) = Option.some (.int .i64 y.k) ∧ w.cell? (a.add (i * 4 + 2)) = Option.some (.int .i64 y.n) ∧ w.cell? (a.add (i * 4 + 3)) = Option.some (.string y.s) := by
      intro i hi
      obtain ⟨cs', g1, g2⟩ := hx i (by omega)
      rw [ce] at g1
      obtain ⟨_, hlen, hcell⟩ := World.cells?_some g1
      obtain ⟨xs, k, hk, hxy, _, hxl, hf⟩ := DataW.trod_struct he g2
      match xs, hxl, cs', hlen with
      | [y0, y1], _, [v0, v1, v2, v3], _ =>
        have q0 := hf 0 f0 rfl
        have q1 := hf 1 f1 rfl
        simp [o0, o1, c0, c1] at q0 q1
        obtain ⟨xs', k', hk', hxy', _, hxl', hf'⟩ := DataW.trod_struct hs q1
        match xs', hxl' with
        | [z0, z1, z2], _ =>
          have r0 := hf' 0 h0 rfl
          have r1 := hf' 1 h1 rfl
          have r2 := hf' 2 h2 rfl
          simp [p0, p1, p2, d0, d1, d2] at r0 r1 r2
          have e0 := hcell 0 (by omega)
          have e1 := hcell 1 (by omega)
          have e2 := hcell 2 (by omega)
          have e3 := hcell 3 (by omega)
          rw [add_add] at e0 e1 e2 e3
          obtain ⟨s0, n0, _, w0⟩ := DataW.trod_string t0 q0
          obtain ⟨k1, n1, _, w1⟩ := DataW.trod_int u0 r0
          obtain ⟨k2, n2, _, w2⟩ := DataW.trod_int u1 r1
          obtain ⟨s3, n3, _, w3⟩ := DataW.trod_string u2 r2
          simp at n0 n1 n2 n3
          subst n0 n1 n2 n3
          exact ⟨⟨s0, k1, k2, s3⟩, ⟨w0, w1, w2, w3⟩, by simpa using e0, by simpa using e1, by simpa using e2, by simpa using e3⟩
    obtain ⟨f, hf⟩ : ∃ f : Nat → At, ∀ i, i < len → (f i).wf ∧ w.cell? (a.add (i * 4)) = Option.some (.string (f i).name) ∧ w.cell? (a.add (i * 4 + 1)) = Option.some (.int .i64 (f i).k) ∧ w.cell? (a.add (i * 4 + 2)) = Option.some (.int .i64 (f i).n) ∧ w.cell? (a.add (i * 4 + 3)) = Option.some (.string (f i).s) := by
      refine ⟨fun i => if hi : i < len then (each i hi).choose else ⟨ByteArray.empty, 0, 0, ByteArray.empty⟩, fun i hi => ?_⟩
      simp only [hi, dif_pos]
      exact (each i hi).choose_spec
    refine ⟨(List.range len).map f, ⟨some a, cap, by simp, by simpa using hl, hm, fun hp => ?_⟩, ?_⟩
    · have hp' : 0 < len := by simpa using hp
      obtain ⟨b, off, spot⟩ := a
      have hspot : spot = none := by simpa [Addr.add] using World.cell?_spot (hf 0 hp').2.1
      subst hspot
      refine ⟨b, off, rfl, fun i x hi => ?_⟩
      have hi' : i < len := by have := (List.getElem?_eq_some_iff.1 hi).1; simpa using this
      simp [hi'] at hi
      subst hi
      obtain ⟨_, g1, g2, g3, g4⟩ := hf i hi'
      have ea : ∀ j, (⟨b, off, none⟩ : Addr).add j = ⟨b, off + j, none⟩ := fun j => by unfold Addr.add; split <;> simp_all
      rw [ea] at g1 g2 g3 g4
      exact ⟨g1, by rw [Nat.add_assoc]; exact g2, by rw [Nat.add_assoc]; exact g3, by rw [Nat.add_assoc]; exact g4⟩
    · intro x hx'
      obtain ⟨i, hi, rfl⟩ := List.mem_map.1 hx'
      exact (hf i (by simpa using hi)).1
end PM
end Go.Proofs.YtnpbfjkfbobgaaaGreat

/-
  ROWS OF ANYTHING: a slice each of whose elements (of c cells) reads as something, by a reading of one's own. Over any program.
-/
namespace Go.Proofs.YtnpbfjkfbobgaaaGreat
namespace PM
open Go.RowKit
set_option linter.unusedVariables false
/-- the cells of one element -/
abbrev Ce (c : Nat) := {l : List Value // l.length = c ∧ ∀ u ∈ l, u.oneCell' = true}
def ceL {c : Nat} (x : Ce c) : List Value := x.1
theorem ceL_len {c : Nat} (x : Ce c) : (ceL x).length = c := x.2.1
theorem ceL_one {c : Nat} (x : Ce c) : ∀ u ∈ ceL x, u.oneCell' = true := x.2.2
/-- one element of one cell -/
def ce1 (v : Value) (h : v.oneCell' = true) : Ce 1 := ⟨[v], rfl, by intro u hu; simp at hu; subst hu; exact h⟩
variable {α : Type} {R : World → List Value → α → Prop} {c : Nat} {w W : World} {v : Value} {l : List α}
/-- what a slice reads as, whose elements read by R -/
def RR (R : World → List Value → α → Prop) (c : Nat) (w : World) (v : Value) (l : List α) : Prop :=
  ∃ css : List (Ce c), EM ceL c w v css ∧ css.length = l.length ∧ ∀ (i : Nat) (cs : Ce c) (x : α), css[i]? = some cs → l[i]? = some x → R w cs.1 x
/-- a reading that lasts while memory is made -/
def Lasts (R : World → List Value → α → Prop) : Prop := ∀ (W w : World) (cs : List Value) (x : α), Below W.heap.size W w → R W cs x → R w cs x
theorem RR.keep (hR : Lasts R) (hb : Below W.heap.size W w) (h : RR R c W v l) : RR R c w v l := by
  obtain ⟨css, h1, h2, h3⟩ := h
  exact ⟨css, h1.keep hb, h2, fun i cs x a b => hR _ _ _ _ hb (h3 i cs x a b)⟩
theorem RR.nil (w : World) : RR R c w (.slice none 0 0) [] := ⟨[], EM.nil w, rfl, fun i cs x a _ => by simp at a⟩
theorem RR.len (h : RR R c w v l) : ∃ ad cap, v = .slice ad l.length cap := by
  obtain ⟨css, h1, h2, _⟩ := h
  rw [← h2]
  exact h1.len
theorem RR.bound (h : RR R c w v l) : l.length ≤ maxLen := by
  obtain ⟨css, h1, h2, _⟩ := h
  rw [← h2]
  exact h1.bound
theorem RR.opn {ad : Option Addr} {n cap : Nat} (h : RR R c w (.slice ad n cap) l) (hl : 0 < l.length) : ∃ b off, ad = some ⟨b, off, none⟩ ∧ ∀ (i : Nat) (x : α), l[i]? = some x → ∃ cs : Ce c, Lies w b (off + i * c) cs.1 ∧ R w cs.1 x := by
  obtain ⟨css, h1, h2, h3⟩ := h
  obtain ⟨b, off, cap', e, g1, g2, g3⟩ := h1.open1 (by omega)
  injection e with e1 e2 e3
  refine ⟨b, off, e1, fun i x hi => ?_⟩
  have hil := (List.getElem?_eq_some_iff.1 hi).1
  have hx : css[i]? = some (css[i]'(by omega)) := List.getElem?_eq_getElem _
  exact ⟨_, g3 i _ hx, h3 i _ x hx hi⟩
theorem RR.rest {P : Program} {T E : TypeId} {nb : Nat} (MT : MTy P T E c nb) (h : RR R c w v l) {K : Nat} (hK : K ≤ l.length) :
    ∃ a k, (∀ W : World, (Instr.slice T v (some (.int .i64 (K : Int))) none none).run P W = .ok (.slice a (l.length - K) k) W) ∧ RR R c w (.slice a (l.length - K) k) (l.drop K) := by
  obtain ⟨css, h1, h2, h3⟩ := h
  obtain ⟨a, k, g1, g2⟩ := run_restM MT h1 (K := K) (by omega)
  rw [h2] at g1 g2
  refine ⟨a, k, g1, css.drop K, g2, by simp [h2], fun i cs x hi hx => ?_⟩
  rw [List.getElem?_drop] at hi hx
  exact h3 _ _ _ hi hx
theorem RR.take {P : Program} {T E : TypeId} {nb : Nat} (MT : MTy P T E c nb) (h : RR R c w v l) {K : Nat} (hK : K ≤ l.length) :
    ∃ a k, (∀ W : World, (Instr.slice T v none (some (.int .i64 (K : Int))) none).run P W = .ok (.slice a K k) W) ∧ RR R c w (.slice a K k) (l.take K) := by
  obtain ⟨css, h1, h2, h3⟩ := h
  obtain ⟨a, k, g1, g2⟩ := run_takeM MT h1 (K := K) (by omega)
  refine ⟨a, k, g1, css.take K, g2, by simp [h2], fun i cs x hi hx => ?_⟩
  rw [List.getElem?_take] at hi hx
  split at hi
  · rename_i hK
    rw [if_pos hK] at hx
    exact h3 _ _ _ hi hx
  · cases hi
/-- a row that the call itself has made -/
def OR (R : World → List Value → α → Prop) (c : Nat) (E : TypeId) (B : Nat) (w : World) (v : Value) (l : List α) : Prop :=
  ∃ css : List (Ce c), OM ceL c E B w v css ∧ css.length = l.length ∧ ∀ (i : Nat) (cs : Ce c) (x : α), css[i]? = some cs → l[i]? = some x → R w cs.1 x
variable {E : TypeId} {B : Nat}
theorem OR.rr (h : OR R c E B w v l) : RR R c w v l := by
  obtain ⟨css, h1, h2, h3⟩ := h
  exact ⟨css, h1.em ceL_len, h2, h3⟩
theorem OR.keep (hR : Lasts R) (hb : Below W.heap.size W w) (h : OR R c E B W v l) : OR R c E B w v l := by
  obtain ⟨css, h1, h2, h3⟩ := h
  exact ⟨css, h1.keep hb, h2, fun i cs x a b => hR _ _ _ _ hb (h3 i cs x a b)⟩
theorem OR.mono {B' : Nat} (hb : B' ≤ B) (h : OR R c E B w v l) : OR R c E B' w v l := by
  obtain ⟨css, h1, h2, h3⟩ := h
  exact ⟨css, h1.mono hb, h2, h3⟩
theorem OR.nilrow (w : World) : OR R c E B w (.slice none 0 0) [] := ⟨[], OM.nilrow w, rfl, fun i cs x a _ => by simp at a⟩
theorem OR.imp {β : Type} {R' : World → List Value → β → Prop} {f : α → β} (h : OR R c E B w v l) (hi : ∀ cs x, R w cs x → R' w cs (f x)) : OR R' c E B w v (l.map f) := by
  obtain ⟨css, h1, h2, h3⟩ := h
  refine ⟨css, h1, by simp [h2], fun i cs x a b => ?_⟩
  rw [List.getElem?_map] at b
  obtain ⟨y, hy, rfl⟩ := Option.map_eq_some_iff.1 b
  exact hi _ _ (h3 i cs y a hy)
theorem RR.imp {R' : World → List Value → α → Prop} (h : RR R c w v l) (hi : ∀ cs x, R w cs x → R' w cs x) : RR R' c w v l := by
  obtain ⟨css, h1, h2, h3⟩ := h
  exact ⟨css, h1, h2, fun i cs x a b => hi _ _ (h3 i cs x a b)⟩
/-- a reading that stays while a row of E's turns -/
def Stays (R : World → List Value → α → Prop) (E : TypeId) : Prop :=
  ∀ (w w' : World) (cs : List Value) (x : α) (row : Option Nat), w.grownBy w' row → (∀ g, row = some g → ∃ cur m, w.heap[g]? = some (.cells cur E m)) → R w cs x → R w' cs x
theorem OM.rowty {β : Type} {e : β → List Value} {m : List β} (h : OM e c E B w v m) : ∀ g, v.ownBlock = some g → ∃ cur mm, w.heap[g]? = some (.cells cur E mm) := by
  intro g hg
  rcases h.2 with ⟨rfl, _⟩ | ⟨g', cap, cur, rfl, _, hgb, _⟩
  · simp [Value.ownBlock] at hg
  · simp [Value.ownBlock] at hg
    subst hg
    exact ⟨cur, _, hgb⟩
theorem OR.snoc {w' : World} {v' : Value} {css : List (Ce c)} {cs0 : Ce c} {x0 : α} (hS : Stays R E) (h1 : OM ceL c E B w v css) (h2 : css.length = l.length) (h3 : ∀ (i : Nat) (cs : Ce c) (x : α), css[i]? = some cs → l[i]? = some x → R w cs.1 x)
    (h0 : R w cs0.1 x0) (ho : OM ceL c E B w' v' (css ++ [cs0])) (hg : w.grownBy w' v.ownBlock) : OR R c E B w' v' (l ++ [x0]) := by
  refine ⟨css ++ [cs0], ho, by simp [h2], fun i cs x hi hx => ?_⟩
  have ht := OM.rowty h1
  rcases Nat.lt_trichotomy i css.length with hl | hl | hl
  · rw [List.getElem?_append_left hl] at hi
    rw [List.getElem?_append_left (by omega)] at hx
    exact hS _ _ _ _ _ hg ht (h3 i cs x hi hx)
  · subst hl
    rw [List.getElem?_append_right (Nat.le_refl _), Nat.sub_self] at hi
    rw [h2, List.getElem?_append_right (Nat.le_refl _), Nat.sub_self] at hx
    simp at hi hx
    subst hi hx
    exact hS _ _ _ _ _ hg ht h0
  · have := (List.getElem?_eq_some_iff.1 hi).1
    simp at this
    omega
/-- a row of the call's own of one type of elements stays while a row of another one turns -/
theorem OM.stays {β : Type} {e : β → List Value} {E' : TypeId} (hne : E' ≠ E) {w' : World} {m : List β} {row : Option Nat} (h : OM e c E' B w v m) (hg : w.grownBy w' row) (ht : ∀ g, row = some g → ∃ cur m, w.heap[g]? = some (.cells cur E m)) : OM e c E' B w' v m := by
  refine World.ownsRow.kept h hg ?_
  by_cases hn : v.ownBlock = none
  · exact .inl hn
  · right
    intro he
    obtain ⟨k, hk⟩ := Option.ne_none_iff_exists'.1 hn
    obtain ⟨cur, mm, h1⟩ := ht k (he ▸ hk)
    obtain ⟨cur', mm', h2⟩ := OM.rowty h k hk
    rw [h1] at h2
    simp at h2
    exact hne h2.2.1.symm
section
variable {P : Program} {ops : Array Oper} {rest : List Oper} {o : Oper} {a : Act} {Q : Exit → Act → World → Prop}
/-- make, of no element yet -/
theorem wpList_mkm {β : Type} {e : β → List Value} {T : TypeId} {nb : Nat} (ET : MTy P T E c nb) (B : Nat) (hgd : o.guard = none) (l k : Operand) (ho : o.op = Op.makeSlice T l k)
    (kl kc : IntKind) (C : Int) (n : Nat) (hl : a.eval l = .int kl 0) (hc : a.eval k = .int kc C) (hC : C = (n : Int)) (b2 : nb * n ≤ 281474976710656) (b3 : n ≤ maxLen) (hB : B ≤ w.heap.size)
    (h : ∀ w', OM e c E B w' (.slice (some ⟨w.heap.size, 0, none⟩) 0 n) [] → Below B w w' → w.grownBy w' none → wpList P ops Q rest (a.put o.dst (.slice (some ⟨w.heap.size, 0, none⟩) 0 n)) w') : wpList P ops Q (o :: rest) a w := by
  obtain ⟨i, z, hi, hz, hsz, hby, hzs⟩ := ET.row
  refine wpList_make_own w hgd l k T ho B E i z c ET.sl hi hz hsz kl kc C n hl hc hC (by rw [hby]; exact b2) b3 hB fun w' r1 r2 => ?_
  exact h w' (by simpa [OM] using r1) ((Below.refl _ _).grown r2 hB (fun k hk => by cases hk)) r2
/-- append of one element, out of a new block -/
theorem wpList_or1 {T : TypeId} {nb : Nat} (ET : MTy P T E c nb) (hS : Stays R E) (hL : Lasts R) (B : Nat) (W : World) (hgd : o.guard = none) (s x : Operand)
    (ho : o.op = .call { callee := .builtin .append, args := #[s, x], argTypes := #[T, T] })
    (v : Value) (l : List α) (y : α) (cs : Ce c) (ev : Array Value) (hs : a.eval s = v) (hx : a.eval x = .slice (Option.some ⟨W.heap.size, 0, Option.none⟩) 1 1) (hw : w = W.alloc (.cells ev E)) (hy : ev = cs.1.toArray)
    (hR : R W cs.1 y) (hown : OR R c E B W v l) (hn : (l.length + 1) * nb ≤ 140737488355328) (hn2 : l.length + 1 ≤ maxLen) (hB : B ≤ W.heap.size)
    (h : ∀ v' w', OR R c E B w' v' (l ++ [y]) → Below B W w' → W.grownBy w' v.ownBlock → wpList P ops Q rest (a.put o.dst v') w') : wpList P ops Q (o :: rest) a w := by
  obtain ⟨css, h1, h2, h3⟩ := hown
  refine wpList_em1 ET ceL_len ceL_one B W hgd s x ho v css cs ev hs hx hw hy h1 (by rw [h2]; exact hn) (by rw [h2]; exact hn2) hB ?_
  intro v' w' g1 g2 g3 g4
  exact h v' w' (OR.snoc hS h1 h2 h3 hR g1 g3) g2 g3
end
end PM
end Go.Proofs.YtnpbfjkfbobgaaaGreat

/-
  A SLICE OF STRUCTS OF TWO NUMBERS AND BYTES, AS IT CAME IN. Over any program.
-/
namespace Go.Proofs.YtnpbfjkfbobgaaaGreat
namespace PM
open Go.RowKit Go.ChangeShapes Go.WideShapes Go.ChangeAt Go.Deep
set_option linter.unusedVariables false
/-- one of them, at its place -/
def CE (w : World) (b off : Nat) : Prop := ∃ (k z : Int) (v : Value) (l : List UInt8), w.cell? ⟨b, off, Option.none⟩ = Option.some (.int .i64 k) ∧ w.cell? ⟨b, off + 1, Option.none⟩ = Option.some (.int .i64 z) ∧ w.cell? ⟨b, off + 2, Option.none⟩ = Option.some v ∧ BS w v l ∧ (Lit.int .i64 z).wf = true
/-- all of them -/
def CS (w : World) (v : Value) (n : Nat) : Prop := ∃ ad cap, v = .slice ad n cap ∧ n ≤ cap ∧ cap ≤ maxLen ∧ (0 < n → ∃ b off, ad = Option.some ⟨b, off, Option.none⟩ ∧ ∀ i, i < n → CE w b (off + i * 3))
theorem CE.keep {W w : World} {b off : Nat} (hb : Below W.heap.size W w) (h : CE W b off) : CE w b off := by
  obtain ⟨k, z, v, l, h1, h2, h3, h4, h5⟩ := h
  have hlt := World.block_lt_of_cell? W _ h1
  exact ⟨k, z, v, l, (hb.cell hlt).trans h1, (hb.cell (p := ⟨b, off + 1, Option.none⟩) hlt).trans h2, (hb.cell (p := ⟨b, off + 2, Option.none⟩) hlt).trans h3, h4.keep hb, h5⟩
theorem BS.of_trod {H : Type} {enc : TypeId × Value → H} {P : Program} {w : World} {base : Nat} {held : Bool} {fuel : Nat} {t u : TypeId} {v : Value} {x : DataW H × List MemPlace}
    (ht : P.underlying t = some (.slice u)) (hu : P.underlying u = some (.int .u8)) (cu : P.cellsOf u = 1) (h : DataW.trod enc P w base (fun _ => true) held fuel t [v] = some x) : ∃ l, BS w v l := by
  rcases open_ints ht hu cu h with ⟨hcs, hx⟩ | ⟨a, len', cap', zs, hcs, _, hl, hm, hz, hx, hcell, hwz⟩
  · simp at hcs
    subst hcs
    exact ⟨[], BS.nil _⟩
  · simp at hcs
    subst hcs
    obtain ⟨l, h, _⟩ := BS.of_ints hl hm (by simpa using hz) hcell hwz
    exact ⟨l, h⟩
theorem CS.of_trod {H : Type} {enc : TypeId × Value → H} {P : Program} {w : World} {base : Nat} {held : Bool} {fuel : Nat} {t e u : TypeId} {f0 f1 f2 : Field} {v : Value} {x : DataW H × List MemPlace}
    (ht : P.underlying t = some (.slice e)) (he : P.underlying e = some (.struct #[f0, f1, f2])) (ce : P.cellsOf e = 3) (o0 : f0.offset = 0) (o1 : f1.offset = 1) (o2 : f2.offset = 2)
    (c0 : P.cellsOf f0.type = 1) (c1 : P.cellsOf f1.type = 1) (c2 : P.cellsOf f2.type = 1) (t0 : P.underlying f0.type = some (.int .i64)) (t1 : P.underlying f1.type = some (.int .i64)) (t2 : P.underlying f2.type = some (.slice u)) (hu : P.underlying u = some (.int .u8)) (cu : P.cellsOf u = 1)
    (h : DataW.trod enc P w base (fun _ => true) held fuel t [v] = some x) : ∃ n, CS w v n := by
  rcases open_slice ht h with ⟨h0, _⟩ | ⟨a, len, cap, m, n, D, Pl, hcs, hb, hl, hm, hmm, _, hx⟩
  · simp at h0
    subst h0
    exact ⟨0, _, _, rfl, Nat.le_refl _, by simp, fun h => absurd h (by omega)⟩
  · simp at hcs
    subst hcs
    have hmc : m = cap := by simpa using hmm
    refine ⟨len, _, _, rfl, hl, hm, fun hpos => ?_⟩
    have each : ∀ i, i < len → ∃ (k z : Int) (v : Value) (l : List UInt8), w.cell? (a.add (i * 3)) = Option.some (.int .i64 k) ∧ w.cell? (a.add (i * 3 + 1)) = Option.some (.int .i64 z) ∧ w.cell? (a.add (i * 3 + 2)) = Option.some v ∧ BS w v l ∧ (Lit.int .i64 z).wf = true := by
      intro i hi
      obtain ⟨cs', h1, h2⟩ := hx i (by omega)
      rw [ce] at h1
      obtain ⟨_, hlen, hcell⟩ := World.cells?_some h1
      obtain ⟨xs, k, hk, hxy, _, hxl, hf⟩ := DataW.trod_struct he h2
      match xs, hxl, cs', hlen with
      | [y0, y1, y2], _, [v0, v1, v2], _ =>
        have g0 := hf 0 f0 rfl
        have g1 := hf 1 f1 rfl
        have g2 := hf 2 f2 rfl
        simp [o0, o1, o2, c0, c1, c2] at g0 g1 g2
        have e0 := hcell 0 (by omega)
        have e1 := hcell 1 (by omega)
        have e2 := hcell 2 (by omega)
        rw [add_add] at e0 e1 e2
        obtain ⟨k0, q0, _, _⟩ := DataW.trod_int t0 g0
        obtain ⟨k1, q1, _, w1⟩ := DataW.trod_int t1 g1
        obtain ⟨l2, q2⟩ := BS.of_trod t2 hu cu g2
        simp at q0 q1
        subst q0 q1
        exact ⟨k0, k1, v2, l2, by simpa using e0, by simpa using e1, by simpa using e2, q2, w1⟩
    obtain ⟨b, off, spot⟩ := a
    obtain ⟨_, _, _, _, h1, _⟩ := each 0 hpos
    have hspot : spot = none := by simpa [Addr.add] using World.cell?_spot h1
    subst hspot
    refine ⟨b, off, rfl, fun i hi => ?_⟩
    obtain ⟨k, z, v, l, g1, g2, g3, g4, g5⟩ := each i hi
    have ea : ∀ j, (⟨b, off, none⟩ : Addr).add j = ⟨b, off + j, none⟩ := fun j => by unfold Addr.add; split <;> simp_all
    rw [ea] at g1 g2 g3
    exact ⟨k, z, v, l, g1, by rw [Nat.add_assoc]; exact g2, by rw [Nat.add_assoc]; exact g3, g4, g5⟩
end PM
end Go.Proofs.YtnpbfjkfbobgaaaGreat

/-
  ROWS OF ANYTHING, AS THEY CAME IN: elements of one cell. Over any program.
-/
namespace Go.Proofs.YtnpbfjkfbobgaaaGreat
namespace PM
open Go.RowKit Go.ChangeShapes Go.WideShapes Go.ChangeAt Go.Deep
set_option linter.unusedVariables false
theorem add_putR (b off j : Nat) : (⟨b, off, none⟩ : Addr).add j = ⟨b, off + j, none⟩ := by unfold Addr.add; split <;> simp_all
theorem RR.of_trod1 {α : Type} {R : World → List Value → α → Prop} {H : Type} {enc : TypeId × Value → H} {P : Program} {w : World} {base : Nat} {held : Bool} {fuel : Nat} {t e : TypeId} {v : Value} {x : DataW H × List MemPlace} (y0 : α)
    (ht : P.underlying t = some (.slice e)) (ce : P.cellsOf e = 1)
    (each : ∀ (n : Nat) (V : Value) (z : DataW H × List MemPlace), DataW.trod enc P w base (fun _ => true) held n e [V] = some z → V.oneCell' = true ∧ ∃ y, R w [V] y)
    (h : DataW.trod enc P w base (fun _ => true) held fuel t [v] = some x) : ∃ ls, RR R 1 w v ls := by
  rcases open_slice1 ht ce h with ⟨h0, _⟩ | ⟨a, len, cap, m, n, V, D, Pl, hcs, hb, hl, hm, hmm, hx, hV⟩
  · simp at h0
    subst h0
    exact ⟨[], RR.nil w⟩
  · simp at hcs
    subst hcs
    have hmc : m = cap := by simpa using hmm
    subst hmc
    have each' : ∀ i : Nat, ∃ y : α, i < len → R w [V i] y := fun i => by
      by_cases hi : i < len
      · obtain ⟨_, y, hy⟩ := each _ _ _ (hV i (by omega)).2
        exact ⟨y, fun _ => hy⟩
      · exact ⟨y0, fun h => absurd h hi⟩
    obtain ⟨F, hF⟩ := Classical.axiomOfChoice each'
    have one : ∀ u ∈ (List.range len).map V, u.oneCell' = true := fun u hu => by
      obtain ⟨i, hi, rfl⟩ := List.mem_map.1 hu
      exact (each _ _ _ (hV i (by have := List.mem_range.1 hi; omega)).2).1
    refine ⟨(List.range len).map F, ((List.range len).map V).pmap (fun v h => ce1 v h) one, ?_, by simp, fun i c y hi hy => ?_⟩
    · refine ⟨some a, m, by simp, by simpa using hl, hm, fun hp => ?_⟩
      have h0 : 0 < len := by simpa using hp
      obtain ⟨b, off, spot⟩ := a
      have hc0 := (hV 0 (by omega)).1
      have hspot : spot = none := by simpa [Addr.add] using World.cell?_spot hc0
      subst hspot
      refine ⟨b, off, rfl, fun i c hi j u hu => ?_⟩
      rw [List.getElem?_pmap] at hi
      obtain ⟨v', h9, hv', rfl⟩ := Option.pmap_eq_some_iff.1 hi
      have hil : i < len := by have h9 := (List.getElem?_eq_some_iff.1 hv').1; rw [List.length_map, List.length_range] at h9; exact h9
      have hx : V i = v' := by rw [List.getElem?_map, List.getElem?_range hil] at hv'; simpa using hv'
      have : j = 0 ∧ u = v' := by
        match j, hu with
        | 0, hu => simp [ceL, ce1] at hu; exact ⟨rfl, hu.symm⟩
        | j + 1, hu => simp [ceL, ce1] at hu
      obtain ⟨rfl, rfl⟩ := this
      have h1 := (hV i (by omega)).1
      rw [add_putR] at h1
      rw [Nat.mul_one, Nat.add_zero, h1, hx]
    · rw [List.getElem?_pmap] at hi
      obtain ⟨v', h9, hv', rfl⟩ := Option.pmap_eq_some_iff.1 hi
      have hil : i < len := by have h9 := (List.getElem?_eq_some_iff.1 hv').1; rw [List.length_map, List.length_range] at h9; exact h9
      have hx : V i = v' := by rw [List.getElem?_map, List.getElem?_range hil] at hv'; simpa using hv'
      have hy' : F i = y := by rw [List.getElem?_map, List.getElem?_range hil] at hy; simpa using hy
      rw [← hy']
      show R w [v'] (F i)
      rw [← hx]
      exact hF i hil
end PM
end Go.Proofs.YtnpbfjkfbobgaaaGreat

/-
  A SLICE's REST, whatever form the slice has: 'v[K:]'.
-/
namespace Go.Proofs.YtnpbfjkfbobgaaaGreat
namespace PM
open Go.RowKit
set_option linter.unusedVariables false
theorem run_rest {P : Program} {T E : TypeId} (BT : ByteTy P T E) {w : World} {v : Value} {m : List UInt8} (h : BS w v m) {K : Nat} (hK : K ≤ m.length) :
    ∃ a c, (Instr.slice T v (some (.int .i64 (K : Int))) none none).run P w = .ok (.slice a (m.length - K) c) w ∧ BS w (.slice a (m.length - K) c) (m.drop K) := by
  obtain ⟨i, z, hi, hz, hsz, _⟩ := BT.row
  have hel : P.elem T = E := by simp [Program.elem, BT.sl]
  have hT : P.underlying T = some (.slice (P.elem T)) := by rw [hel]; exact BT.sl
  have hs : ∀ w : World, (sizeOf (P.elem T)).run P w = .ok 1 w := fun w => by
    rw [hel, run_sizeOf w hi]; simp [Program.cellsOf, hi, hsz]
  obtain ⟨a, c, rfl⟩ := h.len
  refine ⟨if c = K then a else a.map (·.add K), c - K, ?_, ?_⟩
  · rw [run_slice_l w T a m.length c hT .i64 K (by omega) (by omega), hs]
    simp [Result.andThen, sliced]
  · rcases h with ⟨e, rfl⟩ | ⟨b, off, cap, e, h1, h2, h3⟩ | ⟨x, cap, e, rfl, hm⟩
    · cases e
      have : K = 0 := by simpa using hK
      subst this
      exact .inl ⟨rfl, rfl⟩
    · cases e
      have hc := BS.cut h1 h2 h3 hK
      by_cases hcK : c = K
      · rw [if_pos hcK]
        exact hc.2 (by omega)
      · rw [if_neg hcK]
        have ea : (⟨b, off, none⟩ : Addr).add K = ⟨b, off + K, none⟩ := by unfold Addr.add; split <;> simp_all
        rw [Option.map_some, ea]
        exact hc.1
    · cases e
      have : K = 0 := by simpa using hK
      subst this
      refine .inr (.inr ⟨if c = 0 then x else x.add 0, c, ?_, rfl, hm⟩)
      by_cases hc : c = 0 <;> simp [hc]
/-- the same, in whatever world the slice is cut -/
theorem run_rest' {P : Program} {T E : TypeId} (BT : ByteTy P T E) {w : World} {v : Value} {m : List UInt8} (h : BS w v m) {K : Nat} (hK : K ≤ m.length) :
    ∃ a c, (∀ W : World, (Instr.slice T v (some (.int .i64 (K : Int))) none none).run P W = .ok (.slice a (m.length - K) c) W) ∧ BS w (.slice a (m.length - K) c) (m.drop K) := by
  obtain ⟨i, z, hi, hz, hsz, _⟩ := BT.row
  have hel : P.elem T = E := by simp [Program.elem, BT.sl]
  have hT : P.underlying T = some (.slice (P.elem T)) := by rw [hel]; exact BT.sl
  have hs : ∀ w : World, (sizeOf (P.elem T)).run P w = .ok 1 w := fun w => by
    rw [hel, run_sizeOf w hi]; simp [Program.cellsOf, hi, hsz]
  obtain ⟨a, c, h1, h2⟩ := run_rest BT h hK
  refine ⟨a, c, fun W => ?_, h2⟩
  obtain ⟨a0, c0, rfl⟩ := h.len
  rw [run_slice_l w T a0 m.length c0 hT .i64 K (by omega) (by omega), hs] at h1
  rw [run_slice_l W T a0 m.length c0 hT .i64 K (by omega) (by omega), hs]
  simp only [Result.andThen] at h1 ⊢
  injection h1 with h1 _
  rw [h1]
end PM
end Go.Proofs.YtnpbfjkfbobgaaaGreat

/-
  MAPS WITH int KEYS, THAT THE CALL MAKES: what one holds, a new entry, a look-up. Over any program.
-/
namespace Go.Proofs.YtnpbfjkfbobgaaaGreat
namespace PM
open Go.RowKit
set_option linter.unusedVariables false
/-- a map's entries, in the order in which they were laid -/
def IM (w : World) (b : Nat) (kvs : List (Int × Value)) : Prop := ∃ es clock, w.heap[b]? = some (.map es clock) ∧ es.toList.map (fun e => (e.key, e.val)) = kvs.map (fun p => (Value.int .i64 p.1, p.2))
def lookI (a : Int) : List (Int × Value) → Option Value
  | [] => none
  | (k, v) :: r => if a = k then some v else lookI a r
theorem IM.lt {w : World} {b : Nat} {kvs : List (Int × Value)} (h : IM w b kvs) : b < w.heap.size := by
  obtain ⟨es, clock, h1, _⟩ := h
  exact (Array.getElem?_eq_some_iff.1 h1).1
theorem IM.keep {W w : World} {b : Nat} {kvs : List (Int × Value)} (hb : Below W.heap.size W w) (h : IM W b kvs) : IM w b kvs := by
  have hl := h.lt
  obtain ⟨es, clock, h1, h2⟩ := h
  exact ⟨es, clock, (hb.block b hl).trans h1, h2⟩
theorem IM.new (w : World) : IM (w.alloc (.map #[] 0)) w.heap.size [] := ⟨#[], 0, heap_alloc_new w _, rfl⟩
theorem findNow_int (a : Int) : ∀ (es : List MapEntry) (kvs : List (Int × Value)) (i : Nat), es.map (fun e => (e.key, e.val)) = kvs.map (fun p => (Value.int .i64 p.1, p.2)) →
    ∃ r, Instr.findNow (.int .i64) (.int .i64 a) es i = some r ∧ r.map (·.2) = lookI a kvs
  | [], [], _, _ => ⟨none, rfl, rfl⟩
  | [], _ :: _, _, h => by simp at h
  | _ :: _, [], _, h => by simp at h
  | e :: es, (k, v) :: kvs, i, h => by
    simp only [List.map_cons, List.cons.injEq, Prod.mk.injEq] at h
    obtain ⟨⟨h1, h2⟩, h3⟩ := h
    obtain ⟨r, hr, hl⟩ := findNow_int a es kvs (i + 1) h3
    unfold Instr.findNow lookI
    rw [h1]
    by_cases hk : a = k
    · subst hk
      exact ⟨some (i, e.val), by simp [Instr.sameNow], by simp [h2]⟩
    · refine ⟨r, ?_, ?_⟩
      · have : (a == k) = false := by simpa using hk
        simp [Instr.sameNow, this, hr]
      · rw [hl, if_neg hk]
section
variable {P : Program} {T K E : TypeId}
theorem run_insert_int (hT : P.underlying T = some (.map K E)) (hK : P.underlying K = some (.int .i64)) {w : World} {b : Nat} {kvs : List (Int × Value)} (h : IM w b kvs) (a : Int) (v : Value) (hno : lookI a kvs = none) :
    ∃ w', (Instr.mapUpdate T (.map (some b)) (.int .i64 a) v).run P w = .ok () w' ∧ IM w' b (kvs ++ [(a, v)]) ∧ Bx b w w' := by
  have hlt := h.lt
  obtain ⟨es, clock, h1, h2⟩ := h
  obtain ⟨r, hr, hl⟩ := findNow_int a es.toList kvs 0 h2
  rw [hno] at hl
  have hr0 : r = none := by cases r <;> simp at hl ⊢
  subst hr0
  refine ⟨{ w with heap := w.heap.setIfInBounds b (.map (es.push ⟨.int .i64 a, v, clock⟩) (clock + 1)) }, ?_, ⟨es.push ⟨.int .i64 a, v, clock⟩, clock + 1, ?_, ?_⟩, ⟨rfl, rfl, rfl, by simp, fun k hk hne => ?_⟩⟩
  · unfold Instr.mapUpdate
    simp only [Sem.run_bind, run_underlying hT, Result.andThen_ok, Go.MapKept.run_getObj_map h1, Go.MapKept.run_checkKey (k := .int .i64 a) hK rfl, Go.MapKept.run_findKey hK hr, Go.MapKept.run_setObj_map _ h1]
  · simp [hlt]
  · simp [h2]
  · simp [Ne.symm hne]
theorem run_lookup_int (hT : P.underlying T = some (.map K E)) (hK : P.underlying K = some (.int .i64)) {w : World} {b : Nat} {kvs : List (Int × Value)} (h : IM w b kvs) (a : Int) {z : Value} (hz : (zeroValue E).run P w = .ok z w) :
    (Instr.lookup T (.map (some b)) (.int .i64 a) false).run P w = .ok ((lookI a kvs).getD z) w := by
  obtain ⟨es, clock, h1, h2⟩ := h
  obtain ⟨r, hr, hl⟩ := findNow_int a es.toList kvs 0 h2
  rw [← hl]
  have hf := Go.MapKept.run_findKey (w := w) hK hr
  have hc : (Instr.checkKey es.isEmpty 10000 K (.int .i64 a)).run P w = .ok () w := Go.MapKept.run_checkKey (w := w) (k := .int .i64 a) hK rfl es.isEmpty 9999
  unfold Instr.lookup
  cases r with
  | none =>
    simp only [Sem.run_bind, run_underlying hT, Result.andThen_ok, Go.MapKept.run_getObj_map h1]
    simp [hc, hf, hz, Result.andThen]
  | some p =>
    simp only [Sem.run_bind, run_underlying hT, Result.andThen_ok, Go.MapKept.run_getObj_map h1]
    simp [hc, hf, Result.andThen]
end
end PM
end Go.Proofs.YtnpbfjkfbobgaaaGreat
