/-
  A DISK IN MEMORY: what it holds, and what its calls may turn. Over any program.
-/
import Derived.Test.YtpilgbiedbhpeaaBk
import Derived.Lib.SlBytesConst
namespace Go.Proofs.Ytpilgbiedbhpeaa
namespace PM
open Go.RowKit
set_option linter.unusedVariables false
/-- of the blocks below B just one may have turned -/
structure Bd (B b : Nat) (w w' : World) : Prop where
  os : w'.os = w.os
  tape : w'.tape = w.tape
  output : w'.output = w.output
  size : w.heap.size ≤ w'.heap.size
  block : ∀ k, k < B → k ≠ b → w'.heap[k]? = w.heap[k]?
theorem Bd.refl (B b : Nat) (w : World) : Bd B b w w := ⟨rfl, rfl, rfl, Nat.le_refl _, fun _ _ _ => rfl⟩
theorem Bd.trans {B b : Nat} {x y z : World} (h : Bd B b x y) (k : Bd B b y z) : Bd B b x z :=
  ⟨k.os.trans h.os, k.tape.trans h.tape, k.output.trans h.output, Nat.le_trans h.size k.size, fun i hi hn => (k.block i hi hn).trans (h.block i hi hn)⟩
theorem Bd.of {B b : Nat} {x y : World} (h : Below B x y) : Bd B b x y := ⟨h.os, h.tape, h.output, h.size, fun k hk _ => h.block k hk⟩
theorem Bd.mono {B C b : Nat} {x y : World} (h : Bd B b x y) (hc : C ≤ B) : Bd C b x y := ⟨h.os, h.tape, h.output, h.size, fun k hk hn => h.block k (Nat.lt_of_lt_of_le hk hc) hn⟩
theorem Bd.set (B b i : Nat) (w : World) (u : Value) : Bd B b w (w.setCell ⟨b, i, Option.none⟩ u) :=
  ⟨rfl, rfl, rfl, by simp [World.setCell], fun k hk hn => Below.heap_setCell _ _ _ _ hn⟩
theorem Bd.below {B C b : Nat} {x y z : World} (h : Below C x y) (k : Bd B b y z) (hb : C ≤ b) (hB : C ≤ B) : Below C x z :=
  ⟨k.os.trans h.os, k.tape.trans h.tape, k.output.trans h.output, Nat.le_trans h.size k.size, fun i hi => (k.block i (by omega) (by omega)).trans (h.block i hi)⟩
theorem _root_.Go.RowKit.Below.below' {B C b : Nat} {x y z : World} (h : Below C x y) (k : Bd B b y z) (hb : C ≤ b) (hB : C ≤ B) : Below C x z := Bd.below h k hb hB
/-- a disk: the bytes that it holds, how many of them last, and its room; its bytes lie in blocks from B on -/
def DK (T E : TypeId) (B : Nat) (w : World) (b : Nat) (l : List UInt8) (last room : Int) : Prop :=
  ∃ v, BK w b #[v, .int .i64 last, .int .i64 room] T ∧ OW E B w v l
theorem DK.lt {T E : TypeId} {B : Nat} {w : World} {b : Nat} {l : List UInt8} {last room : Int} (h : DK T E B w b l last room) : b < w.heap.size := by
  obtain ⟨v, h1, _⟩ := h; exact h1.lt
theorem DK.keep {T E : TypeId} {B : Nat} {W w : World} {b : Nat} {l : List UInt8} {last room : Int} (hb : Below W.heap.size W w) (h : DK T E B W b l last room) : DK T E B w b l last room := by
  obtain ⟨v, h1, h2⟩ := h
  exact ⟨v, h1.keep hb, h2.keep hb⟩
theorem BK.ne {T E : TypeId} (hne : T ≠ E) {w : World} {b g : Nat} {cs cur : Array Value} {m : Nat × Nat} (h : BK w b cs T) (hg : w.heap[g]? = Option.some (.cells cur E m)) : g ≠ b := by
  intro e; subst e
  unfold BK at h
  rw [h] at hg
  simp at hg
  exact hne hg.2.1
/-- a row stays as it is while another block, of another type, turns -/
theorem OW.set {T E : TypeId} (hne : T ≠ E) {B : Nat} {w : World} {b i : Nat} {cs : Array Value} {v u : Value} {l : List UInt8} (hk : BK w b cs T) (h : OW E B w v l) : OW E B (w.setCell ⟨b, i, Option.none⟩ u) v l := by
  refine ⟨h.1, ?_⟩
  rcases h.2 with hn | ⟨g, cap, cur, hv, hB, hg, r⟩
  · exact .inl hn
  · exact .inr ⟨g, cap, cur, hv, hB, (Below.heap_setCell _ _ _ _ (BK.ne hne hk hg)).trans hg, r⟩
/-- the block of the disk stays as it is while its row is written -/
theorem BK.grown {T E : TypeId} (hne : T ≠ E) {B : Nat} {w w' : World} {b : Nat} {cs : Array Value} {v : Value} {l : List UInt8} (hk : BK w b cs T) (h : OW E B w v l) (hg : w.grownBy w' v.ownBlock) : BK w' b cs T := by
  have hlt := hk.lt
  refine (hg.block b hlt ?_).trans hk
  intro he
  rcases h.2 with ⟨rfl, _⟩ | ⟨g, cap, cur, rfl, hB, hg', r⟩
  · simp [Value.ownBlock] at he
  · simp [Value.ownBlock] at he
    exact BK.ne hne hk hg' he.symm
theorem OW.cut {E : TypeId} {B : Nat} {w : World} {g cap n : Nat} {l : List UInt8} (h : OW E B w (.slice (Option.some ⟨g, 0, Option.none⟩) l.length cap) l) (hn : n ≤ l.length) : OW E B w (.slice (Option.some ⟨g, 0, Option.none⟩) n cap) (l.take n) := by
  have hl : (l.take n).length = n := List.length_take_of_le hn
  rcases h.2 with ⟨hc, _⟩ | ⟨g', cap', cur, hv, hB, hg, hcap, hm, hs, ht⟩
  · cases hc
  · simp at hv
    obtain ⟨rfl, rfl⟩ := hv
    refine ⟨by simp, .inr ⟨g, cap, cur, by rw [hl], hB, hg, by omega, hm, hs, ?_⟩⟩
    rw [hl, List.map_take, ← ht, List.take_take]
    congr 1
    omega
theorem OW.form' {E : TypeId} {B : Nat} {w : World} {v : Value} {l : List UInt8} (h : OW E B w v l) : (v = .slice Option.none 0 0 ∧ l = []) ∨ ∃ g cap, v = .slice (Option.some ⟨g, 0, Option.none⟩) l.length cap ∧ B ≤ g ∧ l.length ≤ cap ∧ cap ≤ maxLen := by
  rcases h.2 with ⟨rfl, h0⟩ | ⟨g, cap, cur, rfl, hB, _, h1, h2, _⟩
  · exact .inl ⟨rfl, List.length_eq_zero_iff.1 h0⟩
  · exact .inr ⟨g, cap, rfl, hB, h1, h2⟩
theorem BS.litm (W : World) (E : TypeId) (l : List UInt8) (fr : Nat × Nat) (hl : l.length ≤ maxLen) : BS (W.alloc (.cells (l.map bv).toArray E fr)) (.slice (Option.some ⟨W.heap.size, 0, Option.none⟩) l.length l.length) l := by
  refine .inr (.inl ⟨W.heap.size, 0, l.length, rfl, Nat.le_refl _, hl, fun i x hi => ?_⟩)
  rw [Nat.zero_add, World.cell?_alloc_mark]
  simp [hi]
/-- a cut: what is told, what is left, how much of it lasts -/
def cutE (n : Int) (l : List UInt8) : Int := if 0 ≤ n ∧ n ≤ (l.length : Int) then 0 else 1
def cutL (n : Int) (l : List UInt8) : List UInt8 := if 0 ≤ n ∧ n ≤ (l.length : Int) then l.take n.toNat else l
def cutT (n : Int) (l : List UInt8) (last : Int) : Int := if 0 ≤ n ∧ n ≤ (l.length : Int) then n else last
/-- bytes that are laid behind: what is told, and what there is -/
def appE (l m : List UInt8) (room : Nat) : Int := if l.length + m.length ≤ room then 0 else 90
def appL (l m : List UInt8) (room : Nat) : List UInt8 := if l.length + m.length ≤ room then l ++ m else l
/-- bytes that are swapped in -/
def swpE (m : List UInt8) (room : Nat) : Int := if m.length ≤ room then 0 else 90
def swpL (l m : List UInt8) (room : Nat) : List UInt8 := if m.length ≤ room then m else l
def swpT (m : List UInt8) (room : Nat) (last : Int) : Int := if m.length ≤ room then (m.length : Int) else last
/-- how much a crash leaves -/
def left (l : List UInt8) (last keep : Int) : Int := last + min (max keep 0) ((l.length : Int) - last)
end PM
end Go.Proofs.Ytpilgbiedbhpeaa
