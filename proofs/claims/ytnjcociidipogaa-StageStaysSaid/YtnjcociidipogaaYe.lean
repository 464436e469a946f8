/-
  Publish of package stage: laws, closures. (Written by tools/mk_xe.py.)
-/
import Derived.Test.YtnjcociidipogaaYd
import Derived.Test.YtnjcociidipogaaRk
import Derived.Test.YtnjcociidipogaaYk
namespace Go.Proofs.Ytnjcociidipogaa
open Go.RowKit
set_option linter.unusedVariables false
set_option linter.unusedSimpArgs false
namespace PM
def growE (z : En) (e : List At) : En := { z with evs := z.evs ++ [e] }
def first4 (cd : Nat → Int) : Int := if ¬ cd 0 = 0 then cd 0 else if ¬ cd 1 = 0 then cd 1 else if ¬ cd 2 = 0 then cd 2 else cd 3
theorem Firsts.eq4 {cd : Nat → Int} {c : Int} (h : Firsts 4 cd c) : c = first4 cd := by
  unfold first4
  rcases h with ⟨rfl, h⟩ | ⟨k, hk, rfl, hne, h⟩
  · rw [h 0 (by decide), h 1 (by decide), h 2 (by decide), h 3 (by decide)]; simp
  · have hk4 : k = 0 ∨ k = 1 ∨ k = 2 ∨ k = 3 := by omega
    rcases hk4 with rfl | rfl | rfl | rfl
    · rw [if_pos hne]
    · rw [h 0 (by decide), if_neg (by simp), if_pos hne]
    · rw [h 0 (by decide), h 1 (by decide), if_neg (by simp), if_neg (by simp), if_pos hne]
    · rw [h 0 (by decide), h 1 (by decide), h 2 (by decide), if_neg (by simp), if_neg (by simp), if_neg (by simp)]
/-- what Publish's checks tell, one by one -/
noncomputable def pubCd (l : List Tx) (O : Int) (e : List At) (k : Nat) : Int :=
  if k = 0 then unls (decide (0 ≤ O)) 170 else if k = 1 then chk e else if k = 2 then unls (decide ((l[O.toNat]?.getD Tx0).en.evs.length < 8)) 171 else unls (smlT (growE (l[O.toNat]?.getD Tx0).en e)) 172
noncomputable def pubE (i : Id) (l : List Tx) (e : List At) : Int := first4 (pubCd l (openT i l) e)
noncomputable def pubT (i : Id) (l : List Tx) (e : List At) : List Tx × Int :=
  if pubE i l e = 0 then (l.set (openT i l).toNat ⟨growE (l[(openT i l).toNat]?.getD Tx0).en e, (l[(openT i l).toNat]?.getD Tx0).ask⟩, 0) else (l, pubE i l e)
theorem growE_wf {z : En} {e : List At} (hz : z.wf) (he : ∀ y ∈ e, y.wf) : (growE z e).wf := by
  obtain ⟨h1, h2, h3, h4, h5, h6⟩ := hz
  refine ⟨h1, h2, h3, h4, h5, fun x hx y hy => ?_⟩
  rcases List.mem_append.1 hx with hx | hx
  · exact h6 x hx y hy
  · simp at hx; subst hx; exact he y hy
def putsL : List Value → Nat → List Value → List Value
  | l, _, [] => l
  | l, j, u :: us => putsL (l.set j u) (j + 1) us
theorem OM.puts {c : Nat} {E : TypeId} {B g n cap i : Nat} : ∀ (us : List Value) (j : Nat) (w : World) (l : List (Ce c)) (y : Ce c), (∀ u ∈ us, u.oneCell' = true) → j + us.length ≤ c → OM ceL c E B w (.slice (some ⟨g, 0, none⟩) n cap) l → l[i]? = some y →
    ∃ z : Ce c, z.1 = putsL y.1 j us ∧ OM ceL c E B (w.setCells g (i * c + j) us) (.slice (some ⟨g, 0, none⟩) n cap) (l.set i z)
  | [], j, w, l, y, _, _, h, hy => ⟨y, rfl, by
    have : l.set i y = l := by
      refine List.ext_getElem? fun k => ?_
      rw [List.getElem?_set]
      by_cases hk : i = k
      · subst hk
        rw [if_pos rfl, if_pos (List.getElem?_eq_some_iff.1 hy).1, hy]
      · rw [if_neg hk]
    rw [this]
    exact h⟩
  | u :: us, j, w, l, y, hu, hj, h, hy => by
    simp only [List.length_cons] at hj
    have h1 := h.putc u (hu u List.mem_cons_self) (show j < c by omega) y hy
    obtain ⟨z, hz, h2⟩ := OM.puts us (j + 1) _ (l.set i (y.put j u (hu u List.mem_cons_self))) (y.put j u (hu u List.mem_cons_self)) (fun v hv => hu v (List.mem_cons_of_mem _ hv)) (by omega) h1 (by rw [List.getElem?_set, if_pos rfl, if_pos (List.getElem?_eq_some_iff.1 hy).1])
    refine ⟨z, hz, ?_⟩
    rw [List.set_set] at h2
    exact h2
/-- an event of the call's own -/
def SA1 (B : Nat) (e : List At) (x : Value) (W : World) : Prop := (∃ a n c, x = .slice a n c) ∧ OM attL 4 64 B W x e
def SB1 (B : Nat) (e : List At) (x : Value) (W : World) : Prop := (∃ a c, x = .slice a 1 c) ∧ RR (evO 64 B) 1 W x [e]
/-- what the operations keep: all elder blocks but one, and the rows of tests and attributes -/
structure RG (B g : Nat) (W W' : World) : Prop where
  os : W'.os = W.os
  tape : W'.tape = W.tape
  output : W'.output = W.output
  size : W.heap.size ≤ W'.heap.size
  block : B ≤ W.heap.size → ∀ k, k < B → k ≠ g → W'.heap[k]? = W.heap[k]?
  k1 : KT W W' 93
  k2 : KT W W' 64
theorem RG.new {B g : Nat} {W W' : World} (h : Below W.heap.size W W') : RG B g W W' := ⟨h.os, h.tape, h.output, h.size, fun hb k hk _ => h.block k (by omega), KT.of h _, KT.of h _⟩
theorem RG.trans {B g : Nat} {x y z : World} (h : RG B g x y) (k : RG B g y z) : RG B g x z := ⟨k.os.trans h.os, k.tape.trans h.tape, k.output.trans h.output, Nat.le_trans h.size k.size, fun hb j hj hn => (k.block (Nat.le_trans hb h.size) j hj hn).trans (h.block hb j hj hn), h.k1.trans k.k1, h.k2.trans k.k2⟩
theorem RG.ofb {B g : Nat} {cs : Array Value} {W W' : World} (h : Bx g W W') (hb : BK W g cs 34) : RG B g W W' := ⟨h.os, h.tape, h.output, h.size, fun hB k hk hn => h.block k (by omega) hn, KT.ofx h hb (by decide), KT.ofx h hb (by decide)⟩
theorem RG.ofg {B g : Nat} {W W' : World} {row : Option Nat} (h : W.grownBy W' row) (ht : ∀ j, row = some j → ∃ cur m, W.heap[j]? = some (.cells cur 29 m)) (hr : ∀ j, row = some j → B ≤ j) : RG B g W W' := ⟨h.os, h.tape, h.output, h.size, fun hB k hk hn => h.block k (by omega) (fun e => by have := hr k e.symm; omega), KT.ofg h ht (by decide), KT.ofg h ht (by decide)⟩
/-- the entry that grows: its box and rows -/
def PG (B g g5 : Nat) (z : En) (e : List At) (va : Option Addr) (zF vc : Nat) (ta : Option Addr) (zN tc : Nat) (xa : Option Addr) (xn xc : Nat) (W : World) : Prop :=
  BK W g #[.int .i64 z.kind, .int .i64 z.id.br, .int .u64 (z.id.life : Int), .int .u64 (z.id.ser : Int), .int .i64 z.client, .int .u64 (z.sub : Int), .slice va zF vc, .slice ta zN tc] 34 ∧ OM teL 5 93 B W (.slice va zF vc) z.fil ∧ OR (evO 64 B) 1 29 B W (.slice ta zN tc) z.evs ∧ BK W g5 #[.slice xa xn xc] 29 ∧ EM attL 4 W (.slice xa xn xc) e ∧ B ≤ W.heap.size
theorem PG.keep {B g g5 : Nat} {z : En} {e : List At} {va : Option Addr} {zF vc : Nat} {ta : Option Addr} {zN tc : Nat} {xa : Option Addr} {xn xc : Nat} {W W' : World} (h : PG B g g5 z e va zF vc ta zN tc xa xn xc W) (hb : Below W.heap.size W W') : PG B g g5 z e va zF vc ta zN tc xa xn xc W' :=
  ⟨h.1.keep hb, h.2.1.keep hb, OR.keep evO_lasts hb h.2.2.1, h.2.2.2.1.keep hb, h.2.2.2.2.1.keep hb, Nat.le_trans h.2.2.2.2.2 hb.size⟩
/-- the row has grown, the box not yet -/
def PH (B g : Nat) (z : En) (e : List At) (va : Option Addr) (zF vc : Nat) (ta : Option Addr) (zN tc : Nat) (x : Value) (W : World) : Prop := (∃ a n c, x = .slice a n c) ∧
  BK W g #[.int .i64 z.kind, .int .i64 z.id.br, .int .u64 (z.id.life : Int), .int .u64 (z.id.ser : Int), .int .i64 z.client, .int .u64 (z.sub : Int), .slice va zF vc, .slice ta zN tc] 34 ∧ OM teL 5 93 B W (.slice va zF vc) z.fil ∧ OR (evO 64 B) 1 29 B W x (z.evs ++ [e])
theorem PH.keep {B g : Nat} {z : En} {e : List At} {va : Option Addr} {zF vc : Nat} {ta : Option Addr} {zN tc : Nat} {x : Value} {W W' : World} (h : PH B g z e va zF vc ta zN tc x W) (hb : Below W.heap.size W W') : PH B g z e va zF vc ta zN tc x W' :=
  ⟨h.1, h.2.1.keep hb, h.2.2.1.keep hb, OR.keep evO_lasts hb h.2.2.2⟩
/-- the box too -/
def PI (B g : Nat) (z : En) (e : List At) (zF : Nat) (W : World) : Prop := ∃ ua uc ta zN tc, BK W g #[.int .i64 z.kind, .int .i64 z.id.br, .int .u64 (z.id.life : Int), .int .u64 (z.id.ser : Int), .int .i64 z.client, .int .u64 (z.sub : Int), .slice ua zF uc, .slice ta zN tc] 34 ∧ enO 93 64 29 B W [.int .i64 z.kind, .int .i64 z.id.br, .int .u64 (z.id.life : Int), .int .u64 (z.id.ser : Int), .int .i64 z.client, .int .u64 (z.sub : Int), .slice ua zF uc, .slice ta zN tc] (growE z e)
theorem PI.keep {B g : Nat} {z : En} {e : List At} {zF : Nat} {W W' : World} (h : PI B g z e zF W) (hb : Below W.heap.size W W') : PI B g z e zF W' := by
  obtain ⟨ua, uc, ta, zN, tc, h1, h2⟩ := h
  exact ⟨ua, uc, ta, zN, tc, h1.keep hb, enO_lasts _ _ _ _ hb h2⟩
theorem evRR.one {B : Nat} (W : World) (v : Value) (hv : v.oneCell' = true) (e : List At) (h : OM attL 4 64 B W v e) : RR (evO 64 B) 1 (W.alloc (.cells #[v] 29)) (.slice (some ⟨W.heap.size, 0, none⟩) 1 1) [e] := RR.one (w0 := W) evO_lasts W _ (ce1 v hv) e _ rfl ⟨v, rfl, h⟩
end PM
theorem pub1_any (g9 : Nat) (O : Int) (w : World) (k9 : PM.BK w g9 #[.int .i64 O] 3) :
    Calls Try.prog 40 #[.pointer (some ⟨g9, 0, none⟩)] w fun e w' => e = .returned (.int .i64 (PM.unls (decide (0 ≤ O)) 170)) ∧ Below w.heap.size w w' := by
  have x0 : w.cell? ⟨g9, 0, none⟩ = some (.int .i64 O) := k9.cell 0
  have hbB := PM.hid (Below.refl w.heap.size w)
  clear k9
  go_enter Try.func40, Try.ntmps40
  go_wp2_with fail
  refine (unless_any _ _ _).mono ?_
  rintro e w3 ⟨rfl, hB2⟩
  replace hbB := PM.hid (PM.chain hbB.out hB2)
  clear hB2
  go_wp2_with fail
  go_ret
  exact ⟨by first | rfl | simp, hbB.out⟩
theorem pub2_any (g5 : Nat) (xa : Option Addr) (xn xc : Nat) (e : List PM.At) (w : World) (k5 : PM.BK w g5 #[.slice xa xn xc] 29) (he : PM.EV w (.slice xa xn xc) e) :
    Calls Try.prog 42 #[.pointer (some ⟨g5, 0, none⟩)] w fun z w' => z = .returned (.int .i64 (PM.chk e)) ∧ Below w.heap.size w w' := by
  have ht := echeck_any (.slice xa xn xc) e w he
  have x0 : w.cell? ⟨g5, 0, none⟩ = some (.slice xa xn xc) := k5.cell 0
  generalize PM.chk e = E at ht ⊢
  clear k5 he
  go_enter Try.func42, Try.ntmps42
  go_wp2_with fail
  refine ht.mono ?_
  rintro e w2 ⟨rfl, hB⟩
  have hbB := PM.hid hB
  clear ht hB x0
  go_wp2_with fail
  go_ret
  exact ⟨rfl, hbB.out⟩
set_option maxHeartbeats 1000000 in
theorem pub3_any (g3 g9 k : Nat) (la : Option Addr) (ln lc : Nat) (y : PM.Tx) (l : List PM.Tx) (w : World) (k3 : PM.BK w g3 #[.slice la ln lc] 27) (k9 : PM.BK w g9 #[.int .i64 (k : Int)] 3) (hv : PM.TxL w (.slice la ln lc) l) (hx : l[k]? = some y) (hl1 : l.length ≤ 1000) :
    Calls Try.prog 43 #[.pointer (some ⟨g3, 0, none⟩), .pointer (some ⟨g9, 0, none⟩)] w fun e w' => e = .returned (.int .i64 (PM.unls (decide (y.en.evs.length < 8)) 171)) ∧ Below w.heap.size w w' := by
  have hln : ln = l.length := by obtain ⟨_, _, h⟩ := hv.len; injection h
  have hlt : k < ln := by rw [hln]; exact (List.getElem?_eq_some_iff.1 hx).1
  rw [← hln] at hl1
  obtain ⟨b, off, rfl, hce⟩ := PM.RR.opn hv (by omega)
  obtain ⟨cs, hl0, hR⟩ := hce k y hx
  obtain ⟨fa, fc, ea, ec, hcs, -, -⟩ := PM.txR_open hR
  rw [hcs] at hl0
  obtain ⟨zE, hzE⟩ : ∃ P, P = y.en.evs.length := ⟨_, rfl⟩
  have d7 : w.cell? ⟨b, off + k * 9 + 7, none⟩ = some (.slice ea zE ec) := by have := hl0 7 _ rfl; simpa [← hzE] using this
  rw [← hzE]
  have x0 : w.cell? ⟨g3, 0, none⟩ = some (.slice (some ⟨b, off, none⟩) ln lc) := k3.cell 0
  have y0 : w.cell? ⟨g9, 0, none⟩ = some (.int .i64 (k : Int)) := k9.cell 0
  have hbB := PM.hid (Below.refl w.heap.size w)
  have hd : decide (zE < 8) = decide ((zE : Int) < 8) := by rw [Bool.eq_iff_iff, decide_eq_true_iff, decide_eq_true_iff]; omega
  rw [hd]
  have hk1 : (k : Int) < (ln : Int) := by omega
  clear hln hce hl0 hR hcs cs hzE k3 k9 hv hx hd
  go_enter Try.func43, Try.ntmps43
  go_wp2_with fail
  refine (unless_any _ _ _).mono ?_
  rintro e w3 ⟨rfl, hB2⟩
  replace hbB := PM.hid (PM.chain hbB.out hB2)
  clear hB2
  go_wp2_with fail
  go_ret
  exact ⟨by first | rfl | simp, hbB.out⟩
end Go.Proofs.Ytnjcociidipogaa
