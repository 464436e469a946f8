/-
  AWAKE OF LAYER 18.
-/
import Derived.Test.YtjninckmgkaliaaWc
import Derived.Test.YtjninckmgkaliaaWd
namespace Go.Proofs.Ytjninckmgkaliaa
open Go.RowKit
set_option linter.unusedVariables false
set_option linter.unusedSimpArgs false
namespace PM
theorem flat_getW {α : Type} {e : α → List Value} {c : Nat} (he : ∀ x, (e x).length = c) : ∀ (l : List α) (i : Nat) (y : α), l[i]? = some y → ∀ (j : Nat) (u : Value), (e y)[j]? = some u → (l.flatMap e)[i * c + j]? = some u
  | [], i, y, h, _, _, _ => by simp at h
  | x :: l, 0, y, h, j, u, hu => by
    simp at h
    subst h
    have hj := (List.getElem?_eq_some_iff.1 hu).1
    rw [List.flatMap_cons, Nat.zero_mul, Nat.zero_add, List.getElem?_append_left hj]
    exact hu
  | x :: l, i + 1, y, h, j, u, hu => by
    have ih := flat_getW he l i y (by simpa using h) j u hu
    rw [List.flatMap_cons, List.getElem?_append_right (by rw [he x, Nat.succ_mul]; omega), he x, show (i + 1) * c + j - c = i * c + j by rw [Nat.succ_mul]; omega]
    exact ih
theorem EM.litsW {α : Type} {e : α → List Value} {c : Nat} (he : ∀ x, (e x).length = c) (W : World) (E : TypeId) (l : List α) (n : Nat) (hn : n = l.length) (hl : l.length ≤ maxLen) (cs : Array Value) (hcs : cs = (l.flatMap e).toArray) : EM e c (W.alloc (.cells cs E)) (.slice (Option.some ⟨W.heap.size, 0, Option.none⟩) n n) l := by
  subst hn hcs
  refine ⟨_, l.length, rfl, Nat.le_refl _, hl, fun _ => ⟨W.heap.size, 0, rfl, fun i y hi j u hu => ?_⟩⟩
  rw [Nat.zero_add, World.cell?_alloc_new]
  have := flat_getW he l i y hi j u hu
  simpa using this
/-- a literal row of anything -/
theorem RR.litsW {α : Type} {R : World → List Value → α → Prop} {c : Nat} (hL : Lasts R) (W : World) (E : TypeId) (css : List (Ce c)) (ls : List α) (n : Nat) (cs : Array Value) (hcs : cs = (css.flatMap ceL).toArray) (hn : n = ls.length) (hlen : css.length = ls.length) (hmax : ls.length ≤ maxLen)
    (hR : ∀ (i : Nat) (c0 : Ce c) x, css[i]? = some c0 → ls[i]? = some x → R W c0.1 x) : RR R c (W.alloc (.cells cs E)) (.slice (Option.some ⟨W.heap.size, 0, Option.none⟩) n n) ls :=
  ⟨css, EM.litsW ceL_len W E css n (by omega) (by omega) cs hcs, hlen, fun i c0 x h1 h2 => hL _ _ _ _ ((Below.refl _ _).alloc (Nat.le_refl _) _) (hR i c0 x h1 h2)⟩
def XW : En := ⟨3, ⟨0, 0, 1⟩, 0, 0, [], []⟩
def KW : Ms := ⟨1, 0, [⟨⟨0, 0, 1⟩, true⟩], [], [], [], [], []⟩
def ZW : Ms := ⟨0, 0, [], [], [], [], [], []⟩
theorem enR0 (w : World) : enR w [.int .i64 3, .int .i64 0, .int .u64 0, .int .u64 1, .int .i64 0, .int .u64 0, .slice none 0 0, .slice none 0 0] XW := ⟨_, _, rfl, EM.nil _, RR.nil _⟩
theorem EnL.lit1 (W : World) (E : TypeId) : EnL (W.alloc (.cells #[.int .i64 3, .int .i64 0, .int .u64 0, .int .u64 1, .int .i64 0, .int .u64 0, .slice none 0 0, .slice none 0 0] E)) (.slice (some ⟨W.heap.size, 0, none⟩) 1 1) [XW] :=
  RR.litsW enR_lasts W E [enCe XW none 0 0 none 0 0] [XW] 1 _ rfl rfl rfl (by decide) fun i c0 x h1 h2 => by
    have hi : i = 0 := by have := (List.getElem?_eq_some_iff.1 h1).1; simp at this; exact this
    subst hi
    simp at h1 h2
    subst h1 h2
    exact enR0 W
theorem EnL.lit2 (W : World) (E : TypeId) : EnL (W.alloc (.cells #[.int .i64 3, .int .i64 0, .int .u64 0, .int .u64 1, .int .i64 0, .int .u64 0, .slice none 0 0, .slice none 0 0, .int .i64 3, .int .i64 0, .int .u64 0, .int .u64 1, .int .i64 0, .int .u64 0, .slice none 0 0, .slice none 0 0] E)) (.slice (some ⟨W.heap.size, 0, none⟩) 2 2) [XW, XW] :=
  RR.litsW enR_lasts W E [enCe XW none 0 0 none 0 0, enCe XW none 0 0 none 0 0] [XW, XW] 2 _ rfl rfl rfl (by decide) fun i c0 x h1 h2 => by
    have hi : i = 0 ∨ i = 1 := by have := (List.getElem?_eq_some_iff.1 h1).1; simp at this; omega
    rcases hi with rfl | rfl <;> (simp at h1 h2; subst h1 h2; exact enR0 W)
/-- the cells of a message, as one element -/
def msCe (x : Ms) (a0 : Option Addr) (n0 c0 : Nat) (a1 : Option Addr) (n1 c1 : Nat) (a2 : Option Addr) (n2 c2 : Nat) (a3 : Option Addr) (n3 c3 : Nat) (a4 : Option Addr) (n4 c4 : Nat) (a5 : Option Addr) (n5 c5 : Nat) : Ce 8 :=
  ⟨msC x (.slice a0 n0 c0) (.slice a1 n1 c1) (.slice a2 n2 c2) (.slice a3 n3 c3) (.slice a4 n4 c4) (.slice a5 n5 c5), rfl, by
    intro u hu
    simp only [msC, List.mem_cons, List.not_mem_nil, or_false] at hu
    rcases hu with rfl | rfl | rfl | rfl | rfl | rfl | rfl | rfl <;> rfl⟩
theorem MsL.lit1 (W : World) (E : TypeId) (x : Ms) (a0 : Option Addr) (n0 c0 : Nat) (a1 : Option Addr) (n1 c1 : Nat) (a2 : Option Addr) (n2 c2 : Nat) (a3 : Option Addr) (n3 c3 : Nat) (a4 : Option Addr) (n4 c4 : Nat) (a5 : Option Addr) (n5 c5 : Nat)
    (hR : msR W (msC x (.slice a0 n0 c0) (.slice a1 n1 c1) (.slice a2 n2 c2) (.slice a3 n3 c3) (.slice a4 n4 c4) (.slice a5 n5 c5)) x) :
    MsL (W.alloc (.cells #[.int .i64 x.kind, .int .u64 (x.hav : Int), .slice a0 n0 c0, .slice a1 n1 c1, .slice a2 n2 c2, .slice a3 n3 c3, .slice a4 n4 c4, .slice a5 n5 c5] E)) (.slice (some ⟨W.heap.size, 0, none⟩) 1 1) [x] :=
  RR.litsW msR_lasts W E [msCe x a0 n0 c0 a1 n1 c1 a2 n2 c2 a3 n3 c3 a4 n4 c4 a5 n5 c5] [x] 1 _ rfl rfl rfl (show 1 ≤ maxLen from by decide) fun i c h h1 h2 => by
    have hi : i = 0 := by have := (List.getElem?_eq_some_iff.1 h1).1; simp at this; exact this
    subst hi
    simp at h1 h2
    subst h1 h2
    exact hR
theorem msR_ZW (w : World) : msR w [.int .i64 0, .int .u64 0, .slice none 0 0, .slice none 0 0, .slice none 0 0, .slice none 0 0, .slice none 0 0, .slice none 0 0] ZW := ⟨_, _, _, _, _, _, rfl, EM.nil _, RR.nil _, RR.nil _, RR.nil _, EM.nil _, EM.nil _⟩
theorem MsL.litZ (W : World) (E : TypeId) : MsL (W.alloc (.cells #[.int .i64 0, .int .u64 0, .slice none 0 0, .slice none 0 0, .slice none 0 0, .slice none 0 0, .slice none 0 0, .slice none 0 0] E)) (.slice (some ⟨W.heap.size, 0, none⟩) 1 1) [ZW] :=
  MsL.lit1 W E ZW none 0 0 none 0 0 none 0 0 none 0 0 none 0 0 none 0 0 (msR_ZW W)
theorem msR_KW {w : World} {a : Option Addr} {c : Nat} (h : EM voL 4 w (.slice a 1 c) [⟨⟨0, 0, 1⟩, true⟩]) : msR w [.int .i64 1, .int .u64 0, .slice a 1 c, .slice none 0 0, .slice none 0 0, .slice none 0 0, .slice none 0 0, .slice none 0 0] KW := ⟨_, _, _, _, _, _, rfl, h, RR.nil _, RR.nil _, RR.nil _, EM.nil _, EM.nil _⟩
theorem EM.lit1W {α : Type} {e : α → List Value} {c : Nat} (he : ∀ x, (e x).length = c) (W : World) (E : TypeId) (x : α) (cs : Array Value) (hcs : cs = (e x).toArray) : EM e c (W.alloc (.cells cs E)) (.slice (some ⟨W.heap.size, 0, none⟩) 1 1) [x] :=
  EM.litsW he W E [x] 1 rfl (show 1 ≤ maxLen from by decide) cs (by rw [hcs]; simp)
end PM
set_option maxRecDepth 100000 in
set_option maxHeartbeats 16000000 in
theorem awake18_any (w : World) : Calls Try.prog 9 #[] w fun e w' => e = .returned (.bool true) ∧ Below w.heap.size w w' := by
  go_enter Try.func9, Try.ntmps9
  go_upto_region 1 with fail
  obtain ⟨g1, hg1⟩ : ∃ g, g = w.heap.size := ⟨_, rfl⟩
  obtain ⟨w1, hw1⟩ : ∃ W, W = w.alloc (.cells #[.int .i64 3, .int .i64 0, .int .u64 0, .int .u64 1, .int .i64 0, .int .u64 0, .slice none 0 0, .slice none 0 0] 50) := ⟨_, rfl⟩
  have hbw1 : Below w.heap.size w w1 := by rw [hw1]; exact (Below.refl _ _).alloc (Nat.le_refl _) _
  have k1 : PM.BK w1 g1 #[.int .i64 3, .int .i64 0, .int .u64 0, .int .u64 1, .int .i64 0, .int .u64 0, .slice none 0 0, .slice none 0 0] 50 := by rw [hw1, hg1]; exact PM.BK.new _ _ _
  go_upto_region 2 with fail
  rw [← hw1, ← hg1]
  clear hw1 hg1
  have hBB := PM.hid hbw1
  clear hbw1
  obtain ⟨g2, hg2⟩ : ∃ g, g = w1.heap.size := ⟨_, rfl⟩
  obtain ⟨w2, hw2⟩ : ∃ W, W = w1.alloc (.cells #[.int .i64 0, .int .u64 0, .int .u64 2] 30) := ⟨_, rfl⟩
  have hbw2 : Below w1.heap.size w1 w2 := by rw [hw2]; exact (Below.refl _ _).alloc (Nat.le_refl _) _
  have k2 : PM.BK w2 g2 #[.int .i64 0, .int .u64 0, .int .u64 2] 30 := by rw [hw2, hg2]; exact PM.BK.new _ _ _
  go_upto_region 3 with fail
  rw [← hw2, ← hg2]
  clear hw2 hg2
  replace k1 := k1.keep hbw2
  replace hBB := PM.hid (PM.chain hBB.out hbw2)
  clear hbw2
  obtain ⟨gv, hgv⟩ : ∃ g, g = w2.heap.size := ⟨_, rfl⟩
  obtain ⟨wv, hwv⟩ : ∃ W, W = w2.alloc (.cells #[.int .i64 0, .int .u64 0, .int .u64 1, .bool true] 45) := ⟨_, rfl⟩
  have hbwv : Below w2.heap.size w2 wv := by rw [hwv]; exact (Below.refl _ _).alloc (Nat.le_refl _) _
  have kv : PM.BK wv gv #[.int .i64 0, .int .u64 0, .int .u64 1, .bool true] 45 := by rw [hwv, hgv]; exact PM.BK.new _ _ _
  obtain ⟨g3, hg3⟩ : ∃ g, g = wv.heap.size := ⟨_, rfl⟩
  obtain ⟨w3, hw3⟩ : ∃ W, W = wv.alloc (.cells #[.int .i64 1, .int .u64 0, .slice (some ⟨gv, 0, none⟩) 1 1, .slice none 0 0, .slice none 0 0, .slice none 0 0, .slice none 0 0, .slice none 0 0] 41) := ⟨_, rfl⟩
  have hbw3 : Below wv.heap.size wv w3 := by rw [hw3]; exact (Below.refl _ _).alloc (Nat.le_refl _) _
  have k3 : PM.BK w3 g3 #[.int .i64 1, .int .u64 0, .slice (some ⟨gv, 0, none⟩) 1 1, .slice none 0 0, .slice none 0 0, .slice none 0 0, .slice none 0 0, .slice none 0 0] 41 := by rw [hw3, hg3]; exact PM.BK.new _ _ _
  have hsv : wv.heap.size = w2.heap.size + 1 := by rw [hwv]; simp
  have x0 : w2.cell? ⟨g1, 0, none⟩ = some (.int .i64 3) := k1.cell 0
  have x1 : w2.cell? ⟨g1, 1, none⟩ = some (.int .i64 0) := k1.cell 1
  have x2 : w2.cell? ⟨g1, 2, none⟩ = some (.int .u64 0) := k1.cell 2
  have x3 : w2.cell? ⟨g1, 3, none⟩ = some (.int .u64 1) := k1.cell 3
  have x4 : w2.cell? ⟨g1, 4, none⟩ = some (.int .i64 0) := k1.cell 4
  have x5 : w2.cell? ⟨g1, 5, none⟩ = some (.int .u64 0) := k1.cell 5
  have x6 : w2.cell? ⟨g1, 6, none⟩ = some (.slice none 0 0) := k1.cell 6
  have x7 : w2.cell? ⟨g1, 7, none⟩ = some (.slice none 0 0) := k1.cell 7
  have x1v : wv.cell? ⟨g1, 0, none⟩ = some (.int .i64 3) := (k1.keep hbwv).cell 0
  go_upto_region 4 with fail
  clear x0 x1 x2 x3 x4 x5 x6 x7
  clear x1v
  rw [← hsv, ← hgv, ← hwv, ← hw3, ← hg3]
  have hvo : PM.EM PM.voL 4 wv (.slice (some ⟨gv, 0, none⟩) 1 1) [⟨⟨0, 0, 1⟩, true⟩] := by rw [hwv, hgv]; exact PM.EM.lit1W PM.voL_len w2 _ _ _ rfl
  clear hwv hgv hw3 hg3 hsv kv
  replace hvo := hvo.keep hbw3
  replace k1 := (k1.keep hbwv).keep hbw3
  replace k2 := (k2.keep hbwv).keep hbw3
  replace hBB := PM.hid (PM.chain (PM.chain hBB.out hbwv) hbw3)
  clear hbwv hbw3
  obtain ⟨g5, hg5⟩ : ∃ g, g = w3.heap.size := ⟨_, rfl⟩
  obtain ⟨w5, hw5⟩ : ∃ W, W = w3.alloc (.cells #[.int .i64 3, .int .i64 0, .int .u64 0, .int .u64 1, .int .i64 0, .int .u64 0, .slice none 0 0, .slice none 0 0] 50) := ⟨_, rfl⟩
  have hbw5 : Below w3.heap.size w3 w5 := by rw [hw5]; exact (Below.refl _ _).alloc (Nat.le_refl _) _
  obtain ⟨g6, hg6⟩ : ∃ g, g = w5.heap.size := ⟨_, rfl⟩
  obtain ⟨w6, hw6⟩ : ∃ W, W = w5.alloc (.cells #[.int .i64 0, .int .u64 0, .int .u64 2] 30) := ⟨_, rfl⟩
  have hbw6 : Below w5.heap.size w5 w6 := by rw [hw6]; exact (Below.refl _ _).alloc (Nat.le_refl _) _
  obtain ⟨g7, hg7⟩ : ∃ g, g = w6.heap.size := ⟨_, rfl⟩
  obtain ⟨w7, hw7⟩ : ∃ W, W = w6.alloc (.cells #[.int .i64 1, .int .u64 0, .slice (some ⟨gv, 0, none⟩) 1 1, .slice none 0 0, .slice none 0 0, .slice none 0 0, .slice none 0 0, .slice none 0 0] 41) := ⟨_, rfl⟩
  have hbw7 : Below w6.heap.size w6 w7 := by rw [hw7]; exact (Below.refl _ _).alloc (Nat.le_refl _) _
  have s5 : w5.heap.size = w3.heap.size + 1 := by rw [hw5]; simp
  have s6 : w6.heap.size = w3.heap.size + 1 + 1 := by rw [hw6]; simp [s5]
  have e5 : PM.EnL w5 (.slice (some ⟨g5, 0, none⟩) 1 1) [PM.XW] := by rw [hw5, hg5]; exact PM.EnL.lit1 _ _
  have e6 : PM.EM PM.idL 3 w6 (.slice (some ⟨g6, 0, none⟩) 1 1) [⟨0, 0, 2⟩] := by rw [hw6, hg6]; exact PM.EM.lit1W PM.idL_len w5 _ _ _ rfl
  have e7 : PM.MsL w7 (.slice (some ⟨g7, 0, none⟩) 1 1) [PM.KW] := by rw [hw7, hg7]; exact PM.MsL.lit1 w6 _ PM.KW _ _ _ _ _ _ _ _ _ _ _ _ _ _ _ _ _ _ (PM.msR_KW ((hvo.keep hbw5).keep hbw6))
  have ht := tally_any _ _ _ [PM.XW] [⟨0, 0, 2⟩] [PM.KW] w7 (PM.EnL.keep (PM.EnL.keep e5 hbw6) hbw7) (e6.keep hbw7) e7 (by simp) (by simp)
  rw [show PM.tally [PM.XW] [⟨0, 0, 2⟩] [PM.KW] = [⟨⟨0, 0, 1⟩, true⟩, ⟨⟨0, 0, 2⟩, false⟩] from by decide] at ht
  rw [hg5, hg6, hg7, s6, s5, hw7, hw6, hw5] at ht
  have hc7 := PM.hid (PM.chain (PM.chain (PM.chain hBB.out hbw5) hbw6) hbw7)
  have k17 := PM.hid (((k1.keep hbw5).keep hbw6).keep hbw7)
  have k27 := PM.hid (((k2.keep hbw5).keep hbw6).keep hbw7)
  have k37 := PM.hid (((k3.keep hbw5).keep hbw6).keep hbw7)
  have hvo7 := PM.hid (((hvo.keep hbw5).keep hbw6).keep hbw7)
  have x0 : w3.cell? ⟨g1, 0, none⟩ = some (.int .i64 3) := k1.cell 0
  have x1 : w3.cell? ⟨g1, 1, none⟩ = some (.int .i64 0) := k1.cell 1
  have x2 : w3.cell? ⟨g1, 2, none⟩ = some (.int .u64 0) := k1.cell 2
  have x3 : w3.cell? ⟨g1, 3, none⟩ = some (.int .u64 1) := k1.cell 3
  have x4 : w3.cell? ⟨g1, 4, none⟩ = some (.int .i64 0) := k1.cell 4
  have x5 : w3.cell? ⟨g1, 5, none⟩ = some (.int .u64 0) := k1.cell 5
  have x6 : w3.cell? ⟨g1, 6, none⟩ = some (.slice none 0 0) := k1.cell 6
  have x7 : w3.cell? ⟨g1, 7, none⟩ = some (.slice none 0 0) := k1.cell 7
  have y0 : w3.cell? ⟨g2, 0, none⟩ = some (.int .i64 0) := k2.cell 0
  have y1 : w3.cell? ⟨g2, 1, none⟩ = some (.int .u64 0) := k2.cell 1
  have y2 : w3.cell? ⟨g2, 2, none⟩ = some (.int .u64 2) := k2.cell 2
  have m0 : w3.cell? ⟨g3, 0, none⟩ = some (.int .i64 1) := k3.cell 0
  have m1 : w3.cell? ⟨g3, 1, none⟩ = some (.int .u64 0) := k3.cell 1
  have m2 : w3.cell? ⟨g3, 2, none⟩ = some (.slice (some ⟨gv, 0, none⟩) 1 1) := k3.cell 2
  have m3 : w3.cell? ⟨g3, 3, none⟩ = some (.slice none 0 0) := k3.cell 3
  have m4 : w3.cell? ⟨g3, 4, none⟩ = some (.slice none 0 0) := k3.cell 4
  have m5 : w3.cell? ⟨g3, 5, none⟩ = some (.slice none 0 0) := k3.cell 5
  have m6 : w3.cell? ⟨g3, 6, none⟩ = some (.slice none 0 0) := k3.cell 6
  have m7 : w3.cell? ⟨g3, 7, none⟩ = some (.slice none 0 0) := k3.cell 7
  clear hbw5 hbw6 hbw7 e5 e6 e7 s5 s6
  have hww : Hid (w7 = ((w3.alloc (.cells #[.int .i64 3, .int .i64 0, .int .u64 0, .int .u64 1, .int .i64 0, .int .u64 0, .slice none 0 0, .slice none 0 0] 50)).alloc (.cells #[.int .i64 0, .int .u64 0, .int .u64 2] 30)).alloc (.cells #[.int .i64 1, .int .u64 0, .slice (some ⟨gv, 0, none⟩) 1 1, .slice none 0 0, .slice none 0 0, .slice none 0 0, .slice none 0 0, .slice none 0 0] 41)) := PM.hid (by rw [hw7, hw6, hw5])
  clear hw5 hw6 hw7 hg5 hg6 hg7
  have y5 : ∀ o, (w3.alloc o).cell? ⟨g2, 0, none⟩ = some (.int .i64 0) := fun o => PM.cellA ((Below.refl _ _).alloc (Nat.le_refl _) o) y0
  have y51 : ∀ o, (w3.alloc o).cell? ⟨g2, 1, none⟩ = some (.int .u64 0) := fun o => PM.cellA ((Below.refl _ _).alloc (Nat.le_refl _) o) y1
  have y52 : ∀ o, (w3.alloc o).cell? ⟨g2, 2, none⟩ = some (.int .u64 2) := fun o => PM.cellA ((Below.refl _ _).alloc (Nat.le_refl _) o) y2
  have m50 : ∀ o p, ((w3.alloc o).alloc p).cell? ⟨g3, 0, none⟩ = some (.int .i64 1) := fun o p => PM.cellA (((Below.refl _ _).alloc (Nat.le_refl _) o).alloc (by simp) p) m0
  have m51 : ∀ o p, ((w3.alloc o).alloc p).cell? ⟨g3, 1, none⟩ = some (.int .u64 0) := fun o p => PM.cellA (((Below.refl _ _).alloc (Nat.le_refl _) o).alloc (by simp) p) m1
  have m52 : ∀ o p, ((w3.alloc o).alloc p).cell? ⟨g3, 2, none⟩ = some (.slice (some ⟨gv, 0, none⟩) 1 1) := fun o p => PM.cellA (((Below.refl _ _).alloc (Nat.le_refl _) o).alloc (by simp) p) m2
  have m53 : ∀ o p, ((w3.alloc o).alloc p).cell? ⟨g3, 3, none⟩ = some (.slice none 0 0) := fun o p => PM.cellA (((Below.refl _ _).alloc (Nat.le_refl _) o).alloc (by simp) p) m3
  have m54 : ∀ o p, ((w3.alloc o).alloc p).cell? ⟨g3, 4, none⟩ = some (.slice none 0 0) := fun o p => PM.cellA (((Below.refl _ _).alloc (Nat.le_refl _) o).alloc (by simp) p) m4
  have m55 : ∀ o p, ((w3.alloc o).alloc p).cell? ⟨g3, 5, none⟩ = some (.slice none 0 0) := fun o p => PM.cellA (((Below.refl _ _).alloc (Nat.le_refl _) o).alloc (by simp) p) m5
  have m56 : ∀ o p, ((w3.alloc o).alloc p).cell? ⟨g3, 6, none⟩ = some (.slice none 0 0) := fun o p => PM.cellA (((Below.refl _ _).alloc (Nat.le_refl _) o).alloc (by simp) p) m6
  have m57 : ∀ o p, ((w3.alloc o).alloc p).cell? ⟨g3, 7, none⟩ = some (.slice none 0 0) := fun o p => PM.cellA (((Below.refl _ _).alloc (Nat.le_refl _) o).alloc (by simp) p) m7
  go_wp2_with fail
  refine ht.mono ?_
  clear ht
  rintro e w8 ⟨u4, rfl, hu4, hBn⟩
  rw [← hww.out] at hBn hu4
  clear x0 x1 x2 x3 x4 x5 x6 x7
  clear y0 y1 y2
  clear m0 m1 m2 m3 m4 m5 m6 m7
  clear y5 y51 y52 m50 m51 m52 m53 m54 m55 m56 m57 k1 k2 k3 hvo hBB
  have hBB := PM.hid (PM.chain hc7.out hBn)
  have k1 := k17.out.keep hBn
  have k2 := k27.out.keep hBn
  have k3 := k37.out.keep hBn
  have hvo := hvo7.out.keep hBn
  replace hu4 := hu4.em PM.voL_len
  obtain ⟨a4, c4, rfl⟩ := hu4.len
  clear hBn hc7 k17 k27 k37 hvo7 hww w7
  obtain ⟨g9, hg9⟩ : ∃ g, g = w8.heap.size := ⟨_, rfl⟩
  obtain ⟨w9, hw9⟩ : ∃ W, W = w8.alloc (.cells #[.int .i64 3, .int .i64 0, .int .u64 0, .int .u64 1, .int .i64 0, .int .u64 0, .slice none 0 0, .slice none 0 0, .int .i64 3, .int .i64 0, .int .u64 0, .int .u64 1, .int .i64 0, .int .u64 0, .slice none 0 0, .slice none 0 0] 50) := ⟨_, rfl⟩
  have hbw9 : Below w8.heap.size w8 w9 := by rw [hw9]; exact (Below.refl _ _).alloc (Nat.le_refl _) _
  have e9 : PM.EnL w9 (.slice (some ⟨g9, 0, none⟩) 2 2) [PM.XW, PM.XW] := by rw [hw9, hg9]; exact PM.EnL.lit2 _ _
  have hp := promise_any 0 none 0 0 none 0 0 none 0 0 _ [PM.XW, PM.XW] [] [] [] w9 ⟨PM.RR.nil _, PM.RR.nil _, PM.EM.nil _⟩ (by decide) e9 ⟨by simp, fun x hx => by simp at hx; subst hx; exact ⟨by simp [PM.XW], by simp [PM.XW], by simp [PM.XW]⟩⟩
  rw [show PM.prm (PM.kn [] [] []) 0 [PM.XW, PM.XW] = ([PM.XW], []) from rfl] at hp
  have x0 : w8.cell? ⟨g1, 0, none⟩ = some (.int .i64 3) := k1.cell 0
  have x1 : w8.cell? ⟨g1, 1, none⟩ = some (.int .i64 0) := k1.cell 1
  have x2 : w8.cell? ⟨g1, 2, none⟩ = some (.int .u64 0) := k1.cell 2
  have x3 : w8.cell? ⟨g1, 3, none⟩ = some (.int .u64 1) := k1.cell 3
  have x4 : w8.cell? ⟨g1, 4, none⟩ = some (.int .i64 0) := k1.cell 4
  have x5 : w8.cell? ⟨g1, 5, none⟩ = some (.int .u64 0) := k1.cell 5
  have x6 : w8.cell? ⟨g1, 6, none⟩ = some (.slice none 0 0) := k1.cell 6
  have x7 : w8.cell? ⟨g1, 7, none⟩ = some (.slice none 0 0) := k1.cell 7
  go_wp2_with fail
  rw [← hw9, ← hg9]
  refine hp.mono ?_
  clear hp
  rintro e wa ⟨u5, u6, rfl, hu5, hu6, hBn⟩
  clear x0 x1 x2 x3 x4 x5 x6 x7
  have hbw := PM.chain hbw9 hBn
  clear hbw9 hBn hw9 hg9 e9
  replace k1 := k1.keep hbw
  replace k2 := k2.keep hbw
  replace k3 := k3.keep hbw
  replace hvo := hvo.keep hbw
  replace hu4 := hu4.keep hbw
  replace hBB := PM.hid (PM.chain hBB.out hbw)
  clear hbw
  obtain ⟨a5, c5, rfl⟩ := hu5.rr.len
  obtain ⟨a6, c6, rfl⟩ := (hu6.em PM.idL_len).len
  clear hu5 hu6
  have he := ends_any 0 none 0 0 none 0 0 none 0 0 none 0 0 1 0 (some ⟨gv, 0, none⟩) 1 1 none 0 0 none 0 0 none 0 0 none 0 0 none 0 0 [] [] [] [⟨⟨0, 0, 1⟩, true⟩] wa (PM.RR.nil _) (PM.RR.nil _) (PM.RR.nil _) hvo
  rw [show PM.endsL (fun i => PM.hasE [] i || PM.hasE [] i || PM.hasE [] i) [⟨⟨0, 0, 1⟩, true⟩] = [⟨0, 0, 1⟩] from by decide] at he
  have m0 : wa.cell? ⟨g3, 0, none⟩ = some (.int .i64 1) := k3.cell 0
  have m1 : wa.cell? ⟨g3, 1, none⟩ = some (.int .u64 0) := k3.cell 1
  have m2 : wa.cell? ⟨g3, 2, none⟩ = some (.slice (some ⟨gv, 0, none⟩) 1 1) := k3.cell 2
  have m3 : wa.cell? ⟨g3, 3, none⟩ = some (.slice none 0 0) := k3.cell 3
  have m4 : wa.cell? ⟨g3, 4, none⟩ = some (.slice none 0 0) := k3.cell 4
  have m5 : wa.cell? ⟨g3, 5, none⟩ = some (.slice none 0 0) := k3.cell 5
  have m6 : wa.cell? ⟨g3, 6, none⟩ = some (.slice none 0 0) := k3.cell 6
  have m7 : wa.cell? ⟨g3, 7, none⟩ = some (.slice none 0 0) := k3.cell 7
  go_wp2_with fail
  refine he.mono ?_
  clear he
  rintro e wb ⟨u7, rfl, hu7, hBn⟩
  clear m0 m1 m2 m3 m4 m5 m6 m7
  replace hu7 := hu7.em PM.idL_len
  obtain ⟨a7, c7, rfl⟩ := hu7.len
  replace k1 := k1.keep hBn
  replace k2 := k2.keep hBn
  replace k3 := k3.keep hBn
  replace hvo := hvo.keep hBn
  replace hu4 := hu4.keep hBn
  replace hBB := PM.hid (PM.chain hBB.out hBn)
  clear hBn
  obtain ⟨bv, ov, cv', he4, -, -, hL4⟩ := PM.EM.open1 hu4 (by simp)
  obtain ⟨bi, oi, ci', he7, -, -, hL7⟩ := PM.EM.open1 hu7 (by simp)
  injection he4 with he4a he4b he4c
  injection he7 with he7a he7b he7c
  subst he4a he7a
  clear he4b he4c he7b he7c hu4 hu7
  simp only [List.length_cons, List.length_nil, Nat.zero_add, Nat.reduceAdd]
  go_upto_region 9 with fail
  have bx := PM.hid k1
  have by_ := PM.hid k2
  have bm := PM.hid k3
  have bvo := PM.hid hvo
  clear k1 k2 k3 hvo
  replace hL4 := PM.hid hL4
  replace hL7 := PM.hid hL7
  refine PM.wp_region_st [some 47, some 48, some 49, some 50, some 51, some 52, some 53, some 54, some 55, some 56, some 57, some 58, some 59, some 60, some 61, some 62, some 63, some 64, some 65, some 66, some 67, some 68, some 69, some 70, some 71, some 72, some 73, some 74, some 75, some 76, some 77, some 78, some 79, some 80, some 81, some 82, some 83, some 84, some 85, some 86, some 87, some 88, some 89, some 90, some 91, some 92, some 93, some 94, some 95, some 0] [fun x _ => x = .slice (some ⟨bv, ov, none⟩) 2 c4, fun x _ => x = .pointer (some ⟨bv, ov, none⟩), fun x _ => x = .agg #[.int .i64 0, .int .u64 0, .int .u64 1, .bool true], fun x _ => x = .pointer (some ⟨g1, 1, none⟩), fun x _ => x = .agg #[.int .i64 0, .int .u64 0, .int .u64 1], fun x _ => x = .agg #[.int .i64 0, .int .u64 0, .int .u64 1, .bool true], fun x _ => x = .bool true, fun x _ => x = .bool true, fun x _ => x = .slice (some ⟨bv, ov, none⟩) 2 c4, fun x _ => x = .pointer (some ⟨bv, ov + 4, none⟩), fun x _ => x = .agg #[.int .i64 0, .int .u64 0, .int .u64 2, .bool false], fun x _ => x = .agg #[.int .i64 0, .int .u64 0, .int .u64 2], fun x _ => x = .agg #[.int .i64 0, .int .u64 0, .int .u64 2, .bool false], fun x _ => x = .bool true, fun x _ => x = .bool true, fun x _ => x = .bool true, fun x _ => x = .agg #[.int .i64 0, .int .u64 0, .int .u64 2], fun x _ => x = .int .i64 1, fun x _ => x = .bool true, fun x _ => x = .bool true, fun x _ => x = .bool true, fun x _ => x = .agg #[.int .i64 0, .int .u64 0, .slice none 0 0, .slice none 0 0, .slice none 0 0, .slice none 0 0, .slice none 0 0, .slice none 0 0], fun x W => PM.MsL W x [PM.ZW], fun x _ => x = .agg #[.int .i64 0, .int .u64 0, .int .u64 2], fun x _ => x = .int .i64 0, fun x _ => x = .bool true, fun x _ => x = .bool true, fun x _ => x = .bool true, fun x _ => x = .slice a6 0 c6, fun x _ => x = .int .i64 0, fun x _ => x = .bool true, fun x _ => x = .bool true, fun x _ => x = .bool true, fun x _ => x = .slice (some ⟨bi, oi, none⟩) 1 c7, fun x _ => x = .pointer (some ⟨bi, oi, none⟩), fun x _ => x = .agg #[.int .i64 0, .int .u64 0, .int .u64 1], fun x _ => x = .pointer (some ⟨g1, 1, none⟩), fun x _ => x = .agg #[.int .i64 0, .int .u64 0, .int .u64 1], fun x _ => x = .bool true, fun x _ => x = .bool true, fun x _ => x = .bool true, fun x _ => x = .agg #[.int .u64 0, .slice none 0 0, .slice none 0 0, .slice none 0 0], fun x _ => x = .agg #[.int .i64 3, .int .i64 0, .int .u64 0, .int .u64 1, .int .i64 0, .int .u64 0, .slice none 0 0, .slice none 0 0], fun x W => PM.EnL W x [PM.XW], fun x _ => x = .agg #[.int .i64 1, .int .u64 0, .slice (some ⟨gv, 0, none⟩) 1 1, .slice none 0 0, .slice none 0 0, .slice none 0 0, .slice none 0 0, .slice none 0 0], fun x _ => ∃ a c, x = .slice a 0 c, fun x _ => x = .int .i64 0, fun x _ => x = .bool true, fun x _ => x = .bool true, fun x _ => x = .bool true] (by kernel_rfl) (by kernel_rfl) (by kernel_rfl) ?_ ?_ ?_
  · simp only [List.forall_mem_cons]
    refine ⟨?_, ?_, ?_, ?_, ?_, ?_, ?_, ?_, ?_, ?_, ?_, ?_, ?_, ?_, ?_, ?_, ?_, ?_, ?_, ?_, ?_, ?_, ?_, ?_, ?_, ?_, ?_, ?_, ?_, ?_, ?_, ?_, ?_, ?_, ?_, ?_, ?_, ?_, ?_, ?_, ?_, ?_, ?_, ?_, ?_, ?_, ?_, ?_, ?_, ?_, by simp⟩
    all_goals (intro x W W' h hb; first | exact h | exact PM.BS.keep hb h | exact PM.OW.keep hb h | exact PM.MsL.keep h hb | exact PM.EnL.keep h hb)
  · refine ⟨?_, ?_, ?_, ?_, ?_, ?_, ?_, ?_, ?_, ?_, ?_, ?_, ?_, ?_, ?_, ?_, ?_, ?_, ?_, ?_, ?_, ?_, ?_, ?_, ?_, ?_, ?_, ?_, ?_, ?_, ?_, ?_, ?_, ?_, ?_, ?_, ?_, ?_, ?_, ?_, ?_, ?_, ?_, ?_, ?_, ?_, ?_, ?_, ?_, ?_, trivial⟩
    all_goals
      intro a W hB hF hd
      have k1 := hF 1 rfl
      have k2 := hF 2 rfl
      have k3 := hF 3 rfl
      have k4 := hF 4 rfl
      have k6 := hF 6 rfl
      have k7 := hF 7 rfl
      have x0 : W.cell? ⟨g1, 0, none⟩ = some (.int .i64 3) := (bx.out.keep hB).cell 0
      have x1 : W.cell? ⟨g1, 1, none⟩ = some (.int .i64 0) := (bx.out.keep hB).cell 1
      have x2 : W.cell? ⟨g1, 2, none⟩ = some (.int .u64 0) := (bx.out.keep hB).cell 2
      have x3 : W.cell? ⟨g1, 3, none⟩ = some (.int .u64 1) := (bx.out.keep hB).cell 3
      have x4 : W.cell? ⟨g1, 4, none⟩ = some (.int .i64 0) := (bx.out.keep hB).cell 4
      have x5 : W.cell? ⟨g1, 5, none⟩ = some (.int .u64 0) := (bx.out.keep hB).cell 5
      have x6 : W.cell? ⟨g1, 6, none⟩ = some (.slice none 0 0) := (bx.out.keep hB).cell 6
      have x7 : W.cell? ⟨g1, 7, none⟩ = some (.slice none 0 0) := (bx.out.keep hB).cell 7
      have y0 : W.cell? ⟨g2, 0, none⟩ = some (.int .i64 0) := (by_.out.keep hB).cell 0
      have y1 : W.cell? ⟨g2, 1, none⟩ = some (.int .u64 0) := (by_.out.keep hB).cell 1
      have y2 : W.cell? ⟨g2, 2, none⟩ = some (.int .u64 2) := (by_.out.keep hB).cell 2
      have m0 : W.cell? ⟨g3, 0, none⟩ = some (.int .i64 1) := (bm.out.keep hB).cell 0
      have m1 : W.cell? ⟨g3, 1, none⟩ = some (.int .u64 0) := (bm.out.keep hB).cell 1
      have m2 : W.cell? ⟨g3, 2, none⟩ = some (.slice (some ⟨gv, 0, none⟩) 1 1) := (bm.out.keep hB).cell 2
      have m3 : W.cell? ⟨g3, 3, none⟩ = some (.slice none 0 0) := (bm.out.keep hB).cell 3
      have m4 : W.cell? ⟨g3, 4, none⟩ = some (.slice none 0 0) := (bm.out.keep hB).cell 4
      have m5 : W.cell? ⟨g3, 5, none⟩ = some (.slice none 0 0) := (bm.out.keep hB).cell 5
      have m6 : W.cell? ⟨g3, 6, none⟩ = some (.slice none 0 0) := (bm.out.keep hB).cell 6
      have m7 : W.cell? ⟨g3, 7, none⟩ = some (.slice none 0 0) := (bm.out.keep hB).cell 7
      have p0 : W.cell? ⟨bv, ov, none⟩ = some (.int .i64 0) := PM.cellA hB (hL4.out 0 _ rfl 0 _ rfl)
      have p1 : W.cell? ⟨bv, ov + 1, none⟩ = some (.int .u64 0) := PM.cellA hB (hL4.out 0 _ rfl 1 _ rfl)
      have p2 : W.cell? ⟨bv, ov + 2, none⟩ = some (.int .u64 1) := PM.cellA hB (hL4.out 0 _ rfl 2 _ rfl)
      have p3 : W.cell? ⟨bv, ov + 3, none⟩ = some (.bool true) := PM.cellA hB (hL4.out 0 _ rfl 3 _ rfl)
      have q0 : W.cell? ⟨bv, ov + 4, none⟩ = some (.int .i64 0) := PM.cellA hB (hL4.out 1 _ rfl 0 _ rfl)
      have q1 : W.cell? ⟨bv, ov + 4 + 1, none⟩ = some (.int .u64 0) := PM.cellA hB (hL4.out 1 _ rfl 1 _ rfl)
      have q2 : W.cell? ⟨bv, ov + 4 + 2, none⟩ = some (.int .u64 2) := PM.cellA hB (hL4.out 1 _ rfl 2 _ rfl)
      have q3 : W.cell? ⟨bv, ov + 4 + 3, none⟩ = some (.bool false) := PM.cellA hB (hL4.out 1 _ rfl 3 _ rfl)
      have r0 : W.cell? ⟨bi, oi, none⟩ = some (.int .i64 0) := PM.cellA hB (hL7.out 0 _ rfl 0 _ rfl)
      have r1 : W.cell? ⟨bi, oi + 1, none⟩ = some (.int .u64 0) := PM.cellA hB (hL7.out 0 _ rfl 1 _ rfl)
      have r2 : W.cell? ⟨bi, oi + 2, none⟩ = some (.int .u64 1) := PM.cellA hB (hL7.out 0 _ rfl 2 _ rfl)
      clear hF
      simp [PM.depsL, PM.spec, PM.sl, Region.binds] at hd k1 k2 k3 k4 k6 k7
      simp only [PM.wantL, PM.spec]
      try simp only [PM.sl]
      go_simp
    all_goals try exact Below.refl _ _
    · refine (says_any _ ⟨0, 0, 2⟩ [] W (PM.RR.nil _)).mono ?_
      rintro e w' ⟨rfl, hb⟩
      exact ⟨hb, rfl⟩
    · exact ⟨(Below.refl _ _).alloc (Nat.le_refl _) _, _, rfl, PM.MsL.litZ _ _⟩
    · refine (says_any _ ⟨0, 0, 2⟩ [PM.ZW] W hd.1).mono ?_
      rintro e w' ⟨rfl, hb⟩
      exact ⟨hb, rfl⟩
    · exact ⟨(Below.refl _ _).alloc (Nat.le_refl _) _, _, rfl, PM.EnL.lit1 _ _⟩
    · obtain ⟨xa, xc, hx⟩ := hd.2.1.len
      have hd2 := hd.2.1
      rw [hx] at hd2 ⊢
      refine (ends_any 0 none 0 0 none 0 0 none 0 0 xa 1 xc 1 0 (some ⟨gv, 0, none⟩) 1 1 none 0 0 none 0 0 none 0 0 none 0 0 none 0 0 [] [] [PM.XW] [⟨⟨0, 0, 1⟩, true⟩] W (PM.RR.nil _) (PM.RR.nil _) hd2 (bvo.out.keep hB)).mono ?_
      rintro e w' ⟨u, rfl, hu, hb⟩
      rw [show PM.endsL (fun i => PM.hasE [] i || PM.hasE [] i || PM.hasE [PM.XW] i) [⟨⟨0, 0, 1⟩, true⟩] = [] from by decide] at hu
      obtain ⟨a', c', rfl⟩ := (hu.em PM.idL_len).len
      exact ⟨hb, _, rfl, _, _, rfl⟩
    · obtain ⟨⟨a1, c1, h92⟩, -⟩ := hd
      rw [h92]
      go_simp
      exact Below.refl _ _
  · intro G W hB hF hS
    have h0 : G 0 = .bool true := by simp [PM.allSp, PM.spec] at hS; simp [hS]
    rw [show ((List.range (Array.size _)).map G).toArray = #[G 0, G 1, G 2, G 3, G 4, G 5, G 6, G 7, G 8, G 9, G 10, G 11, G 12, G 13, G 14, G 15, G 16, G 17, G 18, G 19, G 20, G 21, G 22, G 23, G 24, G 25, G 26, G 27, G 28, G 29, G 30, G 31, G 32, G 33, G 34, G 35, G 36, G 37, G 38, G 39, G 40, G 41, G 42, G 43, G 44, G 45, G 46, G 47, G 48, G 49, G 50, G 51, G 52, G 53, G 54, G 55, G 56, G 57, G 58, G 59, G 60, G 61, G 62, G 63, G 64, G 65, G 66, G 67, G 68, G 69, G 70, G 71, G 72, G 73, G 74, G 75, G 76, G 77, G 78, G 79, G 80, G 81, G 82, G 83, G 84, G 85, G 86, G 87, G 88, G 89, G 90, G 91, G 92, G 93, G 94, G 95] from rfl]
    clear hF hS
    go_wp2
    go_ret
    exact ⟨by simp [h0], PM.chain hBB.out hB⟩
end Go.Proofs.Ytjninckmgkaliaa
