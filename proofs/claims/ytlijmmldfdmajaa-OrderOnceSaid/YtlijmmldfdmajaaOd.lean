/-
  CONTRACTS of order.Decide's closures.
-/
import Derived.Test.YtlijmmldfdmajaaOc
namespace Go.Proofs.Ytlijmmldfdmajaa
open Go.RowKit
set_option linter.unusedVariables false
set_option linter.unusedSimpArgs false
namespace PM
theorem flat_getW {α : Type} {e : α → List Value} {c : Nat} (he : ∀ x, (e x).length = c) : ∀ (l : List α) (i : Nat) (y : α), l[i]? = some y → ∀ (j : Nat) (u : Value), (e y)[j]? = some u → (l.flatMap e)[i * c + j]? = some u
  | [], i, y, h, _, _, _ => by simp at h
  | x :: l, 0, y, h, j, u, hu => by
    simp at h
    subst h
    have hj := (List.getElem?_eq_some_iff.1 hu).1
    rw [List.flatMap_cons, Nat.zero_mul, Nat.zero_add, List.getElem?_append_left hj]
    exact hu
  | x :: l, i + 1, y, h, j, u, hu => by
    have ih := flat_getW he l i y (by simpa using h) j u hu
    rw [List.flatMap_cons, List.getElem?_append_right (by rw [he x, Nat.succ_mul]; omega), he x, show (i + 1) * c + j - c = i * c + j by rw [Nat.succ_mul]; omega]
    exact ih
theorem EM.litsW {α : Type} {e : α → List Value} {c : Nat} (he : ∀ x, (e x).length = c) (W : World) (E : TypeId) (l : List α) (n : Nat) (hn : n = l.length) (hl : l.length ≤ maxLen) (cs : Array Value) (hcs : cs = (l.flatMap e).toArray) : EM e c (W.alloc (.cells cs E)) (.slice (Option.some ⟨W.heap.size, 0, Option.none⟩) n n) l := by
  subst hn hcs
  refine ⟨_, l.length, rfl, Nat.le_refl _, hl, fun _ => ⟨W.heap.size, 0, rfl, fun i y hi j u hu => ?_⟩⟩
  rw [Nat.zero_add, World.cell?_alloc_new]
  have := flat_getW he l i y hi j u hu
  simpa using this
/-- a literal row of anything -/
theorem RR.litsW {α : Type} {R : World → List Value → α → Prop} {c : Nat} (hL : Lasts R) (W : World) (E : TypeId) (css : List (Ce c)) (ls : List α) (n : Nat) (cs : Array Value) (hcs : cs = (css.flatMap ceL).toArray) (hn : n = ls.length) (hlen : css.length = ls.length) (hmax : ls.length ≤ maxLen)
    (hR : ∀ (i : Nat) (c0 : Ce c) x, css[i]? = some c0 → ls[i]? = some x → R W c0.1 x) : RR R c (W.alloc (.cells cs E)) (.slice (Option.some ⟨W.heap.size, 0, Option.none⟩) n n) ls :=
  ⟨css, EM.litsW ceL_len W E css n (by omega) (by omega) cs hcs, hlen, fun i c0 x h1 h2 => hL _ _ _ _ ((Below.refl _ _).alloc (Nat.le_refl _) _) (hR i c0 x h1 h2)⟩
theorem RR.lit1 {α : Type} {R : World → List Value → α → Prop} {c : Nat} (hL : Lasts R) (W : World) (E : TypeId) (cs0 : Ce c) (x : α) (cs : Array Value) (hcs : cs = cs0.1.toArray) (hR : R W cs0.1 x) : RR R c (W.alloc (.cells cs E)) (.slice (some ⟨W.heap.size, 0, none⟩) 1 1) [x] :=
  RR.litsW hL W E [cs0] [x] 1 cs (by rw [hcs]; simp [ceL]) rfl rfl (show 1 ≤ maxLen from by decide) fun i c0 y h1 h2 => by
    have hi : i = 0 := by have := (List.getElem?_eq_some_iff.1 h1).1; simp at this; exact this
    subst hi
    simp at h1 h2
    subst h1 h2
    exact hR
section
variable {α : Type} {R : World → List Value → α → Prop} {c : Nat} {E : TypeId} {B : Nat}
variable {P : Program} {w : World} {ops : Array Oper} {rest : List Oper} {o : Oper} {a : Act} {Q : Exit → Act → World → Prop}
theorem OR.app {w' : World} {v v' : Value} {l m : List α} {css csm : List (Ce c)} (hS : Stays R E) (h1 : OM ceL c E B w v css) (h2 : css.length = l.length) (h3 : ∀ (i : Nat) (cs : Ce c) (x : α), css[i]? = some cs → l[i]? = some x → R w cs.1 x)
    (h4 : csm.length = m.length) (h5 : ∀ (i : Nat) (cs : Ce c) (x : α), csm[i]? = some cs → m[i]? = some x → R w cs.1 x) (ho : OM ceL c E B w' v' (css ++ csm)) (hg : w.grownBy w' v.ownBlock) : OR R c E B w' v' (l ++ m) := by
  refine ⟨css ++ csm, ho, by simp [h2, h4], fun i cs x hi hx => ?_⟩
  have ht := OM.rowty h1
  by_cases hl : i < css.length
  · rw [List.getElem?_append_left hl] at hi
    rw [List.getElem?_append_left (by omega)] at hx
    exact hS _ _ _ _ _ hg ht (h3 i cs x hi hx)
  · rw [List.getElem?_append_right (by omega)] at hi
    rw [List.getElem?_append_right (by omega), ← h2] at hx
    exact hS _ _ _ _ _ hg ht (h5 _ cs x hi hx)
theorem wpList_ormS {T : TypeId} {nb : Nat} (ET : MTy P T E c nb) (hS : Stays R E) (B : Nat) (hgd : o.guard = none) (s x : Operand)
    (ho : o.op = .call { callee := .builtin .append, args := #[s, x], argTypes := #[T, T] })
    (v xv : Value) (l m : List α) (hs : a.eval s = v) (hx : a.eval x = xv) (hown : OR R c E B w v l) (hsrc : RR R c w xv m) (hn : (l.length + m.length) * nb ≤ 140737488355328) (hn2 : l.length + m.length ≤ maxLen) (hB : B ≤ w.heap.size)
    (h : ∀ v' w', OR R c E B w' v' (l ++ m) → Below B w w' → w.grownBy w' v.ownBlock → Sep w v v' → wpList P ops Q rest (a.put o.dst v') w') : wpList P ops Q (o :: rest) a w := by
  obtain ⟨css, h1, h2, h3⟩ := hown
  obtain ⟨csm, h4, h5, h6⟩ := hsrc
  refine wpList_em ET ceL_len ceL_one B hgd s x ho v xv css csm hs hx h1 h4 (by rw [h2, h5]; exact hn) (by rw [h2, h5]; exact hn2) hB ?_
  intro v' w' g1 g2 g3 g4
  exact h v' w' (OR.app hS h1 h2 h3 h5 h6 g1 g3) g2 g3 g4
end
theorem IM.grownK {w w' : World} {b : Nat} {kvs : List (Int × Value)} {K : TypeId} {row : Option Nat} (h : IM w b kvs) (hg : w.grownBy w' row) (ht : RowTy w row K) : IM w' b kvs := by
  have hl := h.lt
  obtain ⟨es, clock, h1, h2⟩ := h
  refine ⟨es, clock, (hg.block b hl ?_).trans h1, h2⟩
  intro he
  obtain ⟨cur, m, hc⟩ := ht b he.symm
  rw [h1] at hc
  cases hc
theorem BK.rt {w : World} {b : Nat} {cs : Array Value} {T : TypeId} (h : BK w b cs T) : RowTy w (some b) T := fun g e => by
  injection e with e
  subst e
  exact ⟨_, _, h⟩
theorem grownSet {w : World} (b i : Nat) (u : Value) : w.grownBy (w.setCell ⟨b, i, none⟩ u) (some b) :=
  have x := Bx.set b i w u
  ⟨x.os, x.tape, x.output, x.size, fun k hk hne => x.block k hk (fun e => hne (by rw [e]))⟩
/-- what Decide's closures leave in place -/
def dkvs (g7 g8 g9 : Nat) : List (Int × Value) := [(0, .func (.func 24) #[] #[.pointer (some ⟨g8, 0, none⟩)]), (1, .func (.func 25) #[] #[.pointer (some ⟨g7, 0, none⟩)]), (2, .func (.func 26) #[] #[.pointer (some ⟨g9, 0, none⟩)])]
def DI (B g7 g8 g9 gm : Nat) (Y O : List En) (R : List Id) (w0 w : World) : Prop := ∃ y o r, BK w g7 #[y] 24 ∧ BK w g8 #[o] 24 ∧ BK w g9 #[r] 25 ∧
  OR (enO 85 88 73 B) 8 38 B w y Y ∧ OR (enO 85 88 73 B) 8 38 B w o O ∧ OM idL 3 33 B w r R ∧ Apart y o ∧ IM w gm (dkvs g7 g8 g9) ∧ Below B w0 w
theorem DI.keep {B g7 g8 g9 gm : Nat} {Y O : List En} {R : List Id} {w0 W w : World} (hb : Below W.heap.size W w) (hBs : B ≤ W.heap.size) (h : DI B g7 g8 g9 gm Y O R w0 W) : DI B g7 g8 g9 gm Y O R w0 w := by
  obtain ⟨y, o, r, h1, h2, h3, h4, h5, h6, h7, h8, h9⟩ := h
  exact ⟨y, o, r, h1.keep hb, h2.keep hb, h3.keep hb, OR.keep enO_lasts hb h4, OR.keep enO_lasts hb h5, h6.keep hb, h7, h8.keep hb, h9.trans (hb.mono hBs)⟩
/-- the variable of the others has grown -/
theorem DI.put8 {B g7 g8 g9 gm : Nat} {Y O O' : List En} {R : List Id} {w0 W w : World} {y o r o' : Value} (n78 : g7 ≠ g8) (b8 : B ≤ g8)
    (h1 : BK W g7 #[y] 24) (h2 : BK W g8 #[o] 24) (h3 : BK W g9 #[r] 25)
    (h4 : OR (enO 85 88 73 B) 8 38 B W y Y) (h5 : OR (enO 85 88 73 B) 8 38 B W o O) (h6 : OM idL 3 33 B W r R) (h7 : Apart y o) (h8 : IM W gm (dkvs g7 g8 g9)) (h9 : Below B w0 W)
    (k5 : OR (enO 85 88 73 B) 8 38 B w o' O') (kb : Below B W w) (kg : W.grownBy w o.ownBlock) (ks : Sep W o o') : DI B g7 g8 g9 gm Y O' R w0 (w.setCell ⟨g8, 0, none⟩ o') := by
  have rt := h5.rt
  have hap : Apart y o' := (h7.symm.sep ks (fun j h => (h4.lt j h).2)).symm
  have e1 := h1.grown kg rt (by decide)
  have e2 := h2.grown kg rt (by decide)
  have e3 := h3.grown kg rt (by decide)
  have e4 := OR.kept (enO_stays (by decide) (by decide) (by decide)) h4 kg rt h7.symm
  have e6 := OM.stays (by decide) h6 kg rt
  have e8 := h8.grownK kg rt
  have gs := grownSet (w := w) g8 0 o'
  have rt2 := e2.rt
  exact ⟨y, o', r, e1.keepx (Bx.set g8 0 w o') n78, e2.set 0 o', e3.grown gs rt2 (by decide), OR.stays (enO_stays (by decide) (by decide) (by decide)) (by decide) e4 gs rt2, OR.stays (enO_stays (by decide) (by decide) (by decide)) (by decide) k5 gs rt2, OM.stays (by decide) e6 gs rt2, hap, e8.grownK gs rt2,
    (h9.trans kb).setCell b8 o'⟩
theorem DI.put7 {B g7 g8 g9 gm : Nat} {Y O Y' : List En} {R : List Id} {w0 W w : World} {y o r y' : Value} (n78 : g7 ≠ g8) (b7 : B ≤ g7)
    (h1 : BK W g7 #[y] 24) (h2 : BK W g8 #[o] 24) (h3 : BK W g9 #[r] 25)
    (h4 : OR (enO 85 88 73 B) 8 38 B W y Y) (h5 : OR (enO 85 88 73 B) 8 38 B W o O) (h6 : OM idL 3 33 B W r R) (h7 : Apart y o) (h8 : IM W gm (dkvs g7 g8 g9)) (h9 : Below B w0 W)
    (k4 : OR (enO 85 88 73 B) 8 38 B w y' Y') (kb : Below B W w) (kg : W.grownBy w y.ownBlock) (ks : Sep W y y') : DI B g7 g8 g9 gm Y' O R w0 (w.setCell ⟨g7, 0, none⟩ y') := by
  have rt := h4.rt
  have hap : Apart y' o := h7.sep ks (fun j h => (h5.lt j h).2)
  have e1 := h1.grown kg rt (by decide)
  have e2 := h2.grown kg rt (by decide)
  have e3 := h3.grown kg rt (by decide)
  have e5 := OR.kept (enO_stays (by decide) (by decide) (by decide)) h5 kg rt h7
  have e6 := OM.stays (by decide) h6 kg rt
  have e8 := h8.grownK kg rt
  have gs := grownSet (w := w) g7 0 y'
  have rt2 := e1.rt
  exact ⟨y', o, r, e1.set 0 y', e2.keepx (Bx.set g7 0 w y') n78.symm, e3.grown gs rt2 (by decide), OR.stays (enO_stays (by decide) (by decide) (by decide)) (by decide) k4 gs rt2, OR.stays (enO_stays (by decide) (by decide) (by decide)) (by decide) e5 gs rt2, OM.stays (by decide) e6 gs rt2, hap, e8.grownK gs rt2,
    (h9.trans kb).setCell b7 y'⟩
theorem DI.put9 {B g7 g8 g9 gm : Nat} {Y O : List En} {R R' : List Id} {w0 W w : World} {y o r r' : Value} (b9 : B ≤ g9)
    (h1 : BK W g7 #[y] 24) (h2 : BK W g8 #[o] 24) (h3 : BK W g9 #[r] 25)
    (h4 : OR (enO 85 88 73 B) 8 38 B W y Y) (h5 : OR (enO 85 88 73 B) 8 38 B W o O) (h6 : OM idL 3 33 B W r R) (h7 : Apart y o) (h8 : IM W gm (dkvs g7 g8 g9)) (h9 : Below B w0 W)
    (k6 : OM idL 3 33 B w r' R') (kb : Below B W w) (kg : W.grownBy w r.ownBlock) : DI B g7 g8 g9 gm Y O R' w0 (w.setCell ⟨g9, 0, none⟩ r') := by
  have rt := h6.rt
  have e1 := h1.grown kg rt (by decide)
  have e2 := h2.grown kg rt (by decide)
  have e3 := h3.grown kg rt (by decide)
  have e4 := OR.stays (enO_stays (by decide) (by decide) (by decide)) (by decide) h4 kg rt
  have e5 := OR.stays (enO_stays (by decide) (by decide) (by decide)) (by decide) h5 kg rt
  have e8 := h8.grownK kg rt
  have gs := grownSet (w := w) g9 0 r'
  have rt2 := e3.rt
  exact ⟨y, o, r', e1.grown gs rt2 (by decide), e2.grown gs rt2 (by decide), e3.set 0 r', OR.stays (enO_stays (by decide) (by decide) (by decide)) (by decide) e4 gs rt2, OR.stays (enO_stays (by decide) (by decide) (by decide)) (by decide) e5 gs rt2, OM.stays (by decide) k6 gs rt2, h7, e8.grownK gs rt2,
    (h9.trans kb).setCell b9 r'⟩
end PM
set_option maxRecDepth 100000 in
set_option maxHeartbeats 4000000 in
theorem dec0_any (z : PM.En) (fa : Option Addr) (zF fc : Nat) (ea : Option Addr) (zE ec : Nat) (B g7 g8 g9 gm : Nat) (Y O : List PM.En) (R : List PM.Id) (w0 w : World) (hen : Hid (∀ W : World, Below B w0 W → Calls Try.prog 20 #[.agg #[.int .i64 z.kind, .int .i64 z.id.br, .int .u64 (z.id.life : Int), .int .u64 (z.id.ser : Int), .int .i64 z.client, .int .u64 (z.sub : Int), .slice fa zF fc, .slice ea zE ec]] W fun e w' => ∃ ua uc ta tc, e = .returned (.agg #[.int .i64 z.kind, .int .i64 z.id.br, .int .u64 (z.id.life : Int), .int .u64 (z.id.ser : Int), .int .i64 z.client, .int .u64 (z.sub : Int), .slice ua zF uc, .slice ta zE tc]) ∧ PM.enO 85 88 73 W.heap.size w' [.int .i64 z.kind, .int .i64 z.id.br, .int .u64 (z.id.life : Int), .int .u64 (z.id.ser : Int), .int .i64 z.client, .int .u64 (z.sub : Int), .slice ua zF uc, .slice ta zE tc] z ∧ Below W.heap.size W w'))
    (hd : PM.DI B g7 g8 g9 gm Y O R w0 w) (n78 : Hid (g7 ≠ g8)) (b7 : Hid (B ≤ g7)) (b8 : Hid (B ≤ g8)) (b9 : Hid (B ≤ g9)) (hlen : Hid (O.length ≤ 1001)) :
    Calls Try.prog 24 #[.agg #[.int .i64 z.kind, .int .i64 z.id.br, .int .u64 (z.id.life : Int), .int .u64 (z.id.ser : Int), .int .i64 z.client, .int .u64 (z.sub : Int), .slice fa zF fc, .slice ea zE ec], .pointer (some ⟨g8, 0, none⟩)] w fun e w' => e = .returned (.tuple #[]) ∧ PM.DI B g7 g8 g9 gm Y (O ++ [z]) R w0 w' := by
  obtain ⟨w3, hw3⟩ : ∃ W, W = w.alloc (.cells #[.int .i64 z.kind, .int .i64 z.id.br, .int .u64 (z.id.life : Int), .int .u64 (z.id.ser : Int), .int .i64 z.client, .int .u64 (z.sub : Int), .slice fa zF fc, .slice ea zE ec] 38) := ⟨_, rfl⟩
  obtain ⟨gx, hgx⟩ : ∃ g, g = w.heap.size := ⟨_, rfl⟩
  have hBn : Below w.heap.size w w3 := by rw [hw3]; exact (Below.refl _ _).alloc (Nat.le_refl _) _
  have kx : PM.BK w3 gx #[.int .i64 z.kind, .int .i64 z.id.br, .int .u64 (z.id.life : Int), .int .u64 (z.id.ser : Int), .int .i64 z.client, .int .u64 (z.sub : Int), .slice fa zF fc, .slice ea zE ec] 38 := by rw [hw3, hgx]; exact PM.BK.new _ _ _
  replace kx := PM.hid kx
  have hBs : B ≤ w.heap.size := by
    obtain ⟨y, o, r, h1, _⟩ := hd
    exact Nat.le_trans b7.out (Nat.le_of_lt h1.lt)
  have hsz : Hid (B ≤ w3.heap.size) := PM.hid (Nat.le_trans hBs hBn.size)
  obtain ⟨y, o, r, h1, h2, h3, h4, h5, h6, h7, h8, h9⟩ := hd.keep hBn hBs
  obtain ⟨pa, pc, hpe⟩ := h5.rr.len
  obtain ⟨pn, hpn⟩ : ∃ n, n = O.length := ⟨_, rfl⟩
  rw [← hpn] at hpe
  subst hpe
  have hBB := PM.hid hBn
  have hall := PM.hid h9
  have kcell := PM.hid h2
  have hparts := PM.hid (And.intro h1 (And.intro h2 (And.intro h3 (And.intro h4 (And.intro h5 (And.intro h6 (And.intro h7 (And.intro h8 h9))))))))
  clear h1 h2 h3 h4 h5 h6 h7 h8 h9 hd hBs hBn hpn
  go_enter Try.func24, Try.ntmps24
  go_upto_region 1 with fail
  rw [← hw3, ← hgx]
  clear hw3 hgx
  refine PM.wp_region_st2 4 [some 3, some 4, some 5, some 6, some 7, none] [fun x _ => x = .slice pa pn pc, fun x _ => x = .agg #[.int .i64 z.kind, .int .i64 z.id.br, .int .u64 (z.id.life : Int), .int .u64 (z.id.ser : Int), .int .i64 z.client, .int .u64 (z.sub : Int), .slice fa zF fc, .slice ea zE ec], fun x W => ∃ ua uc ta tc, x = .agg #[.int .i64 z.kind, .int .i64 z.id.br, .int .u64 (z.id.life : Int), .int .u64 (z.id.ser : Int), .int .i64 z.client, .int .u64 (z.sub : Int), .slice ua zF uc, .slice ta zE tc] ∧ PM.enO 85 88 73 B W [.int .i64 z.kind, .int .i64 z.id.br, .int .u64 (z.id.life : Int), .int .u64 (z.id.ser : Int), .int .i64 z.client, .int .u64 (z.sub : Int), .slice ua zF uc, .slice ta zE tc] z, fun x W => ∃ a c, x = .slice a 1 c ∧ PM.RR (PM.enO 85 88 73 B) 8 W x [z]] (by kernel_rfl) (by kernel_rfl) (by kernel_rfl) (by kernel_rfl) (by kernel_rfl) (of_decide_eq_true (by kernel_rfl)) (by kernel_rfl) ?_ ?_ ?_
  · simp only [List.forall_mem_cons]
    refine ⟨?_, ?_, ?_, ?_, by simp⟩
    all_goals (intro x W W' h hb; first | exact h | exact PM.BS.keep hb h | exact PM.OW.keep hb h | (obtain ⟨ua, uc, ta, tc, he, hR⟩ := h; exact ⟨ua, uc, ta, tc, he, PM.enO_lasts _ _ _ _ hb hR⟩) | (obtain ⟨a, c, he, hR⟩ := h; exact ⟨a, c, he, PM.RR.keep PM.enO_lasts hb hR⟩))
  · refine ⟨?_, ?_, ?_, ?_, trivial⟩
    all_goals
      intro a W hB hF hd
      have k1 := hF 1 rfl
      have k2 := hF 2 rfl
      have hBW := PM.chain hBB.out hB
      have kg : W.cell? ⟨g8, 0, none⟩ = some (.slice pa pn pc) := (kcell.out.keep hB).cell 0
      have x0 : W.cell? ⟨gx, 0, none⟩ = some (.int .i64 z.kind) := (kx.out.keep hB).cell 0
      have x1 : W.cell? ⟨gx, 1, none⟩ = some (.int .i64 z.id.br) := (kx.out.keep hB).cell 1
      have x2 : W.cell? ⟨gx, 2, none⟩ = some (.int .u64 (z.id.life : Int)) := (kx.out.keep hB).cell 2
      have x3 : W.cell? ⟨gx, 3, none⟩ = some (.int .u64 (z.id.ser : Int)) := (kx.out.keep hB).cell 3
      have x4 : W.cell? ⟨gx, 4, none⟩ = some (.int .i64 z.client) := (kx.out.keep hB).cell 4
      have x5 : W.cell? ⟨gx, 5, none⟩ = some (.int .u64 (z.sub : Int)) := (kx.out.keep hB).cell 5
      have x6 : W.cell? ⟨gx, 6, none⟩ = some (.slice fa zF fc) := (kx.out.keep hB).cell 6
      have x7 : W.cell? ⟨gx, 7, none⟩ = some (.slice ea zE ec) := (kx.out.keep hB).cell 7
      clear hF
      simp [PM.depsL, PM.spec, PM.sl, Region.binds] at hd k1 k2
      simp only [PM.wantL, PM.spec]
      try simp only [PM.sl]
      go_simp
    all_goals try exact Below.refl _ _
    · refine (hen.out W (hall.out.trans (hB.mono hsz.out))).mono ?_
      rintro e w' ⟨ua, uc, ta, tc, rfl, hRy, hb⟩
      exact ⟨hb, _, rfl, ua, uc, ta, tc, rfl, PM.enO_mono (Nat.le_trans hsz.out hB.size) hRy⟩
    · obtain ⟨ua, uc, ta, tc, he, hRz⟩ := hd
      simp only [he]
      go_simp
      exact ⟨(Below.refl _ _).alloc (Nat.le_refl _) _, _, rfl, ⟨some ⟨W.heap.size, 0, none⟩, 1, rfl⟩, PM.RR.lit1 PM.enO_lasts W _ (PM.enCe z ua zF uc ta zE tc) z _ rfl hRz⟩
  · intro G W hB hF hS
    simp [PM.allSp, PM.spec] at hS
    have q1 := hF 1 rfl
    simp [PM.sl] at q1
    obtain ⟨h3, _, _, ⟨va, vc, h6⟩, hRR⟩ := hS
    rw [show ((List.range (Array.size _)).map G).toArray = #[G 0, G 1, G 2, G 3, G 4, G 5, G 6, G 7] from rfl, q1, h3, h6]
    rw [h6] at hRR
    clear hF q1 h3 h6
    obtain ⟨e1, e2, e3, e4, e5, e6, e7, e8, e9⟩ := hparts.out
    have e1 := e1.keep hB
    have e2 := e2.keep hB
    have e3 := e3.keep hB
    have e4 := PM.OR.keep PM.enO_lasts hB e4
    have e5 := PM.OR.keep PM.enO_lasts hB e5
    have e6 := e6.keep hB
    have e8 := e8.keep hB
    have e9 := e9.trans (hB.mono hsz.out)
    have hln := hlen.out
    have hl16 : (O.length + [z].length) * 96 ≤ 140737488355328 := by simp; omega
    have hl17 : O.length + [z].length ≤ maxLen := by unfold maxLen; simp; omega
    have hBs := Nat.le_trans hsz.out hB.size
    refine PM.wpList_ormS tyEnO (PM.enO_stays (by decide) (by decide) (by decide)) B rfl _ _ rfl _ _ O [z] rfl rfl e5 hRR hl16 hl17 hBs ?_
    intro v' w' t1 t2 t3 t4
    have hput := PM.hid (PM.DI.put8 n78.out b8.out e1 e2 e3 e4 e5 e6 e7 e8 e9 t1 t2 t3 t4)
    obtain ⟨ra, rc, hre⟩ := t1.rr.len
    generalize (O ++ [z]).length = rq at hre
    rw [hre] at hput ⊢
    have kst : w'.cell? ⟨g8, 0, none⟩ = some (.slice pa pn pc) := (e2.grown t3 e5.rt (by decide)).cell 0
    have kfr : w'.frozen? ⟨g8, 0, none⟩ = false := (e2.grown t3 e5.rt (by decide)).free 0
    clear t1 t2 t3 t4 e1 e2 e3 e4 e5 e6 e7 e8 e9 hRR hre
    go_wp2_with fail
    go_end0
    exact ⟨rfl, hput.out⟩
set_option maxRecDepth 100000 in
set_option maxHeartbeats 4000000 in
theorem dec1_any (z : PM.En) (fa : Option Addr) (zF fc : Nat) (ea : Option Addr) (zE ec : Nat) (B g7 g8 g9 gm : Nat) (Y O : List PM.En) (R : List PM.Id) (w0 w : World) (hen : Hid (∀ W : World, Below B w0 W → Calls Try.prog 20 #[.agg #[.int .i64 z.kind, .int .i64 z.id.br, .int .u64 (z.id.life : Int), .int .u64 (z.id.ser : Int), .int .i64 z.client, .int .u64 (z.sub : Int), .slice fa zF fc, .slice ea zE ec]] W fun e w' => ∃ ua uc ta tc, e = .returned (.agg #[.int .i64 z.kind, .int .i64 z.id.br, .int .u64 (z.id.life : Int), .int .u64 (z.id.ser : Int), .int .i64 z.client, .int .u64 (z.sub : Int), .slice ua zF uc, .slice ta zE tc]) ∧ PM.enO 85 88 73 W.heap.size w' [.int .i64 z.kind, .int .i64 z.id.br, .int .u64 (z.id.life : Int), .int .u64 (z.id.ser : Int), .int .i64 z.client, .int .u64 (z.sub : Int), .slice ua zF uc, .slice ta zE tc] z ∧ Below W.heap.size W w'))
    (hd : PM.DI B g7 g8 g9 gm Y O R w0 w) (n78 : Hid (g7 ≠ g8)) (b7 : Hid (B ≤ g7)) (b8 : Hid (B ≤ g8)) (b9 : Hid (B ≤ g9)) (hlen : Hid (Y.length ≤ 1001)) :
    Calls Try.prog 25 #[.agg #[.int .i64 z.kind, .int .i64 z.id.br, .int .u64 (z.id.life : Int), .int .u64 (z.id.ser : Int), .int .i64 z.client, .int .u64 (z.sub : Int), .slice fa zF fc, .slice ea zE ec], .pointer (some ⟨g7, 0, none⟩)] w fun e w' => e = .returned (.tuple #[]) ∧ PM.DI B g7 g8 g9 gm (Y ++ [z]) O R w0 w' := by
  obtain ⟨w3, hw3⟩ : ∃ W, W = w.alloc (.cells #[.int .i64 z.kind, .int .i64 z.id.br, .int .u64 (z.id.life : Int), .int .u64 (z.id.ser : Int), .int .i64 z.client, .int .u64 (z.sub : Int), .slice fa zF fc, .slice ea zE ec] 38) := ⟨_, rfl⟩
  obtain ⟨gx, hgx⟩ : ∃ g, g = w.heap.size := ⟨_, rfl⟩
  have hBn : Below w.heap.size w w3 := by rw [hw3]; exact (Below.refl _ _).alloc (Nat.le_refl _) _
  have kx : PM.BK w3 gx #[.int .i64 z.kind, .int .i64 z.id.br, .int .u64 (z.id.life : Int), .int .u64 (z.id.ser : Int), .int .i64 z.client, .int .u64 (z.sub : Int), .slice fa zF fc, .slice ea zE ec] 38 := by rw [hw3, hgx]; exact PM.BK.new _ _ _
  replace kx := PM.hid kx
  have hBs : B ≤ w.heap.size := by
    obtain ⟨y, o, r, h1, _⟩ := hd
    exact Nat.le_trans b7.out (Nat.le_of_lt h1.lt)
  have hsz : Hid (B ≤ w3.heap.size) := PM.hid (Nat.le_trans hBs hBn.size)
  obtain ⟨y, o, r, h1, h2, h3, h4, h5, h6, h7, h8, h9⟩ := hd.keep hBn hBs
  obtain ⟨pa, pc, hpe⟩ := h4.rr.len
  obtain ⟨pn, hpn⟩ : ∃ n, n = Y.length := ⟨_, rfl⟩
  rw [← hpn] at hpe
  subst hpe
  have hBB := PM.hid hBn
  have hall := PM.hid h9
  have kcell := PM.hid h1
  have hparts := PM.hid (And.intro h1 (And.intro h2 (And.intro h3 (And.intro h4 (And.intro h5 (And.intro h6 (And.intro h7 (And.intro h8 h9))))))))
  clear h1 h2 h3 h4 h5 h6 h7 h8 h9 hd hBs hBn hpn
  go_enter Try.func25, Try.ntmps25
  go_upto_region 1 with fail
  rw [← hw3, ← hgx]
  clear hw3 hgx
  refine PM.wp_region_st2 4 [some 3, some 4, some 5, some 6, some 7, none] [fun x _ => x = .slice pa pn pc, fun x _ => x = .agg #[.int .i64 z.kind, .int .i64 z.id.br, .int .u64 (z.id.life : Int), .int .u64 (z.id.ser : Int), .int .i64 z.client, .int .u64 (z.sub : Int), .slice fa zF fc, .slice ea zE ec], fun x W => ∃ ua uc ta tc, x = .agg #[.int .i64 z.kind, .int .i64 z.id.br, .int .u64 (z.id.life : Int), .int .u64 (z.id.ser : Int), .int .i64 z.client, .int .u64 (z.sub : Int), .slice ua zF uc, .slice ta zE tc] ∧ PM.enO 85 88 73 B W [.int .i64 z.kind, .int .i64 z.id.br, .int .u64 (z.id.life : Int), .int .u64 (z.id.ser : Int), .int .i64 z.client, .int .u64 (z.sub : Int), .slice ua zF uc, .slice ta zE tc] z, fun x W => ∃ a c, x = .slice a 1 c ∧ PM.RR (PM.enO 85 88 73 B) 8 W x [z]] (by kernel_rfl) (by kernel_rfl) (by kernel_rfl) (by kernel_rfl) (by kernel_rfl) (of_decide_eq_true (by kernel_rfl)) (by kernel_rfl) ?_ ?_ ?_
  · simp only [List.forall_mem_cons]
    refine ⟨?_, ?_, ?_, ?_, by simp⟩
    all_goals (intro x W W' h hb; first | exact h | exact PM.BS.keep hb h | exact PM.OW.keep hb h | (obtain ⟨ua, uc, ta, tc, he, hR⟩ := h; exact ⟨ua, uc, ta, tc, he, PM.enO_lasts _ _ _ _ hb hR⟩) | (obtain ⟨a, c, he, hR⟩ := h; exact ⟨a, c, he, PM.RR.keep PM.enO_lasts hb hR⟩))
  · refine ⟨?_, ?_, ?_, ?_, trivial⟩
    all_goals
      intro a W hB hF hd
      have k1 := hF 1 rfl
      have k2 := hF 2 rfl
      have hBW := PM.chain hBB.out hB
      have kg : W.cell? ⟨g7, 0, none⟩ = some (.slice pa pn pc) := (kcell.out.keep hB).cell 0
      have x0 : W.cell? ⟨gx, 0, none⟩ = some (.int .i64 z.kind) := (kx.out.keep hB).cell 0
      have x1 : W.cell? ⟨gx, 1, none⟩ = some (.int .i64 z.id.br) := (kx.out.keep hB).cell 1
      have x2 : W.cell? ⟨gx, 2, none⟩ = some (.int .u64 (z.id.life : Int)) := (kx.out.keep hB).cell 2
      have x3 : W.cell? ⟨gx, 3, none⟩ = some (.int .u64 (z.id.ser : Int)) := (kx.out.keep hB).cell 3
      have x4 : W.cell? ⟨gx, 4, none⟩ = some (.int .i64 z.client) := (kx.out.keep hB).cell 4
      have x5 : W.cell? ⟨gx, 5, none⟩ = some (.int .u64 (z.sub : Int)) := (kx.out.keep hB).cell 5
      have x6 : W.cell? ⟨gx, 6, none⟩ = some (.slice fa zF fc) := (kx.out.keep hB).cell 6
      have x7 : W.cell? ⟨gx, 7, none⟩ = some (.slice ea zE ec) := (kx.out.keep hB).cell 7
      clear hF
      simp [PM.depsL, PM.spec, PM.sl, Region.binds] at hd k1 k2
      simp only [PM.wantL, PM.spec]
      try simp only [PM.sl]
      go_simp
    all_goals try exact Below.refl _ _
    · refine (hen.out W (hall.out.trans (hB.mono hsz.out))).mono ?_
      rintro e w' ⟨ua, uc, ta, tc, rfl, hRy, hb⟩
      exact ⟨hb, _, rfl, ua, uc, ta, tc, rfl, PM.enO_mono (Nat.le_trans hsz.out hB.size) hRy⟩
    · obtain ⟨ua, uc, ta, tc, he, hRz⟩ := hd
      simp only [he]
      go_simp
      exact ⟨(Below.refl _ _).alloc (Nat.le_refl _) _, _, rfl, ⟨some ⟨W.heap.size, 0, none⟩, 1, rfl⟩, PM.RR.lit1 PM.enO_lasts W _ (PM.enCe z ua zF uc ta zE tc) z _ rfl hRz⟩
  · intro G W hB hF hS
    simp [PM.allSp, PM.spec] at hS
    have q1 := hF 1 rfl
    simp [PM.sl] at q1
    obtain ⟨h3, _, _, ⟨va, vc, h6⟩, hRR⟩ := hS
    rw [show ((List.range (Array.size _)).map G).toArray = #[G 0, G 1, G 2, G 3, G 4, G 5, G 6, G 7] from rfl, q1, h3, h6]
    rw [h6] at hRR
    clear hF q1 h3 h6
    obtain ⟨e1, e2, e3, e4, e5, e6, e7, e8, e9⟩ := hparts.out
    have e1 := e1.keep hB
    have e2 := e2.keep hB
    have e3 := e3.keep hB
    have e4 := PM.OR.keep PM.enO_lasts hB e4
    have e5 := PM.OR.keep PM.enO_lasts hB e5
    have e6 := e6.keep hB
    have e8 := e8.keep hB
    have e9 := e9.trans (hB.mono hsz.out)
    have hln := hlen.out
    have hl16 : (Y.length + [z].length) * 96 ≤ 140737488355328 := by simp; omega
    have hl17 : Y.length + [z].length ≤ maxLen := by unfold maxLen; simp; omega
    have hBs := Nat.le_trans hsz.out hB.size
    refine PM.wpList_ormS tyEnO (PM.enO_stays (by decide) (by decide) (by decide)) B rfl _ _ rfl _ _ Y [z] rfl rfl e4 hRR hl16 hl17 hBs ?_
    intro v' w' t1 t2 t3 t4
    have hput := PM.hid (PM.DI.put7 n78.out b7.out e1 e2 e3 e4 e5 e6 e7 e8 e9 t1 t2 t3 t4)
    obtain ⟨ra, rc, hre⟩ := t1.rr.len
    generalize (Y ++ [z]).length = rq at hre
    rw [hre] at hput ⊢
    have kst : w'.cell? ⟨g7, 0, none⟩ = some (.slice pa pn pc) := (e1.grown t3 e4.rt (by decide)).cell 0
    have kfr : w'.frozen? ⟨g7, 0, none⟩ = false := (e1.grown t3 e4.rt (by decide)).free 0
    clear t1 t2 t3 t4 e1 e2 e3 e4 e5 e6 e7 e8 e9 hRR hre
    go_wp2_with fail
    go_end0
    exact ⟨rfl, hput.out⟩
set_option maxRecDepth 100000 in
set_option maxHeartbeats 4000000 in
theorem dec2_any (z : PM.En) (fa : Option Addr) (zF fc : Nat) (ea : Option Addr) (zE ec : Nat) (B g7 g8 g9 gm : Nat) (Y O : List PM.En) (R : List PM.Id) (w0 w : World)
    (hd : PM.DI B g7 g8 g9 gm Y O R w0 w) (n78 : Hid (g7 ≠ g8)) (b7 : Hid (B ≤ g7)) (b8 : Hid (B ≤ g8)) (b9 : Hid (B ≤ g9)) (hlen : Hid (R.length ≤ 1001)) :
    Calls Try.prog 26 #[.agg #[.int .i64 z.kind, .int .i64 z.id.br, .int .u64 (z.id.life : Int), .int .u64 (z.id.ser : Int), .int .i64 z.client, .int .u64 (z.sub : Int), .slice fa zF fc, .slice ea zE ec], .pointer (some ⟨g9, 0, none⟩)] w fun e w' => e = .returned (.tuple #[]) ∧ PM.DI B g7 g8 g9 gm Y O (R ++ [z.id]) w0 w' := by
  obtain ⟨w3, hw3⟩ : ∃ W, W = w.alloc (.cells #[.int .i64 z.kind, .int .i64 z.id.br, .int .u64 (z.id.life : Int), .int .u64 (z.id.ser : Int), .int .i64 z.client, .int .u64 (z.sub : Int), .slice fa zF fc, .slice ea zE ec] 38) := ⟨_, rfl⟩
  obtain ⟨gx, hgx⟩ : ∃ g, g = w.heap.size := ⟨_, rfl⟩
  have hBn : Below w.heap.size w w3 := by rw [hw3]; exact (Below.refl _ _).alloc (Nat.le_refl _) _
  have kx : PM.BK w3 gx #[.int .i64 z.kind, .int .i64 z.id.br, .int .u64 (z.id.life : Int), .int .u64 (z.id.ser : Int), .int .i64 z.client, .int .u64 (z.sub : Int), .slice fa zF fc, .slice ea zE ec] 38 := by rw [hw3, hgx]; exact PM.BK.new _ _ _
  have hBs : B ≤ w.heap.size := by
    obtain ⟨y, o, r, h1, _⟩ := hd
    exact Nat.le_trans b7.out (Nat.le_of_lt h1.lt)
  have hsz := Nat.le_trans hBs hBn.size
  obtain ⟨y, o, r, h1, h2, h3, h4, h5, h6, h7, h8, h9⟩ := hd.keep hBn hBs
  obtain ⟨pa, pc, hpe⟩ := (h6.em PM.idL_len).len
  obtain ⟨pn, hpn⟩ : ∃ n, n = R.length := ⟨_, rfl⟩
  rw [← hpn] at hpe
  subst hpe
  have hparts := PM.hid (And.intro h1 (And.intro h2 (And.intro h3 (And.intro h4 (And.intro h5 (And.intro h6 (And.intro h7 (And.intro h8 h9))))))))
  have kg : w3.cell? ⟨g9, 0, none⟩ = some (.slice pa pn pc) := h3.cell 0
  clear h1 h2 h3 h4 h5 h7 h8 h9 hd hBs hBn hpn
  go_enter Try.func26, Try.ntmps26
  go_upto_region 1 with fail
  rw [← hw3, ← hgx]
  clear hw3 hgx
  have x0 : w3.cell? ⟨gx, 0, none⟩ = some (.int .i64 z.kind) := kx.cell 0
  have x1 : w3.cell? ⟨gx, 1, none⟩ = some (.int .i64 z.id.br) := kx.cell 1
  have x2 : w3.cell? ⟨gx, 2, none⟩ = some (.int .u64 (z.id.life : Int)) := kx.cell 2
  have x3 : w3.cell? ⟨gx, 3, none⟩ = some (.int .u64 (z.id.ser : Int)) := kx.cell 3
  have x4 : w3.cell? ⟨gx, 4, none⟩ = some (.int .i64 z.client) := kx.cell 4
  have x5 : w3.cell? ⟨gx, 5, none⟩ = some (.int .u64 (z.sub : Int)) := kx.cell 5
  have x6 : w3.cell? ⟨gx, 6, none⟩ = some (.slice fa zF fc) := kx.cell 6
  have x7 : w3.cell? ⟨gx, 7, none⟩ = some (.slice ea zE ec) := kx.cell 7
  have hln := hlen.out
  have hl16 : (R.length + 1) * 24 ≤ 140737488355328 := by omega
  have hl17 : R.length + 1 ≤ maxLen := by unfold maxLen; omega
  clear hln kx
  go_wp2_with (at_builtin; refine PM.wpList_em1 (e := PM.idL) tyIdO PM.idL_len PM.idL_one B w3 rfl _ _ rfl _ R z.id _ rfl rfl rfl rfl h6 hl16 hl17 hsz ?_; intro v' w' t1 t2 t3 t4; obtain ⟨e1, e2, e3, e4, e5, e6, e7, e8, e9⟩ := hparts.out; have hput := PM.hid (PM.DI.put9 b9.out e1 e2 e3 e4 e5 e6 e7 e8 e9 t1 t2 t3); obtain ⟨ra, rc, hre⟩ := (t1.em PM.idL_len).len; generalize (R ++ [z.id]).length = rq at hre; rw [hre] at hput ⊢; have kst : w'.cell? ⟨g9, 0, none⟩ = some (.slice pa pn pc) := (e3.grown t3 e6.rt (by decide)).cell 0; have kfr : w'.frozen? ⟨g9, 0, none⟩ = false := (e3.grown t3 e6.rt (by decide)).free 0; clear t1 t2 t3 t4 e1 e2 e3 e4 e5 e6 e7 e8 e9 hre h6)
  go_end0
  exact ⟨rfl, hput.out⟩
end Go.Proofs.Ytlijmmldfdmajaa
