/-
  CONTRACT of layer 13: wire.readEntry.
-/
import Derived.Test.YtokfookandfemaaUd
import Derived.Test.YtokfookandfemaaRk
namespace Go.Proofs.Ytokfookandfemaa
open Go.RowKit
set_option linter.unusedVariables false
set_option linter.unusedSimpArgs false
namespace PM
theorem OEv.or {TE TA : TypeId} {B : Nat} {w : World} {v : Value} {es : List (List At)} (h : OEv TE TA B w v es) : OR (evO TA B) 1 TE B w v es := by
  obtain ⟨svs, h1, h2, h3⟩ := h
  refine ⟨svs.map fun s => ⟨[s.v], rfl, by intro u hu; simp at hu; subst hu; exact s.one⟩, ?_, by simp [h2], fun i cs x hi hx => ?_⟩
  · have hf : (svs.map fun s => (⟨[s.v], rfl, by intro u hu; simp at hu; subst hu; exact s.one⟩ : Ce 1)).flatMap ceL = svs.flatMap svL := by
      rw [List.flatMap_map]
      rfl
    unfold OM at h1 ⊢
    rw [hf, List.length_map]
    exact h1
  · rw [List.getElem?_map] at hi
    obtain ⟨y, hy, rfl⟩ := Option.map_eq_some_iff.1 hi
    exact ⟨y.v, rfl, h3 i y x hy hx⟩
theorem en_eq0 {w : World} {B : Nat} {T0 T1 T2 : TypeId} : enO T0 T1 T2 B w (enC En00 (.slice none 0 0) (.slice none 0 0)) En00 := ⟨_, _, rfl, OM.nilrow _, OR.nilrow _⟩
/-- cells without a byte -/
def NoY (cs : Array Value) : Prop := ∀ (n : Nat) (z : UInt8), cs[n]? ≠ Option.some (bv z)
/-- what the operations of readEntry's region keep -/
structure RX (TT TA TE E : TypeId) (B0 b : Nat) (W W' : World) : Prop where
  os : W'.os = W.os
  tape : W'.tape = W.tape
  output : W'.output = W.output
  size : W.heap.size ≤ W'.heap.size
  block : B0 ≤ W.heap.size → ∀ k, k < B0 → k ≠ b → W'.heap[k]? = W.heap[k]?
  k1 : KT W W' TT
  k2 : KT W W' TA
  k3 : KT W W' TE
  bk : ∀ g cs, BK W g cs E → NoY cs → ∃ cs', BK W' g cs' E ∧ cs'.size = cs.size ∧ NoY cs'
section
variable {TT TA TE E : TypeId} {B0 b : Nat}
theorem RX.new {W W' : World} (h : Below W.heap.size W W') : RX TT TA TE E B0 b W W' := ⟨h.os, h.tape, h.output, h.size, fun hb k hk _ => h.block k (by omega), KT.of h _, KT.of h _, KT.of h _, fun g cs hg hy => ⟨cs, hg.keep h, rfl, hy⟩⟩
theorem RX.trans {x y z : World} (h : RX TT TA TE E B0 b x y) (k : RX TT TA TE E B0 b y z) : RX TT TA TE E B0 b x z :=
  ⟨k.os.trans h.os, k.tape.trans h.tape, k.output.trans h.output, Nat.le_trans h.size k.size, fun hb i hi hn => (k.block (Nat.le_trans hb h.size) i hi hn).trans (h.block hb i hi hn), h.k1.trans k.k1, h.k2.trans k.k2, h.k3.trans k.k3, fun g cs hg hy => by
    obtain ⟨c1, g1, s1, y1⟩ := h.bk g cs hg hy
    obtain ⟨c2, g2, s2, y2⟩ := k.bk g c1 g1 y1
    exact ⟨c2, g2, s2.trans s1, y2⟩⟩
theorem RX.ofb {TP : TypeId} {cs : Array Value} {W W' : World} (h : Bx b W W') (hb : BK W b cs TP) (h1 : TP ≠ TT) (h2 : TP ≠ TA) (h3 : TP ≠ TE) (h4 : TP ≠ E) : RX TT TA TE E B0 b W W' :=
  ⟨h.os, h.tape, h.output, h.size, fun _ k hk hn => h.block k (by have := hb.lt; omega) hn, KT.ofx h hb h1, KT.ofx h hb h2, KT.ofx h hb h3, fun g c hg hy => ⟨c, hg.kt (KT.ofx h hb h4), rfl, hy⟩⟩
theorem RX.ofs {g : Nat} {cs cs' : Array Value} {W W' : World} (h : Bx g W W') (hb : BK W g cs E) (hb' : BK W' g cs' E) (hs : cs'.size = cs.size) (hny : NoY cs') (hg : B0 ≤ g) (h1 : E ≠ TT) (h2 : E ≠ TA) (h3 : E ≠ TE) : RX TT TA TE E B0 b W W' :=
  ⟨h.os, h.tape, h.output, h.size, fun _ k hk hn => h.block k (by have := hb.lt; omega) (by omega), KT.ofx h hb h1, KT.ofx h hb h2, KT.ofx h hb h3, fun k c hk hy => by
    by_cases he : k = g
    · subst he
      have : c = cs := by
        unfold BK at hk hb
        rw [hb] at hk
        injection hk with hk
        injection hk with hk _ _
        exact hk.symm
      subst this
      exact ⟨cs', hb', hs, hny⟩
    · exact ⟨c, hk.keepx h he, rfl, hy⟩⟩
theorem RX.bx {W W' : World} (h : RX TT TA TE E W.heap.size b W W') : Bx b W W' := ⟨h.os, h.tape, h.output, h.size, fun k hk hn => h.block (Nat.le_refl _) k hk hn⟩
end
theorem arr8 {cs : Array Value} (h : cs.size = 8) : ∃ a b c d e f g k, cs = #[a, b, c, d, e, f, g, k] := by
  obtain ⟨l⟩ := cs
  match l, h with
  | [a, b, c, d, e, f, g, k], _ => exact ⟨a, b, c, d, e, f, g, k, rfl⟩
end PM
theorem endec_x (v : Value) (m : List UInt8) (W : World) (hv : PM.BS W v m) (hl : m.length ≤ 70368744177664) : Calls Try.prog 67 #[v] W fun e w' => ∃ fa fc ea ec k, e = .returned (.tuple #[.agg #[.int .i64 (PM.enOr (PM.decEn m)).kind, .int .i64 (PM.enOr (PM.decEn m)).id.br, .int .u64 ((PM.enOr (PM.decEn m)).id.life : Int), .int .u64 ((PM.enOr (PM.decEn m)).id.ser : Int), .int .i64 (PM.enOr (PM.decEn m)).client, .int .u64 ((PM.enOr (PM.decEn m)).sub : Int), .slice fa (PM.enOr (PM.decEn m)).fil.length fc, .slice ea (PM.enOr (PM.decEn m)).evs.length ec], .int .i64 k]) ∧ ((PM.decEn m).isNone = false ∧ k = 0 ∨ (PM.decEn m).isNone = true ∧ k = 110) ∧ PM.enO 138 136 114 W.heap.size w' [.int .i64 (PM.enOr (PM.decEn m)).kind, .int .i64 (PM.enOr (PM.decEn m)).id.br, .int .u64 ((PM.enOr (PM.decEn m)).id.life : Int), .int .u64 ((PM.enOr (PM.decEn m)).id.ser : Int), .int .i64 (PM.enOr (PM.decEn m)).client, .int .u64 ((PM.enOr (PM.decEn m)).sub : Int), .slice fa (PM.enOr (PM.decEn m)).fil.length fc, .slice ea (PM.enOr (PM.decEn m)).evs.length ec] (PM.enOr (PM.decEn m)) ∧ Below W.heap.size W w' := by
  refine (endecode_any v m W hv hl).mono ?_
  rintro e w' ⟨x, fv, ev, k, rfl, hk, hf, hev, hB⟩
  obtain ⟨fa, fc, rfl⟩ := (hf.em PM.teL_len).len
  obtain ⟨ea, ec, rfl⟩ := hev.len
  rcases hk with ⟨rfl, hd⟩ | ⟨rfl, hd, rfl, h1, h2⟩
  · rw [hd]
    exact ⟨fa, fc, ea, ec, _, rfl, .inl ⟨rfl, rfl⟩, ⟨_, _, rfl, hf, hev.or⟩, hB⟩
  · rw [hd]
    exact ⟨fa, fc, ea, ec, _, rfl, .inr ⟨rfl, rfl⟩, ⟨_, _, rfl, hf, hev.or⟩, hB⟩
set_option maxRecDepth 100000 in
set_option maxHeartbeats 8000000 in
theorem rdEn_any (g b : Nat) (n : Nat) (s : PM.Rs) (w : World) (h : PM.WR 74 99 w g b (n : Int) s) (hl : s.l.length ≤ 70368744177664) (hn : n ≤ 70368744177664) :
    Calls Try.prog 45 #[.pointer (some ⟨g, 0, none⟩)] w fun e w' => ∃ fa fc ea ec, e = .returned (.agg (PM.enC (PM.rdEn n s).1 (.slice fa (PM.rdEn n s).1.fil.length fc) (.slice ea (PM.rdEn n s).1.evs.length ec)).toArray) ∧ PM.enO 138 136 114 w.heap.size w' (PM.enC (PM.rdEn n s).1 (.slice fa (PM.rdEn n s).1.fil.length fc) (.slice ea (PM.rdEn n s).1.evs.length ec)) (PM.rdEn n s).1 ∧ PM.WR 74 99 w' g b (n : Int) (PM.rdEn n s).2 ∧ PM.Bx2 b g w w' := by
  obtain ⟨g2, hg2⟩ : ∃ g, g = w.heap.size := ⟨_, rfl⟩
  obtain ⟨W0, hW0⟩ : ∃ W, W = w.alloc (.cells #[.int .i64 0, .int .i64 0, .int .u64 0, .int .u64 0, .int .i64 0, .int .u64 0, .slice none 0 0, .slice none 0 0] 50) := ⟨_, rfl⟩
  have hB0 : Below w.heap.size w W0 := by rw [hW0]; exact (Below.refl _ _).alloc (Nat.le_refl _) _
  have hZ : PM.BK W0 g2 #[.int .i64 0, .int .i64 0, .int .u64 0, .int .u64 0, .int .i64 0, .int .u64 0, .slice none 0 0, .slice none 0 0] 50 := by rw [hW0, hg2]; exact PM.BK.new _ _ _
  have hg2w : w.heap.size ≤ g2 := by omega
  have hg2g : g2 ≠ g := by have := h.1.lt; omega
  have hg2b : g2 ≠ b := by have := h.2.lt; omega
  replace h := h.keep hB0
  have hX := PM.hid (PM.Bx2.of (b := b) (g := g) hB0)
  have hT : 74 ≠ 99 := by decide
  obtain ⟨l, wr, bd⟩ := s
  simp only at hl
  obtain ⟨m, l1, wr1, e1⟩ : ∃ a b c, PM.stepB l wr (n : Int) = (a, b, c) := ⟨_, _, _, rfl⟩
  have hml := (PM.stepB_lt l wr (n : Int)).1
  have hBt := PM.hid fun (W : World) (hr : PM.RD 99 W b l wr) => rbytes_any b l wr (n : Int) W hr hl (by omega) (by omega)
  unfold PM.rdEn
  simp only
  rw [e1] at hBt hml ⊢
  simp only at hBt hml ⊢
  clear e1
  have hDe := PM.hid fun (v : Value) (W : World) (hv : PM.BS W v m) => endec_x v m W hv (by omega)
  obtain ⟨x, hx⟩ : ∃ x, x = PM.enOr (PM.decEn m) := ⟨_, rfl⟩
  obtain ⟨N, hN⟩ : ∃ x, x = (PM.decEn m).isNone := ⟨_, rfl⟩
  rw [← hx, ← hN] at hDe ⊢
  obtain ⟨xF, hxF⟩ : ∃ x_, x_ = x.fil.length := ⟨_, rfl⟩
  obtain ⟨xE, hxE⟩ : ∃ x_, x_ = x.evs.length := ⟨_, rfl⟩
  rw [← hxF, ← hxE] at hDe ⊢
  clear hx hN hml hl hn hxF hxE
  obtain ⟨BD, hBD⟩ : ∃ D, D = (bd || N) := ⟨_, rfl⟩
  rw [← hBD]
  replace hBD := PM.hid hBD
  have hw0 : w.heap.size ≤ W0.heap.size := hX.out.size
  have hWR := PM.hid h
  have hr0 := PM.hid fun (W : World) (hb : Below W0.heap.size W0 W) => h.2.keep hb
  simp only at hr0
  have c0 : W0.cell? ⟨g, 0, none⟩ = some (.pointer (some ⟨b, 0, none⟩)) := h.1.cell 0
  have c1 : W0.cell? ⟨g, 1, none⟩ = some (.int .i64 (n : Int)) := h.1.cell 1
  have a0 : ∀ o, (W0.drew.alloc o).cell? ⟨g, 0, none⟩ = some (.pointer (some ⟨b, 0, none⟩)) := fun o => PM.cellA ((Below.refl _ _).drew.alloc (Nat.le_refl _) o) c0
  have a1 : ∀ o, (W0.drew.alloc o).cell? ⟨g, 1, none⟩ = some (.int .i64 (n : Int)) := fun o => PM.cellA ((Below.refl _ _).drew.alloc (Nat.le_refl _) o) c1
  have hgk := PM.hid h.1
  have hgl := h.1.lt
  have hgb := h.ne hT
  clear h a0 a1 c0 c1
  go_enter Try.func45, Try.ntmps45
  go_upto_region 1 with fail
  rw [← hW0, ← hg2]
  clear hW0 hg2 hB0
  go_cut [3, 4] from 5 to 18 (fun v3 v4 wx => ∃ g3 fa fc ea ec k, v3 = .pointer (some ⟨g3, 0, none⟩) ∧ v4 = .int .i64 k ∧ Hid ((N = false ∧ k = 0 ∨ N = true ∧ k = 110) ∧ PM.BK wx g3 #[.int .i64 x.kind, .int .i64 x.id.br, .int .u64 (x.id.life : Int), .int .u64 (x.id.ser : Int), .int .i64 x.client, .int .u64 (x.sub : Int), .slice fa xF fc, .slice ea xE ec] 50 ∧ PM.enO 138 136 114 W0.heap.size wx [.int .i64 x.kind, .int .i64 x.id.br, .int .u64 (x.id.life : Int), .int .u64 (x.id.ser : Int), .int .i64 x.client, .int .u64 (x.sub : Int), .slice fa xF fc, .slice ea xE ec] x ∧ PM.RD 99 wx b l1 wr1 ∧ PM.Bx b W0 wx ∧ W0.heap.size ≤ g3))
  case first =>
    refine PM.wp_region_stK (PM.RX 138 136 114 50 W0.heap.size b) (fun W W' => Below W.heap.size W W') (fun W => PM.RD 99 W b l wr) (fun _ _ h => h) (fun h => PM.RX.new h) (fun h k => h.trans k) [some 6, some 7, some 8, some 9, some 10, some 11, some 12, some 13, some 14, some 15, some 5, some 16, some 17, some 3, some 3, some 4] [some 6, some 7, some 8, some 9, some 10, some 11, some 12, some 13, some 14, some 15, some 5, some 16, some 17, some 3, none, some 4] [[], [0], [0, 1], [0, 1, 2], [], [4], [4, 5], [4, 5, 6], [0, 1, 2, 3, 4, 5, 6, 7], [0, 1, 2, 3, 4, 5, 6, 7, 8], [0, 1, 2, 3, 4, 5, 6, 7, 8, 9], [0, 1, 2, 3, 4, 5, 6, 7, 8, 9, 10], [0, 1, 2, 3, 4, 5, 6, 7, 8, 9, 10], [], [0, 1, 2, 3, 4, 5, 6, 7, 8, 9, 10, 11, 13], [0, 1, 2, 3, 4, 5, 6, 7, 8, 9, 10, 11, 12, 13, 14]] [false, false, false, false, false, false, false, false, true, false, false, false, false, false, true, false] [8, 14] [([], false), ([0], false), ([1], false), ([2], false), ([], false), ([4], false), ([5], false), ([6], false), ([3, 7], true), ([8], false), ([9], false), ([10], false), ([10], false), ([], false), ([13, 11, 8], false), ([12], false)] [14, 15] [fun x _ => x = .pointer (some ⟨g, 0, none⟩), fun x _ => x = .pointer (some ⟨g, 0, none⟩), fun x _ => x = .pointer (some ⟨g, 0, none⟩), fun x _ => x = .pointer (some ⟨b, 0, none⟩), fun x _ => x = .pointer (some ⟨g, 0, none⟩), fun x _ => x = .pointer (some ⟨g, 0, none⟩), fun x _ => x = .pointer (some ⟨g, 1, none⟩), fun x _ => x = .int .i64 (n : Int), fun v W => PM.BS W v m ∧ PM.RD 99 W b l1 wr1, fun v W => ∃ fa fc ea ec k, v = .tuple #[.agg #[.int .i64 x.kind, .int .i64 x.id.br, .int .u64 (x.id.life : Int), .int .u64 (x.id.ser : Int), .int .i64 x.client, .int .u64 (x.sub : Int), .slice fa xF fc, .slice ea xE ec], .int .i64 k] ∧ (N = false ∧ k = 0 ∨ N = true ∧ k = 110) ∧ PM.enO 138 136 114 W0.heap.size W [.int .i64 x.kind, .int .i64 x.id.br, .int .u64 (x.id.life : Int), .int .u64 (x.id.ser : Int), .int .i64 x.client, .int .u64 (x.sub : Int), .slice fa xF fc, .slice ea xE ec] x, fun v W => ∃ fa fc ea ec k, v = .tuple #[.agg #[.int .i64 x.kind, .int .i64 x.id.br, .int .u64 (x.id.life : Int), .int .u64 (x.id.ser : Int), .int .i64 x.client, .int .u64 (x.sub : Int), .slice fa xF fc, .slice ea xE ec], .int .i64 k] ∧ (N = false ∧ k = 0 ∨ N = true ∧ k = 110) ∧ PM.enO 138 136 114 W0.heap.size W [.int .i64 x.kind, .int .i64 x.id.br, .int .u64 (x.id.life : Int), .int .u64 (x.id.ser : Int), .int .i64 x.client, .int .u64 (x.sub : Int), .slice fa xF fc, .slice ea xE ec] x, fun v W => ∃ fa fc ea ec, v = .agg #[.int .i64 x.kind, .int .i64 x.id.br, .int .u64 (x.id.life : Int), .int .u64 (x.id.ser : Int), .int .i64 x.client, .int .u64 (x.sub : Int), .slice fa xF fc, .slice ea xE ec] ∧ PM.enO 138 136 114 W0.heap.size W [.int .i64 x.kind, .int .i64 x.id.br, .int .u64 (x.id.life : Int), .int .u64 (x.id.ser : Int), .int .i64 x.client, .int .u64 (x.sub : Int), .slice fa xF fc, .slice ea xE ec] x, fun v W => ∃ k, v = .int .i64 k ∧ (N = false ∧ k = 0 ∨ N = true ∧ k = 110), fun v W => ∃ g3, v = .pointer (some ⟨g3, 0, none⟩) ∧ W0.heap.size ≤ g3 ∧ ∃ cs, PM.BK W g3 cs 50 ∧ cs.size = 8 ∧ PM.NoY cs, fun v W => ∃ g3, v = .pointer (some ⟨g3, 0, none⟩) ∧ W0.heap.size ≤ g3 ∧ (∃ fa fc ea ec, PM.BK W g3 #[.int .i64 x.kind, .int .i64 x.id.br, .int .u64 (x.id.life : Int), .int .u64 (x.id.ser : Int), .int .i64 x.client, .int .u64 (x.sub : Int), .slice fa xF fc, .slice ea xE ec] 50 ∧ PM.enO 138 136 114 W0.heap.size W [.int .i64 x.kind, .int .i64 x.id.br, .int .u64 (x.id.life : Int), .int .u64 (x.id.ser : Int), .int .i64 x.client, .int .u64 (x.sub : Int), .slice fa xF fc, .slice ea xE ec] x) ∧ PM.RD 99 W b l1 wr1, fun v W => ∃ k, v = .int .i64 k ∧ (N = false ∧ k = 0 ∨ N = true ∧ k = 110)] (by kernel_rfl) (by kernel_rfl) (by kernel_rfl) (by kernel_rfl) (by kernel_rfl) (by kernel_rfl) (by kernel_rfl) (by kernel_rfl) (by kernel_rfl) ?_ ?_ ?_ ?_ ?_ ?_
    · simp only [List.zip_cons_cons, List.zip_nil_right, List.forall_mem_cons]
      refine ⟨?_, ?_, ?_, ?_, ?_, ?_, ?_, ?_, ?_, ?_, ?_, ?_, ?_, ?_, ?_, ?_, by simp⟩
      all_goals (intro hk v W W' h hb; first | exact Bool.noConfusion hk | exact h | (obtain ⟨fa, fc, ea, ec, k, e1, e2, h2⟩ := h; exact ⟨fa, fc, ea, ec, k, e1, e2, (PM.enO_kt hb.k1 hb.k2 hb.k3 _ _ h2)⟩) | (obtain ⟨fa, fc, ea, ec, e1, h2⟩ := h; exact ⟨fa, fc, ea, ec, e1, (PM.enO_kt hb.k1 hb.k2 hb.k3 _ _ h2)⟩) | (obtain ⟨g3, e1, e2, cs, h2, h3, h3y⟩ := h; obtain ⟨cs2, h4, h5, h6⟩ := hb.bk g3 cs h2 h3y; exact ⟨g3, e1, e2, cs2, h4, h5.trans h3, h6⟩))
    · simp only [List.forall_mem_cons]
      refine ⟨?_, ?_, ?_, ?_, ?_, ?_, ?_, ?_, ?_, ?_, ?_, ?_, ?_, ?_, ?_, ?_, by simp⟩
      all_goals (intro v W W' h hb; first | exact h | exact ⟨h.1.keep hb, h.2.keep hb⟩ | (obtain ⟨fa, fc, ea, ec, k, e1, e2, h2⟩ := h; exact ⟨fa, fc, ea, ec, k, e1, e2, PM.enO_lasts _ _ _ _ hb h2⟩) | (obtain ⟨fa, fc, ea, ec, e1, h2⟩ := h; exact ⟨fa, fc, ea, ec, e1, PM.enO_lasts _ _ _ _ hb h2⟩) | (obtain ⟨g3, e1, e2, cs, h2, h3⟩ := h; exact ⟨g3, e1, e2, cs, h2.keep hb, h3⟩) | (obtain ⟨g3, e1, e2, ⟨fa, fc, ea, ec, h2, h3⟩, h4⟩ := h; exact ⟨g3, e1, e2, ⟨fa, fc, ea, ec, h2.keep hb, PM.enO_lasts _ _ _ _ hb h3⟩, h4.keep hb⟩))
    · exact fun W W' h hb => h.keep hb
    · exact hr0.out W0 (Below.refl _ _)
    · refine ⟨?_, ?_, ?_, ?_, ?_, ?_, ?_, ?_, ?_, ?_, ?_, ?_, ?_, ?_, ?_, ?_, trivial⟩
      all_goals
        intro a W hB hF hd hp
        have k0 := hF 0 rfl
        have hgW := (hB.block (Nat.le_refl _) g hgl hgb).trans hgk.out
        have c0 : W.cell? ⟨g, 0, none⟩ = some (.pointer (some ⟨b, 0, none⟩)) := PM.BK.cell hgW 0
        have c1 : W.cell? ⟨g, 1, none⟩ = some (.int .i64 (n : Int)) := PM.BK.cell hgW 1
        clear hgW
        clear hF
        simp [PM.depsK, PM.spec, PM.sl] at hd hp k0
        simp only [PM.wantL, PM.spec, PM.Spv]
        try simp only [PM.sl]
        go_simp
      all_goals try exact Below.refl _ _
      · refine (hBt.out W hp).mono ?_
        rintro e w' ⟨v', rfl, ho, hr, hx⟩
        obtain ⟨cs, hbk⟩ := hp.bk
        exact ⟨PM.RX.ofb hx hbk (by decide) (by decide) (by decide) (by decide), _, rfl, ho.bs, hr⟩
      · refine (hDe.out _ W hd.1).mono ?_
        rintro e w' ⟨fa, fc, ea, ec, k, rfl, hk, hen, hb⟩
        exact ⟨hb, _, rfl, fa, fc, ea, ec, k, rfl, hk, PM.enO_mono hB.size hen⟩
      · exact ⟨Below.refl _ _, _, rfl, hd⟩
      · obtain ⟨fa, fc, ea, ec, k, h1, h2, h3⟩ := hd
        simp only [h1]
        go_simp
        exact ⟨Below.refl _ _, _, rfl, fa, fc, ea, ec, rfl, h3⟩
      · obtain ⟨fa, fc, ea, ec, k, h1, h2, h3⟩ := hd
        simp only [h1]
        go_simp
        exact ⟨Below.refl _ _, _, rfl, k, rfl, h2⟩
      · exact ⟨(Below.refl _ _).alloc (Nat.le_refl _) _, _, rfl, W.heap.size, rfl, hB.size, _, PM.BK.new _ _ _, rfl, PM.en_nobyte _ _ _ _ _ _ rfl rfl⟩
      · obtain ⟨⟨g3, h1, h2, cs, hk, hs, hny⟩, ⟨fa, fc, ea, ec, h3, h4⟩, h5, h6⟩ := hd
        obtain ⟨y0, y1, y2, y3, y4, y5, y6, y7, rfl⟩ := PM.arr8 hs
        have kn := hk.set8o (.int .i64 x.kind) (.int .i64 x.id.br) (.int .u64 (x.id.life : Int)) (.int .u64 (x.id.ser : Int)) (.int .i64 x.client) (.int .u64 (x.sub : Int)) (.slice fa xF fc) (.slice ea xE ec)
        have hx := PM.Bx.set8o g3 W (.int .i64 x.kind) (.int .i64 x.id.br) (.int .u64 (x.id.life : Int)) (.int .u64 (x.id.ser : Int)) (.int .i64 x.client) (.int .u64 (x.sub : Int)) (.slice fa xF fc) (.slice ea xE ec)
        have z0 := hk.cell 0
        have f0 := hk.free 0
        have z1 := hk.cell 1
        have f1 := hk.free 1
        have z2 := hk.cell 2
        have f2 := hk.free 2
        have z3 := hk.cell 3
        have f3 := hk.free 3
        have z4 := hk.cell 4
        have f4 := hk.free 4
        have z5 := hk.cell 5
        have f5 := hk.free 5
        have z6 := hk.cell 6
        have f6 := hk.free 6
        have z7 := hk.cell 7
        have f7 := hk.free 7
        simp only [h1, h3]
        go_simp
        exact ⟨PM.RX.ofs hx hk kn rfl (PM.en_nobyte _ _ _ _ _ _ rfl rfl) h2 (by decide) (by decide) (by decide), ⟨fa, fc, ea, ec, kn, PM.enO_kt (PM.KT.ofx hx hk (by decide)) (PM.KT.ofx hx hk (by decide)) (PM.KT.ofx hx hk (by decide)) _ _ h4⟩, h6.keepy hx (by obtain ⟨cs, hbk⟩ := h6.bk; intro he; subst he; unfold PM.BK at hk hbk; rw [hk] at hbk; injection hbk with hbk; injection hbk with _ hbk _; exact absurd hbk (by decide)) hk hny⟩
      · exact ⟨Below.refl _ _, _, rfl, hd⟩
    · intro G W hB hF hS
      simp only [PM.allK, PM.spec] at hS
      simp at hS
      obtain ⟨⟨g3, h1, h2, ⟨fa, fc, ea, ec, h3, h4⟩, h5⟩, k, h6, h7⟩ := hS
      have q0 := hF 0 rfl
      have q1 := hF 1 rfl
      have q2 := hF 2 rfl
      have q19 := hF 19 rfl
      have q20 := hF 20 rfl
      have q21 := hF 21 rfl
      have q22 := hF 22 rfl
      have q23 := hF 23 rfl
      simp [PM.sl] at q0 q1 q2 q19 q20 q21 q22 q23
      rw [show ((List.range (Array.size _)).map G).toArray = #[G 0, G 1, G 2, G 3, G 4, G 5, G 6, G 7, G 8, G 9, G 10, G 11, G 12, G 13, G 14, G 15, G 16, G 17, G 18, G 19, G 20, G 21, G 22, G 23] from rfl]
      rw [h1, h6, q0, q1, q2, q19, q20, q21, q22, q23]
      clear hF h1 h6 q0 q1 q2 q19 q20 q21 q22 q23
      have hfin := PM.hid (And.intro h7 (And.intro h3 (And.intro h4 (And.intro h5 (And.intro hB.bx h2)))))
      clear hB h2 h3 h4 h5 h7
      go_wp2_with fail
      go_meet
      exact ⟨g3, fa, fc, ea, ec, k, rfl, rfl, hfin⟩
  case rest =>
    obtain ⟨g3, fa, fc, ea, ec, k, rfl, rfl, hh⟩ := hcut
    obtain ⟨hk, hY, hen, hr1, hx1, hg3⟩ := hh.out
    have hg23 : g2 ≠ g3 := by have := hZ.lt; omega
    have hg3g : g3 ≠ g := by omega
    have hW1 := PM.hid (hWR.out.num hT hr1 hx1)
    replace hZ := hZ.keepx hx1 hg2b
    replace hX := PM.hid (hX.out.trans (PM.Bx2.ofb hx1))
    have hen := PM.hid (PM.enO_mono hw0 hen : PM.enO 138 136 114 w.heap.size wc [.int .i64 x.kind, .int .i64 x.id.br, .int .u64 (x.id.life : Int), .int .u64 (x.id.ser : Int), .int .i64 x.client, .int .u64 (x.sub : Int), .slice fa xF fc, .slice ea xE ec] x)
    clear hh hr1 hx1 hWR hgk hr0
    rcases hk with ⟨rfl, rfl⟩ | ⟨rfl, rfl⟩
    · obtain rfl : BD = bd := by rw [hBD.out, Bool.or_false]
      clear hBD
      replace hY := PM.hid hY
      go_upto_region 4 with fail
      have y0 := hY.out.cell 0
      have y1 := hY.out.cell 1
      have y2 := hY.out.cell 2
      have y3 := hY.out.cell 3
      have y4 := hY.out.cell 4
      have y5 := hY.out.cell 5
      have y6 := hY.out.cell 6
      have y7 := hY.out.cell 7
      have z0 := hZ.cell 0
      have f0 := hZ.free 0
      have z1 := hZ.cell 1
      have f1 := hZ.free 1
      have z2 := hZ.cell 2
      have f2 := hZ.free 2
      have z3 := hZ.cell 3
      have f3 := hZ.free 3
      have z4 := hZ.cell 4
      have f4 := hZ.free 4
      have z5 := hZ.cell 5
      have f5 := hZ.free 5
      have z6 := hZ.cell 6
      have f6 := hZ.free 6
      have z7 := hZ.cell 7
      have f7 := hZ.free 7
      go_wp2
      have ZF := hZ.set8o (.int .i64 x.kind) (.int .i64 x.id.br) (.int .u64 (x.id.life : Int)) (.int .u64 (x.id.ser : Int)) (.int .i64 x.client) (.int .u64 (x.sub : Int)) (.slice fa xF fc) (.slice ea xE ec)
      have hxf := PM.Bx.set8o g2 wc (.int .i64 x.kind) (.int .i64 x.id.br) (.int .u64 (x.id.life : Int)) (.int .u64 (x.id.ser : Int)) (.int .i64 x.client) (.int .u64 (x.sub : Int)) (.slice fa xF fc) (.slice ea xE ec)
      generalize ((((((((wc.setCell ⟨g2, 0, none⟩ (.int .i64 x.kind)).setCell ⟨g2, 1, none⟩ (.int .i64 x.id.br)).setCell ⟨g2, 2, none⟩ (.int .u64 (x.id.life : Int))).setCell ⟨g2, 3, none⟩ (.int .u64 (x.id.ser : Int))).setCell ⟨g2, 4, none⟩ (.int .i64 x.client)).setCell ⟨g2, 5, none⟩ (.int .u64 (x.sub : Int))).setCell ⟨g2, 6, none⟩ (.slice fa xF fc)).setCell ⟨g2, 7, none⟩ (.slice ea xE ec)) = wf at *
      have q0 := ZF.cell 0
      have q1 := ZF.cell 1
      have q2 := ZF.cell 2
      have q3 := ZF.cell 3
      have q4 := ZF.cell 4
      have q5 := ZF.cell 5
      have q6 := ZF.cell 6
      have q7 := ZF.cell 7
      refine bodyPost_ret (v := .agg #[.int .i64 x.kind, .int .i64 x.id.br, .int .u64 (x.id.life : Int), .int .u64 (x.id.ser : Int), .int .i64 x.client, .int .u64 (x.sub : Int), .slice fa xF fc, .slice ea xE ec]) (by simp [results, Try.results45, go_sem, q0, q1, q2, q3, q4, q5, q6, q7]) rfl ?_
      refine ⟨fa, fc, ea, ec, rfl, ?_, ⟨hW1.out.1.keepx hxf (Ne.symm hg2g), PM.RD.keepy hxf (Ne.symm hg2b) hZ (PM.en_nobyte _ _ _ _ _ _ rfl rfl) hW1.out.2⟩, hX.out.low1 hxf hg2w⟩
      exact PM.enO_kt (PM.KT.ofx hxf hZ (by decide)) (PM.KT.ofx hxf hZ (by decide)) (PM.KT.ofx hxf hZ (by decide)) _ _ hen.out
    · obtain rfl : BD = true := by rw [hBD.out, Bool.or_true]
      clear hBD
      have c2 := hW1.out.1.cell 2
      have k2 := hW1.out.1.free 2
      go_upto_region 4 with fail
      have hW5 := PM.hid (hW1.out.setBad hT)
      have hx5 : PM.Bx g wc (wc.setCell ⟨g, 2, none⟩ (.bool true)) := PM.Bx.set g 2 wc (.bool true)
      have hen5 := PM.enO_kt (PM.KT.ofx hx5 hW1.out.1 (by decide)) (PM.KT.ofx hx5 hW1.out.1 (by decide)) (PM.KT.ofx hx5 hW1.out.1 (by decide)) _ _ hen.out
      generalize (wc.setCell ⟨g, 2, none⟩ (.bool true)) = w5 at *
      replace hZ := hZ.keepx hx5 hg2g
      replace hY := PM.hid (hY.keepx hx5 hg3g)
      replace hX := PM.hid (hX.out.trans (PM.Bx2.ofg hx5))
      replace hen := PM.hid hen5
      clear hx5 hW1 c2 k2 hen5
      have y0 := hY.out.cell 0
      have y1 := hY.out.cell 1
      have y2 := hY.out.cell 2
      have y3 := hY.out.cell 3
      have y4 := hY.out.cell 4
      have y5 := hY.out.cell 5
      have y6 := hY.out.cell 6
      have y7 := hY.out.cell 7
      have z0 := hZ.cell 0
      have f0 := hZ.free 0
      have z1 := hZ.cell 1
      have f1 := hZ.free 1
      have z2 := hZ.cell 2
      have f2 := hZ.free 2
      have z3 := hZ.cell 3
      have f3 := hZ.free 3
      have z4 := hZ.cell 4
      have f4 := hZ.free 4
      have z5 := hZ.cell 5
      have f5 := hZ.free 5
      have z6 := hZ.cell 6
      have f6 := hZ.free 6
      have z7 := hZ.cell 7
      have f7 := hZ.free 7
      go_wp2
      have ZF := hZ.set8o (.int .i64 x.kind) (.int .i64 x.id.br) (.int .u64 (x.id.life : Int)) (.int .u64 (x.id.ser : Int)) (.int .i64 x.client) (.int .u64 (x.sub : Int)) (.slice fa xF fc) (.slice ea xE ec)
      have hxf := PM.Bx.set8o g2 w5 (.int .i64 x.kind) (.int .i64 x.id.br) (.int .u64 (x.id.life : Int)) (.int .u64 (x.id.ser : Int)) (.int .i64 x.client) (.int .u64 (x.sub : Int)) (.slice fa xF fc) (.slice ea xE ec)
      generalize ((((((((w5.setCell ⟨g2, 0, none⟩ (.int .i64 x.kind)).setCell ⟨g2, 1, none⟩ (.int .i64 x.id.br)).setCell ⟨g2, 2, none⟩ (.int .u64 (x.id.life : Int))).setCell ⟨g2, 3, none⟩ (.int .u64 (x.id.ser : Int))).setCell ⟨g2, 4, none⟩ (.int .i64 x.client)).setCell ⟨g2, 5, none⟩ (.int .u64 (x.sub : Int))).setCell ⟨g2, 6, none⟩ (.slice fa xF fc)).setCell ⟨g2, 7, none⟩ (.slice ea xE ec)) = wf at *
      have q0 := ZF.cell 0
      have q1 := ZF.cell 1
      have q2 := ZF.cell 2
      have q3 := ZF.cell 3
      have q4 := ZF.cell 4
      have q5 := ZF.cell 5
      have q6 := ZF.cell 6
      have q7 := ZF.cell 7
      refine bodyPost_ret (v := .agg #[.int .i64 x.kind, .int .i64 x.id.br, .int .u64 (x.id.life : Int), .int .u64 (x.id.ser : Int), .int .i64 x.client, .int .u64 (x.sub : Int), .slice fa xF fc, .slice ea xE ec]) (by simp [results, Try.results45, go_sem, q0, q1, q2, q3, q4, q5, q6, q7]) rfl ?_
      refine ⟨fa, fc, ea, ec, rfl, ?_, ⟨hW5.out.1.keepx hxf (Ne.symm hg2g), PM.RD.keepy hxf (Ne.symm hg2b) hZ (PM.en_nobyte _ _ _ _ _ _ rfl rfl) hW5.out.2⟩, hX.out.low1 hxf hg2w⟩
      exact PM.enO_kt (PM.KT.ofx hxf hZ (by decide)) (PM.KT.ofx hxf hZ (by decide)) (PM.KT.ofx hxf hZ (by decide)) _ _ hen.out
end Go.Proofs.Ytokfookandfemaa
