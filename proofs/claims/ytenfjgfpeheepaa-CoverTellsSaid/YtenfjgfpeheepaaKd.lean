/-
  THE CALL AT THE HEAD OF ALL STATEMENTS OF LAYER 7.
-/
import Derived.Test.YtenfjgfpeheepaaKc
namespace Go.Proofs.Ytenfjgfpeheepaa
open Go.RowKit
set_option linter.unusedVariables false
set_option linter.unusedSimpArgs false
namespace PM
theorem EM.lits7 {α : Type} {e : α → List Value} {c : Nat} (he : ∀ x, (e x).length = c) (W : World) (E : TypeId) (l : List α) (n : Nat) (hn : n = l.length) (hl : l.length ≤ maxLen) (cs : Array Value) (hcs : cs = (l.flatMap e).toArray) : EM e c (W.alloc (.cells cs E)) (.slice (Option.some ⟨W.heap.size, 0, Option.none⟩) n n) l := by
  subst hn hcs
  refine ⟨_, l.length, rfl, Nat.le_refl _, hl, fun _ => ⟨W.heap.size, 0, rfl, fun i y hi j u hu => ?_⟩⟩
  rw [Nat.zero_add, World.cell?_alloc_new]
  have := flat_get he l i y hi j u hu
  simpa using this
def k3 : Te := ⟨⟨#[112]⟩, 5, 1, 3, ⟨#[]⟩⟩
def k5 : Te := ⟨⟨#[112]⟩, 5, 1, 5, ⟨#[]⟩⟩
def kq : Te := ⟨⟨#[113]⟩, 8, 0, 0, ⟨#[]⟩⟩
def xq : At := ⟨⟨#[113]⟩, 1, 1, ⟨#[]⟩⟩
theorem red_k : redL [[k5], [kq], [k3]] = [[kq], [k3]] := by
  have a1 : covB [kq] [k5] = false := by decide
  have a2 : covB [k3] [k5] = true := by decide
  have a3 : covB [k3] [kq] = false := by decide
  have a4 : covB [kq] [k3] = false := by decide
  simp [redL, sv, a1, a2, a3, a4]
theorem cov_k1 : covB [k3] ([k5] ++ [kq]) = true := by decide
theorem cov_k2 : covB ([k5] ++ [kq]) [k3] = false := by decide
theorem holds_nameK (z : Te) (x : At) (h : x.name = z.name) : holdsB z [x] = isB z x.k x.n x.s := by
  unfold holdsB
  simp [h]
theorem any_k : ([[kq], [k3]].any fun x => matchB x [xq]) = true := by
  have : matchB [kq] [xq] = true := by
    unfold matchB
    simp only [List.all_cons, List.all_nil, Bool.and_true]
    rw [holds_nameK kq xq rfl]
    decide
  rw [List.any_cons, this, Bool.true_or]
structure CsK (w : World) (g o : Nat) (x : Te) : Prop where
  c0 : w.cell? ⟨g, o, none⟩ = some (.string x.name)
  c1 : w.cell? ⟨g, o + 1, none⟩ = some (.int .i64 x.op)
  c2 : w.cell? ⟨g, o + 2, none⟩ = some (.int .i64 x.k)
  c3 : w.cell? ⟨g, o + 3, none⟩ = some (.int .i64 x.n)
  c4 : w.cell? ⟨g, o + 4, none⟩ = some (.string x.s)
theorem EV.of_em {w : World} {v : Value} {es : List At} (h : EM (fun x : At => [.string x.name, .int .i64 x.k, .int .i64 x.n, .string x.s]) 4 w v es) : EV w v es := by
  obtain ⟨ad, cap, hv, h1, h2, h3⟩ := h
  refine ⟨ad, cap, hv, h1, h2, fun hp => ?_⟩
  obtain ⟨b, off, ha, h4⟩ := h3 hp
  exact ⟨b, off, ha, fun i x hi => ⟨h4 i x hi 0 _ rfl, h4 i x hi 1 _ rfl, h4 i x hi 2 _ rfl, h4 i x hi 3 _ rfl⟩⟩
end PM
theorem teTyF : PM.MTy Try.prog 23 42 5 56 := by
  refine ⟨Try.underlying23, by decide, ?_⟩
  obtain ⟨i, h1, h2, h3, h4⟩ := info_parts (P := Try.prog) (e := 42) (z := .agg #[.string ByteArray.empty, .int .i64 0, .int .i64 0, .int .i64 0, .string ByteArray.empty]) (size := 5) (bytes := 56) (by kernel_rfl)
  exact ⟨i, _, h1, h2, h3, h4, by kernel_rfl⟩
set_option maxRecDepth 100000 in
set_option maxHeartbeats 4000000 in
theorem awake7 (w : World) : Calls Try.prog 9 #[] w fun e w' => e = .returned (.bool true) ∧ Below w.heap.size w w' := by
  have hBB := PM.hid (Below.refl w.heap.size w)
  go_enter Try.func9, Try.ntmps9
  go_wp2_with fail
  refine (int_any _ _).mono ?_
  rintro e w1 ⟨rfl, hB1⟩
  replace hBB := PM.hid (PM.chain hBB.out hB1)
  clear hB1
  go_upto_region 2 with fail
  obtain ⟨g3, hg3⟩ : ∃ g, g = w1.heap.size := ⟨_, rfl⟩
  obtain ⟨w2, hw2⟩ : ∃ W, W = w1.alloc (.cells #[.string ⟨#[112]⟩, .int .i64 5, .int .i64 1, .int .i64 3, .string ⟨#[]⟩] 42) := ⟨_, rfl⟩
  have h3 : PM.TV w2 (.slice (some ⟨g3, 0, none⟩) 1 1) [PM.k3] := by rw [hw2, hg3]; exact PM.EM.lits7 PM.teL_len w1 42 [PM.k3] 1 rfl (by decide) _ rfl
  have kg3 : PM.BK w2 g3 #[.string ⟨#[112]⟩, .int .i64 5, .int .i64 1, .int .i64 3, .string ⟨#[]⟩] 42 := by rw [hw2, hg3]; exact PM.BK.new _ _ _
  have hal : Below w1.heap.size w1 w2 := by rw [hw2]; exact (Below.refl _ _).alloc (Nat.le_refl _) _
  rw [← hw2, ← hg3]
  replace hBB := PM.hid (PM.chain hBB.out hal)
  clear hw2 hg3 hal
  go_wp2_with fail
  refine (int_any _ _).mono ?_
  rintro e w3 ⟨rfl, hB3⟩
  replace h3 := h3.keep hB3
  replace kg3 := kg3.keep hB3
  replace hBB := PM.hid (PM.chain hBB.out hB3)
  clear hB3
  go_upto_region 3 with fail
  obtain ⟨g5, hg5⟩ : ∃ g, g = w3.heap.size := ⟨_, rfl⟩
  obtain ⟨w4, hw4⟩ : ∃ W, W = w3.alloc (.cells #[.string ⟨#[112]⟩, .int .i64 5, .int .i64 1, .int .i64 5, .string ⟨#[]⟩] 42) := ⟨_, rfl⟩
  have h5 : PM.TV w4 (.slice (some ⟨g5, 0, none⟩) 1 1) [PM.k5] := by rw [hw4, hg5]; exact PM.EM.lits7 PM.teL_len w3 42 [PM.k5] 1 rfl (by decide) _ rfl
  have kg5 : PM.BK w4 g5 #[.string ⟨#[112]⟩, .int .i64 5, .int .i64 1, .int .i64 5, .string ⟨#[]⟩] 42 := by rw [hw4, hg5]; exact PM.BK.new _ _ _
  have hal : Below w3.heap.size w3 w4 := by rw [hw4]; exact (Below.refl _ _).alloc (Nat.le_refl _) _
  rw [← hw4, ← hg5]
  replace h3 := h3.keep hal
  replace kg3 := kg3.keep hal
  replace hBB := PM.hid (PM.chain hBB.out hal)
  clear hw4 hg5 hal
  clear kg5
  go_upto_region 4 with fail
  obtain ⟨gq, hgq⟩ : ∃ g, g = w4.heap.size := ⟨_, rfl⟩
  obtain ⟨w5, hw5⟩ : ∃ W, W = w4.alloc (.cells #[.string ⟨#[113]⟩, .int .i64 8, .int .i64 0, .int .i64 0, .string ⟨#[]⟩] 42) := ⟨_, rfl⟩
  have hq : PM.TV w5 (.slice (some ⟨gq, 0, none⟩) 1 1) [PM.kq] := by rw [hw5, hgq]; exact PM.EM.lits7 PM.teL_len w4 42 [PM.kq] 1 rfl (by decide) _ rfl
  have kgq : PM.BK w5 gq #[.string ⟨#[113]⟩, .int .i64 8, .int .i64 0, .int .i64 0, .string ⟨#[]⟩] 42 := by rw [hw5, hgq]; exact PM.BK.new _ _ _
  have hal : Below w4.heap.size w4 w5 := by rw [hw5]; exact (Below.refl _ _).alloc (Nat.le_refl _) _
  rw [← hw5, ← hgq]
  replace h3 := h3.keep hal
  replace kg3 := kg3.keep hal
  replace h5 := h5.keep hal
  replace hBB := PM.hid (PM.chain hBB.out hal)
  clear hw5 hgq hal
  clear kgq
  have hO0 : ∀ E, PM.OM PM.teL 5 E w5.heap.size (w5.alloc (.cells #[] E)) (.slice (some ⟨w5.heap.size, 0, none⟩) 0 0) [] := fun E => PM.OM.made w5 #[] 0 (by decide) rfl (Nat.le_refl _)
  have hal : ∀ (o : Obj), Below w5.heap.size w5 (w5.alloc o) := fun o => (Below.refl _ _).alloc (Nat.le_refl _) _
  have s5 : ∀ (o : Obj), PM.TV (w5.alloc o) (.slice (some ⟨g5, 0, none⟩) 1 1) [PM.k5] := fun o => h5.keep (hal o)
  have hst : w5.heap.size ≤ w5.heap.size + 1 := by omega
  go_upto_region 5 with (first
    | (at_builtin; refine PM.wpList_em (e := PM.teL) teTyF PM.teL_len PM.teL_one w5.heap.size rfl _ _ rfl (.slice (some ⟨w5.heap.size, 0, none⟩) 0 0) (.slice (some ⟨g5, 0, none⟩) 1 1) [] [PM.k5] rfl rfl (hO0 _) (s5 _) (by decide) (by decide) (by simp) ?_; intro v6 w6 t1 t2 t3 t4; have hB6 := (hal _).trans t2; have sq := hq.keep hB6; have hsz6 := hB6.size; clear t2 t3 t4)
    | (at_builtin; refine PM.wpList_em (e := PM.teL) teTyF PM.teL_len PM.teL_one w5.heap.size rfl _ _ rfl v6 (.slice (some ⟨gq, 0, none⟩) 1 1) _ [PM.kq] rfl rfl t1 sq (by decide) (by decide) hsz6 ?_; intro v7 w7 q1 q2 q3 q4; have hB7 := hB6.trans q2; clear q2 q3 q4))
  have hb := q1.em PM.teL_len
  replace h3 := h3.keep hB7
  replace kg3 := kg3.keep hB7
  replace h5 := h5.keep hB7
  replace hq := hq.keep hB7
  replace hBB := PM.hid (PM.chain hBB.out hB7)
  clear hO0 hal s5 hst hB6 sq hsz6 t1 q1 hB7
  go_wp2_with fail
  obtain ⟨gl, hgl⟩ : ∃ g, g = w7.heap.size := ⟨_, rfl⟩
  obtain ⟨w8, hw8⟩ : ∃ W, W = w7.alloc (.cells #[.slice (some ⟨g5, 0, none⟩) 1 1, .slice (some ⟨gq, 0, none⟩) 1 1, .slice (some ⟨g3, 0, none⟩) 1 1] 23) := ⟨_, rfl⟩
  have hF : PM.FL w8 (.slice (some ⟨gl, 0, none⟩) 3 3) [[PM.k5], [PM.kq], [PM.k3]] := by
    rw [hw8, hgl]
    refine PM.RR.lits1 PM.fR_lasts w7 _ [.slice (some ⟨g5, 0, none⟩) 1 1, .slice (some ⟨gq, 0, none⟩) 1 1, .slice (some ⟨g3, 0, none⟩) 1 1] _ 3 _ rfl rfl rfl (by decide) (by intro v hv; simp at hv; rcases hv with rfl | rfl | rfl <;> rfl) ?_
    intro i v x hi hx
    match i, hi, hx with
    | 0, hi, hx => simp at hi hx; subst hi hx; exact ⟨_, rfl, h5⟩
    | 1, hi, hx => simp at hi hx; subst hi hx; exact ⟨_, rfl, hq⟩
    | 2, hi, hx => simp at hi hx; subst hi hx; exact ⟨_, rfl, h3⟩
    | i + 3, hi, hx => simp at hi
  have hal : Below w7.heap.size w7 w8 := by rw [hw8]; exact (Below.refl _ _).alloc (Nat.le_refl _) _
  rw [← hw8, ← hgl]
  replace h3 := h3.keep hal
  replace kg3 := kg3.keep hal
  replace hb := hb.keep hal
  replace hBB := PM.hid (PM.chain hBB.out hal)
  clear hw8 hgl hal h5 hq
  refine (reduce_any _ _ w8 hF (by decide) (by intro x hx; simp at hx; rcases hx with rfl | rfl | rfl <;> decide)).mono ?_
  rintro e w9 ⟨u, rfl, hO, hB9⟩
  rw [PM.red_k] at hO
  have hL : PM.FL w9 u [[PM.kq], [PM.k3]] := hO.rr.imp fun _ _ h => PM.fO_fR h
  obtain ⟨la, lc, rfl⟩ := hL.len
  obtain ⟨gl, ol, rfl, hce⟩ := PM.RR.opn hL (by decide)
  obtain ⟨xv, hc, hxv⟩ := PM.fR_cell (hce 1 _ rfl)
  obtain ⟨gx, ox, cx, rfl, _, _, hcx⟩ := PM.EM.open1 hxv (by decide)
  have hcq : PM.CsK w9 gx ox PM.k3 := ⟨by have := hcx 0 _ rfl 0 _ rfl; simpa using this, by have := hcx 0 _ rfl 1 _ rfl; simpa using this, by have := hcx 0 _ rfl 2 _ rfl; simpa using this, by have := hcx 0 _ rfl 3 _ rfl; simpa using this, by have := hcx 0 _ rfl 4 _ rfl; simpa using this⟩
  replace h3 := h3.keep hB9
  replace kg3 := kg3.keep hB9
  replace hb := hb.keep hB9
  replace hBB := PM.hid (PM.chain hBB.out hB9)
  obtain ⟨ba, bc, rfl⟩ := hb.len
  clear hF hO hB9 hce hxv hcx
  have c0 : w9.cell? ⟨gl, ol + 1, none⟩ = some (.slice (some ⟨gx, ox, none⟩) 1 cx) := hc
  go_upto_region 8 with fail
  have hh := PM.hid (And.intro hc (And.intro hcq (And.intro h3 (And.intro kg3 (And.intro hb hL)))))
  clear hc hcq h3 kg3 hb hL c0
  refine PM.wp_region_st [some 34, some 35, some 36, some 37, some 38, some 39, some 40, some 41, some 42, some 43, some 44, some 45, some 46, some 47, some 48, some 49, some 50, some 51, some 52, some 53, some 54, some 55, some 56, some 57, some 58, some 59, some 60, some 61, some 62, some 63, some 64, some 0] [fun x _ => x = .slice (some ⟨g3, 0, none⟩) 1 1, fun x _ => x = .slice ba 2 bc, fun x _ => x = .bool true, fun x _ => x = .bool true, fun x _ => x = .slice ba 2 bc, fun x _ => x = .slice (some ⟨g3, 0, none⟩) 1 1, fun x _ => x = .bool false, fun x _ => x = .bool true, fun x _ => x = .bool true, fun x _ => x = .bool true, fun x _ => x = .slice (some ⟨gl, ol, none⟩) 2 lc, fun x _ => x = .pointer (some ⟨gl, ol + 1, none⟩), fun x _ => x = .slice (some ⟨gx, ox, none⟩) 1 cx, fun x _ => x = .pointer (some ⟨gx, ox, none⟩), fun x _ => x = .agg #[.string ⟨#[112]⟩, .int .i64 5, .int .i64 1, .int .i64 3, .string ⟨#[]⟩], fun x _ => x = .slice (some ⟨g3, 0, none⟩) 1 1, fun x _ => x = .pointer (some ⟨g3, 0, none⟩), fun x _ => x = .agg #[.string ⟨#[112]⟩, .int .i64 5, .int .i64 1, .int .i64 3, .string ⟨#[]⟩], fun x _ => x = .bool true, fun x _ => x = .bool true, fun x _ => x = .bool true, fun x _ => x = .slice (some ⟨gl, ol, none⟩) 2 lc, fun x _ => x = .agg #[.int .i64 1, .int .i64 1, .string ⟨#[]⟩], fun x _ => x = .agg #[.string ⟨#[113]⟩, .int .i64 1, .int .i64 1, .string ⟨#[]⟩], fun x W => PM.EV W x [PM.xq], fun x _ => x = .bool true, fun x _ => x = .bool true, fun x _ => x = .bool true, fun x _ => x = .bool false, fun x _ => x = .bool true, fun x _ => x = .bool true, fun x _ => x = .bool true] (by kernel_rfl) (by kernel_rfl) (by kernel_rfl) ?_ ?_ ?_
  · simp only [List.forall_mem_cons]
    refine ⟨?_, ?_, ?_, ?_, ?_, ?_, ?_, ?_, ?_, ?_, ?_, ?_, ?_, ?_, ?_, ?_, ?_, ?_, ?_, ?_, ?_, ?_, ?_, ?_, ?_, ?_, ?_, ?_, ?_, ?_, ?_, ?_, by simp⟩
    all_goals (intro x W W' h hb; first | exact h | exact PM.BS.keep hb h | exact PM.OW.keep hb h | exact PM.EV.keep hb h)
  · refine ⟨?_, ?_, ?_, ?_, ?_, ?_, ?_, ?_, ?_, ?_, ?_, ?_, ?_, ?_, ?_, ?_, ?_, ?_, ?_, ?_, ?_, ?_, ?_, ?_, ?_, ?_, ?_, ?_, ?_, ?_, ?_, ?_, trivial⟩
    all_goals
      intro a W hB hF hd
      have k1 := hF 1 rfl
      have k4 := hF 4 rfl
      have k5 := hF 5 rfl
      have c0 : W.cell? ⟨gl, ol + 1, none⟩ = some (.slice (some ⟨gx, ox, none⟩) 1 cx) := PM.cell_keepK hB hh.out.1
      have d0 : W.cell? ⟨gx, ox, none⟩ = some (.string ⟨#[112]⟩) := PM.cell_keepK hB hh.out.2.1.c0
      have d1 : W.cell? ⟨gx, ox + 1, none⟩ = some (.int .i64 5) := PM.cell_keepK hB hh.out.2.1.c1
      have d2 : W.cell? ⟨gx, ox + 2, none⟩ = some (.int .i64 1) := PM.cell_keepK hB hh.out.2.1.c2
      have d3 : W.cell? ⟨gx, ox + 3, none⟩ = some (.int .i64 3) := PM.cell_keepK hB hh.out.2.1.c3
      have d4 : W.cell? ⟨gx, ox + 4, none⟩ = some (.string ⟨#[]⟩) := PM.cell_keepK hB hh.out.2.1.c4
      have e0 : W.cell? ⟨g3, 0, none⟩ = some (.string ⟨#[112]⟩) := (hh.out.2.2.2.1.keep hB).cell 0
      have e1 : W.cell? ⟨g3, 1, none⟩ = some (.int .i64 5) := (hh.out.2.2.2.1.keep hB).cell 1
      have e2 : W.cell? ⟨g3, 2, none⟩ = some (.int .i64 1) := (hh.out.2.2.2.1.keep hB).cell 2
      have e3 : W.cell? ⟨g3, 3, none⟩ = some (.int .i64 3) := (hh.out.2.2.2.1.keep hB).cell 3
      have e4 : W.cell? ⟨g3, 4, none⟩ = some (.string ⟨#[]⟩) := (hh.out.2.2.2.1.keep hB).cell 4
      clear hF
      simp [PM.depsL, PM.spec, PM.sl, Region.binds] at hd k1 k4 k5
      simp only [PM.wantL, PM.spec]
      try simp only [PM.sl]
      go_simp
    all_goals try exact Below.refl _ _
    · refine (covers_any _ _ [PM.k3] ([PM.k5] ++ [PM.kq]) W (hh.out.2.2.1.keep hB) (hh.out.2.2.2.2.1.keep hB)).mono ?_
      rw [PM.cov_k1]
      rintro e w' ⟨rfl, hb⟩
      exact ⟨hb, rfl⟩
    · refine (covers_any _ _ ([PM.k5] ++ [PM.kq]) [PM.k3] W (hh.out.2.2.2.2.1.keep hB) (hh.out.2.2.1.keep hB)).mono ?_
      rw [PM.cov_k2]
      rintro e w' ⟨rfl, hb⟩
      exact ⟨hb, rfl⟩
    · refine (int_any 1 W).mono ?_
      rintro e w' ⟨rfl, hb⟩
      exact ⟨hb, rfl⟩
    · refine ⟨(Below.refl _ _).alloc (Nat.le_refl _) _, _, rfl, PM.EV.of_em (PM.EM.lits7 (e := fun x : PM.At => [.string x.name, .int .i64 x.k, .int .i64 x.n, .string x.s]) (fun _ => rfl) W _ [PM.xq] 1 rfl (by decide) _ rfl)⟩
    · refine (cany_any _ _ [[PM.kq], [PM.k3]] [PM.xq] W (hh.out.2.2.2.2.2.keep hB) (by first | exact hd.2.1 | exact hd.2 | exact hd.1)).mono ?_
      rw [PM.any_k]
      rintro e w' ⟨rfl, hb⟩
      exact ⟨hb, rfl⟩
    · refine (cany_any _ _ [] [] W (PM.RR.nil _) (PM.EV.nil _)).mono ?_
      rintro e w' ⟨rfl, hb⟩
      exact ⟨hb, rfl⟩
  · intro G W hB hF hS
    have h0 : G 0 = .bool true := by simp [PM.allSp, PM.spec] at hS; simp [hS]
    rw [show ((List.range (Array.size _)).map G).toArray = #[G 0, G 1, G 2, G 3, G 4, G 5, G 6, G 7, G 8, G 9, G 10, G 11, G 12, G 13, G 14, G 15, G 16, G 17, G 18, G 19, G 20, G 21, G 22, G 23, G 24, G 25, G 26, G 27, G 28, G 29, G 30, G 31, G 32, G 33, G 34, G 35, G 36, G 37, G 38, G 39, G 40, G 41, G 42, G 43, G 44, G 45, G 46, G 47, G 48, G 49, G 50, G 51, G 52, G 53, G 54, G 55, G 56, G 57, G 58, G 59, G 60, G 61, G 62, G 63, G 64] from rfl]
    clear hF hS
    go_wp2
    go_ret
    exact ⟨by simp [h0], PM.chain hBB.out hB⟩
end Go.Proofs.Ytenfjgfpeheepaa
