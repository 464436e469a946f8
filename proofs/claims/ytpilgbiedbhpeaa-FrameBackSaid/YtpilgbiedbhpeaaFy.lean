/-
  THE WALKS OF LAYER 3's STATEMENTS: split.
-/
import Derived.Test.YtpilgbiedbhpeaaFq
import Derived.Test.YtpilgbiedbhpeaaBo
namespace Go.Proofs.Ytpilgbiedbhpeaa
open Go.RowKit
set_option linter.unusedVariables false
namespace PM
/-- the texts that are wrapped -/
def goodS (ls : List (List UInt8)) : List (List UInt8) := ls.filter fun z => decide (0 < z.length ∧ z.length ≤ 500)
theorem goodS_hit (ls : List (List UInt8)) (k : Nat) (z : List UInt8) (h : ls[k]? = some z) (h1 : 0 < z.length) (h2 : z.length ≤ 500) : goodS (ls.take (k + 1)) = goodS (ls.take k) ++ [z] := by
  rw [List.take_add_one, h, goodS, goodS, List.filter_append]
  simp [h1, h2]
theorem goodS_miss (ls : List (List UInt8)) (k : Nat) (z : List UInt8) (h : ls[k]? = some z) (h1 : z.length = 0 ∨ 500 < z.length) : goodS (ls.take (k + 1)) = goodS (ls.take k) := by
  rw [List.take_add_one, h, goodS, goodS, List.filter_append]
  have : decide (0 < z.length ∧ z.length ≤ 500) = false := decide_eq_false (by omega)
  simp only [Option.toList_some, List.filter_cons, this, List.filter_nil]
  simp
theorem goodS_all (ls : List (List UInt8)) : ∀ x ∈ goodS ls, 0 < x.length ∧ x.length ≤ 4000 := by
  intro x hx
  have := (List.mem_filter.1 hx).2
  simp at this
  omega
theorem goodS_size (ls : List (List UInt8)) : sizeL (goodS ls) ≤ 506 * ls.length := by
  induction ls with
  | nil => simp [goodS, sizeL]
  | cons z ls ih =>
    unfold goodS at ih ⊢
    rw [List.filter_cons]
    by_cases h : decide (0 < z.length ∧ z.length ≤ 500) = true
    · rw [if_pos h]
      simp only [sizeL, List.map_cons, List.sum_cons, List.length_cons] at ih ⊢
      simp at h
      omega
    · rw [if_neg h]
      simp only [List.length_cons]
      omega
theorem sizeL_app (a b : List (List UInt8)) : sizeL (a ++ b) = sizeL a + sizeL b := by simp [sizeL]
theorem sizeL_scan (l : List UInt8) : sizeL (scanL l) ≤ l.length := by
  obtain ⟨r, e, _⟩ := scan_stands l
  have := congrArg List.length e
  rw [List.length_append, joinW_length] at this
  omega
theorem OBL.kept_app {α : Type} {e : α → Value} {T E : TypeId} (hne : T ≠ E) {B B' : Nat} {w w' : World} {x r : Value} {ls : List (List UInt8)} {m : List α} (h : OBL T E B w x ls) (hr : OE e T B' w r m) (hg : w.grownBy w' r.ownBlock) (hlt : ∀ k, r.ownBlock = some k → k < B) : OBL T E B w' x ls := by
  obtain ⟨vs, h1, h2, h3⟩ := h
  refine ⟨vs, h1.kept hg (fun k hk hx => ?_), h2, fun i y l a b => (h3 i y l a b).kept hne hr hg⟩
  have := hlt k hk
  have := (h1.lt k hx).1
  omega
theorem one_of {w : World} {us : List Value} {ms : List (List UInt8)} (h2 : us.length = ms.length) (h3 : ∀ (i : Nat) (x : Value) (l : List UInt8), us[i]? = some x → ms[i]? = some l → BS w x l) : ∀ u ∈ us, (vid u).oneCell' = true := by
  intro u hu
  obtain ⟨i, hi⟩ := List.mem_iff_getElem?.1 hu
  have hil := (List.getElem?_eq_some_iff.1 hi).1
  obtain ⟨a, c, e⟩ := (h3 i u _ hi (List.getElem?_eq_getElem (by omega))).len
  rw [e]
  rfl
/-- elements of a slice that came in -/
theorem RBL.at {w : World} {va : Option Addr} {N vc : Nat} {ls : List (List UInt8)} (h : RBL w (.slice va N vc) ls) (k : Nat) (z : List UInt8) (hz : ls[k]? = some z) :
    ∃ b o x, va = some ⟨b, o, none⟩ ∧ w.cell? ⟨b, o + k, none⟩ = some x ∧ BS w x z ∧ N = ls.length ∧ N ≤ vc ∧ vc ≤ 9223372036854775807 := by
  have hk := (List.getElem?_eq_some_iff.1 hz).1
  obtain ⟨b, off, cap, e, h1, h2, h3⟩ := h.elem (by omega)
  obtain ⟨x, h4, h5⟩ := h3 k z hz
  simp at e
  obtain ⟨rfl, rfl, rfl⟩ := e
  exact ⟨b, off, x, rfl, h4, h5, rfl, h1, h2⟩
end PM
set_option maxRecDepth 100000 in
set_option maxHeartbeats 4000000 in
theorem frameSplit_walk (v : Value) (ls : List (List UInt8)) (u : Value) (rest : List UInt8) (w : World) (hv : PM.RBL w v ls) (hu : PM.BS w u rest) :
    Calls Try.prog 7 #[v, u] w fun e w' => e = .returned (.bool true) ∧ Below w.heap.size w w' := by
  obtain ⟨va, vc, rfl⟩ := hv.len
  obtain ⟨ua, uc, rfl⟩ := hu.len
  have hvh := PM.hid hv
  have huh := PM.hid hu
  have hNb := hv.bound
  simp only [maxLen] at hNb
  obtain ⟨N, hN⟩ : ∃ N, N = ls.length := ⟨_, rfl⟩
  obtain ⟨R, hR⟩ : ∃ R, R = rest.length := ⟨_, rfl⟩
  have hNh := PM.hid hN
  have hRh := PM.hid hR
  rw [← hN] at hNb
  rw [← hN, ← hR]
  clear hN hR hv hu
  by_cases q1 : (1000 : Int) < (R : Int)
  · go_enter Try.func7, Try.ntmps7
    go_wp2_with (go_at_call 9; refine (awake3 _).mono ?_; rintro e w1 ⟨rfl, hb⟩)
    go_ret
    exact ⟨rfl, hb⟩
  have hR1 : R ≤ 1000 := by omega
  go_enter Try.func7, Try.ntmps7
  go_wp2_with fail
  refine (awake3 _).mono ?_
  rintro e w1 ⟨rfl, hb⟩
  have hb1 := PM.hid hb
  clear hb
  go_wp2
  go_loopw [6, 7, 8] (fun o g i wr => ∃ k : Nat, i = .int .i64 k ∧ k ≤ 5 ∧ k ≤ N ∧ PM.OW 5 w.heap.size wr o (PM.joinW (PM.goodS (ls.take k))) ∧ PM.WBL 23 w.heap.size w wr g (PM.goodS (ls.take k)) ∧ Below w.heap.size w wr) (fun _ _ i _ => 5 - (intOf i).toNat)
  case atStart => exact ⟨0, rfl, by omega, by omega, PM.OW.nilrow _ _ _, PM.WBL.nil _ _ _ _, hb1.out⟩
  case round =>
    obtain ⟨k, rfl, hk5, hkN, ho, hg, hB⟩ := hrel
    by_cases hlt : k < N ∧ k < 5
    · obtain ⟨z, hz⟩ : ∃ z, ls[k]? = some z := ⟨ls[k]'(by rw [← hNh.out]; exact hlt.1), List.getElem?_eq_getElem _⟩
      have hvh2 : PM.RBL w (.slice va N vc) ls := by rw [hNh.out]; exact hvh.out
      obtain ⟨b, o, x, rfl, hc, hx, -, hNc, hcm⟩ := hvh2.at k z hz
      obtain ⟨xa, xc, rfl⟩ := hx.len
      have d0 := PM.cellA hB hc
      have g1 : (k : Int) < (N : Int) := by omega
      have g2 : (k : Int) < 5 := by omega
      obtain ⟨Z, hZ⟩ : ∃ Z, Z = z.length := ⟨_, rfl⟩
      have hxh := PM.hid hx
      have hzh := PM.hid (And.intro hz hZ)
      rw [← hZ] at d0 hc
      have hch := PM.hid hc
      have hQ := PM.hid (And.intro ho (And.intro hg hB))
      clear hc hx hvh2 hz hZ ho hg hB
      by_cases hbad : Z = 0 ∨ 500 < Z
      · have hgm := PM.goodS_miss ls k z hzh.out.1 (by rw [← hzh.out.2]; exact hbad)
        have hgmh := PM.hid hgm
        clear hgm
        rcases hbad with rfl | hbad
        · go_wp2
          obtain ⟨ho, hg, hB⟩ := hQ.out
          exact ⟨⟨k + 1, by go_num, by omega, by omega, by rw [hgmh.out]; exact ho, by rw [hgmh.out]; exact hg, hB⟩, by simp only [intOf]; omega⟩
        · have q2 : (500 : Int) < (Z : Int) := by omega
          have q3 : ((Z : Int) == 0) = false := beq_eq_false_iff_ne.2 (by omega)
          go_wp2
          obtain ⟨ho, hg, hB⟩ := hQ.out
          exact ⟨⟨k + 1, by go_num, by omega, by omega, by rw [hgmh.out]; exact ho, by rw [hgmh.out]; exact hg, hB⟩, by simp only [intOf]; omega⟩
      · have q2 : ¬ (500 : Int) < (Z : Int) := by omega
        have q3 : ((Z : Int) == 0) = false := beq_eq_false_iff_ne.2 (by omega)
        have hZ0 : 0 < Z := by omega
        have hZ1 : Z ≤ 500 := by omega
        have hgm := PM.goodS_hit ls k z hzh.out.1 (by rw [← hzh.out.2]; exact hZ0) (by rw [← hzh.out.2]; exact hZ1)
        have hgmh := PM.hid hgm
        have hW := Wrap_any _ z wr (hxh.out.keep hQ.out.2.2) (by rw [← hzh.out.2]; exact hZ0) (by rw [← hzh.out.2]; omega)
        rw [← hzh.out.2] at hW
        have hbh := PM.hid hbad
        clear hgm hbad
        go_wp2_with fail
        refine hW.mono ?_
        rintro e w5 ⟨v5, rfl, ho5, hB5⟩
        have hwl : (PM.wrapL z).length = 6 + Z := by rw [PM.wrapL_length, hzh.out.2]
        obtain ⟨a5, c5, hv5⟩ : ∃ a c, v5 = .slice a (6 + Z) c := by obtain ⟨a, c, e⟩ := ho5.bs.len; exact ⟨a, c, by rw [e, hwl]⟩
        subst hv5
        obtain ⟨ho, hg, hB⟩ := hQ.out
        have d5 := PM.cellA hB5 d0
        have o5 := ho.keep hB5
        have s5 := ho5.bs
        have hB05 := hB.trans (hB5.mono hB.size)
        have hz5 := hB05.size
        have hsz := PM.goodS_size (ls.take k)
        have hszl : (PM.joinW (PM.goodS (ls.take k))).length ≤ 506 * 5 := by rw [PM.joinW_length]; have := List.length_take_le k ls; omega
        obtain ⟨vs, e1, e2, e3⟩ := hg.keep hB5
        have hvl : vs.length ≤ 5 := by
          have h1 := List.length_filter_le (fun z : List UInt8 => decide (0 < z.length ∧ z.length ≤ 500)) (ls.take k)
          have h2 := List.length_take_le k ls
          have h3 : (PM.goodS (ls.take k)).length ≤ (ls.take k).length := h1
          omega
        have hP := PM.hid (And.intro e2 (And.intro e3 hB05))
        obtain ⟨wa, wc, hwe⟩ := e1.es.len
        have hszh := PM.hid hszl
        clear hW d0 ho hg hB hQ ho5 hB5 hsz hwl e2 e3 hB05 hwe
        go_wp2_with (first
          | (at_builtin; refine PM.wpList_app bty w.heap.size rfl _ _ rfl _ _ _ (PM.wrapL z) rfl rfl o5 s5 ?_ hz5 ?_; (rw [PM.wrapL_length, ← hzh.out.2]; have := hszh.out; omega); intro v6 w6 t1 t2 t3; have t4 := PM.OE.kept_ne tL e1 o5 t3; have t5 := hP.out.2.2.trans t2; have d6 := PM.cellA t5 hch.out; have hz6 := t5.size; have hth := PM.hid (And.intro t1 t5); obtain ⟨ya, yc, hy6⟩ := t1.bs.len; clear o5 s5 e1 t3 t1 t2 t5 hz5 d5; subst hy6)
          | (at_builtin; refine PM.wpList_es1 (e := PM.vid) btl w.heap.size w6 rfl _ _ rfl _ _ (.slice xa Z xc) _ rfl rfl rfl rfl rfl t4 ?_ ?_ hz6 ?_; omega; (simp only [maxLen]; omega); intro v8 w8 r1 r2 r3 _; have hrh := PM.hid (And.intro t4 (And.intro r1 (And.intro r2 r3))); obtain ⟨ga, gc, hg8⟩ : ∃ ga gc, v8 = .slice ga (vs.length + 1) gc := (by obtain ⟨ga, gc, e⟩ := r1.es.len; exact ⟨ga, gc, by simpa using e⟩); clear r1 r2 r3 t4; subst hg8))
        obtain ⟨t1, t5⟩ := hth.out
        obtain ⟨t4, r1, r2, r3⟩ := hrh.out
        obtain ⟨e2, e3, _⟩ := hP.out
        have r5 := PM.OW.kept tL t1 t4 r3
        have hx0 : PM.BS w (.slice xa Z xc) z := by rw [hzh.out.2]; exact hxh.out
        have r6 := PM.WBL.snoc e2 e3 hx0 r1
        simp only [List.length_append] at r5
        rw [← PM.joinW_snoc, ← hgmh.out] at r5
        rw [← hgmh.out] at r6
        exact ⟨⟨k + 1, by go_num, by omega, by omega, by simpa using r5, by simpa using r6, t5.trans r2⟩, by simp only [intOf]; omega⟩
    · have hgb : (PM.goodS (ls.take k)).length ≤ 5 := by
        have h1 := List.length_filter_le (fun z : List UInt8 => decide (0 < z.length ∧ z.length ≤ 500)) (ls.take k)
        have h2 := List.length_take_le k ls
        have h3 : (PM.goodS (ls.take k)).length ≤ (ls.take k).length := h1
        omega
      have hgs : PM.sizeL (PM.goodS (ls.take k)) ≤ 506 * 5 := by
        have h1 := PM.goodS_size (ls.take k)
        have h2 := List.length_take_le k ls
        omega
      have hall := PM.goodS_all (ls.take k)
      have hstop : ¬ (k : Int) < (N : Int) ∨ ((k : Int) < (N : Int) ∧ ¬ (k : Int) < 5) := by omega
      generalize PM.goodS (ls.take k) = gs at *
      obtain ⟨aa, ac, haa⟩ := ho.bs.len
      obtain ⟨ga, gc, hga⟩ := (hg.rbl hB).len
      subst haa hga
      obtain ⟨S, hS⟩ : ∃ S, S = PM.sizeL gs := ⟨_, rfl⟩
      obtain ⟨G, hG⟩ : ∃ G, G = gs.length := ⟨_, rfl⟩
      have hjl : (PM.joinW gs).length = S := by rw [PM.joinW_length, hS]
      rw [← hS] at hgs
      rw [← hG] at hgb
      rw [hjl] at ho ⊢
      rw [← hG] at hg ⊢
      have hQ := PM.hid (And.intro ho (And.intro hg hB))
      have hrest := huh.out.keep hB
      rw [← hRh.out] at hrest
      have hsc := Scan_any _ rest wr hrest (by rw [← hRh.out]; omega)
      have hF := PM.hid (And.intro hS (And.intro hG (And.intro hjl hall)))
      clear ho hg hB hrest hS hG hjl hall hlt
      rcases hstop with hstop | ⟨hstop0, hstop⟩
      · skip
        go_wp2_with fail
        refine hsc.mono ?_
        rintro e w5 ⟨v5, rfl, ho5, hB5⟩
        obtain ⟨ho, hg, hB⟩ := hQ.out
        have hms := PM.sizeL_scan rest
        rw [← hRh.out] at hms
        have hmc := PM.count_le (PM.scanL rest)
        have hsj := PM.scan_join gs rest hF.out.2.2.2
        have hsjh := PM.hid hsj
        obtain ⟨M, hM⟩ : ∃ M, M = PM.scanL rest := ⟨_, rfl⟩
        rw [← hM] at ho5 hms hmc ⊢
        have hMh := PM.hid hM
        obtain ⟨ma, mc, hmv⟩ := ho5.rbl.len
        subst hmv
        obtain ⟨Q, hQe⟩ : ∃ Q, Q = PM.sizeL M := ⟨_, rfl⟩
        obtain ⟨K, hKe⟩ : ∃ K, K = M.length := ⟨_, rfl⟩
        rw [← hQe] at hms hmc ⊢
        rw [← hKe] at hmc ho5 ⊢
        have hQeh := PM.hid (And.intro hQe hKe)
        have oa := ho.keep hB5
        have sa := oa.bs
        have hC5 := hB.trans (hB5.mono hB.size)
        have sr := huh.out.keep hC5
        rw [← hRh.out] at sr
        have om := OW.made 5 w5
        have hal : Below w5.heap.size w5 (w5.alloc (.cells #[] 5)) := (Below.refl _ _).alloc (Nat.le_refl _) _
        have sa5 := sa.keep hal
        have hz5 := hal.size
        have hH := PM.hid (And.intro oa (And.intro (hg.keep hB5) (And.intro hC5 ho5)))
        have hjlh := PM.hid hF.out.2.2.1
        clear ho hg hB hB5 ho5 hsj hM hQe hKe oa sa hsc hQ hC5
        go_wp2_with (first
          | (at_builtin; refine PM.wpList_app bty w5.heap.size rfl _ _ rfl _ _ [] (PM.joinW gs) rfl rfl om sa5 ?_ hz5 ?_; (rw [hjlh.out]; have := hF.out.1; simp; omega); intro v6 w6 t1 t2 _; clear om sa5; have t3 := hal.trans t2; have sr6 := sr.keep t3; have hz6 := t3.size)
          | (at_builtin; refine PM.wpList_app bty w5.heap.size rfl _ _ rfl _ _ _ rest rfl rfl t1 sr6 ?_ hz6 ?_; (rw [List.length_append, hjlh.out, ← hRh.out]; have := hF.out.1; simp; omega); intro v7 w7 t4 t5 _; clear t1 sr6; have t6 := t3.trans t5))
        rw [List.nil_append] at t4
        refine (Scan_any _ _ w7 t4.bs (by rw [List.length_append, hjlh.out, ← hRh.out]; have := hF.out.1; omega)).mono ?_
        rintro e w8 ⟨v8, rfl, ho8, hB8⟩
        rw [hsjh.out, ← hMh.out] at ho8 ⊢
        obtain ⟨oa, hg, hC5, ho5⟩ := hH.out
        have hB58 := t6.trans (hB8.mono t6.size)
        have hC8 := hC5.trans (hB58.mono hC5.size)
        obtain ⟨vs, e1, e2, e3⟩ := hg.keep hB58
        obtain ⟨us, f1', f2, f3'⟩ := ho5.keep hB58
        have f1 := f1'.es
        have f3 : ∀ (i : Nat) (x : Value) (l : List UInt8), us[i]? = some x → M[i]? = some l → PM.BS w8 x l := fun i x l a b => (f3' i x l a b).bs
        have hwlt : ∀ k, (Value.slice ga G gc).ownBlock = some k → k < w7.heap.size := by
          obtain ⟨vs5, g1, _, _⟩ := hg
          exact fun k hk => Nat.lt_of_lt_of_le (g1.lt k hk).2 t6.size
        have hxr := ho8.rbl
        obtain ⟨xa8, xc8, hx8⟩ : ∃ a c, v8 = .slice a (G + K) c := by obtain ⟨a, c, e⟩ := hxr.len; exact ⟨a, c, by rw [e, List.length_append, ← hF.out.2.1, ← hQeh.out.2]⟩
        subst hx8
        have hsz8 : ((PM.sizeL (gs ++ M) : Nat) : Int) = ((S + Q : Nat) : Int) := by rw [PM.sizeL_app, ← hF.out.1, ← hQeh.out.1]
        rw [hsz8]
        have hvl : vs.length ≤ 5 := by have := hF.out.2.1; omega
        have hul : us.length ≤ 1000 := by have := hQeh.out.2; omega
        have hz8 := hC8.size
        have hone := PM.one_of f2 f3
        have hQQ := PM.hid (And.intro e1 (And.intro e2 (And.intro e3 (And.intro f1 (And.intro f2 (And.intro f3' (And.intro ho8 (And.intro hC8 hwlt))))))))
        clear ho8 oa hg hC5 ho5 t4 t5 t6 t3 t2 hB8 hB58 sr hal hz5 hz6 e2 e3 f2 f3 f1' f3' hxr hsz8 hC8 hH hwlt
        go_wp2_with (at_builtin; refine PM.wpList_es (e := PM.vid) btl w.heap.size rfl _ _ rfl _ _ vs us hone rfl rfl e1 f1 ?_ ?_ hz8 ?_; omega; (simp only [maxLen]; omega); intro v9 w9 r1 r2 r3 _; clear f1 hone)
        obtain ⟨_, e2, e3, f1, f2, f3', ho8, hC8, hwlt⟩ := hQQ.out
        have hC9 := hC8.trans r2
        have hx9 := (PM.OBL.kept_app tL ho8 e1 r3 hwlt).rbl
        have hy9 : PM.RBL w9 v9 (gs ++ M) := PM.RBL.app e2 (fun i x l a b => (e3 i x l a b).keep hC9) f2 (fun i x l a b => ((f3' i x l a b).kept tL e1 r3).bs) r1.es
        have hSm := RSame_any _ _ _ _ w9 hx9 hy9
        rw [decide_eq_true rfl] at hSm
        obtain ⟨ya, yc, hy⟩ := hy9.len
        subst hy
        have hC9h := PM.hid hC9
        clear e1 e2 e3 f2 f3' ho8 hC8 hwlt hC9 hx9 hy9 r1 r2 r3 hQQ f1
        have hsum : ((S : Int) + (Q : Int) == (S : Int) + (Q : Int)) = true := by simp
        have hle : (Q : Int) ≤ (R : Int) := by omega
        go_wp2_with (go_at_call 14; refine hSm.mono ?_; rintro e wa ⟨rfl, hBa⟩; have hBah := PM.hid hBa; clear hBa)
        go_ret
        exact ⟨rfl, PM.chain hC9h.out hBah.out⟩
      · skip
        go_wp2_with fail
        refine hsc.mono ?_
        rintro e w5 ⟨v5, rfl, ho5, hB5⟩
        obtain ⟨ho, hg, hB⟩ := hQ.out
        have hms := PM.sizeL_scan rest
        rw [← hRh.out] at hms
        have hmc := PM.count_le (PM.scanL rest)
        have hsj := PM.scan_join gs rest hF.out.2.2.2
        have hsjh := PM.hid hsj
        obtain ⟨M, hM⟩ : ∃ M, M = PM.scanL rest := ⟨_, rfl⟩
        rw [← hM] at ho5 hms hmc ⊢
        have hMh := PM.hid hM
        obtain ⟨ma, mc, hmv⟩ := ho5.rbl.len
        subst hmv
        obtain ⟨Q, hQe⟩ : ∃ Q, Q = PM.sizeL M := ⟨_, rfl⟩
        obtain ⟨K, hKe⟩ : ∃ K, K = M.length := ⟨_, rfl⟩
        rw [← hQe] at hms hmc ⊢
        rw [← hKe] at hmc ho5 ⊢
        have hQeh := PM.hid (And.intro hQe hKe)
        have oa := ho.keep hB5
        have sa := oa.bs
        have hC5 := hB.trans (hB5.mono hB.size)
        have sr := huh.out.keep hC5
        rw [← hRh.out] at sr
        have om := OW.made 5 w5
        have hal : Below w5.heap.size w5 (w5.alloc (.cells #[] 5)) := (Below.refl _ _).alloc (Nat.le_refl _) _
        have sa5 := sa.keep hal
        have hz5 := hal.size
        have hH := PM.hid (And.intro oa (And.intro (hg.keep hB5) (And.intro hC5 ho5)))
        have hjlh := PM.hid hF.out.2.2.1
        clear ho hg hB hB5 ho5 hsj hM hQe hKe oa sa hsc hQ hC5
        go_wp2_with (first
          | (at_builtin; refine PM.wpList_app bty w5.heap.size rfl _ _ rfl _ _ [] (PM.joinW gs) rfl rfl om sa5 ?_ hz5 ?_; (rw [hjlh.out]; have := hF.out.1; simp; omega); intro v6 w6 t1 t2 _; clear om sa5; have t3 := hal.trans t2; have sr6 := sr.keep t3; have hz6 := t3.size)
          | (at_builtin; refine PM.wpList_app bty w5.heap.size rfl _ _ rfl _ _ _ rest rfl rfl t1 sr6 ?_ hz6 ?_; (rw [List.length_append, hjlh.out, ← hRh.out]; have := hF.out.1; simp; omega); intro v7 w7 t4 t5 _; clear t1 sr6; have t6 := t3.trans t5))
        rw [List.nil_append] at t4
        refine (Scan_any _ _ w7 t4.bs (by rw [List.length_append, hjlh.out, ← hRh.out]; have := hF.out.1; omega)).mono ?_
        rintro e w8 ⟨v8, rfl, ho8, hB8⟩
        rw [hsjh.out, ← hMh.out] at ho8 ⊢
        obtain ⟨oa, hg, hC5, ho5⟩ := hH.out
        have hB58 := t6.trans (hB8.mono t6.size)
        have hC8 := hC5.trans (hB58.mono hC5.size)
        obtain ⟨vs, e1, e2, e3⟩ := hg.keep hB58
        obtain ⟨us, f1', f2, f3'⟩ := ho5.keep hB58
        have f1 := f1'.es
        have f3 : ∀ (i : Nat) (x : Value) (l : List UInt8), us[i]? = some x → M[i]? = some l → PM.BS w8 x l := fun i x l a b => (f3' i x l a b).bs
        have hwlt : ∀ k, (Value.slice ga G gc).ownBlock = some k → k < w7.heap.size := by
          obtain ⟨vs5, g1, _, _⟩ := hg
          exact fun k hk => Nat.lt_of_lt_of_le (g1.lt k hk).2 t6.size
        have hxr := ho8.rbl
        obtain ⟨xa8, xc8, hx8⟩ : ∃ a c, v8 = .slice a (G + K) c := by obtain ⟨a, c, e⟩ := hxr.len; exact ⟨a, c, by rw [e, List.length_append, ← hF.out.2.1, ← hQeh.out.2]⟩
        subst hx8
        have hsz8 : ((PM.sizeL (gs ++ M) : Nat) : Int) = ((S + Q : Nat) : Int) := by rw [PM.sizeL_app, ← hF.out.1, ← hQeh.out.1]
        rw [hsz8]
        have hvl : vs.length ≤ 5 := by have := hF.out.2.1; omega
        have hul : us.length ≤ 1000 := by have := hQeh.out.2; omega
        have hz8 := hC8.size
        have hone := PM.one_of f2 f3
        have hQQ := PM.hid (And.intro e1 (And.intro e2 (And.intro e3 (And.intro f1 (And.intro f2 (And.intro f3' (And.intro ho8 (And.intro hC8 hwlt))))))))
        clear ho8 oa hg hC5 ho5 t4 t5 t6 t3 t2 hB8 hB58 sr hal hz5 hz6 e2 e3 f2 f3 f1' f3' hxr hsz8 hC8 hH hwlt
        go_wp2_with (at_builtin; refine PM.wpList_es (e := PM.vid) btl w.heap.size rfl _ _ rfl _ _ vs us hone rfl rfl e1 f1 ?_ ?_ hz8 ?_; omega; (simp only [maxLen]; omega); intro v9 w9 r1 r2 r3 _; clear f1 hone)
        obtain ⟨_, e2, e3, f1, f2, f3', ho8, hC8, hwlt⟩ := hQQ.out
        have hC9 := hC8.trans r2
        have hx9 := (PM.OBL.kept_app tL ho8 e1 r3 hwlt).rbl
        have hy9 : PM.RBL w9 v9 (gs ++ M) := PM.RBL.app e2 (fun i x l a b => (e3 i x l a b).keep hC9) f2 (fun i x l a b => ((f3' i x l a b).kept tL e1 r3).bs) r1.es
        have hSm := RSame_any _ _ _ _ w9 hx9 hy9
        rw [decide_eq_true rfl] at hSm
        obtain ⟨ya, yc, hy⟩ := hy9.len
        subst hy
        have hC9h := PM.hid hC9
        clear e1 e2 e3 f2 f3' ho8 hC8 hwlt hC9 hx9 hy9 r1 r2 r3 hQQ f1
        have hsum : ((S : Int) + (Q : Int) == (S : Int) + (Q : Int)) = true := by simp
        have hle : (Q : Int) ≤ (R : Int) := by omega
        go_wp2_with (go_at_call 14; refine hSm.mono ?_; rintro e wa ⟨rfl, hBa⟩; have hBah := PM.hid hBa; clear hBa)
        go_ret
        exact ⟨rfl, PM.chain hC9h.out hBah.out⟩
end Go.Proofs.Ytpilgbiedbhpeaa
