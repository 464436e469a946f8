/-
  THE WALKS OF LAYER 12's STATEMENTS: ways.
-/
import Derived.Test.YtmlgiifebbigeaaTw
namespace Go.Proofs.Ytmlgiifebbigeaa
open Go.RowKit
set_option linter.unusedVariables false
theorem way_drop {l : List Int} (h : PM.Tr l) {n : Nat} (hn : n < l.length) : ∀ (i m x : Nat), m < l.length → (PM.way l m n)[i]? = some x → x < l.length ∧ PM.way l x n = (PM.way l m n).drop i := by
  intro i
  induction i with
  | zero =>
    intro m x hm hx
    obtain ⟨r, hr⟩ := h.way_head hm hn
    rw [hr] at hx
    simp at hx
    subst hx
    exact ⟨hm, rfl⟩
  | succ i ih =>
    intro m x hm hx
    by_cases hmn : m = n
    · subst hmn
      rw [PM.way_same] at hx
      simp at hx
    · obtain ⟨s, hs, hw, _⟩ := h.way_step m n hm hn hmn
      rw [hw] at hx ⊢
      simp only [List.getElem?_cons_succ, List.drop_succ_cons] at hx ⊢
      exact ih s x hs hx
theorem way_next {l : List Int} (h : PM.Tr l) {n m : Nat} (hm : m < l.length) (hn : n < l.length) (i x y : Nat) (hx : (PM.way l m n)[i]? = some x) (hy : (PM.way l m n)[i + 1]? = some y) :
    x < l.length ∧ y < l.length ∧ x ≠ n ∧ (∃ r, PM.way l x n = x :: y :: r) ∧ (l.getD y 0 = x ∨ l.getD x 0 = y) := by
  obtain ⟨h1, h2⟩ := way_drop h hn i m x hm hx
  obtain ⟨h3, h4⟩ := way_drop h hn (i + 1) m y hm hy
  have hl : i + 1 < (PM.way l m n).length := (List.getElem?_eq_some_iff.1 hy).1
  have hxn : x ≠ n := by
    intro e
    subst e
    rw [PM.way_same] at h2
    have := congrArg List.length h2
    simp at this
    omega
  obtain ⟨s, hs, hw, hp⟩ := h.way_step x n h1 hn hxn
  have e1 : PM.way l s n = (PM.way l m n).drop (i + 1) := by
    rw [h2] at hw
    have := congrArg List.tail hw
    simpa using this.symm
  obtain ⟨r, hr⟩ := h.way_head hs hn
  have e2 : s = y := by
    rw [hr] at e1
    have : ((PM.way l m n).drop (i + 1))[0]? = some y := by rw [List.getElem?_drop]; exact hy
    rw [← e1] at this
    simpa using this
  subst e2
  exact ⟨h1, h3, hxn, ⟨r, by rw [hw, hr]⟩, hp⟩
theorem Way_cells (bb off cap : Nat) (l : List Int) (m n L : Nat) (w : World) (h : PT w bb off cap l) (hm : m < l.length) (hn : n < l.length) (hL : L = (PM.way l m n).length) :
    Calls Try.prog 11 #[.slice (some ⟨bb, off, none⟩) l.length cap, .int .i64 m, .int .i64 n] w fun e w' => ∃ xb xo xc, e = .returned (.tuple #[.slice (some ⟨xb, xo, none⟩) L xc, .int .i64 0]) ∧ L ≤ xc ∧ xc ≤ 9223372036854775807 ∧ (∀ (k x : Nat), (PM.way l m n)[k]? = some x → w'.cell? ⟨xb, xo + k, none⟩ = some (.int .i64 x)) ∧ xb < w'.heap.size ∧ Below w.heap.size w w' := by
  refine (Way_any bb off cap l m n w h hm hn).mono ?_
  rintro e w3 ⟨v, rfl, ho, hB3⟩
  obtain ⟨r, hhd⟩ := h.1.way_head hm hn
  obtain ⟨xb, xo, xc, rfl, hx1, hx2, hx3⟩ := ho.es.open1 (by rw [hhd]; simp)
  rw [List.length_map, ← hL] at hx1 ⊢
  have hc : ∀ (k x : Nat), (PM.way l m n)[k]? = some x → w3.cell? ⟨xb, xo + k, none⟩ = some (.int .i64 x) := fun k x hk => hx3 k x (by rw [List.getElem?_map, hk]; rfl)
  exact ⟨xb, xo, xc, rfl, hx1, hx2, hc, World.block_lt_of_cell? w3 _ (hc 0 m (by rw [hhd]; rfl)), hB3⟩
/-- which ones have been seen -/
def seenA (Wy : List Nat) (i : Nat) : Array Value := ((List.range 16).map fun x : Nat => Value.bool (decide (x ∈ Wy.take i))).toArray
def Seen (Wy : List Nat) (i : Nat) (w : World) (b : Nat) (T : TypeId) : Prop := w.heap[b]? = some (.cells (seenA Wy i) T (0, 0))
theorem Seen.start (Wy : List Nat) (w : World) (T : TypeId) : Seen Wy 0 (w.alloc (.cells #[.bool false, .bool false, .bool false, .bool false, .bool false, .bool false, .bool false, .bool false, .bool false, .bool false, .bool false, .bool false, .bool false, .bool false, .bool false, .bool false] T)) w.heap.size T := by
  unfold Seen
  rw [World.alloc_heap_new]
  rfl
theorem Seen.keep {Wy : List Nat} {i b : Nat} {w w' : World} {T : TypeId} (h : Seen Wy i w b T) (hb : Below w.heap.size w w') : Seen Wy i w' b T := by
  unfold Seen at *
  rw [hb.block b (Array.getElem?_eq_some_iff.1 h).1]
  exact h
theorem Seen.at_new {Wy : List Nat} {i z b : Nat} {w : World} {T : TypeId} (h : Seen Wy i w b T) (hnd : Wy.Nodup) (hz : Wy[i]? = some z) (hl : z < 16) : w.cell? ⟨b, z, none⟩ = some (.bool false) ∧ w.frozen? ⟨b, z, none⟩ = false := by
  unfold Seen at h
  have hni : z ∉ Wy.take i := by
    intro hm
    obtain ⟨j, hj⟩ := List.mem_iff_getElem?.1 hm
    have hjl : j < i := by
      have := (List.getElem?_eq_some_iff.1 hj).1
      simp at this
      omega
    rw [List.getElem?_take_of_lt hjl] at hj
    obtain ⟨h1, e1⟩ := List.getElem?_eq_some_iff.1 hj
    obtain ⟨h2, e2⟩ := List.getElem?_eq_some_iff.1 hz
    exact (List.pairwise_iff_getElem.1 hnd) j i h1 h2 hjl (e1.trans e2.symm)
  constructor
  · simp only [World.cell?, h, seenA]
    simp [hl, hni]
  · simp [World.frozen?, h]
theorem Seen.set {Wy : List Nat} {i z b : Nat} {w : World} {T : TypeId} (h : Seen Wy i w b T) (hz : Wy[i]? = some z) (hl : z < 16) : Seen Wy (i + 1) (w.setCell ⟨b, z, none⟩ (.bool true)) b T := by
  unfold Seen at *
  show (w.heap.modify b _)[b]? = _
  rw [Array.getElem?_modify, if_pos rfl, h]
  have hil := (List.getElem?_eq_some_iff.1 hz).1
  have e : (seenA Wy i).setIfInBounds z (.bool true) = seenA Wy (i + 1) := by
    apply Array.ext
    · simp [seenA]
    · intro k h1 h2
      have ht : Wy.take (i + 1) = Wy.take i ++ [z] := by
        rw [List.take_add_one, hz]; rfl
      by_cases hk : z = k
      · subst hk; simp [seenA, ht]
      · simp [seenA, ht, hk, Ne.symm hk]
  simp [e]
set_option maxRecDepth 100000 in
set_option maxHeartbeats 4000000 in
theorem treeWays_walk (v : Value) (l : List Int) (a : Int) (b : Int) (wa : (Lit.int .i64 a).wf = true) (wb : (Lit.int .i64 b).wf = true) (w : World) (h : PM.ES PM.iv w v l) :
    Calls Try.prog 4 #[v, .int .i64 a, .int .i64 b] w fun e w' => e = .returned (.bool true) ∧ Below w.heap.size w w' := by
  clear wa wb
  have hbd := h.bound
  by_cases g1 : (100 : Int) < l.length
  · obtain ⟨va, vc, rfl⟩ := h.len
    clear h
    go_enter Try.func4, Try.ntmps4
    go_wp2_with (go_at_call 9; refine (awake12 _).mono ?_; rintro e w1 ⟨rfl, hb⟩)
    go_ret
    exact ⟨rfl, hb⟩
  · rcases es_tree v l w h with ⟨e1, _⟩ | ⟨e1, bb, off, cap, rfl, hP⟩
    · obtain ⟨va, vc, rfl⟩ := h.len
      go_enter Try.func4, Try.ntmps4
      go_wp2_with fail
      refine (awake12 _).mono ?_
      rintro e w1 ⟨rfl, hb⟩
      have hC := Check_es _ l w1 (h.keep hb)
      rw [e1] at hC
      have hb' := PM.hid hb
      clear hb h
      go_wp2_with (go_at_call 10; refine hC.mono ?_; rintro e w2 ⟨rfl, rfl⟩)
      go_ret
      exact ⟨rfl, hb'.out⟩
    · clear h e1
      have ht := hP.1
      have hpos := ht.pos
      have hle := ht.le
      by_cases hab : 0 ≤ a ∧ a < l.length ∧ 0 ≤ b ∧ b < l.length
      · obtain ⟨m, rfl⟩ : ∃ m : Nat, a = m := ⟨a.toNat, by omega⟩
        obtain ⟨n, rfl⟩ : ∃ n : Nat, b = n := ⟨b.toNat, by omega⟩
        have hm : m < l.length := by omega
        have hn : n < l.length := by omega
        have hlen := ht.way_len hm hn
        obtain ⟨r, hhd⟩ := ht.way_head hm hn
        obtain ⟨r', hlast⟩ := ht.way_last hm hn
        have hrev := ht.way_rev m n hm hn
        have hnd := ht.way_nodup m n hm hn
        obtain ⟨L, hL⟩ : ∃ L, L = (PM.way l m n).length := ⟨_, rfl⟩
        have hL2 : L = (PM.way l n m).length := by rw [← hrev, List.length_reverse]; exact hL
        have hL0 : 0 < L := by rw [hL, hhd]; simp
        have hfst : (PM.way l m n)[0]? = some m := by rw [hhd]; rfl
        have hlst : (PM.way l m n)[L - 1]? = some n := by rw [hL, hlast]; simp
        have hback : ∀ k x, k < L → (PM.way l m n)[k]? = some x → (PM.way l n m)[L - 1 - k]? = some x := fun k x hk hx => by
          rw [← hrev, List.getElem?_reverse (by omega), ← hL, show L - 1 - (L - 1 - k) = k by omega]; exact hx
        have hlen' : L ≤ 31 := by omega
        have hF := PM.hid (And.intro hback (And.intro hnd (And.intro hL (And.intro hfst hlst))))
        clear hlen hhd hlast hrev hnd hback hfst hlst hbd
        go_enter Try.func4, Try.ntmps4
        go_wp2_with fail
        refine (awake12 _).mono ?_
        rintro e w1 ⟨rfl, hb⟩
        have hC := Check_ok bb off cap l w1 (hP.keep hb)
        have hP1 := PM.hid (hP.keep hb)
        have hb' := PM.hid hb
        have hT := PM.hid ht
        clear hb hP ht
        have hW := Way_cells bb off cap l m n L w1 hP1.out hm hn hL
        have hLh := PM.hid hL
        have hL2h := PM.hid hL2
        clear hL hL2
        go_wp2_with (go_at_call 10; refine hC.mono ?_; rintro e w2 ⟨rfl, rfl⟩)
        refine hW.mono ?_
        rintro e w3 ⟨xb, xo, xc, rfl, hx1, hx2, hx3, hxb, hB3⟩
        have hP3 := PM.hid (hP1.out.keep hB3)
        have hb3 := PM.hid (PM.chain hb'.out hB3)
        have hx3h := PM.hid hx3
        have hxbh := PM.hid hxb
        clear hB3 hP1 hb' hW hC hx3 hxb
        go_wp2_with fail
        refine (Way_cells bb off cap l n m L w3 hP3.out hn hm hL2h.out).mono ?_
        rintro e w4 ⟨yb, yo, yc, rfl, hy1, hy2, hy3, hyb, hB4⟩
        have hP4 := PM.hid (hP3.out.keep hB4)
        have hb4 := PM.hid (PM.chain hb3.out hB4)
        have hxc : ∀ (k x : Nat), (PM.way l m n)[k]? = some x → w4.cell? ⟨xb, xo + k, none⟩ = some (.int .i64 x) := fun k x hk => PM.cellB hB4 (hx3h.out k x hk)
        have hyc : ∀ (k x : Nat), k < L → (PM.way l m n)[k]? = some x → w4.cell? ⟨yb, yo + (L - 1 - k), none⟩ = some (.int .i64 x) := fun k x hk hx => hy3 _ _ (hF.out.1 k x hk hx)
        have hxb4 : xb < w4.heap.size := Nat.lt_of_lt_of_le hxbh.out hB4.size
        have hxy := PM.hid (And.intro hxc (And.intro hyc (And.intro hxb4 hyb)))
        have c0 : w4.cell? ⟨xb, xo, none⟩ = some (.int .i64 m) := hxc 0 m hF.out.2.2.2.1
        have c1 : w4.cell? ⟨xb, xo + (L - 1), none⟩ = some (.int .i64 n) := hxc (L - 1) n hF.out.2.2.2.2
        have hg0 : ((L : Int) == 0) = false := beq_eq_false_iff_ne.2 (by omega)
        have hLi : (L : Int) - 1 = ((L - 1 : Nat) : Int) := by omega
        clear hB4 hP3 hb3 hx3h hxbh hy3 hyb hxc hyc hxb4
        go_wp2
        clear c0 c1
        go_loopw [13] (fun x wr => ∃ i : Nat, x = .int .i64 i ∧ i ≤ L ∧ Seen (PM.way l m n) i wr w4.heap.size 28 ∧ Below w4.heap.size w4 wr) (fun x _ => L - (intOf x).toNat)
        case atStart => exact ⟨0, rfl, by omega, Seen.start _ _ _, (Below.refl _ _).alloc (Nat.le_refl _) _⟩
        case round =>
          obtain ⟨i, rfl, hi, hsn, hB⟩ := hrel
          by_cases hlt : i < L
          · obtain ⟨hback, hnd, hL, hfa, hfb⟩ := hF.out
            obtain ⟨hxc, hyc, hxb, hyb⟩ := hxy.out
            obtain ⟨z, hz⟩ : ∃ z, (PM.way l m n)[i]? = some z := ⟨(PM.way l m n)[i]'(by omega), List.getElem?_eq_getElem _⟩
            have hzl := (way_drop hT.out hn i m z hm hz).1
            have c0 := PM.cellB hB (hxc i z hz)
            have c1 := PM.cellB hB (hyc i z hlt hz)
            obtain ⟨sc, sf⟩ := hsn.at_new hnd hz (by omega)
            have hBr := PM.hid hB
            have hBs := PM.hid (hB.setCell (p := ⟨w4.heap.size, z, none⟩) (Nat.le_refl _) (.bool true))
            have hsn2 := PM.hid (hsn.set hz (by omega))
            have e1 : ((L - 1 : Nat) : Int) - (i : Int) = ((L - 1 - i : Nat) : Int) := by omega
            have g2 : ¬ ((l.length : Int) ≤ (z : Int)) := by omega
            have hz2 := PM.hid hz
            clear hback hnd hL hxc hyc hxb hyb hsn hB hz hfa hfb
            by_cases hi0 : i = 0
            · subst hi0
              have c0' : wr.cell? ⟨xb, xo, none⟩ = some (.int .i64 z) := c0
              have c1' : wr.cell? ⟨yb, yo + (L - 1), none⟩ = some (.int .i64 z) := c1
              clear c0 c1 e1
              go_wp2
              exact ⟨⟨1, by go_num, by omega, hsn2.out, hBs.out⟩, by simp only [intOf]; omega⟩
            · obtain ⟨j, hj⟩ : ∃ j, i = j + 1 := ⟨i - 1, by omega⟩
              have hji : (i : Int) - 1 = (j : Int) := by omega
              obtain ⟨x, hx⟩ : ∃ x, (PM.way l m n)[j]? = some x := ⟨(PM.way l m n)[j]'(by have := hF.out.2.2.1; omega), List.getElem?_eq_getElem _⟩
              obtain ⟨f1, f2, f3, ⟨r, f4⟩, f5⟩ := way_next hT.out hm hn j x z hx (by rw [← hj]; exact hz2.out)
              have hPs := hP4.out.keep hBs.out
              have hSt := Step_any bb off cap l x n z r _ hPs f1 hn f3 f4
              have d0 := PM.cellB hBr.out (hxy.out.1 j x hx)
              have hne : ¬ xb = w4.heap.size := by have := hxy.out.2.2.1; omega
              have gi : ((i : Int) == 0) = false := beq_eq_false_iff_ne.2 (by omega)
              have f4h := PM.hid f4
              have hjh := PM.hid hj
              have hxh := PM.hid hx
              clear hx f4 hPs hj hi0
              go_wp2_with (go_at_call 12; refine hSt.mono ?_; rintro e w6 ⟨rfl, hB6⟩)
              have hB46 := PM.hid (hBs.out.trans (hB6.mono hBs.out.size))
              have hsn6 := PM.hid (hsn2.out.keep hB6)
              have p1 := (hP4.out.keep hB46.out).2.2.2 z hzl
              have p2 := (hP4.out.keep hB46.out).2.2.2 x f1
              have p3 := PM.cellB hB46.out (hxy.out.1 j x hxh.out)
              have hcp := hP4.out.2.1
              have hcm := hP4.out.2.2.1
              simp only [maxLen] at hcm
              clear hB6 hSt c0 c1 sc sf d0
              generalize l.getD z 0 = pz at *
              generalize l.getD x 0 = px at *
              by_cases hpz : pz = x
              · subst hpz
                go_region
                all_goals go_wp2
                all_goals exact ⟨⟨i + 1, by go_num, by omega, hsn6.out.keep ((Below.refl _ _).drew), hB46.out.drew⟩, by simp only [intOf]; omega⟩
              · have hpz' : (pz != x) = true := by simpa using hpz
                obtain rfl : px = z := by omega
                go_region
                all_goals go_wp2
                all_goals exact ⟨⟨i + 1, by go_num, by omega, hsn6.out.keep ((Below.refl _ _).drew), hB46.out.drew⟩, by simp only [intOf]; omega⟩
          · have : i = L := by omega
            subst this
            have hbr := PM.hid (PM.chain hb4.out hB)
            clear hsn hB
            go_wp2
            go_ret
            exact ⟨rfl, hbr.out⟩
      · skip
        go_enter Try.func4, Try.ntmps4
        go_wp2_with fail
        refine (awake12 _).mono ?_
        rintro e w1 ⟨rfl, hb⟩
        have hC := Check_ok bb off cap l w1 (hP.keep hb)
        have hP1 := PM.hid (hP.keep hb)
        have hb' := PM.hid hb
        have hT := PM.hid ht
        clear hb hP ht
        have hW1 := Way_bad bb off cap l a b w1 hP1.out (by omega)
        go_wp2_with (go_at_call 10; refine hC.mono ?_; rintro e w2 ⟨rfl, rfl⟩)
        refine hW1.mono ?_
        rintro e w3 ⟨rfl, rfl⟩
        have hW2 := Way_bad bb off cap l b a w3 hP1.out (by omega)
        clear hW1
        go_wp2_with fail
        refine hW2.mono ?_
        rintro e w4 ⟨rfl, rfl⟩
        clear hW2 hP1
        by_cases q1 : a < 0
        · go_wp2
          go_ret
          exact ⟨rfl, hb'.out⟩
        by_cases q2 : b < 0
        · go_wp2
          go_ret
          exact ⟨rfl, hb'.out⟩
        by_cases q3 : (l.length : Int) ≤ a
        · go_wp2
          go_ret
          exact ⟨PM.ret_b (by simp), hb'.out⟩
        have q4 : (l.length : Int) ≤ b := by omega
        go_wp2
        go_ret
        exact ⟨PM.ret_b (by simp), hb'.out⟩
end Go.Proofs.Ytmlgiifebbigeaa
