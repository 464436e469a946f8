/-
  CONTRACTS OF postilionref05: One, Check, Is, Holds, Matches.
-/
import Derived.Test.YtnpbfjkfbobgaaaGreatIe
import Derived.Test.YtnpbfjkfbobgaaaGreatEA
namespace Go.Proofs.YtnpbfjkfbobgaaaGreat
open Go.RowKit
set_option linter.unusedVariables false
set_option maxHeartbeats 4000000 in
theorem ris_any (z : PM.Te) (k n : Int) (s : ByteArray) (hs : s.size ≤ maxLen) (hzs : z.s.size ≤ maxLen) (w : World) :
    Calls Tryz.prog 93 #[.agg #[.string z.name, .int .i64 z.op, .int .i64 z.k, .int .i64 z.n, .string z.s], .agg #[.int .i64 k, .int .i64 n, .string s]] w fun e w' => e = .returned (.bool (PM.isB z k n s)) ∧ Below w.heap.size w w' := by
  obtain ⟨g2, hg2⟩ : ∃ g, g = w.heap.size := ⟨_, rfl⟩
  obtain ⟨wa, hwa⟩ : ∃ W, W = w.alloc (.cells #[.string z.name, .int .i64 z.op, .int .i64 z.k, .int .i64 z.n, .string z.s] 50) := ⟨_, rfl⟩
  obtain ⟨g3, hg3⟩ : ∃ g, g = w.heap.size + 1 := ⟨_, rfl⟩
  obtain ⟨wb, hwb⟩ : ∃ W, W = wa.alloc (.cells #[.int .i64 k, .int .i64 n, .string s] 48) := ⟨_, rfl⟩
  have hBa : Below w.heap.size w wa := by rw [hwa]; exact (Below.refl _ _).alloc (Nat.le_refl _) _
  have hBb : Below wa.heap.size wa wb := by rw [hwb]; exact (Below.refl _ _).alloc (Nat.le_refl _) _
  have hsa : wa.heap.size = w.heap.size + 1 := by rw [hwa]; simp
  have hk2 : PM.BK wb g2 #[.string z.name, .int .i64 z.op, .int .i64 z.k, .int .i64 z.n, .string z.s] 50 := by
    have : PM.BK wa g2 #[.string z.name, .int .i64 z.op, .int .i64 z.k, .int .i64 z.n, .string z.s] 50 := by rw [hwa, hg2]; exact PM.BK.new _ _ _
    exact this.keep hBb
  have hk3 : PM.BK wb g3 #[.int .i64 k, .int .i64 n, .string s] 48 := by rw [hwb, hg3, ← hsa]; exact PM.BK.new _ _ _
  have hB0 := PM.hid (PM.chain hBa hBb)
  clear hBa hBb hsa
  go_enter Tryz.func93, Tryz.ntmps93
  go_upto_region 1 with fail
  rw [← hwa, ← hwb, ← hg3, ← hg2]
  clear hwa hwb hg3 hg2
  have c1 : wb.cell? ⟨g2, 1, none⟩ = some (.int .i64 z.op) := hk2.cell 1
  have c2 : wb.cell? ⟨g2, 2, none⟩ = some (.int .i64 z.k) := hk2.cell 2
  have c3 : wb.cell? ⟨g2, 3, none⟩ = some (.int .i64 z.n) := hk2.cell 3
  have c4 : wb.cell? ⟨g2, 4, none⟩ = some (.string z.s) := hk2.cell 4
  have v0 : wb.cell? ⟨g3, 0, none⟩ = some (.int .i64 k) := hk3.cell 0
  have v1 : wb.cell? ⟨g3, 1, none⟩ = some (.int .i64 n) := hk3.cell 1
  have v2 : wb.cell? ⟨g3, 2, none⟩ = some (.string s) := hk3.cell 2
  by_cases h8 : z.op = 8
  · have q8 : (z.op == 8) = true := by simpa using h8
    have hT : Hid (PM.isB z k n s = true) := PM.hid (by unfold PM.isB; rw [if_pos h8])
    clear h8 hk2 hk3
    go_wp2_with fail
    go_ret
    exact ⟨by rw [hT.out]; rfl, hB0.out⟩
  have q8 : (z.op == 8) = false := by simpa using h8
  by_cases hk : k = z.k
  case neg =>
    have qk : (k != z.k) = true := by simpa using hk
    have hT : Hid (PM.isB z k n s = false) := PM.hid (by unfold PM.isB; rw [if_neg h8, if_neg hk])
    clear h8 hk hk2 hk3
    go_wp2_with fail
    go_ret
    exact ⟨by rw [hT.out]; rfl, hB0.out⟩
  have qk : (k != z.k) = false := by simpa using hk
  have hIs : Hid (PM.isB z k n s = (let o := PM.ord k n s.data.toList z.k z.n z.s.data.toList
     if z.op = 1 then decide (o = 0) else if z.op = 2 then decide (o ≠ 0) else if z.op = 3 then decide (o < 0) else if z.op = 4 then decide (o ≤ 0) else if z.op = 5 then decide (0 < o) else if z.op = 6 then decide (0 ≤ o) else if z.op = 7 then PM.beg k s.data.toList z.k z.s.data.toList else false)) := PM.hid (by unfold PM.isB; rw [if_neg h8, if_pos hk])
  clear h8 hk
  go_wp2_with fail
  refine (rorder_any k n s z.k z.n z.s wb).mono ?_
  rintro e w3 ⟨rfl, hB3⟩
  have hk2' := hk2.keep hB3
  have hk3' := hk3.keep hB3
  have hB := PM.hid (PM.chain hB0.out hB3)
  clear hk2 hk3 hB0 hB3 c1 c2 c3 c4 v0 v1 v2
  have c1 : w3.cell? ⟨g2, 1, none⟩ = some (.int .i64 z.op) := hk2'.cell 1
  have c2 : w3.cell? ⟨g2, 2, none⟩ = some (.int .i64 z.k) := hk2'.cell 2
  have c3 : w3.cell? ⟨g2, 3, none⟩ = some (.int .i64 z.n) := hk2'.cell 3
  have c4 : w3.cell? ⟨g2, 4, none⟩ = some (.string z.s) := hk2'.cell 4
  have v0 : w3.cell? ⟨g3, 0, none⟩ = some (.int .i64 k) := hk3'.cell 0
  have v1 : w3.cell? ⟨g3, 1, none⟩ = some (.int .i64 n) := hk3'.cell 1
  have v2 : w3.cell? ⟨g3, 2, none⟩ = some (.string s) := hk3'.cell 2
  clear hk2' hk3'
  generalize PM.ord k n s.data.toList z.k z.n z.s.data.toList = o at *
  by_cases j1 : z.op = 1
  · have p1 : (z.op == 1) = true := by simpa using j1
    have hI : Hid (PM.isB z k n s = (o == 0)) := PM.hid (by rw [hIs.out]; simp only [j1]; first | rfl | (simp; done) | (rw [Bool.eq_iff_iff]; simp; done) | (by_cases h0 : o = 0 <;> simp [h0]))
    clear j1 
    go_wp2_with fail
    go_ret
    exact ⟨by rw [hI.out]; rfl, hB.out⟩
  by_cases j2 : z.op = 2
  · have p1 : (z.op == 1) = false := by rw [j2]; rfl
    have p2 : (z.op == 2) = true := by simpa using j2
    have hI : Hid (PM.isB z k n s = (o != 0)) := PM.hid (by rw [hIs.out]; simp only [j2]; first | rfl | (simp; done) | (rw [Bool.eq_iff_iff]; simp; done) | (by_cases h0 : o = 0 <;> simp [h0]))
    clear j2 j1
    go_wp2_with fail
    go_ret
    exact ⟨by rw [hI.out]; rfl, hB.out⟩
  by_cases j3 : z.op = 3
  · have p1 : (z.op == 1) = false := by rw [j3]; rfl
    have p2 : (z.op == 2) = false := by rw [j3]; rfl
    have p3 : (z.op == 3) = true := by simpa using j3
    have hI : Hid (PM.isB z k n s = (decide (o < 0))) := PM.hid (by rw [hIs.out]; simp only [j3]; first | rfl | (simp; done) | (rw [Bool.eq_iff_iff]; simp; done) | (by_cases h0 : o = 0 <;> simp [h0]))
    clear j3 j1 j2
    go_wp2_with fail
    go_ret
    exact ⟨by rw [hI.out]; rfl, hB.out⟩
  by_cases j4 : z.op = 4
  · have p1 : (z.op == 1) = false := by rw [j4]; rfl
    have p2 : (z.op == 2) = false := by rw [j4]; rfl
    have p3 : (z.op == 3) = false := by rw [j4]; rfl
    have p4 : (z.op == 4) = true := by simpa using j4
    have hI : Hid (PM.isB z k n s = (decide (o ≤ 0))) := PM.hid (by rw [hIs.out]; simp only [j4]; first | rfl | (simp; done) | (rw [Bool.eq_iff_iff]; simp; done) | (by_cases h0 : o = 0 <;> simp [h0]))
    clear j4 j1 j2 j3
    go_wp2_with fail
    go_ret
    exact ⟨by rw [hI.out]; rfl, hB.out⟩
  by_cases j5 : z.op = 5
  · have p1 : (z.op == 1) = false := by rw [j5]; rfl
    have p2 : (z.op == 2) = false := by rw [j5]; rfl
    have p3 : (z.op == 3) = false := by rw [j5]; rfl
    have p4 : (z.op == 4) = false := by rw [j5]; rfl
    have p5 : (z.op == 5) = true := by simpa using j5
    have hI : Hid (PM.isB z k n s = (decide (0 < o))) := PM.hid (by rw [hIs.out]; simp only [j5]; first | rfl | (simp; done) | (rw [Bool.eq_iff_iff]; simp; done) | (by_cases h0 : o = 0 <;> simp [h0]))
    clear j5 j1 j2 j3 j4
    go_wp2_with fail
    go_ret
    exact ⟨by rw [hI.out]; rfl, hB.out⟩
  by_cases j6 : z.op = 6
  · have p1 : (z.op == 1) = false := by rw [j6]; rfl
    have p2 : (z.op == 2) = false := by rw [j6]; rfl
    have p3 : (z.op == 3) = false := by rw [j6]; rfl
    have p4 : (z.op == 4) = false := by rw [j6]; rfl
    have p5 : (z.op == 5) = false := by rw [j6]; rfl
    have p6 : (z.op == 6) = true := by simpa using j6
    have hI : Hid (PM.isB z k n s = (decide (0 ≤ o))) := PM.hid (by rw [hIs.out]; simp only [j6]; first | rfl | (simp; done) | (rw [Bool.eq_iff_iff]; simp; done) | (by_cases h0 : o = 0 <;> simp [h0]))
    clear j6 j1 j2 j3 j4 j5
    go_wp2_with fail
    go_ret
    exact ⟨by rw [hI.out]; rfl, hB.out⟩
  by_cases j7 : z.op = 7
  · have p1 : (z.op == 1) = false := by rw [j7]; rfl
    have p2 : (z.op == 2) = false := by rw [j7]; rfl
    have p3 : (z.op == 3) = false := by rw [j7]; rfl
    have p4 : (z.op == 4) = false := by rw [j7]; rfl
    have p5 : (z.op == 5) = false := by rw [j7]; rfl
    have p6 : (z.op == 6) = false := by rw [j7]; rfl
    have p7 : (z.op == 7) = true := by simpa using j7
    have hI : Hid (PM.isB z k n s = PM.beg k s.data.toList z.k z.s.data.toList) := PM.hid (by rw [hIs.out]; simp [j7])
    clear j1 j2 j3 j4 j5 j6 j7
    go_wp2_with fail
    refine (rbegins_any k n s z.k z.n z.s w3 hs hzs).mono ?_
    rintro e w9 ⟨rfl, hB9⟩
    have hB99 := PM.hid (PM.chain hB.out hB9)
    clear hB9
    go_wp2_with fail
    go_ret
    exact ⟨by rw [hI.out]; rfl, hB99.out⟩
  have p1 : (z.op == 1) = false := by simpa using j1
  have p2 : (z.op == 2) = false := by simpa using j2
  have p3 : (z.op == 3) = false := by simpa using j3
  have p4 : (z.op == 4) = false := by simpa using j4
  have p5 : (z.op == 5) = false := by simpa using j5
  have p6 : (z.op == 6) = false := by simpa using j6
  have p7 : (z.op == 7) = false := by simpa using j7
  have hI : Hid (PM.isB z k n s = false) := PM.hid (by rw [hIs.out]; simp [j1, j2, j3, j4, j5, j6, j7])
  clear j1 j2 j3 j4 j5 j6 j7
  go_wp2_with fail
  go_ret
  exact ⟨by rw [hI.out]; rfl, hB.out⟩
set_option maxHeartbeats 2000000 in
theorem rholds_any (z : PM.Te) (hzs : z.s.size ≤ maxLen) (v : Value) (es : List PM.At) (w : World) (hv : PM.EV w v es) (hw : ∀ x ∈ es, x.s.size ≤ maxLen) :
    Calls Tryz.prog 80 #[.agg #[.string z.name, .int .i64 z.op, .int .i64 z.k, .int .i64 z.n, .string z.s], v] w fun e w' => e = .returned (.bool (PM.holdsB z es)) ∧ Below w.heap.size w w' := by
  obtain ⟨g2, hg2⟩ : ∃ g, g = w.heap.size := ⟨_, rfl⟩
  obtain ⟨wa, hwa⟩ : ∃ W, W = w.alloc (.cells #[.string z.name, .int .i64 z.op, .int .i64 z.k, .int .i64 z.n, .string z.s] 50) := ⟨_, rfl⟩
  have hBa : Below w.heap.size w wa := by rw [hwa]; exact (Below.refl _ _).alloc (Nat.le_refl _) _
  have hk2 : PM.BK wa g2 #[.string z.name, .int .i64 z.op, .int .i64 z.k, .int .i64 z.n, .string z.s] 50 := by rw [hwa, hg2]; exact PM.BK.new _ _ _
  have hva := hv.keep hBa
  go_enter Tryz.func80, Tryz.ntmps80
  go_upto_region 1 with fail
  rw [← hwa, ← hg2]
  clear hwa hg2 hv
  have c0 : wa.cell? ⟨g2, 0, none⟩ = some (.string z.name) := hk2.cell 0
  go_wp2_with fail
  refine (refind_any v z.name es wa hva).mono ?_
  rintro e w1 ⟨k, n, s, f, rfl, hF, hB1⟩
  have hk1 := hk2.keep hB1
  have hBB := PM.chain hBa hB1
  have hH := PM.hid (PM.found_holds hF)
  have hsm : s.size ≤ maxLen := by
    rcases hF with ⟨_, _, _, rfl, _⟩ | ⟨j, x, _, _, _, rfl, hx, _⟩
    · unfold maxLen; decide
    · exact hw x (List.mem_of_getElem? hx)
  clear hF hk2 hva c0 hBa hB1
  go_upto_region 2 with fail
  obtain ⟨g5, hg5⟩ : ∃ g, g = w1.heap.size := ⟨_, rfl⟩
  obtain ⟨w5, hw5⟩ : ∃ W, W = w1.alloc (.cells #[.int .i64 k, .int .i64 n, .string s] 48) := ⟨_, rfl⟩
  have hal : Below w1.heap.size w1 w5 := by rw [hw5]; exact (Below.refl _ _).alloc (Nat.le_refl _) _
  have hk5 : PM.BK w5 g5 #[.int .i64 k, .int .i64 n, .string s] 48 := by rw [hw5, hg5]; exact PM.BK.new _ _ _
  replace hk1 := hk1.keep hal
  have hBh := PM.hid (PM.chain hBB hal)
  rw [← hw5, ← hg5]
  clear hw5 hg5 hal hBB
  have c0 : w5.cell? ⟨g2, 0, none⟩ = some (.string z.name) := hk1.cell 0
  have c1 : w5.cell? ⟨g2, 1, none⟩ = some (.int .i64 z.op) := hk1.cell 1
  have c2 : w5.cell? ⟨g2, 2, none⟩ = some (.int .i64 z.k) := hk1.cell 2
  have c3 : w5.cell? ⟨g2, 3, none⟩ = some (.int .i64 z.n) := hk1.cell 3
  have c4 : w5.cell? ⟨g2, 4, none⟩ = some (.string z.s) := hk1.cell 4
  have d0 : w5.cell? ⟨g5, 0, none⟩ = some (.int .i64 k) := hk5.cell 0
  have d1 : w5.cell? ⟨g5, 1, none⟩ = some (.int .i64 n) := hk5.cell 1
  have d2 : w5.cell? ⟨g5, 2, none⟩ = some (.string s) := hk5.cell 2
  clear hk1 hk5
  cases f
  · have hf : Hid (PM.holdsB z es = false) := PM.hid (by rcases hH.out with ⟨_, h⟩ | ⟨h, _⟩; exact h; cases h)
    go_wp2_with fail
    go_ret
    exact ⟨by rw [hf.out]; rfl, hBh.out⟩
  · have hf : Hid (PM.holdsB z es = PM.isB z k n s) := PM.hid (by rcases hH.out with ⟨h, _⟩ | ⟨_, h⟩; cases h; exact h)
    go_wp2_with fail
    refine (ris_any z k n s hsm hzs w5).mono ?_
    rintro e w6 ⟨rfl, hB6⟩
    have hB6h := PM.hid (PM.chain hBh.out hB6)
    clear hB6 c0 c1 c2 c3 c4 d0 d1 d2
    go_wp2_with fail
    go_ret
    exact ⟨by rw [hf.out]; rfl, hB6h.out⟩
set_option maxHeartbeats 2000000 in
theorem rmatches_any (u : Value) (l : List PM.Te) (v : Value) (es : List PM.At) (w : World) (hu : PM.TV w u l) (hv : PM.EV w v es) (hw : ∀ x ∈ es, x.s.size ≤ maxLen) (hwu : ∀ x ∈ l, x.s.size ≤ maxLen) :
    Calls Tryz.prog 71 #[u, v] w fun e w' => e = .returned (.bool (PM.matchB l es)) ∧ Below w.heap.size w w' := by
  obtain ⟨ad, cap, rfl, hcap, hmax, hel⟩ := hu
  unfold maxLen at hmax
  obtain ⟨L, hL⟩ : ∃ L, L = l.length := ⟨_, rfl⟩
  have hLh := PM.hid hL
  rw [← hL] at hcap ⊢
  have helh := PM.hid hel
  have hvh := PM.hid hv
  clear hel hL hv
  go_enter Tryz.func71, Tryz.ntmps71
  go_wp2_with fail
  go_loopw [5] (fun i wr => ∃ k : Nat, i = .int .i64 k ∧ k ≤ L ∧ (∀ (j : Nat) z, j < k → l[j]? = some z → PM.holdsB z es = true) ∧ Below w.heap.size w wr) (fun i _ => L - (intOf i).toNat)
  case atStart => exact ⟨0, rfl, by omega, fun j z hj => absurd hj (by omega), Below.refl _ _⟩
  case round =>
    obtain ⟨k, rfl, hk, hall, hB⟩ := hrel
    by_cases hlt : k < L
    · obtain ⟨z, hz⟩ : ∃ z, l[k]? = some z := ⟨l[k]'(by rw [← hLh.out]; exact hlt), List.getElem?_eq_getElem _⟩
      obtain ⟨b, off, rfl, hce⟩ := helh.out (by rw [← hLh.out]; omega)
      have hli := hce k z hz
      have d0 := PM.cellA hB (hli 0 _ rfl)
      have d1 := PM.cellA hB (hli 1 _ rfl)
      have d2 := PM.cellA hB (hli 2 _ rfl)
      have d3 := PM.cellA hB (hli 3 _ rfl)
      have d4 := PM.cellA hB (hli 4 _ rfl)
      rw [Nat.add_zero] at d0
      have hin := PM.hid (And.intro hz (And.intro hall hB))
      clear hz hce hli hall hB
      go_wp2_with fail
      clear d0 d1 d2 d3 d4
      refine (rholds_any z (hwu z (List.mem_of_getElem? hin.out.1)) v es wr (hvh.out.keep hin.out.2.2) hw).mono ?_
      rintro e w2 ⟨rfl, hB2⟩
      have hB3 := PM.hid (PM.chain hin.out.2.2 hB2)
      clear hB2
      cases hh : PM.holdsB z es
      · have hhh := PM.hid hh
        have hT : Hid (PM.matchB l es = false) := PM.hid (by
          unfold PM.matchB
          rw [List.all_eq_false]
          exact ⟨z, List.mem_of_getElem? hin.out.1, by rw [hh]; simp⟩)
        clear hh
        go_wp2_with fail
        go_ret
        exact ⟨by rw [hT.out]; rfl, hB3.out⟩
      · have hhh := PM.hid hh
        clear hh
        go_wp2_with fail
        refine ⟨⟨k + 1, by go_num, by omega, fun j x hj hx => ?_, hB3.out⟩, by simp only [intOf]; omega⟩
        by_cases hjk : j < k
        · exact hin.out.2.1 j x hjk hx
        · obtain rfl : j = k := by omega
          have := hin.out.1
          rw [hx] at this
          injection this with this
          subst this
          exact hhh.out
    · have hkL : k = L := by omega
      subst hkL
      have hT : Hid (PM.matchB l es = true) := PM.hid (by
        unfold PM.matchB
        rw [List.all_eq_true]
        intro x hx
        obtain ⟨i, hi⟩ := List.mem_iff_getElem?.1 hx
        exact hall i x (by rw [hLh.out]; exact (List.getElem?_eq_some_iff.1 hi).1) hi)
      have hBh := PM.hid hB
      clear hall hB
      go_wp2_with fail
      go_ret
      exact ⟨by rw [hT.out]; rfl, hBh.out⟩
end Go.Proofs.YtnpbfjkfbobgaaaGreat
