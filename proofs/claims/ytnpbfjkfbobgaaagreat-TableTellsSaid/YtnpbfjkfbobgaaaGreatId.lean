/-
  CONTRACT OF filter.Is.
-/
import Derived.Test.YtnpbfjkfbobgaaaGreatIB
import Derived.Test.YtnpbfjkfbobgaaaGreatR0
namespace Go.Proofs.YtnpbfjkfbobgaaaGreat
open Go.RowKit
set_option linter.unusedVariables false
theorem zeroF (w : World) : (zeroValue 32).run Tryz.prog w = .ok .nilFunc w := by kernel_rfl
theorem neF (f : Fn) (c b : Array Value) (w : World) : (binOp .neq 32 (.func f c b) .nilFunc).run Tryz.prog w = .ok (.bool true) w := by kernel_rfl
theorem neN (w : World) : (binOp .neq 32 .nilFunc .nilFunc).run Tryz.prog w = .ok (.bool false) w := by kernel_rfl
theorem ask1 (p : Nat) (o : Int) (w : World) (h : PM.BK w p #[.int .i64 o] 3) : Calls Tryz.prog 107 #[.pointer (some ⟨p, 0, none⟩)] w fun e w' => e = .returned (.bool (o == 0)) ∧ w = w' := by
  have c0 := h.cell 0
  go_enter Tryz.func107, Tryz.ntmps107
  go_wp2
  go_ret
  exact ⟨rfl, rfl⟩
theorem ask2 (p : Nat) (o : Int) (w : World) (h : PM.BK w p #[.int .i64 o] 3) : Calls Tryz.prog 108 #[.pointer (some ⟨p, 0, none⟩)] w fun e w' => e = .returned (.bool (o != 0)) ∧ w = w' := by
  have c0 := h.cell 0
  go_enter Tryz.func108, Tryz.ntmps108
  go_wp2
  go_ret
  exact ⟨rfl, rfl⟩
theorem ask3 (p : Nat) (o : Int) (w : World) (h : PM.BK w p #[.int .i64 o] 3) : Calls Tryz.prog 109 #[.pointer (some ⟨p, 0, none⟩)] w fun e w' => e = .returned (.bool (decide (o < 0))) ∧ w = w' := by
  have c0 := h.cell 0
  go_enter Tryz.func109, Tryz.ntmps109
  go_wp2
  go_ret
  exact ⟨rfl, rfl⟩
theorem ask4 (p : Nat) (o : Int) (w : World) (h : PM.BK w p #[.int .i64 o] 3) : Calls Tryz.prog 110 #[.pointer (some ⟨p, 0, none⟩)] w fun e w' => e = .returned (.bool (decide (o ≤ 0))) ∧ w = w' := by
  have c0 := h.cell 0
  go_enter Tryz.func110, Tryz.ntmps110
  go_wp2
  go_ret
  exact ⟨rfl, rfl⟩
theorem ask5 (p : Nat) (o : Int) (w : World) (h : PM.BK w p #[.int .i64 o] 3) : Calls Tryz.prog 111 #[.pointer (some ⟨p, 0, none⟩)] w fun e w' => e = .returned (.bool (decide (0 < o))) ∧ w = w' := by
  have c0 := h.cell 0
  go_enter Tryz.func111, Tryz.ntmps111
  go_wp2
  go_ret
  exact ⟨rfl, rfl⟩
theorem ask6 (p : Nat) (o : Int) (w : World) (h : PM.BK w p #[.int .i64 o] 3) : Calls Tryz.prog 112 #[.pointer (some ⟨p, 0, none⟩)] w fun e w' => e = .returned (.bool (decide (0 ≤ o))) ∧ w = w' := by
  have c0 := h.cell 0
  go_enter Tryz.func112, Tryz.ntmps112
  go_wp2
  go_ret
  exact ⟨rfl, rfl⟩
set_option maxHeartbeats 1000000 in
theorem ask7 (a b : Nat) (k n : Int) (s : ByteArray) (k' n' : Int) (s' : ByteArray) (w : World) (h1 : PM.BK w a #[.int .i64 k, .int .i64 n, .string s] 48) (h2 : PM.BK w b #[.int .i64 k', .int .i64 n', .string s'] 48) :
    Calls Tryz.prog 113 #[.pointer (some ⟨a, 0, none⟩), .pointer (some ⟨b, 0, none⟩)] w fun e w' => e = .returned (.bool (PM.beg k s.data.toList k' s'.data.toList)) ∧ Below w.heap.size w w' := by
  have c0 : w.cell? ⟨a, 0, none⟩ = some (.int .i64 k) := h1.cell 0
  have c1 : w.cell? ⟨a, 1, none⟩ = some (.int .i64 n) := h1.cell 1
  have c2 : w.cell? ⟨a, 2, none⟩ = some (.string s) := h1.cell 2
  have d0 : w.cell? ⟨b, 0, none⟩ = some (.int .i64 k') := h2.cell 0
  have d1 : w.cell? ⟨b, 1, none⟩ = some (.int .i64 n') := h2.cell 1
  have d2 : w.cell? ⟨b, 2, none⟩ = some (.string s') := h2.cell 2
  clear h1 h2
  go_enter Tryz.func113, Tryz.ntmps113
  go_wp2_with fail
  refine (begins_any k n s k' n' s' _).mono ?_
  rintro e w1 ⟨rfl, hB⟩
  have hBh := PM.hid hB
  clear hB c0 c1 c2 d0 d1 d2
  go_wp2_with fail
  go_ret
  exact ⟨rfl, hBh.out⟩
namespace PM
/-- what asks hands back -/
def AskAt (k n : Int) (s : ByteArray) (k' n' : Int) (s' : ByteArray) (x : Value) (W : World) : Prop :=
  ∃ g p a b, x = .map (some g) ∧ IM W g (askL p a b) ∧ Boxes W p a b (ord k n s.data.toList k' n' s'.data.toList) k n s k' n' s'
/-- what its map holds of an op -/
def AskF (op k n : Int) (s : ByteArray) (k' n' : Int) (s' : ByteArray) (x : Value) (W : World) : Prop :=
  ∃ p a b, Boxes W p a b (ord k n s.data.toList k' n' s'.data.toList) k n s k' n' s' ∧ x = (lookI op (askL p a b)).getD .nilFunc
theorem AskAt.keep {k n : Int} {s : ByteArray} {k' n' : Int} {s' : ByteArray} {x : Value} {W w : World} (hb : Below W.heap.size W w) (h : AskAt k n s k' n' s' x W) : AskAt k n s k' n' s' x w := by
  obtain ⟨g, p, a, b, h1, h2, h3⟩ := h
  exact ⟨g, p, a, b, h1, h2.keep hb, h3.keep hb⟩
theorem AskF.keep {op k n : Int} {s : ByteArray} {k' n' : Int} {s' : ByteArray} {x : Value} {W w : World} (hb : Below W.heap.size W w) (h : AskF op k n s k' n' s' x W) : AskF op k n s k' n' s' x w := by
  obtain ⟨p, a, b, h1, h2⟩ := h
  exact ⟨p, a, b, h1.keep hb, h2⟩
end PM
set_option maxRecDepth 100000 in
set_option maxHeartbeats 4000000 in
theorem is_any (z : PM.Te) (k n : Int) (s : ByteArray) (w : World) :
    Calls Tryz.prog 98 #[.agg #[.string z.name, .int .i64 z.op, .int .i64 z.k, .int .i64 z.n, .string z.s], .agg #[.int .i64 k, .int .i64 n, .string s]] w fun e w' => e = .returned (.bool (PM.isB z k n s)) ∧ Below w.heap.size w w' := by
  obtain ⟨g2, hg2⟩ : ∃ g, g = w.heap.size := ⟨_, rfl⟩
  obtain ⟨wa, hwa⟩ : ∃ W, W = w.alloc (.cells #[.string z.name, .int .i64 z.op, .int .i64 z.k, .int .i64 z.n, .string z.s] 50) := ⟨_, rfl⟩
  obtain ⟨g3, hg3⟩ : ∃ g, g = w.heap.size + 1 := ⟨_, rfl⟩
  obtain ⟨wb, hwb⟩ : ∃ W, W = wa.alloc (.cells #[.int .i64 k, .int .i64 n, .string s] 48) := ⟨_, rfl⟩
  have hBa : Below w.heap.size w wa := by rw [hwa]; exact (Below.refl _ _).alloc (Nat.le_refl _) _
  have hBb : Below wa.heap.size wa wb := by rw [hwb]; exact (Below.refl _ _).alloc (Nat.le_refl _) _
  have hsa : wa.heap.size = w.heap.size + 1 := by rw [hwa]; simp
  have hk2 : PM.BK wb g2 #[.string z.name, .int .i64 z.op, .int .i64 z.k, .int .i64 z.n, .string z.s] 50 := by
    have : PM.BK wa g2 #[.string z.name, .int .i64 z.op, .int .i64 z.k, .int .i64 z.n, .string z.s] 50 := by rw [hwa, hg2]; exact PM.BK.new _ _ _
    exact this.keep hBb
  have hk3 : PM.BK wb g3 #[.int .i64 k, .int .i64 n, .string s] 48 := by rw [hwb, hg3, ← hsa]; exact PM.BK.new _ _ _
  have hB0 := PM.hid (PM.chain hBa hBb)
  clear hBa hBb hsa
  by_cases h8 : z.op = 8
  · have q8 : (z.op == 8) = true := by simpa using h8
    have hT : Hid (PM.isB z k n s = true) := PM.hid (by unfold PM.isB; rw [if_pos h8])
    clear h8
    go_enter Tryz.func98, Tryz.ntmps98
    go_upto_region 1 with fail
    rw [← hwa, ← hwb, ← hg3, ← hg2]
    clear hwa hwb hg3 hg2
    have c1 : wb.cell? ⟨g2, 1, none⟩ = some (.int .i64 z.op) := hk2.cell 1
    go_wp2_with fail
    go_ret
    exact ⟨by rw [hT.out]; rfl, hB0.out⟩
  have q8 : (z.op == 8) = false := by simpa using h8
  have h8h := PM.hid h8
  clear h8
  go_enter Tryz.func98, Tryz.ntmps98
  go_upto_region 1 with fail
  rw [← hwa, ← hwb, ← hg3, ← hg2]
  clear hwa hwb hg3 hg2
  have c1 : wb.cell? ⟨g2, 1, none⟩ = some (.int .i64 z.op) := hk2.cell 1
  go_upto_region 3 with fail
  clear c1
  refine PM.wp_region_st [some 9, some 10, some 11, some 12, some 13, some 14, some 15, some 5] [fun x _ => x = .agg #[.int .i64 k, .int .i64 n, .string s], fun x _ => x = .pointer (some ⟨g2, 2, none⟩), fun x _ => x = .agg #[.int .i64 z.k, .int .i64 z.n, .string z.s], fun x W => PM.AskAt k n s z.k z.n z.s x W, fun x _ => x = .pointer (some ⟨g2, 1, none⟩), fun x _ => x = .int .i64 z.op, fun x W => PM.AskF z.op k n s z.k z.n z.s x W, fun x W => PM.AskF z.op k n s z.k z.n z.s x W] (by kernel_rfl) (by kernel_rfl) (by kernel_rfl) ?_ ?_ ?_
  · simp only [List.forall_mem_cons]
    refine ⟨?_, ?_, ?_, ?_, ?_, ?_, ?_, ?_, by simp⟩
    all_goals (intro x W W' h hb; first | exact h | exact PM.BS.keep hb h | exact PM.OW.keep hb h | exact PM.AskAt.keep hb h | exact PM.AskF.keep hb h)
  · refine ⟨?_, ?_, ?_, ?_, ?_, ?_, ?_, ?_, trivial⟩
    all_goals
      intro a W hB hF hd
      have k2 := hF 2 rfl
      have k3 := hF 3 rfl
      have k2' := hk2.keep hB
      have k3' := hk3.keep hB
      have c1 : W.cell? ⟨g2, 1, none⟩ = some (.int .i64 z.op) := k2'.cell 1
      have c2 : W.cell? ⟨g2, 2, none⟩ = some (.int .i64 z.k) := k2'.cell 2
      have c3 : W.cell? ⟨g2, 3, none⟩ = some (.int .i64 z.n) := k2'.cell 3
      have c4 : W.cell? ⟨g2, 4, none⟩ = some (.string z.s) := k2'.cell 4
      have v0 : W.cell? ⟨g3, 0, none⟩ = some (.int .i64 k) := k3'.cell 0
      have v1 : W.cell? ⟨g3, 1, none⟩ = some (.int .i64 n) := k3'.cell 1
      have v2 : W.cell? ⟨g3, 2, none⟩ = some (.string s) := k3'.cell 2
      clear hF
      simp [PM.depsL, PM.spec, PM.sl, Region.binds] at hd
      simp [PM.sl] at k2 k3
      simp only [PM.wantL, PM.spec]
      try simp only [PM.sl]
      first | (have hd' : PM.AskAt k n s z.k z.n z.s _ W ∧ _ := hd; obtain ⟨⟨g, p, a', b, hx, hm, hbx⟩, _⟩ := hd'; have kl := PM.run_lookup_int (P := Tryz.prog) (T := 115) Tryz.underlying115 Tryz.underlying3 hm z.op (zeroF W)) | skip
      go_simp
    all_goals try exact Below.refl _ _
    · refine (asks_any k n s z.k z.n z.s W).mono ?_
      rintro e w' ⟨g, p, a, b, rfl, h1, h2, h3⟩
      exact ⟨h3, _, rfl, g, p, a, b, rfl, h1, h2⟩
    · exact ⟨Below.refl _ _, _, rfl, p, a', b, hbx, rfl⟩
    · exact ⟨Below.refl _ _, _, rfl, hd.1⟩
  · intro G W hB hF hS
    have hF5 : PM.AskF z.op k n s z.k z.n z.s (G 5) W := by simp [PM.allSp, PM.spec] at hS; exact hS.2.2.2.2.2.2.2
    rw [show ((List.range (Array.size _)).map G).toArray = #[G 0, G 1, G 2, G 3, G 4, G 5, G 6, G 7, G 8, G 9, G 10, G 11, G 12, G 13, G 14, G 15, G 16, G 17, G 18, G 19, G 20, G 21, G 22, G 23, G 24, G 25, G 26, G 27, G 28, G 29] from rfl]
    have q1 := hF 1 rfl
    have q2 := hF 2 rfl
    have q3 := hF 3 rfl
    simp [PM.sl] at q1 q2 q3
    clear hF hS
    rw [q2, q3]
    clear q1 q2 q3
    obtain ⟨p, a, b, hbx, hx5⟩ := hF5
    rw [hx5]
    have hk2' := hk2.keep hB
    have hk3' := hk3.keep hB
    have hBB := PM.hid (PM.chain hB0.out hB)
    clear hx5 hB hk2 hk3
    have c1 : W.cell? ⟨g2, 1, none⟩ = some (.int .i64 z.op) := hk2'.cell 1
    have c2 : W.cell? ⟨g2, 2, none⟩ = some (.int .i64 z.k) := hk2'.cell 2
    have v0 : W.cell? ⟨g3, 0, none⟩ = some (.int .i64 k) := hk3'.cell 0
    clear hk2' hk3'
    generalize hO : PM.ord k n s.data.toList z.k z.n z.s.data.toList = o at *
    have hbh := PM.hid hbx
    have hOh := PM.hid hO
    clear hbx hO
    have nf := neF
    have nn := neN
    by_cases j1 : z.op = 1
    · have hl : (PM.lookI z.op (PM.askL p a b)).getD .nilFunc = .func (.func 107) #[] #[.pointer (some ⟨p, 0, none⟩)] := by rw [j1]; simp [PM.lookI, PM.askL]
      rw [hl]
      clear hl
      by_cases hk : k = z.k
      · have qk : (k == z.k) = true := by simpa using hk
        have hI : Hid (PM.isB z k n s = (o == 0)) := PM.hid (by unfold PM.isB; rw [if_neg h8h.out, if_pos hk]; simp only [j1, hOh.out]; first | rfl | (simp; done) | (rw [Bool.eq_iff_iff]; simp; done) | (by_cases h0 : o = 0 <;> simp [h0]))
        have jh := PM.hid j1
        clear j1 hk
        go_wp2_with fail
        refine (ask1 p o W hbh.out.1).mono ?_
        rintro e w9 ⟨rfl, rfl⟩
        go_wp2_with fail
        go_ret
        exact ⟨by rw [hI.out]; rfl, hBB.out⟩
      · have qk : (k == z.k) = false := by simpa using hk
        have hI : Hid (PM.isB z k n s = false) := PM.hid (by unfold PM.isB; rw [if_neg h8h.out, if_neg hk])
        clear j1 hk
        go_wp2_with fail
        go_ret
        exact ⟨by rw [hI.out]; rfl, hBB.out⟩
    by_cases j2 : z.op = 2
    · have hl : (PM.lookI z.op (PM.askL p a b)).getD .nilFunc = .func (.func 108) #[] #[.pointer (some ⟨p, 0, none⟩)] := by rw [j2]; simp [PM.lookI, PM.askL]
      rw [hl]
      clear hl
      by_cases hk : k = z.k
      · have qk : (k == z.k) = true := by simpa using hk
        have hI : Hid (PM.isB z k n s = (o != 0)) := PM.hid (by unfold PM.isB; rw [if_neg h8h.out, if_pos hk]; simp only [j2, hOh.out]; first | rfl | (simp; done) | (rw [Bool.eq_iff_iff]; simp; done) | (by_cases h0 : o = 0 <;> simp [h0]))
        have jh := PM.hid j2
        clear j2 hk
        go_wp2_with fail
        refine (ask2 p o W hbh.out.1).mono ?_
        rintro e w9 ⟨rfl, rfl⟩
        go_wp2_with fail
        go_ret
        exact ⟨by rw [hI.out]; rfl, hBB.out⟩
      · have qk : (k == z.k) = false := by simpa using hk
        have hI : Hid (PM.isB z k n s = false) := PM.hid (by unfold PM.isB; rw [if_neg h8h.out, if_neg hk])
        clear j2 hk
        go_wp2_with fail
        go_ret
        exact ⟨by rw [hI.out]; rfl, hBB.out⟩
    by_cases j3 : z.op = 3
    · have hl : (PM.lookI z.op (PM.askL p a b)).getD .nilFunc = .func (.func 109) #[] #[.pointer (some ⟨p, 0, none⟩)] := by rw [j3]; simp [PM.lookI, PM.askL]
      rw [hl]
      clear hl
      by_cases hk : k = z.k
      · have qk : (k == z.k) = true := by simpa using hk
        have hI : Hid (PM.isB z k n s = (decide (o < 0))) := PM.hid (by unfold PM.isB; rw [if_neg h8h.out, if_pos hk]; simp only [j3, hOh.out]; first | rfl | (simp; done) | (rw [Bool.eq_iff_iff]; simp; done) | (by_cases h0 : o = 0 <;> simp [h0]))
        have jh := PM.hid j3
        clear j3 hk
        go_wp2_with fail
        refine (ask3 p o W hbh.out.1).mono ?_
        rintro e w9 ⟨rfl, rfl⟩
        go_wp2_with fail
        go_ret
        exact ⟨by rw [hI.out]; rfl, hBB.out⟩
      · have qk : (k == z.k) = false := by simpa using hk
        have hI : Hid (PM.isB z k n s = false) := PM.hid (by unfold PM.isB; rw [if_neg h8h.out, if_neg hk])
        clear j3 hk
        go_wp2_with fail
        go_ret
        exact ⟨by rw [hI.out]; rfl, hBB.out⟩
    by_cases j4 : z.op = 4
    · have hl : (PM.lookI z.op (PM.askL p a b)).getD .nilFunc = .func (.func 110) #[] #[.pointer (some ⟨p, 0, none⟩)] := by rw [j4]; simp [PM.lookI, PM.askL]
      rw [hl]
      clear hl
      by_cases hk : k = z.k
      · have qk : (k == z.k) = true := by simpa using hk
        have hI : Hid (PM.isB z k n s = (decide (o ≤ 0))) := PM.hid (by unfold PM.isB; rw [if_neg h8h.out, if_pos hk]; simp only [j4, hOh.out]; first | rfl | (simp; done) | (rw [Bool.eq_iff_iff]; simp; done) | (by_cases h0 : o = 0 <;> simp [h0]))
        have jh := PM.hid j4
        clear j4 hk
        go_wp2_with fail
        refine (ask4 p o W hbh.out.1).mono ?_
        rintro e w9 ⟨rfl, rfl⟩
        go_wp2_with fail
        go_ret
        exact ⟨by rw [hI.out]; rfl, hBB.out⟩
      · have qk : (k == z.k) = false := by simpa using hk
        have hI : Hid (PM.isB z k n s = false) := PM.hid (by unfold PM.isB; rw [if_neg h8h.out, if_neg hk])
        clear j4 hk
        go_wp2_with fail
        go_ret
        exact ⟨by rw [hI.out]; rfl, hBB.out⟩
    by_cases j5 : z.op = 5
    · have hl : (PM.lookI z.op (PM.askL p a b)).getD .nilFunc = .func (.func 111) #[] #[.pointer (some ⟨p, 0, none⟩)] := by rw [j5]; simp [PM.lookI, PM.askL]
      rw [hl]
      clear hl
      by_cases hk : k = z.k
      · have qk : (k == z.k) = true := by simpa using hk
        have hI : Hid (PM.isB z k n s = (decide (0 < o))) := PM.hid (by unfold PM.isB; rw [if_neg h8h.out, if_pos hk]; simp only [j5, hOh.out]; first | rfl | (simp; done) | (rw [Bool.eq_iff_iff]; simp; done) | (by_cases h0 : o = 0 <;> simp [h0]))
        have jh := PM.hid j5
        clear j5 hk
        go_wp2_with fail
        refine (ask5 p o W hbh.out.1).mono ?_
        rintro e w9 ⟨rfl, rfl⟩
        go_wp2_with fail
        go_ret
        exact ⟨by rw [hI.out]; rfl, hBB.out⟩
      · have qk : (k == z.k) = false := by simpa using hk
        have hI : Hid (PM.isB z k n s = false) := PM.hid (by unfold PM.isB; rw [if_neg h8h.out, if_neg hk])
        clear j5 hk
        go_wp2_with fail
        go_ret
        exact ⟨by rw [hI.out]; rfl, hBB.out⟩
    by_cases j6 : z.op = 6
    · have hl : (PM.lookI z.op (PM.askL p a b)).getD .nilFunc = .func (.func 112) #[] #[.pointer (some ⟨p, 0, none⟩)] := by rw [j6]; simp [PM.lookI, PM.askL]
      rw [hl]
      clear hl
      by_cases hk : k = z.k
      · have qk : (k == z.k) = true := by simpa using hk
        have hI : Hid (PM.isB z k n s = (decide (0 ≤ o))) := PM.hid (by unfold PM.isB; rw [if_neg h8h.out, if_pos hk]; simp only [j6, hOh.out]; first | rfl | (simp; done) | (rw [Bool.eq_iff_iff]; simp; done) | (by_cases h0 : o = 0 <;> simp [h0]))
        have jh := PM.hid j6
        clear j6 hk
        go_wp2_with fail
        refine (ask6 p o W hbh.out.1).mono ?_
        rintro e w9 ⟨rfl, rfl⟩
        go_wp2_with fail
        go_ret
        exact ⟨by rw [hI.out]; rfl, hBB.out⟩
      · have qk : (k == z.k) = false := by simpa using hk
        have hI : Hid (PM.isB z k n s = false) := PM.hid (by unfold PM.isB; rw [if_neg h8h.out, if_neg hk])
        clear j6 hk
        go_wp2_with fail
        go_ret
        exact ⟨by rw [hI.out]; rfl, hBB.out⟩
    by_cases j7 : z.op = 7
    · have hl : (PM.lookI z.op (PM.askL p a b)).getD .nilFunc = .func (.func 113) #[] #[.pointer (some ⟨a, 0, none⟩), .pointer (some ⟨b, 0, none⟩)] := by rw [j7]; simp [PM.lookI, PM.askL]
      rw [hl]
      clear hl
      by_cases hk : k = z.k
      · have qk : (k == z.k) = true := by simpa using hk
        have hI : Hid (PM.isB z k n s = (PM.beg k s.data.toList z.k z.s.data.toList)) := PM.hid (by unfold PM.isB; rw [if_neg h8h.out, if_pos hk]; simp only [j7, hOh.out]; first | rfl | (simp; done) | (rw [Bool.eq_iff_iff]; simp; done) | (by_cases h0 : o = 0 <;> simp [h0]))
        have jh := PM.hid j7
        clear j7 hk
        go_wp2_with fail
        refine (ask7 a b k n s z.k z.n z.s W hbh.out.2.1 hbh.out.2.2).mono ?_
        rintro e w9 ⟨rfl, hB9⟩
        have hBB9 := PM.hid (PM.chain hBB.out hB9)
        clear hB9
        go_wp2_with fail
        go_ret
        exact ⟨by rw [hI.out]; rfl, hBB9.out⟩
      · have qk : (k == z.k) = false := by simpa using hk
        have hI : Hid (PM.isB z k n s = false) := PM.hid (by unfold PM.isB; rw [if_neg h8h.out, if_neg hk])
        clear j7 hk
        go_wp2_with fail
        go_ret
        exact ⟨by rw [hI.out]; rfl, hBB.out⟩
    have hl : (PM.lookI z.op (PM.askL p a b)).getD .nilFunc = .nilFunc := by simp [PM.lookI, PM.askL, j1, j2, j3, j4, j5, j6, j7]
    rw [hl]
    clear hl
    have hI : Hid (PM.isB z k n s = false) := PM.hid (by unfold PM.isB; rw [if_neg h8h.out]; simp [j1, j2, j3, j4, j5, j6, j7])
    clear j1 j2 j3 j4 j5 j6 j7
    go_wp2_with fail
    go_ret
    exact ⟨by rw [hI.out]; rfl, hBB.out⟩
end Go.Proofs.YtnpbfjkfbobgaaaGreat
