/-
  CONTRACTS OF package norm's rules, known; of cmp.Compare.
-/
import Derived.Test.YtnpbfjkfbobgaaaGreatId
import Derived.Test.YtnpbfjkfbobgaaaGreatNa
namespace Go.Proofs.YtnpbfjkfbobgaaaGreat
open Go.RowKit
set_option linter.unusedVariables false
theorem known_any (p : Int) (w : World) : Calls Tryz.prog 75 #[.int .i64 p] w fun e w' => e = .returned (.bool (decide (1 ≤ p ∧ p ≤ 8))) ∧ w = w' := by
  go_enter Tryz.func75, Tryz.ntmps75
  by_cases h1 : 1 ≤ p
  · go_wp2
    go_ret
    refine ⟨?_, rfl⟩
    simp [h1]
  · go_wp2
    go_ret
    refine ⟨?_, rfl⟩
    simp
    omega
set_option maxHeartbeats 1000000 in
theorem pair_before (a b : PM.Te) (o : Int) (w : World) : Calls Tryz.prog 84 #[.agg #[.string a.name, .int .i64 a.op, .int .i64 a.k, .int .i64 a.n, .string a.s, .string b.name, .int .i64 b.op, .int .i64 b.k, .int .i64 b.n, .string b.s, .int .i64 o]] w fun e w' => e = .returned (.bool (decide ((b.op = 2 ∨ b.op = 3 ∨ b.op = 4) ∧ o ≤ 0))) ∧ Below w.heap.size w w' := by
  have hB : Below w.heap.size w (w.alloc (.cells #[.string a.name, .int .i64 a.op, .int .i64 a.k, .int .i64 a.n, .string a.s, .string b.name, .int .i64 b.op, .int .i64 b.k, .int .i64 b.n, .string b.s, .int .i64 o] 101)) := (Below.refl _ _).alloc (Nat.le_refl _) _
  generalize b.op = p at *
  go_enter Tryz.func84, Tryz.ntmps84
  by_cases h2 : p = 2
  · subst h2
    go_wp2
    go_ret
    exact ⟨by simp, hB⟩
  have e2 : (p == 2) = false := by simpa using h2
  by_cases h3 : p = 3
  · subst h3
    go_wp2
    go_ret
    exact ⟨by simp, hB⟩
  have e3 : (p == 3) = false := by simpa using h3
  by_cases h4 : p = 4
  · subst h4
    go_wp2
    go_ret
    exact ⟨by simp, hB⟩
  have e4 : (p == 4) = false := by simpa using h4
  go_wp2
  go_ret
  exact ⟨by simp [h2, h3, h4], hB⟩
set_option maxHeartbeats 1000000 in
theorem pair_notBehind (a b : PM.Te) (o : Int) (w : World) : Calls Tryz.prog 85 #[.agg #[.string a.name, .int .i64 a.op, .int .i64 a.k, .int .i64 a.n, .string a.s, .string b.name, .int .i64 b.op, .int .i64 b.k, .int .i64 b.n, .string b.s, .int .i64 o]] w fun e w' => e = .returned (.bool (decide ((b.op = 4 ∧ o ≤ 0) ∨ ((b.op = 2 ∨ b.op = 3) ∧ o < 0)))) ∧ Below w.heap.size w w' := by
  have hB : Below w.heap.size w (w.alloc (.cells #[.string a.name, .int .i64 a.op, .int .i64 a.k, .int .i64 a.n, .string a.s, .string b.name, .int .i64 b.op, .int .i64 b.k, .int .i64 b.n, .string b.s, .int .i64 o] 101)) := (Below.refl _ _).alloc (Nat.le_refl _) _
  generalize b.op = p at *
  go_enter Tryz.func85, Tryz.ntmps85
  by_cases h2 : p = 2
  · subst h2
    go_wp2
    go_ret
    exact ⟨by simp, hB⟩
  have e2 : (p == 2) = false := by simpa using h2
  by_cases h3 : p = 3
  · subst h3
    go_wp2
    go_ret
    exact ⟨by simp, hB⟩
  have e3 : (p == 3) = false := by simpa using h3
  by_cases h4 : p = 4
  · subst h4
    go_wp2
    go_ret
    exact ⟨by simp, hB⟩
  have e4 : (p == 4) = false := by simpa using h4
  go_wp2
  go_ret
  exact ⟨by simp [h2, h3, h4], hB⟩
set_option maxHeartbeats 1000000 in
theorem pair_behind (a b : PM.Te) (o : Int) (w : World) : Calls Tryz.prog 86 #[.agg #[.string a.name, .int .i64 a.op, .int .i64 a.k, .int .i64 a.n, .string a.s, .string b.name, .int .i64 b.op, .int .i64 b.k, .int .i64 b.n, .string b.s, .int .i64 o]] w fun e w' => e = .returned (.bool (decide ((b.op = 2 ∨ b.op = 5 ∨ b.op = 6) ∧ 0 ≤ o))) ∧ Below w.heap.size w w' := by
  have hB : Below w.heap.size w (w.alloc (.cells #[.string a.name, .int .i64 a.op, .int .i64 a.k, .int .i64 a.n, .string a.s, .string b.name, .int .i64 b.op, .int .i64 b.k, .int .i64 b.n, .string b.s, .int .i64 o] 101)) := (Below.refl _ _).alloc (Nat.le_refl _) _
  generalize b.op = p at *
  go_enter Tryz.func86, Tryz.ntmps86
  by_cases h2 : p = 2
  · subst h2
    go_wp2
    go_ret
    exact ⟨by simp, hB⟩
  have e2 : (p == 2) = false := by simpa using h2
  by_cases h5 : p = 5
  · subst h5
    go_wp2
    go_ret
    exact ⟨by simp, hB⟩
  have e5 : (p == 5) = false := by simpa using h5
  by_cases h6 : p = 6
  · subst h6
    go_wp2
    go_ret
    exact ⟨by simp, hB⟩
  have e6 : (p == 6) = false := by simpa using h6
  go_wp2
  go_ret
  exact ⟨by simp [h2, h5, h6], hB⟩
set_option maxHeartbeats 1000000 in
theorem pair_notBefore (a b : PM.Te) (o : Int) (w : World) : Calls Tryz.prog 87 #[.agg #[.string a.name, .int .i64 a.op, .int .i64 a.k, .int .i64 a.n, .string a.s, .string b.name, .int .i64 b.op, .int .i64 b.k, .int .i64 b.n, .string b.s, .int .i64 o]] w fun e w' => e = .returned (.bool (decide ((b.op = 6 ∧ 0 ≤ o) ∨ ((b.op = 2 ∨ b.op = 5) ∧ 0 < o)))) ∧ Below w.heap.size w w' := by
  have hB : Below w.heap.size w (w.alloc (.cells #[.string a.name, .int .i64 a.op, .int .i64 a.k, .int .i64 a.n, .string a.s, .string b.name, .int .i64 b.op, .int .i64 b.k, .int .i64 b.n, .string b.s, .int .i64 o] 101)) := (Below.refl _ _).alloc (Nat.le_refl _) _
  generalize b.op = p at *
  go_enter Tryz.func87, Tryz.ntmps87
  by_cases h2 : p = 2
  · subst h2
    go_wp2
    go_ret
    exact ⟨by simp, hB⟩
  have e2 : (p == 2) = false := by simpa using h2
  by_cases h5 : p = 5
  · subst h5
    go_wp2
    go_ret
    exact ⟨by simp, hB⟩
  have e5 : (p == 5) = false := by simpa using h5
  by_cases h6 : p = 6
  · subst h6
    go_wp2
    go_ret
    exact ⟨by simp, hB⟩
  have e6 : (p == 6) = false := by simpa using h6
  go_wp2
  go_ret
  exact ⟨by simp [h2, h5, h6], hB⟩
theorem pair_other (a b : PM.Te) (o : Int) (w : World) : Calls Tryz.prog 83 #[.agg #[.string a.name, .int .i64 a.op, .int .i64 a.k, .int .i64 a.n, .string a.s, .string b.name, .int .i64 b.op, .int .i64 b.k, .int .i64 b.n, .string b.s, .int .i64 o]] w fun e w' => e = .returned (.bool false) ∧ Below w.heap.size w w' := by
  have hB : Below w.heap.size w (w.alloc (.cells #[.string a.name, .int .i64 a.op, .int .i64 a.k, .int .i64 a.n, .string a.s, .string b.name, .int .i64 b.op, .int .i64 b.k, .int .i64 b.n, .string b.s, .int .i64 o] 101)) := (Below.refl _ _).alloc (Nat.le_refl _) _
  go_enter Tryz.func83, Tryz.ntmps83
  go_wp2
  go_ret
  exact ⟨rfl, hB⟩
set_option maxHeartbeats 1000000 in
theorem pair_equal (a b : PM.Te) (o : Int) (w : World) : Calls Tryz.prog 82 #[.agg #[.string a.name, .int .i64 a.op, .int .i64 a.k, .int .i64 a.n, .string a.s, .string b.name, .int .i64 b.op, .int .i64 b.k, .int .i64 b.n, .string b.s, .int .i64 o]] w fun e w' => e = .returned (.bool (PM.isB b a.k a.n a.s)) ∧ Below w.heap.size w w' := by
  obtain ⟨g, hg⟩ : ∃ g, g = w.heap.size := ⟨_, rfl⟩
  obtain ⟨w1, hw1⟩ : ∃ W, W = w.alloc (.cells #[.string a.name, .int .i64 a.op, .int .i64 a.k, .int .i64 a.n, .string a.s, .string b.name, .int .i64 b.op, .int .i64 b.k, .int .i64 b.n, .string b.s, .int .i64 o] 101) := ⟨_, rfl⟩
  have hB : Below w.heap.size w w1 := by rw [hw1]; exact (Below.refl _ _).alloc (Nat.le_refl _) _
  have hk : PM.BK w1 g #[.string a.name, .int .i64 a.op, .int .i64 a.k, .int .i64 a.n, .string a.s, .string b.name, .int .i64 b.op, .int .i64 b.k, .int .i64 b.n, .string b.s, .int .i64 o] 101 := by rw [hw1, hg]; exact PM.BK.new _ _ _
  have c0 : w1.cell? ⟨g, 0, none⟩ = some (.string a.name) := hk.cell 0
  have c1 : w1.cell? ⟨g, 1, none⟩ = some (.int .i64 a.op) := hk.cell 1
  have c2 : w1.cell? ⟨g, 2, none⟩ = some (.int .i64 a.k) := hk.cell 2
  have c3 : w1.cell? ⟨g, 3, none⟩ = some (.int .i64 a.n) := hk.cell 3
  have c4 : w1.cell? ⟨g, 4, none⟩ = some (.string a.s) := hk.cell 4
  have c5 : w1.cell? ⟨g, 5, none⟩ = some (.string b.name) := hk.cell 5
  have c6 : w1.cell? ⟨g, 6, none⟩ = some (.int .i64 b.op) := hk.cell 6
  have c7 : w1.cell? ⟨g, 7, none⟩ = some (.int .i64 b.k) := hk.cell 7
  have c8 : w1.cell? ⟨g, 8, none⟩ = some (.int .i64 b.n) := hk.cell 8
  have c9 : w1.cell? ⟨g, 9, none⟩ = some (.string b.s) := hk.cell 9
  have c10 : w1.cell? ⟨g, 10, none⟩ = some (.int .i64 o) := hk.cell 10
  have hBh := PM.hid hB
  clear hk hB
  go_enter Tryz.func82, Tryz.ntmps82
  go_upto_region 1 with fail
  rw [← hw1, ← hg]
  clear hw1 hg
  go_wp2_with fail
  refine (is_any b a.k a.n a.s w1).mono ?_
  rintro e w2 ⟨rfl, hB2⟩
  have hB3 := PM.hid (PM.chain hBh.out hB2)
  clear c0 c1 c2 c3 c4 c5 c6 c7 c8 c9 c10 hB2
  go_wp2_with fail
  go_ret
  exact ⟨rfl, hB3.out⟩
set_option maxHeartbeats 2000000 in
theorem pair_prefix (a b : PM.Te) (o : Int) (w : World) : Calls Tryz.prog 88 #[.agg #[.string a.name, .int .i64 a.op, .int .i64 a.k, .int .i64 a.n, .string a.s, .string b.name, .int .i64 b.op, .int .i64 b.k, .int .i64 b.n, .string b.s, .int .i64 o]] w fun e w' => e = .returned (.bool (decide ((b.op = 7 ∧ PM.beg a.k a.s.data.toList b.k b.s.data.toList = true) ∨ (b.op = 6 ∧ 0 ≤ o) ∨ (b.op = 5 ∧ 0 < o) ∨ (b.op = 2 ∧ PM.beg b.k b.s.data.toList a.k a.s.data.toList = false)))) ∧ Below w.heap.size w w' := by
  obtain ⟨g, hg⟩ : ∃ g, g = w.heap.size := ⟨_, rfl⟩
  obtain ⟨w1, hw1⟩ : ∃ W, W = w.alloc (.cells #[.string a.name, .int .i64 a.op, .int .i64 a.k, .int .i64 a.n, .string a.s, .string b.name, .int .i64 b.op, .int .i64 b.k, .int .i64 b.n, .string b.s, .int .i64 o] 101) := ⟨_, rfl⟩
  have hB : Below w.heap.size w w1 := by rw [hw1]; exact (Below.refl _ _).alloc (Nat.le_refl _) _
  have hk : PM.BK w1 g #[.string a.name, .int .i64 a.op, .int .i64 a.k, .int .i64 a.n, .string a.s, .string b.name, .int .i64 b.op, .int .i64 b.k, .int .i64 b.n, .string b.s, .int .i64 o] 101 := by rw [hw1, hg]; exact PM.BK.new _ _ _
  have c0 : w1.cell? ⟨g, 0, none⟩ = some (.string a.name) := hk.cell 0
  have c1 : w1.cell? ⟨g, 1, none⟩ = some (.int .i64 a.op) := hk.cell 1
  have c2 : w1.cell? ⟨g, 2, none⟩ = some (.int .i64 a.k) := hk.cell 2
  have c3 : w1.cell? ⟨g, 3, none⟩ = some (.int .i64 a.n) := hk.cell 3
  have c4 : w1.cell? ⟨g, 4, none⟩ = some (.string a.s) := hk.cell 4
  have c5 : w1.cell? ⟨g, 5, none⟩ = some (.string b.name) := hk.cell 5
  have c6 : w1.cell? ⟨g, 6, none⟩ = some (.int .i64 b.op) := hk.cell 6
  have c7 : w1.cell? ⟨g, 7, none⟩ = some (.int .i64 b.k) := hk.cell 7
  have c8 : w1.cell? ⟨g, 8, none⟩ = some (.int .i64 b.n) := hk.cell 8
  have c9 : w1.cell? ⟨g, 9, none⟩ = some (.string b.s) := hk.cell 9
  have c10 : w1.cell? ⟨g, 10, none⟩ = some (.int .i64 o) := hk.cell 10
  generalize b.op = p at *
  have hBh := PM.hid hB
  clear hk hB
  go_enter Tryz.func88, Tryz.ntmps88
  go_upto_region 1 with fail
  rw [← hw1, ← hg]
  clear hw1 hg
  by_cases h7 : p = 7
  · subst h7
    go_wp2_with fail
    refine (begins_any a.k a.n a.s b.k b.n b.s w1).mono ?_
    rintro e w2 ⟨rfl, hB2⟩
    have hB3 := PM.hid (PM.chain hBh.out hB2)
    clear c0 c1 c2 c3 c4 c5 c6 c7 c8 c9 c10 hB2
    generalize hG : PM.beg a.k a.s.data.toList b.k b.s.data.toList = G
    have hGh := PM.hid hG
    clear hG
    go_wp2_with fail
    go_ret
    exact ⟨by simp [hGh.out], hB3.out⟩
  have e7 : (p == 7) = false := by simpa using h7
  by_cases h6 : p = 6
  · subst h6
    go_wp2_with fail
    go_ret
    exact ⟨by simp, hBh.out⟩
  have e6 : (p == 6) = false := by simpa using h6
  by_cases h5 : p = 5
  · subst h5
    go_wp2_with fail
    go_ret
    exact ⟨by simp, hBh.out⟩
  have e5 : (p == 5) = false := by simpa using h5
  by_cases h2 : p = 2
  · subst h2
    go_wp2_with fail
    refine (begins_any b.k b.n b.s a.k a.n a.s w1).mono ?_
    rintro e w2 ⟨rfl, hB2⟩
    have hB3 := PM.hid (PM.chain hBh.out hB2)
    clear c0 c1 c2 c3 c4 c5 c6 c7 c8 c9 c10 hB2
    generalize hG : PM.beg b.k b.s.data.toList a.k a.s.data.toList = G
    have hGh := PM.hid hG
    clear hG
    go_wp2_with fail
    go_ret
    exact ⟨by simp [hGh.out], hB3.out⟩
  have e2 : (p == 2) = false := by simpa using h2
  go_wp2_with fail
  go_ret
  exact ⟨by simp [h7, h6, h5, h2], hBh.out⟩
end Go.Proofs.YtnpbfjkfbobgaaaGreat
