/-
  CONTRACTS OF postilionref06: Implies, and what it leans on.
-/
import Derived.Test.YtnpbfjkfbobgaaaGreatNa
import Derived.Test.YtnpbfjkfbobgaaaGreatIl
import Derived.Laws.StructEq
namespace Go.Proofs.YtnpbfjkfbobgaaaGreat
open Go.RowKit
set_option linter.unusedVariables false
set_option linter.unusedSimpArgs false
namespace PM
theorem ret_bool' {a b : Bool} (h : a = b) : Ending.returned (Value.bool b) = Ending.returned (.bool a) := by rw [h]
theorem toList_injQ {a b : ByteArray} (h : a.toList = b.toList) : a = b := by
  rw [ByteArray.toList_eq, ByteArray.toList_eq] at h
  exact bytes_ext h
/-- are two tests one? -/
def teQ (a b : Te) : Bool := decide (a.name = b.name ∧ a.op = b.op ∧ a.k = b.k ∧ a.n = b.n ∧ a.s = b.s)
end PM
set_option maxRecDepth 100000 in
set_option maxHeartbeats 400000 in
theorem eq_teQ (za zb : PM.Te) : ∀ w : World, Sem.run Tryz.prog (binOp .eql 50 (.agg #[.string za.name, .int .i64 za.op, .int .i64 za.k, .int .i64 za.n, .string za.s]) (.agg #[.string zb.name, .int .i64 zb.op, .int .i64 zb.k, .int .i64 zb.n, .string zb.s])) w = .ok (.bool (PM.teQ za zb)) w := by
  intro w
  rw [run_eql_struct, show (10000 : Nat) = 9999 + 1 from rfl, run_equalIn_agg w 9999 50 _ _ (by kernel_rfl) (by kernel_rfl)]
  simp only [Program.fieldsOf, Tryz.underlying50]
  go_simp
  have t1 : za.name.toList = zb.name.toList ↔ za.name = zb.name := ⟨PM.toList_injQ, fun h => by rw [h]⟩
  have t2 : za.s.toList = zb.s.toList ↔ za.s = zb.s := ⟨PM.toList_injQ, fun h => by rw [h]⟩
  simp only [t1, t2]
  unfold PM.teQ
  by_cases a1 : za.name = zb.name <;> by_cases a2 : za.op = zb.op <;> by_cases a3 : za.k = zb.k <;> by_cases a4 : za.n = zb.n <;> by_cases a5 : za.s = zb.s <;> simp [a1, a2, a3, a4, a5]
/-- below of the document's answer -/
def PM.bel (s : Bool) (n op : Int) : Bool := if op = 4 then decide (n ≤ 0) else if op = 3 ∨ op = 2 then (if s then decide (n < 0) else decide (n ≤ 0)) else false
theorem bel_any (s : Bool) (n op : Int) (w : World) : Calls Tryz.prog 94 #[.bool s, .int .i64 n, .int .i64 op] w fun e w' => e = .returned (.bool (PM.bel s n op)) ∧ w' = w := by
  by_cases h4 : op = 4
  · subst h4
    have q : Hid (PM.bel s n 4 = decide (n ≤ 0)) := PM.hid (by simp [PM.bel])
    go_enter Tryz.func94, Tryz.ntmps94
    go_wp2_with fail
    go_ret
    exact ⟨by rw [q.out]; rfl, rfl⟩
  have e4 : (op == 4) = false := by simpa using h4
  by_cases h3 : op = 3 ∨ op = 2
  · have q : Hid (PM.bel s n op = if s then decide (n < 0) else decide (n ≤ 0)) := PM.hid (by unfold PM.bel; rw [if_neg h4, if_pos h3])
    clear h4
    rcases h3 with rfl | rfl
    all_goals
      clear e4
      rcases Int.lt_trichotomy n 0 with hn | hn | hn
      · have a1 : decide (n < 0) = true := by simpa using hn
        have a2 : decide (0 < n) = false := by simp; omega
        have a3 : (n == 0) = false := by simp; omega
        have hnh := PM.hid hn
        clear hn
        cases s <;>
        · go_enter Tryz.func94, Tryz.ntmps94
          go_wp2_with fail
          go_ret
          have hn := hnh.out
          exact ⟨PM.ret_bool' (by rw [q.out]; first | rfl | (simp <;> omega)), rfl⟩
      · subst hn
        cases s <;>
        · go_enter Tryz.func94, Tryz.ntmps94
          go_wp2_with fail
          go_ret
          exact ⟨PM.ret_bool' (by rw [q.out]; first | rfl | simp), rfl⟩
      · have a1 : decide (n < 0) = false := by simp; omega
        have a2 : decide (0 < n) = true := by simpa using hn
        have a3 : (n == 0) = false := by simp; omega
        have hnh := PM.hid hn
        clear hn
        cases s <;>
        · go_enter Tryz.func94, Tryz.ntmps94
          go_wp2_with fail
          go_ret
          have hn := hnh.out
          exact ⟨PM.ret_bool' (by rw [q.out]; first | rfl | (simp <;> omega)), rfl⟩
  · have q : Hid (PM.bel s n op = false) := PM.hid (by unfold PM.bel; rw [if_neg h4, if_neg h3])
    have e3 : (op == 3) = false := by simp; omega
    have e2 : (op == 2) = false := by simp; omega
    clear h4 h3
    go_enter Tryz.func94, Tryz.ntmps94
    go_wp2_with fail
    go_ret
    exact ⟨by rw [q.out]; rfl, rfl⟩
/-- above of the document's answer -/
def PM.abv (s : Bool) (n op : Int) : Bool := if op = 6 then decide (0 ≤ n) else if op = 5 ∨ op = 2 then (if s then decide (0 < n) else decide (0 ≤ n)) else false
theorem abv_any (s : Bool) (n op : Int) (w : World) : Calls Tryz.prog 95 #[.bool s, .int .i64 n, .int .i64 op] w fun e w' => e = .returned (.bool (PM.abv s n op)) ∧ w' = w := by
  by_cases h4 : op = 6
  · subst h4
    have q : Hid (PM.abv s n 6 = decide (0 ≤ n)) := PM.hid (by simp [PM.abv])
    go_enter Tryz.func95, Tryz.ntmps95
    go_wp2_with fail
    go_ret
    exact ⟨by rw [q.out]; rfl, rfl⟩
  have e4 : (op == 6) = false := by simpa using h4
  by_cases h3 : op = 5 ∨ op = 2
  · have q : Hid (PM.abv s n op = if s then decide (0 < n) else decide (0 ≤ n)) := PM.hid (by unfold PM.abv; rw [if_neg h4, if_pos h3])
    clear h4
    rcases h3 with rfl | rfl
    all_goals
      clear e4
      rcases Int.lt_trichotomy n 0 with hn | hn | hn
      · have a1 : decide (n < 0) = true := by simpa using hn
        have a2 : decide (0 < n) = false := by simp; omega
        have a3 : (n == 0) = false := by simp; omega
        have hnh := PM.hid hn
        clear hn
        cases s <;>
        · go_enter Tryz.func95, Tryz.ntmps95
          go_wp2_with fail
          go_ret
          have hn := hnh.out
          exact ⟨PM.ret_bool' (by rw [q.out]; first | rfl | (simp <;> omega)), rfl⟩
      · subst hn
        cases s <;>
        · go_enter Tryz.func95, Tryz.ntmps95
          go_wp2_with fail
          go_ret
          exact ⟨PM.ret_bool' (by rw [q.out]; first | rfl | simp), rfl⟩
      · have a1 : decide (n < 0) = false := by simp; omega
        have a2 : decide (0 < n) = true := by simpa using hn
        have a3 : (n == 0) = false := by simp; omega
        have hnh := PM.hid hn
        clear hn
        cases s <;>
        · go_enter Tryz.func95, Tryz.ntmps95
          go_wp2_with fail
          go_ret
          have hn := hnh.out
          exact ⟨PM.ret_bool' (by rw [q.out]; first | rfl | (simp <;> omega)), rfl⟩
  · have q : Hid (PM.abv s n op = false) := PM.hid (by unfold PM.abv; rw [if_neg h4, if_neg h3])
    have e3 : (op == 5) = false := by simp; omega
    have e2 : (op == 2) = false := by simp; omega
    clear h4 h3
    go_enter Tryz.func95, Tryz.ntmps95
    go_wp2_with fail
    go_ret
    exact ⟨by rw [q.out]; rfl, rfl⟩
def PM.bgn (za zb : PM.Te) (n : Int) : Bool := if zb.op = 7 then PM.beg za.k za.s.data.toList zb.k zb.s.data.toList else if zb.op = 6 then decide (0 ≤ n) else if zb.op = 5 then decide (0 < n) else if zb.op = 2 then !PM.beg zb.k zb.s.data.toList za.k za.s.data.toList else false
set_option maxHeartbeats 2000000 in
theorem bgn_any (za zb : PM.Te) (n : Int) (w : World) (hs : Hid (za.s.size ≤ maxLen ∧ zb.s.size ≤ maxLen)) : Calls Tryz.prog 96 #[.agg #[.string za.name, .int .i64 za.op, .int .i64 za.k, .int .i64 za.n, .string za.s], .agg #[.string zb.name, .int .i64 zb.op, .int .i64 zb.k, .int .i64 zb.n, .string zb.s], .int .i64 n] w fun e w' => e = .returned (.bool (PM.bgn za zb n)) ∧ Below w.heap.size w w' := by
  obtain ⟨ga, hga⟩ : ∃ g, g = w.heap.size := ⟨_, rfl⟩
  obtain ⟨wb0, hwb0⟩ : ∃ W, W = w.alloc (.cells #[.string za.name, .int .i64 za.op, .int .i64 za.k, .int .i64 za.n, .string za.s] 50) := ⟨_, rfl⟩
  have swb0 : wb0.heap.size = w.heap.size + 1 := by rw [hwb0]; simp
  have kga : PM.BK wb0 ga #[.string za.name, .int .i64 za.op, .int .i64 za.k, .int .i64 za.n, .string za.s] 50 := by rw [hwb0, hga]; exact PM.BK.new _ _ _
  have aga : Below w.heap.size w wb0 := by rw [hwb0]; exact (Below.refl _ _).alloc (Nat.le_refl _) _
  obtain ⟨gb, hgb⟩ : ∃ g, g = w.heap.size + 1 := ⟨_, rfl⟩
  obtain ⟨wb1, hwb1⟩ : ∃ W, W = wb0.alloc (.cells #[.string zb.name, .int .i64 zb.op, .int .i64 zb.k, .int .i64 zb.n, .string zb.s] 50) := ⟨_, rfl⟩
  have swb1 : wb1.heap.size = w.heap.size + 2 := by rw [hwb1]; simp; rw [swb0]
  have kgb : PM.BK wb1 gb #[.string zb.name, .int .i64 zb.op, .int .i64 zb.k, .int .i64 zb.n, .string zb.s] 50 := by rw [hwb1, hgb, ← swb0]; exact PM.BK.new _ _ _
  have agb : Below wb0.heap.size wb0 wb1 := by rw [hwb1]; exact (Below.refl _ _).alloc (Nat.le_refl _) _
  replace kga := kga.keep agb
  have hBB := PM.hid (PM.chain aga agb)
  clear swb0 aga swb1 agb
  go_enter Tryz.func96, Tryz.ntmps96
  go_upto_region 1 with fail
  rw [← hwb0, ← hwb1, ← hgb, ← hga]
  clear hwb0 hwb1 hga hgb
  have c0 : wb1.cell? ⟨ga, 0, none⟩ = some (.string za.name) := kga.cell 0
  have c1 : wb1.cell? ⟨ga, 1, none⟩ = some (.int .i64 za.op) := kga.cell 1
  have c2 : wb1.cell? ⟨ga, 2, none⟩ = some (.int .i64 za.k) := kga.cell 2
  have c3 : wb1.cell? ⟨ga, 3, none⟩ = some (.int .i64 za.n) := kga.cell 3
  have c4 : wb1.cell? ⟨ga, 4, none⟩ = some (.string za.s) := kga.cell 4
  have d0 : wb1.cell? ⟨gb, 0, none⟩ = some (.string zb.name) := kgb.cell 0
  have d1 : wb1.cell? ⟨gb, 1, none⟩ = some (.int .i64 zb.op) := kgb.cell 1
  have d2 : wb1.cell? ⟨gb, 2, none⟩ = some (.int .i64 zb.k) := kgb.cell 2
  have d3 : wb1.cell? ⟨gb, 3, none⟩ = some (.int .i64 zb.n) := kgb.cell 3
  have d4 : wb1.cell? ⟨gb, 4, none⟩ = some (.string zb.s) := kgb.cell 4
  clear kga kgb
  by_cases h7 : zb.op = 7
  · have q : Hid (PM.bgn za zb n = PM.beg za.k za.s.data.toList zb.k zb.s.data.toList) := PM.hid (by simp [PM.bgn, h7])
    have e7 : (zb.op == 7) = true := by simpa using h7
    clear h7
    go_wp2_with fail
    refine (rbegins_any za.k za.n za.s zb.k zb.n zb.s wb1 hs.out.1 hs.out.2).mono ?_
    rintro e w2 ⟨rfl, hB2⟩
    replace hBB := PM.hid (PM.chain hBB.out hB2)
    clear hB2 c0 c1 c2 c3 c4 d0 d1 d2 d3 d4
    go_wp2_with fail
    go_ret
    exact ⟨PM.ret_bool' (by first | exact q.out | (rw [q.out]; rfl)), hBB.out⟩
  have e7 : (zb.op == 7) = false := by simpa using h7
  by_cases h6 : zb.op = 6
  · have q : Hid (PM.bgn za zb n = decide (0 ≤ n)) := PM.hid (by simp [PM.bgn, h6])
    have e6 : (zb.op == 6) = true := by simpa using h6
    clear h6 h7
    go_wp2_with fail
    go_ret
    exact ⟨PM.ret_bool' (by first | exact q.out | (rw [q.out]; rfl)), hBB.out⟩
  have e6 : (zb.op == 6) = false := by simpa using h6
  by_cases h5 : zb.op = 5
  · have q : Hid (PM.bgn za zb n = decide (0 < n)) := PM.hid (by simp [PM.bgn, h5])
    have e5 : (zb.op == 5) = true := by simpa using h5
    clear h5 h6 h7
    go_wp2_with fail
    go_ret
    exact ⟨PM.ret_bool' (by first | exact q.out | (rw [q.out]; rfl)), hBB.out⟩
  have e5 : (zb.op == 5) = false := by simpa using h5
  by_cases h2 : zb.op = 2
  · have q : Hid (PM.bgn za zb n = !PM.beg zb.k zb.s.data.toList za.k za.s.data.toList) := PM.hid (by simp [PM.bgn, h2])
    have e2 : (zb.op == 2) = true := by simpa using h2
    clear h2 h5 h6 h7
    go_wp2_with fail
    refine (rbegins_any zb.k zb.n zb.s za.k za.n za.s wb1 hs.out.2 hs.out.1).mono ?_
    rintro e w2 ⟨rfl, hB2⟩
    replace hBB := PM.hid (PM.chain hBB.out hB2)
    clear hB2 c0 c1 c2 c3 c4 d0 d1 d2 d3 d4
    go_wp2_with fail
    go_ret
    exact ⟨PM.ret_bool' (by first | exact q.out | (rw [q.out]; rfl)), hBB.out⟩
  have e2 : (zb.op == 2) = false := by simpa using h2
  have q : Hid (PM.bgn za zb n = false) := PM.hid (by simp [PM.bgn, h2, h5, h6, h7])
  clear h2 h5 h6 h7
  go_wp2_with fail
  go_ret
  exact ⟨PM.ret_bool' (by first | exact q.out | (rw [q.out]; rfl)), hBB.out⟩
namespace PM
theorem cell_keepR {W w : World} {a : Addr} {v : Value} (hb : Below W.heap.size W w) (h : W.cell? a = some v) : w.cell? a = some v := by
  rw [hb.cell (World.block_lt_of_cell? W _ h)]; exact h
theorem imp_core {a b : Te} (hn : a.name = b.name) (ha : 1 ≤ a.op ∧ a.op ≤ 8) (hb : 1 ≤ b.op ∧ b.op ≤ 8) (hq : ¬ (a.name = b.name ∧ a.op = b.op ∧ a.k = b.k ∧ a.n = b.n ∧ a.s = b.s)) (h8 : b.op ≠ 8) (ha8 : a.op ≠ 8) (hk : a.k = b.k) :
    impB a b = if a.op = 1 then isB b a.k a.n a.s else if a.op = 3 then bel false (vo a b) b.op else if a.op = 4 then bel true (vo a b) b.op else if a.op = 5 then abv false (vo a b) b.op else if a.op = 6 then abv true (vo a b) b.op else if a.op = 7 then bgn a b (vo a b) else false := by
  have hop : a.op = 1 ∨ a.op = 2 ∨ a.op = 3 ∨ a.op = 4 ∨ a.op = 5 ∨ a.op = 6 ∨ a.op = 7 := by omega
  have hbp : b.op = 1 ∨ b.op = 2 ∨ b.op = 3 ∨ b.op = 4 ∨ b.op = 5 ∨ b.op = 6 ∨ b.op = 7 := by omega
  have hq' : ¬ (a.op = b.op ∧ a.k = b.k ∧ a.n = b.n ∧ a.s = b.s) := fun h => hq ⟨hn, h⟩
  rw [Bool.eq_iff_iff, show impB a b = decide (impP a b) from rfl, decide_eq_true_iff]
  unfold impP
  have e : (a.name = b.name ∧ (1 ≤ a.op ∧ a.op ≤ 8) ∧ (1 ≤ b.op ∧ b.op ≤ 8) ∧ ((a.op = b.op ∧ a.k = b.k ∧ a.n = b.n ∧ a.s = b.s) ∨ b.op = 8 ∨ (a.op ≠ 8 ∧ a.k = b.k ∧
      ((a.op = 1 ∧ isB b a.k a.n a.s = true) ∨ (a.op = 3 ∧ (b.op = 2 ∨ b.op = 3 ∨ b.op = 4) ∧ vo a b ≤ 0) ∨ (a.op = 4 ∧ ((b.op = 4 ∧ vo a b ≤ 0) ∨ ((b.op = 2 ∨ b.op = 3) ∧ vo a b < 0))) ∨ (a.op = 5 ∧ (b.op = 2 ∨ b.op = 5 ∨ b.op = 6) ∧ 0 ≤ vo a b) ∨ (a.op = 6 ∧ ((b.op = 6 ∧ 0 ≤ vo a b) ∨ ((b.op = 2 ∨ b.op = 5) ∧ 0 < vo a b))) ∨
       (a.op = 7 ∧ ((b.op = 7 ∧ beg a.k a.s.data.toList b.k b.s.data.toList = true) ∨ (b.op = 6 ∧ 0 ≤ vo a b) ∨ (b.op = 5 ∧ 0 < vo a b) ∨ (b.op = 2 ∧ beg b.k b.s.data.toList a.k a.s.data.toList = false))))))) ↔
      ((a.op = 1 ∧ isB b a.k a.n a.s = true) ∨ (a.op = 3 ∧ (b.op = 2 ∨ b.op = 3 ∨ b.op = 4) ∧ vo a b ≤ 0) ∨ (a.op = 4 ∧ ((b.op = 4 ∧ vo a b ≤ 0) ∨ ((b.op = 2 ∨ b.op = 3) ∧ vo a b < 0))) ∨ (a.op = 5 ∧ (b.op = 2 ∨ b.op = 5 ∨ b.op = 6) ∧ 0 ≤ vo a b) ∨ (a.op = 6 ∧ ((b.op = 6 ∧ 0 ≤ vo a b) ∨ ((b.op = 2 ∨ b.op = 5) ∧ 0 < vo a b))) ∨
       (a.op = 7 ∧ ((b.op = 7 ∧ beg a.k a.s.data.toList b.k b.s.data.toList = true) ∨ (b.op = 6 ∧ 0 ≤ vo a b) ∨ (b.op = 5 ∧ 0 < vo a b) ∨ (b.op = 2 ∧ beg b.k b.s.data.toList a.k a.s.data.toList = false)))) := by
    constructor
    · rintro ⟨_, _, _, h | h | ⟨_, _, h⟩⟩
      · exact absurd h hq'
      · exact absurd h h8
      · exact h
    · exact fun h => ⟨hn, ha, hb, Or.inr (Or.inr ⟨ha8, hk, h⟩)⟩
  rw [e]
  clear e hq hq' ha hb hn
  generalize vo a b = o
  unfold bel abv bgn
  generalize beg a.k a.s.data.toList b.k b.s.data.toList = g1
  generalize beg b.k b.s.data.toList a.k a.s.data.toList = g2
  generalize isB b a.k a.n a.s = i1
  rcases hop with h | h | h | h | h | h | h <;> simp only [h] <;> rcases hbp with h' | h' | h' | h' | h' | h' | h' <;> simp [h']
end PM
set_option maxRecDepth 100000 in
set_option maxHeartbeats 4000000 in
theorem rimplies_any (za zb : PM.Te) (hsa : za.s.size ≤ maxLen) (hsb : zb.s.size ≤ maxLen) (w : World) : Calls Tryz.prog 78 #[.agg #[.string za.name, .int .i64 za.op, .int .i64 za.k, .int .i64 za.n, .string za.s], .agg #[.string zb.name, .int .i64 zb.op, .int .i64 zb.k, .int .i64 zb.n, .string zb.s]] w fun e w' => e = .returned (.bool (PM.impB za zb)) ∧ Below w.heap.size w w' := by
  obtain ⟨ga, hga⟩ : ∃ g, g = w.heap.size := ⟨_, rfl⟩
  obtain ⟨wb0, hwb0⟩ : ∃ W, W = w.alloc (.cells #[.string za.name, .int .i64 za.op, .int .i64 za.k, .int .i64 za.n, .string za.s] 50) := ⟨_, rfl⟩
  have swb0 : wb0.heap.size = w.heap.size + 1 := by rw [hwb0]; simp
  have kga : PM.BK wb0 ga #[.string za.name, .int .i64 za.op, .int .i64 za.k, .int .i64 za.n, .string za.s] 50 := by rw [hwb0, hga]; exact PM.BK.new _ _ _
  have aga : Below w.heap.size w wb0 := by rw [hwb0]; exact (Below.refl _ _).alloc (Nat.le_refl _) _
  obtain ⟨gb, hgb⟩ : ∃ g, g = w.heap.size + 1 := ⟨_, rfl⟩
  obtain ⟨wb1, hwb1⟩ : ∃ W, W = wb0.alloc (.cells #[.string zb.name, .int .i64 zb.op, .int .i64 zb.k, .int .i64 zb.n, .string zb.s] 50) := ⟨_, rfl⟩
  have swb1 : wb1.heap.size = w.heap.size + 2 := by rw [hwb1]; simp; rw [swb0]
  have kgb : PM.BK wb1 gb #[.string zb.name, .int .i64 zb.op, .int .i64 zb.k, .int .i64 zb.n, .string zb.s] 50 := by rw [hwb1, hgb, ← swb0]; exact PM.BK.new _ _ _
  have agb : Below wb0.heap.size wb0 wb1 := by rw [hwb1]; exact (Below.refl _ _).alloc (Nat.le_refl _) _
  replace kga := kga.keep agb
  have hBB := PM.hid (PM.chain aga agb)
  clear swb0 aga swb1 agb
  go_enter Tryz.func78, Tryz.ntmps78
  go_upto_region 1 with fail
  rw [← hwb0, ← hwb1, ← hgb, ← hga]
  clear hwb0 hwb1 hga hgb
  have c0 : wb1.cell? ⟨ga, 0, none⟩ = some (.string za.name) := kga.cell 0
  have c1 : wb1.cell? ⟨ga, 1, none⟩ = some (.int .i64 za.op) := kga.cell 1
  have c2 : wb1.cell? ⟨ga, 2, none⟩ = some (.int .i64 za.k) := kga.cell 2
  have c3 : wb1.cell? ⟨ga, 3, none⟩ = some (.int .i64 za.n) := kga.cell 3
  have c4 : wb1.cell? ⟨ga, 4, none⟩ = some (.string za.s) := kga.cell 4
  have d0 : wb1.cell? ⟨gb, 0, none⟩ = some (.string zb.name) := kgb.cell 0
  have d1 : wb1.cell? ⟨gb, 1, none⟩ = some (.int .i64 zb.op) := kgb.cell 1
  have d2 : wb1.cell? ⟨gb, 2, none⟩ = some (.int .i64 zb.k) := kgb.cell 2
  have d3 : wb1.cell? ⟨gb, 3, none⟩ = some (.int .i64 zb.n) := kgb.cell 3
  have d4 : wb1.cell? ⟨gb, 4, none⟩ = some (.string zb.s) := kgb.cell 4
  clear kga kgb
  have NO : ∀ v : Bool, PM.impB za zb = v → Hid (PM.impB za zb = v) := fun v h => h
  by_cases hn : za.name.toList = zb.name.toList
  case neg =>
    have q := NO false (decide_eq_false fun h => hn (by rw [h.1]))
    have q1 : (za.name.toList == zb.name.toList) = false := by simpa using hn
    clear hn NO
    go_wp2_with fail
    go_ret
    exact ⟨PM.ret_bool' q.out, hBB.out⟩
  have q1 : (za.name.toList == zb.name.toList) = true := by simpa using hn
  have hnh := PM.hid (PM.toList_injQ hn)
  clear hn
  by_cases hab : (1 ≤ za.op ∧ za.op ≤ 8) ∧ (1 ≤ zb.op ∧ zb.op ≤ 8)
  case neg =>
    have q := NO false (decide_eq_false fun h => hab ⟨h.2.1, h.2.2.1⟩)
    have p1 : decide (za.op < 1) = true ∨ (decide (za.op < 1) = false ∧ decide (8 < za.op) = true) ∨ (decide (za.op < 1) = false ∧ decide (8 < za.op) = false ∧ decide (zb.op < 1) = true) ∨ (decide (za.op < 1) = false ∧ decide (8 < za.op) = false ∧ decide (zb.op < 1) = false ∧ decide (8 < zb.op) = true) := by
      simp only [decide_eq_true_eq, decide_eq_false_iff_not]
      omega
    clear hab NO
    rcases p1 with p1 | ⟨p1, p2⟩ | ⟨p1, p2, p3⟩ | ⟨p1, p2, p3, p4⟩
    all_goals
      go_wp2_with fail
      go_ret
      exact ⟨PM.ret_bool' q.out, hBB.out⟩
  have p1 : decide (za.op < 1) = false := by simp; omega
  have p2 : decide (8 < za.op) = false := by simp; omega
  have p3 : decide (zb.op < 1) = false := by simp; omega
  have p4 : decide (8 < zb.op) = false := by simp; omega
  have habh := PM.hid hab
  clear hab
  have heq := eq_teQ za zb
  cases hq : PM.teQ za zb
  case true =>
    have q := NO true (decide_eq_true ⟨hnh.out, habh.out.1, habh.out.2, Or.inl (of_decide_eq_true hq).2⟩)
    rw [hq] at heq
    clear hq NO
    go_wp2_with fail
    go_ret
    exact ⟨PM.ret_bool' q.out, hBB.out⟩
  rw [hq] at heq
  have hqh := PM.hid (of_decide_eq_false hq)
  clear hq
  by_cases h8 : zb.op = 8
  case pos =>
    have q := NO true (decide_eq_true ⟨hnh.out, habh.out.1, habh.out.2, Or.inr (Or.inl h8)⟩)
    have e8 : (zb.op == 8) = true := by simpa using h8
    clear h8 NO
    go_wp2_with fail
    go_ret
    exact ⟨PM.ret_bool' q.out, hBB.out⟩
  have e8 : (zb.op == 8) = false := by simpa using h8
  have h8h := PM.hid h8
  clear h8
  by_cases ha8 : za.op = 8
  case pos =>
    have q := NO false (decide_eq_false fun h => by
      rcases h.2.2.2 with h | h | h
      · exact hqh.out ⟨hnh.out, h⟩
      · exact h8h.out h
      · exact h.1 ha8)
    have ea : (za.op == 8) = true := by simpa using ha8
    clear ha8 NO
    go_wp2_with fail
    go_ret
    exact ⟨PM.ret_bool' q.out, hBB.out⟩
  have ea : (za.op == 8) = false := by simpa using ha8
  by_cases hk : za.k = zb.k
  case neg =>
    have q := NO false (decide_eq_false fun h => by
      rcases h.2.2.2 with h | h | h
      · exact hk h.2.1
      · exact h8h.out h
      · exact hk h.2.1)
    have ek : (za.k != zb.k) = true := by simpa using hk
    clear hk ha8 NO
    go_wp2_with fail
    go_ret
    exact ⟨PM.ret_bool' q.out, hBB.out⟩
  have ek : (za.k != zb.k) = false := by simpa using hk
  have hcore := PM.hid (PM.imp_core hnh.out habh.out.1 habh.out.2 hqh.out h8h.out ha8 hk)
  have hop : za.op = 1 ∨ za.op = 2 ∨ za.op = 3 ∨ za.op = 4 ∨ za.op = 5 ∨ za.op = 6 ∨ za.op = 7 := by have := habh.out; omega
  have hoph := PM.hid hop
  have hs := PM.hid (And.intro hsa hsb)
  clear hk ha8 NO hop hsa hsb
  go_wp2_with fail
  refine (rorder_any za.k za.n za.s zb.k zb.n zb.s wb1).mono ?_
  rintro e w2 ⟨rfl, hB2⟩
  replace c0 := PM.cell_keepR hB2 c0
  replace d0 := PM.cell_keepR hB2 d0
  replace c1 := PM.cell_keepR hB2 c1
  replace d1 := PM.cell_keepR hB2 d1
  replace c2 := PM.cell_keepR hB2 c2
  replace d2 := PM.cell_keepR hB2 d2
  replace c3 := PM.cell_keepR hB2 c3
  replace d3 := PM.cell_keepR hB2 d3
  replace c4 := PM.cell_keepR hB2 c4
  replace d4 := PM.cell_keepR hB2 d4
  replace hBB := PM.hid (PM.chain hBB.out hB2)
  obtain ⟨o, ho⟩ : ∃ o, PM.ord za.k za.n za.s.data.toList zb.k zb.n zb.s.data.toList = o := ⟨_, rfl⟩
  have hoh : Hid (PM.vo za zb = o) := PM.hid ho
  rw [ho]
  clear hB2 ho
  rcases hoph.out with h | h | h | h | h | h | h
  · have hc : Hid (PM.impB za zb = PM.isB zb za.k za.n za.s) := PM.hid (by have := hcore.out; rw [hoh.out] at this; rw [this, h]; first | rfl | simp)
    have w1 : (za.op == 1) = true := by rw [h]; rfl
    have w3 : (za.op == 3) = false := by rw [h]; rfl
    have w4 : (za.op == 4) = false := by rw [h]; rfl
    have w5 : (za.op == 5) = false := by rw [h]; rfl
    have w6 : (za.op == 6) = false := by rw [h]; rfl
    have w7 : (za.op == 7) = false := by rw [h]; rfl
    clear h
    go_wp2_with fail
    refine (ris_any zb za.k za.n za.s hs.out.1 hs.out.2 w2).mono ?_
    rintro e w3 ⟨rfl, hB3⟩
    replace hBB := PM.hid (PM.chain hBB.out hB3)
    clear hB3 c0 c1 c2 c3 c4 d0 d1 d2 d3 d4
    go_wp2_with fail
    go_ret
    exact ⟨PM.ret_bool' hc.out, hBB.out⟩
  · have hc : Hid (PM.impB za zb = false) := PM.hid (by have := hcore.out; rw [hoh.out] at this; rw [this, h]; first | rfl | simp)
    have w1 : (za.op == 1) = false := by rw [h]; rfl
    have w3 : (za.op == 3) = false := by rw [h]; rfl
    have w4 : (za.op == 4) = false := by rw [h]; rfl
    have w5 : (za.op == 5) = false := by rw [h]; rfl
    have w6 : (za.op == 6) = false := by rw [h]; rfl
    have w7 : (za.op == 7) = false := by rw [h]; rfl
    clear h
    go_wp2_with fail
    go_ret
    exact ⟨PM.ret_bool' hc.out, hBB.out⟩
  · have hc : Hid (PM.impB za zb = PM.bel false o zb.op) := PM.hid (by have := hcore.out; rw [hoh.out] at this; rw [this, h]; first | rfl | simp)
    have w1 : (za.op == 1) = false := by rw [h]; rfl
    have w3 : (za.op == 3) = true := by rw [h]; rfl
    have w4 : (za.op == 4) = false := by rw [h]; rfl
    have w5 : (za.op == 5) = false := by rw [h]; rfl
    have w6 : (za.op == 6) = false := by rw [h]; rfl
    have w7 : (za.op == 7) = false := by rw [h]; rfl
    clear h
    go_wp2_with fail
    refine (bel_any false o zb.op w2).mono ?_
    rintro e w3 ⟨rfl, rfl⟩
    clear c0 c1 c2 c3 c4 d0 d1 d2 d3 d4
    go_wp2_with fail
    go_ret
    exact ⟨PM.ret_bool' hc.out, hBB.out⟩
  · have hc : Hid (PM.impB za zb = PM.bel true o zb.op) := PM.hid (by have := hcore.out; rw [hoh.out] at this; rw [this, h]; first | rfl | simp)
    have w1 : (za.op == 1) = false := by rw [h]; rfl
    have w3 : (za.op == 3) = false := by rw [h]; rfl
    have w4 : (za.op == 4) = true := by rw [h]; rfl
    have w5 : (za.op == 5) = false := by rw [h]; rfl
    have w6 : (za.op == 6) = false := by rw [h]; rfl
    have w7 : (za.op == 7) = false := by rw [h]; rfl
    clear h
    go_wp2_with fail
    refine (bel_any true o zb.op w2).mono ?_
    rintro e w3 ⟨rfl, rfl⟩
    clear c0 c1 c2 c3 c4 d0 d1 d2 d3 d4
    go_wp2_with fail
    go_ret
    exact ⟨PM.ret_bool' hc.out, hBB.out⟩
  · have hc : Hid (PM.impB za zb = PM.abv false o zb.op) := PM.hid (by have := hcore.out; rw [hoh.out] at this; rw [this, h]; first | rfl | simp)
    have w1 : (za.op == 1) = false := by rw [h]; rfl
    have w3 : (za.op == 3) = false := by rw [h]; rfl
    have w4 : (za.op == 4) = false := by rw [h]; rfl
    have w5 : (za.op == 5) = true := by rw [h]; rfl
    have w6 : (za.op == 6) = false := by rw [h]; rfl
    have w7 : (za.op == 7) = false := by rw [h]; rfl
    clear h
    go_wp2_with fail
    refine (abv_any false o zb.op w2).mono ?_
    rintro e w3 ⟨rfl, rfl⟩
    clear c0 c1 c2 c3 c4 d0 d1 d2 d3 d4
    go_wp2_with fail
    go_ret
    exact ⟨PM.ret_bool' hc.out, hBB.out⟩
  · have hc : Hid (PM.impB za zb = PM.abv true o zb.op) := PM.hid (by have := hcore.out; rw [hoh.out] at this; rw [this, h]; first | rfl | simp)
    have w1 : (za.op == 1) = false := by rw [h]; rfl
    have w3 : (za.op == 3) = false := by rw [h]; rfl
    have w4 : (za.op == 4) = false := by rw [h]; rfl
    have w5 : (za.op == 5) = false := by rw [h]; rfl
    have w6 : (za.op == 6) = true := by rw [h]; rfl
    have w7 : (za.op == 7) = false := by rw [h]; rfl
    clear h
    go_wp2_with fail
    refine (abv_any true o zb.op w2).mono ?_
    rintro e w3 ⟨rfl, rfl⟩
    clear c0 c1 c2 c3 c4 d0 d1 d2 d3 d4
    go_wp2_with fail
    go_ret
    exact ⟨PM.ret_bool' hc.out, hBB.out⟩
  · have hc : Hid (PM.impB za zb = PM.bgn za zb o) := PM.hid (by have := hcore.out; rw [hoh.out] at this; rw [this, h]; first | rfl | simp)
    have w1 : (za.op == 1) = false := by rw [h]; rfl
    have w3 : (za.op == 3) = false := by rw [h]; rfl
    have w4 : (za.op == 4) = false := by rw [h]; rfl
    have w5 : (za.op == 5) = false := by rw [h]; rfl
    have w6 : (za.op == 6) = false := by rw [h]; rfl
    have w7 : (za.op == 7) = true := by rw [h]; rfl
    clear h
    go_wp2_with fail
    refine (bgn_any za zb o w2 hs).mono ?_
    rintro e w3 ⟨rfl, hB3⟩
    replace hBB := PM.hid (PM.chain hBB.out hB3)
    clear hB3 c0 c1 c2 c3 c4 d0 d1 d2 d3 d4
    go_wp2_with fail
    go_ret
    exact ⟨PM.ret_bool' hc.out, hBB.out⟩
end Go.Proofs.YtnpbfjkfbobgaaaGreat
