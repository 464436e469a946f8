/-
  THE WALKS OF LAYER 6's STATEMENTS: chain.
-/
import Derived.Test.YtbpajgejfnjaeaaNk
import Derived.Test.YtbpajgejfnjaeaaNg
import Derived.Laws.StructEq
namespace Go.Proofs.Ytbpajgejfnjaeaa
open Go.RowKit
set_option linter.unusedVariables false
set_option linter.unusedSimpArgs false
namespace PM
/-- are two tests one? -/
def teB (a b : Te) : Bool := decide (a.name = b.name ∧ a.op = b.op ∧ a.k = b.k ∧ a.n = b.n ∧ a.s = b.s)
theorem teB_iff {a b : Te} : teB a b = true ↔ a = b := by
  unfold teB
  rw [decide_eq_true_iff]
  constructor
  · rintro ⟨h1, h2, h3, h4, h5⟩
    cases a; cases b
    simp only at h1 h2 h3 h4 h5
    subst h1 h2 h3 h4 h5
    rfl
  · rintro rfl
    exact ⟨rfl, rfl, rfl, rfl, rfl⟩
theorem tord_teB (a b : Te) : (tord a b == 0) = teB a b := by
  rw [Bool.eq_iff_iff, beq_iff_eq, teB_iff]
  exact ⟨tord_zero, fun h => by rw [h]; exact tord_self _⟩
theorem tord_le_trans {a b c : Te} (h1 : tord a b ≤ 0) (h2 : tord b c ≤ 0) : tord a c ≤ 0 := by
  have n1 : tlt b a = false := tlt_no (by have := tord_anti a b; omega)
  have n2 : tlt c b = false := tlt_no (by have := tord_anti b c; omega)
  have := of_decide_eq_false (swoT.ntrans _ _ _ n2 n1)
  have := tord_anti a c
  omega
def I64 (x : Int) : Prop := -2 ≤ x ∧ x ≤ 2
theorem tord_rng (a b : Te) : I64 (tord a b) := by
  have h1 : ∀ a b : List UInt8, I64 (plS a b) := fun a b => by unfold I64 plS; (repeat' split) <;> omega
  have h2 : ∀ a b : Int, I64 (plI a b) := fun a b => by unfold I64 plI; (repeat' split) <;> omega
  have h3 : I64 (vo a b) := by
    unfold vo ord
    have q1 := h2 a.k b.k
    have q2 := h2 a.n b.n
    have q3 := h1 a.s.data.toList b.s.data.toList
    first | (split; exact q1; split; exact q2; exact q3) | (repeat' split) <;> assumption
  rw [tord_eq]
  have q1 := h1 a.name.data.toList b.name.data.toList
  have q2 := h2 a.op b.op
  (repeat' split) <;> assumption
theorem toList_inj' {a b : ByteArray} (h : a.toList = b.toList) : a = b := by
  rw [ByteArray.toList_eq, ByteArray.toList_eq] at h
  exact bytes_ext h
end PM
set_option maxRecDepth 100000 in
set_option maxHeartbeats 400000 in
theorem eq_te (za zb : PM.Te) : ∀ w : World, Sem.run Try.prog (binOp .eql 25 (.agg #[.string za.name, .int .i64 za.op, .int .i64 za.k, .int .i64 za.n, .string za.s]) (.agg #[.string zb.name, .int .i64 zb.op, .int .i64 zb.k, .int .i64 zb.n, .string zb.s])) w = .ok (.bool (PM.teB za zb)) w := by
  intro w
  rw [run_eql_struct, show (10000 : Nat) = 9999 + 1 from rfl, run_equalIn_agg w 9999 25 _ _ (by kernel_rfl) (by kernel_rfl)]
  simp only [Program.fieldsOf, Try.underlying25]
  go_simp
  have t1 : za.name.toList = zb.name.toList ↔ za.name = zb.name := ⟨PM.toList_inj', fun h => by rw [h]⟩
  have t2 : za.s.toList = zb.s.toList ↔ za.s = zb.s := ⟨PM.toList_inj', fun h => by rw [h]⟩
  simp only [t1, t2]
  unfold PM.teB
  by_cases a1 : za.name = zb.name <;> by_cases a2 : za.op = zb.op <;> by_cases a3 : za.k = zb.k <;> by_cases a4 : za.n = zb.n <;> by_cases a5 : za.s = zb.s <;> simp [a1, a2, a3, a4, a5]
set_option maxRecDepth 100000 in
set_option maxHeartbeats 4000000 in
theorem normChain_walk (za zb zc : PM.Te) (hza : za.wf) (hzb : zb.wf) (hzc : zc.wf) (w : World) :
    Calls Try.prog 6 #[.agg #[.string za.name, .int .i64 za.op, .int .i64 za.k, .int .i64 za.n, .string za.s], .agg #[.string zb.name, .int .i64 zb.op, .int .i64 zb.k, .int .i64 zb.n, .string zb.s], .agg #[.string zc.name, .int .i64 zc.op, .int .i64 zc.k, .int .i64 zc.n, .string zc.s]] w fun e w' => e = .returned (.bool true) ∧ Below w.heap.size w w' := by
  clear hza hzb hzc
  obtain ⟨ga, hga⟩ : ∃ g, g = w.heap.size := ⟨_, rfl⟩
  obtain ⟨wb0, hwb0⟩ : ∃ W, W = w.alloc (.cells #[.string za.name, .int .i64 za.op, .int .i64 za.k, .int .i64 za.n, .string za.s] 25) := ⟨_, rfl⟩
  have swb0 : wb0.heap.size = w.heap.size + 1 := by rw [hwb0]; simp
  have kga : PM.BK wb0 ga #[.string za.name, .int .i64 za.op, .int .i64 za.k, .int .i64 za.n, .string za.s] 25 := by rw [hwb0, hga]; exact PM.BK.new _ _ _
  have aga : Below w.heap.size w wb0 := by rw [hwb0]; exact (Below.refl _ _).alloc (Nat.le_refl _) _
  obtain ⟨gb, hgb⟩ : ∃ g, g = w.heap.size + 1 := ⟨_, rfl⟩
  obtain ⟨wb1, hwb1⟩ : ∃ W, W = wb0.alloc (.cells #[.string zb.name, .int .i64 zb.op, .int .i64 zb.k, .int .i64 zb.n, .string zb.s] 25) := ⟨_, rfl⟩
  have swb1 : wb1.heap.size = w.heap.size + 2 := by rw [hwb1]; simp; rw [swb0]
  have kgb : PM.BK wb1 gb #[.string zb.name, .int .i64 zb.op, .int .i64 zb.k, .int .i64 zb.n, .string zb.s] 25 := by rw [hwb1, hgb, ← swb0]; exact PM.BK.new _ _ _
  have agb : Below wb0.heap.size wb0 wb1 := by rw [hwb1]; exact (Below.refl _ _).alloc (Nat.le_refl _) _
  replace kga := kga.keep agb
  obtain ⟨gc, hgc⟩ : ∃ g, g = w.heap.size + 2 := ⟨_, rfl⟩
  obtain ⟨wb2, hwb2⟩ : ∃ W, W = wb1.alloc (.cells #[.string zc.name, .int .i64 zc.op, .int .i64 zc.k, .int .i64 zc.n, .string zc.s] 25) := ⟨_, rfl⟩
  have swb2 : wb2.heap.size = w.heap.size + 3 := by rw [hwb2]; simp; rw [swb1]
  have kgc : PM.BK wb2 gc #[.string zc.name, .int .i64 zc.op, .int .i64 zc.k, .int .i64 zc.n, .string zc.s] 25 := by rw [hwb2, hgc, ← swb1]; exact PM.BK.new _ _ _
  have agc : Below wb1.heap.size wb1 wb2 := by rw [hwb2]; exact (Below.refl _ _).alloc (Nat.le_refl _) _
  replace kga := kga.keep agc
  replace kgb := kgb.keep agc
  have hBB := PM.hid (PM.chain (PM.chain aga agb) agc)
  clear swb0 aga swb1 agb swb2 agc
  go_enter Try.func6, Try.ntmps6
  go_upto_region 1 with fail
  rw [← hwb0, ← hwb1, ← hwb2, ← hgc, ← hgb, ← hga]
  clear hwb0 hga hwb1 hgb hwb2 hgc
  have ga_0 : wb2.cell? ⟨ga, 0, none⟩ = some (.string za.name) := kga.cell 0
  have ga_1 : wb2.cell? ⟨ga, 1, none⟩ = some (.int .i64 za.op) := kga.cell 1
  have ga_2 : wb2.cell? ⟨ga, 2, none⟩ = some (.int .i64 za.k) := kga.cell 2
  have ga_3 : wb2.cell? ⟨ga, 3, none⟩ = some (.int .i64 za.n) := kga.cell 3
  have ga_4 : wb2.cell? ⟨ga, 4, none⟩ = some (.string za.s) := kga.cell 4
  have gb_0 : wb2.cell? ⟨gb, 0, none⟩ = some (.string zb.name) := kgb.cell 0
  have gb_1 : wb2.cell? ⟨gb, 1, none⟩ = some (.int .i64 zb.op) := kgb.cell 1
  have gb_2 : wb2.cell? ⟨gb, 2, none⟩ = some (.int .i64 zb.k) := kgb.cell 2
  have gb_3 : wb2.cell? ⟨gb, 3, none⟩ = some (.int .i64 zb.n) := kgb.cell 3
  have gb_4 : wb2.cell? ⟨gb, 4, none⟩ = some (.string zb.s) := kgb.cell 4
  have gc_0 : wb2.cell? ⟨gc, 0, none⟩ = some (.string zc.name) := kgc.cell 0
  have gc_1 : wb2.cell? ⟨gc, 1, none⟩ = some (.int .i64 zc.op) := kgc.cell 1
  have gc_2 : wb2.cell? ⟨gc, 2, none⟩ = some (.int .i64 zc.k) := kgc.cell 2
  have gc_3 : wb2.cell? ⟨gc, 3, none⟩ = some (.int .i64 zc.n) := kgc.cell 3
  have gc_4 : wb2.cell? ⟨gc, 4, none⟩ = some (.string zc.s) := kgc.cell 4
  go_wp2_with fail
  refine (awake6 _).mono ?_
  rintro e wn1 ⟨rfl, hBn⟩
  clear ga_0 ga_1 ga_2 ga_3 ga_4 gb_0 gb_1 gb_2 gb_3 gb_4 gc_0 gc_1 gc_2 gc_3 gc_4
  replace kga := kga.keep hBn
  replace kgb := kgb.keep hBn
  replace kgc := kgc.keep hBn
  replace hBB := PM.hid (PM.chain hBB.out hBn)
  clear hBn
  have ga_0 : wn1.cell? ⟨ga, 0, none⟩ = some (.string za.name) := kga.cell 0
  have ga_1 : wn1.cell? ⟨ga, 1, none⟩ = some (.int .i64 za.op) := kga.cell 1
  have ga_2 : wn1.cell? ⟨ga, 2, none⟩ = some (.int .i64 za.k) := kga.cell 2
  have ga_3 : wn1.cell? ⟨ga, 3, none⟩ = some (.int .i64 za.n) := kga.cell 3
  have ga_4 : wn1.cell? ⟨ga, 4, none⟩ = some (.string za.s) := kga.cell 4
  have gb_0 : wn1.cell? ⟨gb, 0, none⟩ = some (.string zb.name) := kgb.cell 0
  have gb_1 : wn1.cell? ⟨gb, 1, none⟩ = some (.int .i64 zb.op) := kgb.cell 1
  have gb_2 : wn1.cell? ⟨gb, 2, none⟩ = some (.int .i64 zb.k) := kgb.cell 2
  have gb_3 : wn1.cell? ⟨gb, 3, none⟩ = some (.int .i64 zb.n) := kgb.cell 3
  have gb_4 : wn1.cell? ⟨gb, 4, none⟩ = some (.string zb.s) := kgb.cell 4
  have gc_0 : wn1.cell? ⟨gc, 0, none⟩ = some (.string zc.name) := kgc.cell 0
  have gc_1 : wn1.cell? ⟨gc, 1, none⟩ = some (.int .i64 zc.op) := kgc.cell 1
  have gc_2 : wn1.cell? ⟨gc, 2, none⟩ = some (.int .i64 zc.k) := kgc.cell 2
  have gc_3 : wn1.cell? ⟨gc, 3, none⟩ = some (.int .i64 zc.n) := kgc.cell 3
  have gc_4 : wn1.cell? ⟨gc, 4, none⟩ = some (.string zc.s) := kgc.cell 4
  go_wp2_with fail
  refine (ffew_any _ [za, zb, zc] _ (PM.EM.lits' PM.teL_len wn1 25 [za, zb, zc] 3 rfl (by simp [maxLen]) #[.string za.name, .int .i64 za.op, .int .i64 za.k, .int .i64 za.n, .string za.s, .string zb.name, .int .i64 zb.op, .int .i64 zb.k, .int .i64 zb.n, .string zb.s, .string zc.name, .int .i64 zc.op, .int .i64 zc.k, .int .i64 zc.n, .string zc.s] rfl)).mono ?_
  rintro e wf ⟨hF, rfl⟩
  obtain ⟨wc2, hwc⟩ : ∃ W, W = wn1.alloc (.cells #[.string za.name, .int .i64 za.op, .int .i64 za.k, .int .i64 za.n, .string za.s, .string zb.name, .int .i64 zb.op, .int .i64 zb.k, .int .i64 zb.n, .string zb.s, .string zc.name, .int .i64 zc.op, .int .i64 zc.k, .int .i64 zc.n, .string zc.s] 25) := ⟨_, rfl⟩
  have hal : Below wn1.heap.size wn1 wc2 := by rw [hwc]; exact (Below.refl _ _).alloc (Nat.le_refl _) _
  rw [← hwc]
  clear ga_0 ga_1 ga_2 ga_3 ga_4 gb_0 gb_1 gb_2 gb_3 gb_4 gc_0 gc_1 gc_2 gc_3 gc_4
  replace kga := kga.keep hal
  replace kgb := kgb.keep hal
  replace kgc := kgc.keep hal
  replace hBB := PM.hid (PM.chain hBB.out hal)
  clear hwc hal
  rcases hF with ⟨rfl, hF⟩ | ⟨rfl, hF⟩
  case inr =>
    clear kga kgb kgc hF
    go_wp2_with fail
    go_ret
    exact ⟨by first | rfl | simp, hBB.out⟩
  clear hF
  have ga_0 : wc2.cell? ⟨ga, 0, none⟩ = some (.string za.name) := kga.cell 0
  have ga_1 : wc2.cell? ⟨ga, 1, none⟩ = some (.int .i64 za.op) := kga.cell 1
  have ga_2 : wc2.cell? ⟨ga, 2, none⟩ = some (.int .i64 za.k) := kga.cell 2
  have ga_3 : wc2.cell? ⟨ga, 3, none⟩ = some (.int .i64 za.n) := kga.cell 3
  have ga_4 : wc2.cell? ⟨ga, 4, none⟩ = some (.string za.s) := kga.cell 4
  have gb_0 : wc2.cell? ⟨gb, 0, none⟩ = some (.string zb.name) := kgb.cell 0
  have gb_1 : wc2.cell? ⟨gb, 1, none⟩ = some (.int .i64 zb.op) := kgb.cell 1
  have gb_2 : wc2.cell? ⟨gb, 2, none⟩ = some (.int .i64 zb.k) := kgb.cell 2
  have gb_3 : wc2.cell? ⟨gb, 3, none⟩ = some (.int .i64 zb.n) := kgb.cell 3
  have gb_4 : wc2.cell? ⟨gb, 4, none⟩ = some (.string zb.s) := kgb.cell 4
  have gc_0 : wc2.cell? ⟨gc, 0, none⟩ = some (.string zc.name) := kgc.cell 0
  have gc_1 : wc2.cell? ⟨gc, 1, none⟩ = some (.int .i64 zc.op) := kgc.cell 1
  have gc_2 : wc2.cell? ⟨gc, 2, none⟩ = some (.int .i64 zc.k) := kgc.cell 2
  have gc_3 : wc2.cell? ⟨gc, 3, none⟩ = some (.int .i64 zc.n) := kgc.cell 3
  have gc_4 : wc2.cell? ⟨gc, 4, none⟩ = some (.string zc.s) := kgc.cell 4
  by_cases hch : PM.filP [za, zb, zc]
  case neg =>
    go_wp2_with fail
    refine (fcheck_any _ [za, zb, zc] _ (PM.EM.lits' PM.teL_len wc2 25 [za, zb, zc] 3 rfl (by simp [maxLen]) #[.string za.name, .int .i64 za.op, .int .i64 za.k, .int .i64 za.n, .string za.s, .string zb.name, .int .i64 zb.op, .int .i64 zb.k, .int .i64 zb.n, .string zb.s, .string zc.name, .int .i64 zc.op, .int .i64 zc.k, .int .i64 zc.n, .string zc.s] rfl)).mono ?_
    rintro e wn3 ⟨rfl, hBn⟩
    rw [PM.filE_no hch]
    have hal : Below wc2.heap.size wc2 wn3 := PM.chain ((Below.refl _ wc2).alloc (Nat.le_refl _) _) hBn
    clear ga_0 ga_1 ga_2 ga_3 ga_4 gb_0 gb_1 gb_2 gb_3 gb_4 gc_0 gc_1 gc_2 gc_3 gc_4
    replace kga := kga.keep hal
    replace kgb := kgb.keep hal
    replace kgc := kgc.keep hal
    replace hBB := PM.hid (PM.chain hBB.out hal)
    clear kga kgb kgc hch hBn hal
    go_wp2_with fail
    go_ret
    exact ⟨by first | rfl | simp, hBB.out⟩
  go_wp2_with fail
  refine (fcheck_any _ [za, zb, zc] _ (PM.EM.lits' PM.teL_len wc2 25 [za, zb, zc] 3 rfl (by simp [maxLen]) #[.string za.name, .int .i64 za.op, .int .i64 za.k, .int .i64 za.n, .string za.s, .string zb.name, .int .i64 zb.op, .int .i64 zb.k, .int .i64 zb.n, .string zb.s, .string zc.name, .int .i64 zc.op, .int .i64 zc.k, .int .i64 zc.n, .string zc.s] rfl)).mono ?_
  rintro e wn3 ⟨rfl, hBn⟩
  rw [PM.filE_yes hch]
  have hal : Below wc2.heap.size wc2 wn3 := PM.chain ((Below.refl _ wc2).alloc (Nat.le_refl _) _) hBn
  clear ga_0 ga_1 ga_2 ga_3 ga_4 gb_0 gb_1 gb_2 gb_3 gb_4 gc_0 gc_1 gc_2 gc_3 gc_4
  replace kga := kga.keep hal
  replace kgb := kgb.keep hal
  replace kgc := kgc.keep hal
  replace hBB := PM.hid (PM.chain hBB.out hal)
  clear hBn hal
  have hoa := hch.2 za (by simp)
  have htrh : Hid (PM.impB za zb = true → PM.impB zb zc = true → PM.impB za zc = true) := PM.hid fun h1 h2 => decide_eq_true (PM.impP_trans (hch.2 za (by simp)) (hch.2 zb (by simp)) (hch.2 zc (by simp)) (of_decide_eq_true h1) (of_decide_eq_true h2))
  have hselfh : Hid (PM.impB za za = true) := PM.hid (decide_eq_true (PM.impP_self hoa))
  have hanti := PM.hid (PM.tord_anti za zb)
  have heq := eq_te za zb
  have hzero : Hid ((PM.tord za zb == 0) = PM.teB za zb) := PM.hid (PM.tord_teB za zb)
  have htl : Hid (PM.tord za zb ≤ 0 → PM.tord zb zc ≤ 0 → PM.tord za zc ≤ 0) := PM.hid PM.tord_le_trans
  clear hch hoa
  cases q1 : PM.impB za zb
  case false =>
    have ga_0 : wn3.cell? ⟨ga, 0, none⟩ = some (.string za.name) := kga.cell 0
    have ga_1 : wn3.cell? ⟨ga, 1, none⟩ = some (.int .i64 za.op) := kga.cell 1
    have ga_2 : wn3.cell? ⟨ga, 2, none⟩ = some (.int .i64 za.k) := kga.cell 2
    have ga_3 : wn3.cell? ⟨ga, 3, none⟩ = some (.int .i64 za.n) := kga.cell 3
    have ga_4 : wn3.cell? ⟨ga, 4, none⟩ = some (.string za.s) := kga.cell 4
    have gb_0 : wn3.cell? ⟨gb, 0, none⟩ = some (.string zb.name) := kgb.cell 0
    have gb_1 : wn3.cell? ⟨gb, 1, none⟩ = some (.int .i64 zb.op) := kgb.cell 1
    have gb_2 : wn3.cell? ⟨gb, 2, none⟩ = some (.int .i64 zb.k) := kgb.cell 2
    have gb_3 : wn3.cell? ⟨gb, 3, none⟩ = some (.int .i64 zb.n) := kgb.cell 3
    have gb_4 : wn3.cell? ⟨gb, 4, none⟩ = some (.string zb.s) := kgb.cell 4
    have gc_0 : wn3.cell? ⟨gc, 0, none⟩ = some (.string zc.name) := kgc.cell 0
    have gc_1 : wn3.cell? ⟨gc, 1, none⟩ = some (.int .i64 zc.op) := kgc.cell 1
    have gc_2 : wn3.cell? ⟨gc, 2, none⟩ = some (.int .i64 zc.k) := kgc.cell 2
    have gc_3 : wn3.cell? ⟨gc, 3, none⟩ = some (.int .i64 zc.n) := kgc.cell 3
    have gc_4 : wn3.cell? ⟨gc, 4, none⟩ = some (.string zc.s) := kgc.cell 4
    go_wp2_with fail
    refine (implies_any za zb _).mono ?_
    rintro e wn4 ⟨rfl, hBn⟩
    rw [q1]
    clear ga_0 ga_1 ga_2 ga_3 ga_4 gb_0 gb_1 gb_2 gb_3 gb_4 gc_0 gc_1 gc_2 gc_3 gc_4
    replace kga := kga.keep hBn
    replace kgb := kgb.keep hBn
    replace kgc := kgc.keep hBn
    replace hBB := PM.hid (PM.chain hBB.out hBn)
    clear hBn
    have ga_0 : wn4.cell? ⟨ga, 0, none⟩ = some (.string za.name) := kga.cell 0
    have ga_1 : wn4.cell? ⟨ga, 1, none⟩ = some (.int .i64 za.op) := kga.cell 1
    have ga_2 : wn4.cell? ⟨ga, 2, none⟩ = some (.int .i64 za.k) := kga.cell 2
    have ga_3 : wn4.cell? ⟨ga, 3, none⟩ = some (.int .i64 za.n) := kga.cell 3
    have ga_4 : wn4.cell? ⟨ga, 4, none⟩ = some (.string za.s) := kga.cell 4
    have gb_0 : wn4.cell? ⟨gb, 0, none⟩ = some (.string zb.name) := kgb.cell 0
    have gb_1 : wn4.cell? ⟨gb, 1, none⟩ = some (.int .i64 zb.op) := kgb.cell 1
    have gb_2 : wn4.cell? ⟨gb, 2, none⟩ = some (.int .i64 zb.k) := kgb.cell 2
    have gb_3 : wn4.cell? ⟨gb, 3, none⟩ = some (.int .i64 zb.n) := kgb.cell 3
    have gb_4 : wn4.cell? ⟨gb, 4, none⟩ = some (.string zb.s) := kgb.cell 4
    have gc_0 : wn4.cell? ⟨gc, 0, none⟩ = some (.string zc.name) := kgc.cell 0
    have gc_1 : wn4.cell? ⟨gc, 1, none⟩ = some (.int .i64 zc.op) := kgc.cell 1
    have gc_2 : wn4.cell? ⟨gc, 2, none⟩ = some (.int .i64 zc.k) := kgc.cell 2
    have gc_3 : wn4.cell? ⟨gc, 3, none⟩ = some (.int .i64 zc.n) := kgc.cell 3
    have gc_4 : wn4.cell? ⟨gc, 4, none⟩ = some (.string zc.s) := kgc.cell 4
    go_wp2_with fail
    refine (torder_any za zb _).mono ?_
    rintro e wn5 ⟨rfl, hBn⟩
    clear ga_0 ga_1 ga_2 ga_3 ga_4 gb_0 gb_1 gb_2 gb_3 gb_4 gc_0 gc_1 gc_2 gc_3 gc_4
    replace kga := kga.keep hBn
    replace kgb := kgb.keep hBn
    replace kgc := kgc.keep hBn
    replace hBB := PM.hid (PM.chain hBB.out hBn)
    clear hBn
    have ga_0 : wn5.cell? ⟨ga, 0, none⟩ = some (.string za.name) := kga.cell 0
    have ga_1 : wn5.cell? ⟨ga, 1, none⟩ = some (.int .i64 za.op) := kga.cell 1
    have ga_2 : wn5.cell? ⟨ga, 2, none⟩ = some (.int .i64 za.k) := kga.cell 2
    have ga_3 : wn5.cell? ⟨ga, 3, none⟩ = some (.int .i64 za.n) := kga.cell 3
    have ga_4 : wn5.cell? ⟨ga, 4, none⟩ = some (.string za.s) := kga.cell 4
    have gb_0 : wn5.cell? ⟨gb, 0, none⟩ = some (.string zb.name) := kgb.cell 0
    have gb_1 : wn5.cell? ⟨gb, 1, none⟩ = some (.int .i64 zb.op) := kgb.cell 1
    have gb_2 : wn5.cell? ⟨gb, 2, none⟩ = some (.int .i64 zb.k) := kgb.cell 2
    have gb_3 : wn5.cell? ⟨gb, 3, none⟩ = some (.int .i64 zb.n) := kgb.cell 3
    have gb_4 : wn5.cell? ⟨gb, 4, none⟩ = some (.string zb.s) := kgb.cell 4
    have gc_0 : wn5.cell? ⟨gc, 0, none⟩ = some (.string zc.name) := kgc.cell 0
    have gc_1 : wn5.cell? ⟨gc, 1, none⟩ = some (.int .i64 zc.op) := kgc.cell 1
    have gc_2 : wn5.cell? ⟨gc, 2, none⟩ = some (.int .i64 zc.k) := kgc.cell 2
    have gc_3 : wn5.cell? ⟨gc, 3, none⟩ = some (.int .i64 zc.n) := kgc.cell 3
    have gc_4 : wn5.cell? ⟨gc, 4, none⟩ = some (.string zc.s) := kgc.cell 4
    go_wp2_with fail
    refine (torder_any zb zc _).mono ?_
    rintro e wn6 ⟨rfl, hBn⟩
    clear ga_0 ga_1 ga_2 ga_3 ga_4 gb_0 gb_1 gb_2 gb_3 gb_4 gc_0 gc_1 gc_2 gc_3 gc_4
    replace kga := kga.keep hBn
    replace kgb := kgb.keep hBn
    replace kgc := kgc.keep hBn
    replace hBB := PM.hid (PM.chain hBB.out hBn)
    clear hBn
    have ga_0 : wn6.cell? ⟨ga, 0, none⟩ = some (.string za.name) := kga.cell 0
    have ga_1 : wn6.cell? ⟨ga, 1, none⟩ = some (.int .i64 za.op) := kga.cell 1
    have ga_2 : wn6.cell? ⟨ga, 2, none⟩ = some (.int .i64 za.k) := kga.cell 2
    have ga_3 : wn6.cell? ⟨ga, 3, none⟩ = some (.int .i64 za.n) := kga.cell 3
    have ga_4 : wn6.cell? ⟨ga, 4, none⟩ = some (.string za.s) := kga.cell 4
    have gb_0 : wn6.cell? ⟨gb, 0, none⟩ = some (.string zb.name) := kgb.cell 0
    have gb_1 : wn6.cell? ⟨gb, 1, none⟩ = some (.int .i64 zb.op) := kgb.cell 1
    have gb_2 : wn6.cell? ⟨gb, 2, none⟩ = some (.int .i64 zb.k) := kgb.cell 2
    have gb_3 : wn6.cell? ⟨gb, 3, none⟩ = some (.int .i64 zb.n) := kgb.cell 3
    have gb_4 : wn6.cell? ⟨gb, 4, none⟩ = some (.string zb.s) := kgb.cell 4
    have gc_0 : wn6.cell? ⟨gc, 0, none⟩ = some (.string zc.name) := kgc.cell 0
    have gc_1 : wn6.cell? ⟨gc, 1, none⟩ = some (.int .i64 zc.op) := kgc.cell 1
    have gc_2 : wn6.cell? ⟨gc, 2, none⟩ = some (.int .i64 zc.k) := kgc.cell 2
    have gc_3 : wn6.cell? ⟨gc, 3, none⟩ = some (.int .i64 zc.n) := kgc.cell 3
    have gc_4 : wn6.cell? ⟨gc, 4, none⟩ = some (.string zc.s) := kgc.cell 4
    go_wp2_with fail
    refine (implies_any za za _).mono ?_
    rintro e wn7 ⟨rfl, hBn⟩
    rw [hselfh.out]
    clear ga_0 ga_1 ga_2 ga_3 ga_4 gb_0 gb_1 gb_2 gb_3 gb_4 gc_0 gc_1 gc_2 gc_3 gc_4
    replace kga := kga.keep hBn
    replace kgb := kgb.keep hBn
    replace kgc := kgc.keep hBn
    replace hBB := PM.hid (PM.chain hBB.out hBn)
    clear hBn
    obtain ⟨x, hx⟩ : ∃ x, PM.tord za zb = x := ⟨_, rfl⟩
    obtain ⟨y, hy⟩ : ∃ y, PM.tord zb zc = y := ⟨_, rfl⟩
    obtain ⟨u, hu⟩ : ∃ u, PM.tord za zc = u := ⟨_, rfl⟩
    obtain ⟨de, hde⟩ : ∃ d, PM.teB za zb = d := ⟨_, rfl⟩
    rw [hx] at hanti hzero htl ⊢
    rw [hy] at htl ⊢
    rw [hu] at htl
    rw [hde] at hzero heq
    have hh := PM.hid (And.intro hx (And.intro hy (And.intro hu hde)))
    have hz := hzero.out
    have hxr : PM.I64 x := by rw [← hx]; exact PM.tord_rng _ _
    unfold PM.I64 at hxr
    clear hx hy hu hde
    have ga_0 : wn7.cell? ⟨ga, 0, none⟩ = some (.string za.name) := kga.cell 0
    have ga_1 : wn7.cell? ⟨ga, 1, none⟩ = some (.int .i64 za.op) := kga.cell 1
    have ga_2 : wn7.cell? ⟨ga, 2, none⟩ = some (.int .i64 za.k) := kga.cell 2
    have ga_3 : wn7.cell? ⟨ga, 3, none⟩ = some (.int .i64 za.n) := kga.cell 3
    have ga_4 : wn7.cell? ⟨ga, 4, none⟩ = some (.string za.s) := kga.cell 4
    have gb_0 : wn7.cell? ⟨gb, 0, none⟩ = some (.string zb.name) := kgb.cell 0
    have gb_1 : wn7.cell? ⟨gb, 1, none⟩ = some (.int .i64 zb.op) := kgb.cell 1
    have gb_2 : wn7.cell? ⟨gb, 2, none⟩ = some (.int .i64 zb.k) := kgb.cell 2
    have gb_3 : wn7.cell? ⟨gb, 3, none⟩ = some (.int .i64 zb.n) := kgb.cell 3
    have gb_4 : wn7.cell? ⟨gb, 4, none⟩ = some (.string zb.s) := kgb.cell 4
    have gc_0 : wn7.cell? ⟨gc, 0, none⟩ = some (.string zc.name) := kgc.cell 0
    have gc_1 : wn7.cell? ⟨gc, 1, none⟩ = some (.int .i64 zc.op) := kgc.cell 1
    have gc_2 : wn7.cell? ⟨gc, 2, none⟩ = some (.int .i64 zc.k) := kgc.cell 2
    have gc_3 : wn7.cell? ⟨gc, 3, none⟩ = some (.int .i64 zc.n) := kgc.cell 3
    have gc_4 : wn7.cell? ⟨gc, 4, none⟩ = some (.string zc.s) := kgc.cell 4
    go_wp2_with fail
    refine (torder_any zb za _).mono ?_
    rintro e wn8 ⟨rfl, hBn⟩
    rw [hanti.out]
    clear ga_0 ga_1 ga_2 ga_3 ga_4 gb_0 gb_1 gb_2 gb_3 gb_4 gc_0 gc_1 gc_2 gc_3 gc_4
    replace kga := kga.keep hBn
    replace kgb := kgb.keep hBn
    replace kgc := kgc.keep hBn
    replace hBB := PM.hid (PM.chain hBB.out hBn)
    clear hBn
    have ga_0 : wn8.cell? ⟨ga, 0, none⟩ = some (.string za.name) := kga.cell 0
    have ga_1 : wn8.cell? ⟨ga, 1, none⟩ = some (.int .i64 za.op) := kga.cell 1
    have ga_2 : wn8.cell? ⟨ga, 2, none⟩ = some (.int .i64 za.k) := kga.cell 2
    have ga_3 : wn8.cell? ⟨ga, 3, none⟩ = some (.int .i64 za.n) := kga.cell 3
    have ga_4 : wn8.cell? ⟨ga, 4, none⟩ = some (.string za.s) := kga.cell 4
    have gb_0 : wn8.cell? ⟨gb, 0, none⟩ = some (.string zb.name) := kgb.cell 0
    have gb_1 : wn8.cell? ⟨gb, 1, none⟩ = some (.int .i64 zb.op) := kgb.cell 1
    have gb_2 : wn8.cell? ⟨gb, 2, none⟩ = some (.int .i64 zb.k) := kgb.cell 2
    have gb_3 : wn8.cell? ⟨gb, 3, none⟩ = some (.int .i64 zb.n) := kgb.cell 3
    have gb_4 : wn8.cell? ⟨gb, 4, none⟩ = some (.string zb.s) := kgb.cell 4
    have gc_0 : wn8.cell? ⟨gc, 0, none⟩ = some (.string zc.name) := kgc.cell 0
    have gc_1 : wn8.cell? ⟨gc, 1, none⟩ = some (.int .i64 zc.op) := kgc.cell 1
    have gc_2 : wn8.cell? ⟨gc, 2, none⟩ = some (.int .i64 zc.k) := kgc.cell 2
    have gc_3 : wn8.cell? ⟨gc, 3, none⟩ = some (.int .i64 zc.n) := kgc.cell 3
    have gc_4 : wn8.cell? ⟨gc, 4, none⟩ = some (.string zc.s) := kgc.cell 4
    by_cases qx : 0 < x
    case pos =>
      go_wp2_with fail
      go_ret
      exact ⟨by first | rfl | simp, hBB.out⟩
    by_cases qy : 0 < y
    case pos =>
      go_wp2_with fail
      go_ret
      exact ⟨by first | rfl | simp, hBB.out⟩
    have qu := PM.hid (htl.out (by omega) (by omega))
    go_wp2_with fail
    refine (torder_any za zc _).mono ?_
    rintro e wn9 ⟨rfl, hBn⟩
    rw [hh.out.2.2.1]
    clear ga_0 ga_1 ga_2 ga_3 ga_4 gb_0 gb_1 gb_2 gb_3 gb_4 gc_0 gc_1 gc_2 gc_3 gc_4
    replace kga := kga.keep hBn
    replace kgb := kgb.keep hBn
    replace kgc := kgc.keep hBn
    replace hBB := PM.hid (PM.chain hBB.out hBn)
    clear hBn
    have qu' : u ≤ 0 := qu.out
    clear hz heq
    clear kga kgb kgc q1
    go_wp2_with fail
    go_ret
    exact ⟨by first | rfl | simp, hBB.out⟩
  case true =>
    have ga_0 : wn3.cell? ⟨ga, 0, none⟩ = some (.string za.name) := kga.cell 0
    have ga_1 : wn3.cell? ⟨ga, 1, none⟩ = some (.int .i64 za.op) := kga.cell 1
    have ga_2 : wn3.cell? ⟨ga, 2, none⟩ = some (.int .i64 za.k) := kga.cell 2
    have ga_3 : wn3.cell? ⟨ga, 3, none⟩ = some (.int .i64 za.n) := kga.cell 3
    have ga_4 : wn3.cell? ⟨ga, 4, none⟩ = some (.string za.s) := kga.cell 4
    have gb_0 : wn3.cell? ⟨gb, 0, none⟩ = some (.string zb.name) := kgb.cell 0
    have gb_1 : wn3.cell? ⟨gb, 1, none⟩ = some (.int .i64 zb.op) := kgb.cell 1
    have gb_2 : wn3.cell? ⟨gb, 2, none⟩ = some (.int .i64 zb.k) := kgb.cell 2
    have gb_3 : wn3.cell? ⟨gb, 3, none⟩ = some (.int .i64 zb.n) := kgb.cell 3
    have gb_4 : wn3.cell? ⟨gb, 4, none⟩ = some (.string zb.s) := kgb.cell 4
    have gc_0 : wn3.cell? ⟨gc, 0, none⟩ = some (.string zc.name) := kgc.cell 0
    have gc_1 : wn3.cell? ⟨gc, 1, none⟩ = some (.int .i64 zc.op) := kgc.cell 1
    have gc_2 : wn3.cell? ⟨gc, 2, none⟩ = some (.int .i64 zc.k) := kgc.cell 2
    have gc_3 : wn3.cell? ⟨gc, 3, none⟩ = some (.int .i64 zc.n) := kgc.cell 3
    have gc_4 : wn3.cell? ⟨gc, 4, none⟩ = some (.string zc.s) := kgc.cell 4
    go_wp2_with fail
    refine (implies_any za zb _).mono ?_
    rintro e wn10 ⟨rfl, hBn⟩
    rw [q1]
    clear ga_0 ga_1 ga_2 ga_3 ga_4 gb_0 gb_1 gb_2 gb_3 gb_4 gc_0 gc_1 gc_2 gc_3 gc_4
    replace kga := kga.keep hBn
    replace kgb := kgb.keep hBn
    replace kgc := kgc.keep hBn
    replace hBB := PM.hid (PM.chain hBB.out hBn)
    clear hBn
    cases q2 : PM.impB zb zc
    case false =>
      have ga_0 : wn10.cell? ⟨ga, 0, none⟩ = some (.string za.name) := kga.cell 0
      have ga_1 : wn10.cell? ⟨ga, 1, none⟩ = some (.int .i64 za.op) := kga.cell 1
      have ga_2 : wn10.cell? ⟨ga, 2, none⟩ = some (.int .i64 za.k) := kga.cell 2
      have ga_3 : wn10.cell? ⟨ga, 3, none⟩ = some (.int .i64 za.n) := kga.cell 3
      have ga_4 : wn10.cell? ⟨ga, 4, none⟩ = some (.string za.s) := kga.cell 4
      have gb_0 : wn10.cell? ⟨gb, 0, none⟩ = some (.string zb.name) := kgb.cell 0
      have gb_1 : wn10.cell? ⟨gb, 1, none⟩ = some (.int .i64 zb.op) := kgb.cell 1
      have gb_2 : wn10.cell? ⟨gb, 2, none⟩ = some (.int .i64 zb.k) := kgb.cell 2
      have gb_3 : wn10.cell? ⟨gb, 3, none⟩ = some (.int .i64 zb.n) := kgb.cell 3
      have gb_4 : wn10.cell? ⟨gb, 4, none⟩ = some (.string zb.s) := kgb.cell 4
      have gc_0 : wn10.cell? ⟨gc, 0, none⟩ = some (.string zc.name) := kgc.cell 0
      have gc_1 : wn10.cell? ⟨gc, 1, none⟩ = some (.int .i64 zc.op) := kgc.cell 1
      have gc_2 : wn10.cell? ⟨gc, 2, none⟩ = some (.int .i64 zc.k) := kgc.cell 2
      have gc_3 : wn10.cell? ⟨gc, 3, none⟩ = some (.int .i64 zc.n) := kgc.cell 3
      have gc_4 : wn10.cell? ⟨gc, 4, none⟩ = some (.string zc.s) := kgc.cell 4
      go_wp2_with fail
      refine (implies_any zb zc _).mono ?_
      rintro e wn11 ⟨rfl, hBn⟩
      rw [q2]
      clear ga_0 ga_1 ga_2 ga_3 ga_4 gb_0 gb_1 gb_2 gb_3 gb_4 gc_0 gc_1 gc_2 gc_3 gc_4
      replace kga := kga.keep hBn
      replace kgb := kgb.keep hBn
      replace kgc := kgc.keep hBn
      replace hBB := PM.hid (PM.chain hBB.out hBn)
      clear hBn
      have ga_0 : wn11.cell? ⟨ga, 0, none⟩ = some (.string za.name) := kga.cell 0
      have ga_1 : wn11.cell? ⟨ga, 1, none⟩ = some (.int .i64 za.op) := kga.cell 1
      have ga_2 : wn11.cell? ⟨ga, 2, none⟩ = some (.int .i64 za.k) := kga.cell 2
      have ga_3 : wn11.cell? ⟨ga, 3, none⟩ = some (.int .i64 za.n) := kga.cell 3
      have ga_4 : wn11.cell? ⟨ga, 4, none⟩ = some (.string za.s) := kga.cell 4
      have gb_0 : wn11.cell? ⟨gb, 0, none⟩ = some (.string zb.name) := kgb.cell 0
      have gb_1 : wn11.cell? ⟨gb, 1, none⟩ = some (.int .i64 zb.op) := kgb.cell 1
      have gb_2 : wn11.cell? ⟨gb, 2, none⟩ = some (.int .i64 zb.k) := kgb.cell 2
      have gb_3 : wn11.cell? ⟨gb, 3, none⟩ = some (.int .i64 zb.n) := kgb.cell 3
      have gb_4 : wn11.cell? ⟨gb, 4, none⟩ = some (.string zb.s) := kgb.cell 4
      have gc_0 : wn11.cell? ⟨gc, 0, none⟩ = some (.string zc.name) := kgc.cell 0
      have gc_1 : wn11.cell? ⟨gc, 1, none⟩ = some (.int .i64 zc.op) := kgc.cell 1
      have gc_2 : wn11.cell? ⟨gc, 2, none⟩ = some (.int .i64 zc.k) := kgc.cell 2
      have gc_3 : wn11.cell? ⟨gc, 3, none⟩ = some (.int .i64 zc.n) := kgc.cell 3
      have gc_4 : wn11.cell? ⟨gc, 4, none⟩ = some (.string zc.s) := kgc.cell 4
      go_wp2_with fail
      refine (torder_any za zb _).mono ?_
      rintro e wn12 ⟨rfl, hBn⟩
      clear ga_0 ga_1 ga_2 ga_3 ga_4 gb_0 gb_1 gb_2 gb_3 gb_4 gc_0 gc_1 gc_2 gc_3 gc_4
      replace kga := kga.keep hBn
      replace kgb := kgb.keep hBn
      replace kgc := kgc.keep hBn
      replace hBB := PM.hid (PM.chain hBB.out hBn)
      clear hBn
      have ga_0 : wn12.cell? ⟨ga, 0, none⟩ = some (.string za.name) := kga.cell 0
      have ga_1 : wn12.cell? ⟨ga, 1, none⟩ = some (.int .i64 za.op) := kga.cell 1
      have ga_2 : wn12.cell? ⟨ga, 2, none⟩ = some (.int .i64 za.k) := kga.cell 2
      have ga_3 : wn12.cell? ⟨ga, 3, none⟩ = some (.int .i64 za.n) := kga.cell 3
      have ga_4 : wn12.cell? ⟨ga, 4, none⟩ = some (.string za.s) := kga.cell 4
      have gb_0 : wn12.cell? ⟨gb, 0, none⟩ = some (.string zb.name) := kgb.cell 0
      have gb_1 : wn12.cell? ⟨gb, 1, none⟩ = some (.int .i64 zb.op) := kgb.cell 1
      have gb_2 : wn12.cell? ⟨gb, 2, none⟩ = some (.int .i64 zb.k) := kgb.cell 2
      have gb_3 : wn12.cell? ⟨gb, 3, none⟩ = some (.int .i64 zb.n) := kgb.cell 3
      have gb_4 : wn12.cell? ⟨gb, 4, none⟩ = some (.string zb.s) := kgb.cell 4
      have gc_0 : wn12.cell? ⟨gc, 0, none⟩ = some (.string zc.name) := kgc.cell 0
      have gc_1 : wn12.cell? ⟨gc, 1, none⟩ = some (.int .i64 zc.op) := kgc.cell 1
      have gc_2 : wn12.cell? ⟨gc, 2, none⟩ = some (.int .i64 zc.k) := kgc.cell 2
      have gc_3 : wn12.cell? ⟨gc, 3, none⟩ = some (.int .i64 zc.n) := kgc.cell 3
      have gc_4 : wn12.cell? ⟨gc, 4, none⟩ = some (.string zc.s) := kgc.cell 4
      go_wp2_with fail
      refine (torder_any zb zc _).mono ?_
      rintro e wn13 ⟨rfl, hBn⟩
      clear ga_0 ga_1 ga_2 ga_3 ga_4 gb_0 gb_1 gb_2 gb_3 gb_4 gc_0 gc_1 gc_2 gc_3 gc_4
      replace kga := kga.keep hBn
      replace kgb := kgb.keep hBn
      replace kgc := kgc.keep hBn
      replace hBB := PM.hid (PM.chain hBB.out hBn)
      clear hBn
      have ga_0 : wn13.cell? ⟨ga, 0, none⟩ = some (.string za.name) := kga.cell 0
      have ga_1 : wn13.cell? ⟨ga, 1, none⟩ = some (.int .i64 za.op) := kga.cell 1
      have ga_2 : wn13.cell? ⟨ga, 2, none⟩ = some (.int .i64 za.k) := kga.cell 2
      have ga_3 : wn13.cell? ⟨ga, 3, none⟩ = some (.int .i64 za.n) := kga.cell 3
      have ga_4 : wn13.cell? ⟨ga, 4, none⟩ = some (.string za.s) := kga.cell 4
      have gb_0 : wn13.cell? ⟨gb, 0, none⟩ = some (.string zb.name) := kgb.cell 0
      have gb_1 : wn13.cell? ⟨gb, 1, none⟩ = some (.int .i64 zb.op) := kgb.cell 1
      have gb_2 : wn13.cell? ⟨gb, 2, none⟩ = some (.int .i64 zb.k) := kgb.cell 2
      have gb_3 : wn13.cell? ⟨gb, 3, none⟩ = some (.int .i64 zb.n) := kgb.cell 3
      have gb_4 : wn13.cell? ⟨gb, 4, none⟩ = some (.string zb.s) := kgb.cell 4
      have gc_0 : wn13.cell? ⟨gc, 0, none⟩ = some (.string zc.name) := kgc.cell 0
      have gc_1 : wn13.cell? ⟨gc, 1, none⟩ = some (.int .i64 zc.op) := kgc.cell 1
      have gc_2 : wn13.cell? ⟨gc, 2, none⟩ = some (.int .i64 zc.k) := kgc.cell 2
      have gc_3 : wn13.cell? ⟨gc, 3, none⟩ = some (.int .i64 zc.n) := kgc.cell 3
      have gc_4 : wn13.cell? ⟨gc, 4, none⟩ = some (.string zc.s) := kgc.cell 4
      go_wp2_with fail
      refine (implies_any za za _).mono ?_
      rintro e wn14 ⟨rfl, hBn⟩
      rw [hselfh.out]
      clear ga_0 ga_1 ga_2 ga_3 ga_4 gb_0 gb_1 gb_2 gb_3 gb_4 gc_0 gc_1 gc_2 gc_3 gc_4
      replace kga := kga.keep hBn
      replace kgb := kgb.keep hBn
      replace kgc := kgc.keep hBn
      replace hBB := PM.hid (PM.chain hBB.out hBn)
      clear hBn
      obtain ⟨x, hx⟩ : ∃ x, PM.tord za zb = x := ⟨_, rfl⟩
      obtain ⟨y, hy⟩ : ∃ y, PM.tord zb zc = y := ⟨_, rfl⟩
      obtain ⟨u, hu⟩ : ∃ u, PM.tord za zc = u := ⟨_, rfl⟩
      obtain ⟨de, hde⟩ : ∃ d, PM.teB za zb = d := ⟨_, rfl⟩
      rw [hx] at hanti hzero htl ⊢
      rw [hy] at htl ⊢
      rw [hu] at htl
      rw [hde] at hzero heq
      have hh := PM.hid (And.intro hx (And.intro hy (And.intro hu hde)))
      have hz := hzero.out
      have hxr : PM.I64 x := by rw [← hx]; exact PM.tord_rng _ _
      unfold PM.I64 at hxr
      clear hx hy hu hde
      have ga_0 : wn14.cell? ⟨ga, 0, none⟩ = some (.string za.name) := kga.cell 0
      have ga_1 : wn14.cell? ⟨ga, 1, none⟩ = some (.int .i64 za.op) := kga.cell 1
      have ga_2 : wn14.cell? ⟨ga, 2, none⟩ = some (.int .i64 za.k) := kga.cell 2
      have ga_3 : wn14.cell? ⟨ga, 3, none⟩ = some (.int .i64 za.n) := kga.cell 3
      have ga_4 : wn14.cell? ⟨ga, 4, none⟩ = some (.string za.s) := kga.cell 4
      have gb_0 : wn14.cell? ⟨gb, 0, none⟩ = some (.string zb.name) := kgb.cell 0
      have gb_1 : wn14.cell? ⟨gb, 1, none⟩ = some (.int .i64 zb.op) := kgb.cell 1
      have gb_2 : wn14.cell? ⟨gb, 2, none⟩ = some (.int .i64 zb.k) := kgb.cell 2
      have gb_3 : wn14.cell? ⟨gb, 3, none⟩ = some (.int .i64 zb.n) := kgb.cell 3
      have gb_4 : wn14.cell? ⟨gb, 4, none⟩ = some (.string zb.s) := kgb.cell 4
      have gc_0 : wn14.cell? ⟨gc, 0, none⟩ = some (.string zc.name) := kgc.cell 0
      have gc_1 : wn14.cell? ⟨gc, 1, none⟩ = some (.int .i64 zc.op) := kgc.cell 1
      have gc_2 : wn14.cell? ⟨gc, 2, none⟩ = some (.int .i64 zc.k) := kgc.cell 2
      have gc_3 : wn14.cell? ⟨gc, 3, none⟩ = some (.int .i64 zc.n) := kgc.cell 3
      have gc_4 : wn14.cell? ⟨gc, 4, none⟩ = some (.string zc.s) := kgc.cell 4
      go_wp2_with fail
      refine (torder_any zb za _).mono ?_
      rintro e wn15 ⟨rfl, hBn⟩
      rw [hanti.out]
      clear ga_0 ga_1 ga_2 ga_3 ga_4 gb_0 gb_1 gb_2 gb_3 gb_4 gc_0 gc_1 gc_2 gc_3 gc_4
      replace kga := kga.keep hBn
      replace kgb := kgb.keep hBn
      replace kgc := kgc.keep hBn
      replace hBB := PM.hid (PM.chain hBB.out hBn)
      clear hBn
      have ga_0 : wn15.cell? ⟨ga, 0, none⟩ = some (.string za.name) := kga.cell 0
      have ga_1 : wn15.cell? ⟨ga, 1, none⟩ = some (.int .i64 za.op) := kga.cell 1
      have ga_2 : wn15.cell? ⟨ga, 2, none⟩ = some (.int .i64 za.k) := kga.cell 2
      have ga_3 : wn15.cell? ⟨ga, 3, none⟩ = some (.int .i64 za.n) := kga.cell 3
      have ga_4 : wn15.cell? ⟨ga, 4, none⟩ = some (.string za.s) := kga.cell 4
      have gb_0 : wn15.cell? ⟨gb, 0, none⟩ = some (.string zb.name) := kgb.cell 0
      have gb_1 : wn15.cell? ⟨gb, 1, none⟩ = some (.int .i64 zb.op) := kgb.cell 1
      have gb_2 : wn15.cell? ⟨gb, 2, none⟩ = some (.int .i64 zb.k) := kgb.cell 2
      have gb_3 : wn15.cell? ⟨gb, 3, none⟩ = some (.int .i64 zb.n) := kgb.cell 3
      have gb_4 : wn15.cell? ⟨gb, 4, none⟩ = some (.string zb.s) := kgb.cell 4
      have gc_0 : wn15.cell? ⟨gc, 0, none⟩ = some (.string zc.name) := kgc.cell 0
      have gc_1 : wn15.cell? ⟨gc, 1, none⟩ = some (.int .i64 zc.op) := kgc.cell 1
      have gc_2 : wn15.cell? ⟨gc, 2, none⟩ = some (.int .i64 zc.k) := kgc.cell 2
      have gc_3 : wn15.cell? ⟨gc, 3, none⟩ = some (.int .i64 zc.n) := kgc.cell 3
      have gc_4 : wn15.cell? ⟨gc, 4, none⟩ = some (.string zc.s) := kgc.cell 4
      by_cases qx : 0 < x
      case pos =>
        go_wp2_with fail
        go_ret
        exact ⟨by first | rfl | simp, hBB.out⟩
      by_cases qy : 0 < y
      case pos =>
        go_wp2_with fail
        go_ret
        exact ⟨by first | rfl | simp, hBB.out⟩
      have qu := PM.hid (htl.out (by omega) (by omega))
      go_wp2_with fail
      refine (torder_any za zc _).mono ?_
      rintro e wn16 ⟨rfl, hBn⟩
      rw [hh.out.2.2.1]
      clear ga_0 ga_1 ga_2 ga_3 ga_4 gb_0 gb_1 gb_2 gb_3 gb_4 gc_0 gc_1 gc_2 gc_3 gc_4
      replace kga := kga.keep hBn
      replace kgb := kgb.keep hBn
      replace kgc := kgc.keep hBn
      replace hBB := PM.hid (PM.chain hBB.out hBn)
      clear hBn
      have qu' : u ≤ 0 := qu.out
      clear hz heq
      clear kga kgb kgc q1 q2
      go_wp2_with fail
      go_ret
      exact ⟨by first | rfl | simp, hBB.out⟩
    case true =>
      have ga_0 : wn10.cell? ⟨ga, 0, none⟩ = some (.string za.name) := kga.cell 0
      have ga_1 : wn10.cell? ⟨ga, 1, none⟩ = some (.int .i64 za.op) := kga.cell 1
      have ga_2 : wn10.cell? ⟨ga, 2, none⟩ = some (.int .i64 za.k) := kga.cell 2
      have ga_3 : wn10.cell? ⟨ga, 3, none⟩ = some (.int .i64 za.n) := kga.cell 3
      have ga_4 : wn10.cell? ⟨ga, 4, none⟩ = some (.string za.s) := kga.cell 4
      have gb_0 : wn10.cell? ⟨gb, 0, none⟩ = some (.string zb.name) := kgb.cell 0
      have gb_1 : wn10.cell? ⟨gb, 1, none⟩ = some (.int .i64 zb.op) := kgb.cell 1
      have gb_2 : wn10.cell? ⟨gb, 2, none⟩ = some (.int .i64 zb.k) := kgb.cell 2
      have gb_3 : wn10.cell? ⟨gb, 3, none⟩ = some (.int .i64 zb.n) := kgb.cell 3
      have gb_4 : wn10.cell? ⟨gb, 4, none⟩ = some (.string zb.s) := kgb.cell 4
      have gc_0 : wn10.cell? ⟨gc, 0, none⟩ = some (.string zc.name) := kgc.cell 0
      have gc_1 : wn10.cell? ⟨gc, 1, none⟩ = some (.int .i64 zc.op) := kgc.cell 1
      have gc_2 : wn10.cell? ⟨gc, 2, none⟩ = some (.int .i64 zc.k) := kgc.cell 2
      have gc_3 : wn10.cell? ⟨gc, 3, none⟩ = some (.int .i64 zc.n) := kgc.cell 3
      have gc_4 : wn10.cell? ⟨gc, 4, none⟩ = some (.string zc.s) := kgc.cell 4
      go_wp2_with fail
      refine (implies_any zb zc _).mono ?_
      rintro e wn17 ⟨rfl, hBn⟩
      rw [q2]
      clear ga_0 ga_1 ga_2 ga_3 ga_4 gb_0 gb_1 gb_2 gb_3 gb_4 gc_0 gc_1 gc_2 gc_3 gc_4
      replace kga := kga.keep hBn
      replace kgb := kgb.keep hBn
      replace kgc := kgc.keep hBn
      replace hBB := PM.hid (PM.chain hBB.out hBn)
      clear hBn
      have ga_0 : wn17.cell? ⟨ga, 0, none⟩ = some (.string za.name) := kga.cell 0
      have ga_1 : wn17.cell? ⟨ga, 1, none⟩ = some (.int .i64 za.op) := kga.cell 1
      have ga_2 : wn17.cell? ⟨ga, 2, none⟩ = some (.int .i64 za.k) := kga.cell 2
      have ga_3 : wn17.cell? ⟨ga, 3, none⟩ = some (.int .i64 za.n) := kga.cell 3
      have ga_4 : wn17.cell? ⟨ga, 4, none⟩ = some (.string za.s) := kga.cell 4
      have gb_0 : wn17.cell? ⟨gb, 0, none⟩ = some (.string zb.name) := kgb.cell 0
      have gb_1 : wn17.cell? ⟨gb, 1, none⟩ = some (.int .i64 zb.op) := kgb.cell 1
      have gb_2 : wn17.cell? ⟨gb, 2, none⟩ = some (.int .i64 zb.k) := kgb.cell 2
      have gb_3 : wn17.cell? ⟨gb, 3, none⟩ = some (.int .i64 zb.n) := kgb.cell 3
      have gb_4 : wn17.cell? ⟨gb, 4, none⟩ = some (.string zb.s) := kgb.cell 4
      have gc_0 : wn17.cell? ⟨gc, 0, none⟩ = some (.string zc.name) := kgc.cell 0
      have gc_1 : wn17.cell? ⟨gc, 1, none⟩ = some (.int .i64 zc.op) := kgc.cell 1
      have gc_2 : wn17.cell? ⟨gc, 2, none⟩ = some (.int .i64 zc.k) := kgc.cell 2
      have gc_3 : wn17.cell? ⟨gc, 3, none⟩ = some (.int .i64 zc.n) := kgc.cell 3
      have gc_4 : wn17.cell? ⟨gc, 4, none⟩ = some (.string zc.s) := kgc.cell 4
      go_wp2_with fail
      refine (implies_any za zc _).mono ?_
      rintro e wn18 ⟨rfl, hBn⟩
      rw [htrh.out q1 q2]
      clear ga_0 ga_1 ga_2 ga_3 ga_4 gb_0 gb_1 gb_2 gb_3 gb_4 gc_0 gc_1 gc_2 gc_3 gc_4
      replace kga := kga.keep hBn
      replace kgb := kgb.keep hBn
      replace kgc := kgc.keep hBn
      replace hBB := PM.hid (PM.chain hBB.out hBn)
      clear hBn
      have ga_0 : wn18.cell? ⟨ga, 0, none⟩ = some (.string za.name) := kga.cell 0
      have ga_1 : wn18.cell? ⟨ga, 1, none⟩ = some (.int .i64 za.op) := kga.cell 1
      have ga_2 : wn18.cell? ⟨ga, 2, none⟩ = some (.int .i64 za.k) := kga.cell 2
      have ga_3 : wn18.cell? ⟨ga, 3, none⟩ = some (.int .i64 za.n) := kga.cell 3
      have ga_4 : wn18.cell? ⟨ga, 4, none⟩ = some (.string za.s) := kga.cell 4
      have gb_0 : wn18.cell? ⟨gb, 0, none⟩ = some (.string zb.name) := kgb.cell 0
      have gb_1 : wn18.cell? ⟨gb, 1, none⟩ = some (.int .i64 zb.op) := kgb.cell 1
      have gb_2 : wn18.cell? ⟨gb, 2, none⟩ = some (.int .i64 zb.k) := kgb.cell 2
      have gb_3 : wn18.cell? ⟨gb, 3, none⟩ = some (.int .i64 zb.n) := kgb.cell 3
      have gb_4 : wn18.cell? ⟨gb, 4, none⟩ = some (.string zb.s) := kgb.cell 4
      have gc_0 : wn18.cell? ⟨gc, 0, none⟩ = some (.string zc.name) := kgc.cell 0
      have gc_1 : wn18.cell? ⟨gc, 1, none⟩ = some (.int .i64 zc.op) := kgc.cell 1
      have gc_2 : wn18.cell? ⟨gc, 2, none⟩ = some (.int .i64 zc.k) := kgc.cell 2
      have gc_3 : wn18.cell? ⟨gc, 3, none⟩ = some (.int .i64 zc.n) := kgc.cell 3
      have gc_4 : wn18.cell? ⟨gc, 4, none⟩ = some (.string zc.s) := kgc.cell 4
      go_wp2_with fail
      refine (torder_any za zb _).mono ?_
      rintro e wn19 ⟨rfl, hBn⟩
      clear ga_0 ga_1 ga_2 ga_3 ga_4 gb_0 gb_1 gb_2 gb_3 gb_4 gc_0 gc_1 gc_2 gc_3 gc_4
      replace kga := kga.keep hBn
      replace kgb := kgb.keep hBn
      replace kgc := kgc.keep hBn
      replace hBB := PM.hid (PM.chain hBB.out hBn)
      clear hBn
      have ga_0 : wn19.cell? ⟨ga, 0, none⟩ = some (.string za.name) := kga.cell 0
      have ga_1 : wn19.cell? ⟨ga, 1, none⟩ = some (.int .i64 za.op) := kga.cell 1
      have ga_2 : wn19.cell? ⟨ga, 2, none⟩ = some (.int .i64 za.k) := kga.cell 2
      have ga_3 : wn19.cell? ⟨ga, 3, none⟩ = some (.int .i64 za.n) := kga.cell 3
      have ga_4 : wn19.cell? ⟨ga, 4, none⟩ = some (.string za.s) := kga.cell 4
      have gb_0 : wn19.cell? ⟨gb, 0, none⟩ = some (.string zb.name) := kgb.cell 0
      have gb_1 : wn19.cell? ⟨gb, 1, none⟩ = some (.int .i64 zb.op) := kgb.cell 1
      have gb_2 : wn19.cell? ⟨gb, 2, none⟩ = some (.int .i64 zb.k) := kgb.cell 2
      have gb_3 : wn19.cell? ⟨gb, 3, none⟩ = some (.int .i64 zb.n) := kgb.cell 3
      have gb_4 : wn19.cell? ⟨gb, 4, none⟩ = some (.string zb.s) := kgb.cell 4
      have gc_0 : wn19.cell? ⟨gc, 0, none⟩ = some (.string zc.name) := kgc.cell 0
      have gc_1 : wn19.cell? ⟨gc, 1, none⟩ = some (.int .i64 zc.op) := kgc.cell 1
      have gc_2 : wn19.cell? ⟨gc, 2, none⟩ = some (.int .i64 zc.k) := kgc.cell 2
      have gc_3 : wn19.cell? ⟨gc, 3, none⟩ = some (.int .i64 zc.n) := kgc.cell 3
      have gc_4 : wn19.cell? ⟨gc, 4, none⟩ = some (.string zc.s) := kgc.cell 4
      go_wp2_with fail
      refine (torder_any zb zc _).mono ?_
      rintro e wn20 ⟨rfl, hBn⟩
      clear ga_0 ga_1 ga_2 ga_3 ga_4 gb_0 gb_1 gb_2 gb_3 gb_4 gc_0 gc_1 gc_2 gc_3 gc_4
      replace kga := kga.keep hBn
      replace kgb := kgb.keep hBn
      replace kgc := kgc.keep hBn
      replace hBB := PM.hid (PM.chain hBB.out hBn)
      clear hBn
      have ga_0 : wn20.cell? ⟨ga, 0, none⟩ = some (.string za.name) := kga.cell 0
      have ga_1 : wn20.cell? ⟨ga, 1, none⟩ = some (.int .i64 za.op) := kga.cell 1
      have ga_2 : wn20.cell? ⟨ga, 2, none⟩ = some (.int .i64 za.k) := kga.cell 2
      have ga_3 : wn20.cell? ⟨ga, 3, none⟩ = some (.int .i64 za.n) := kga.cell 3
      have ga_4 : wn20.cell? ⟨ga, 4, none⟩ = some (.string za.s) := kga.cell 4
      have gb_0 : wn20.cell? ⟨gb, 0, none⟩ = some (.string zb.name) := kgb.cell 0
      have gb_1 : wn20.cell? ⟨gb, 1, none⟩ = some (.int .i64 zb.op) := kgb.cell 1
      have gb_2 : wn20.cell? ⟨gb, 2, none⟩ = some (.int .i64 zb.k) := kgb.cell 2
      have gb_3 : wn20.cell? ⟨gb, 3, none⟩ = some (.int .i64 zb.n) := kgb.cell 3
      have gb_4 : wn20.cell? ⟨gb, 4, none⟩ = some (.string zb.s) := kgb.cell 4
      have gc_0 : wn20.cell? ⟨gc, 0, none⟩ = some (.string zc.name) := kgc.cell 0
      have gc_1 : wn20.cell? ⟨gc, 1, none⟩ = some (.int .i64 zc.op) := kgc.cell 1
      have gc_2 : wn20.cell? ⟨gc, 2, none⟩ = some (.int .i64 zc.k) := kgc.cell 2
      have gc_3 : wn20.cell? ⟨gc, 3, none⟩ = some (.int .i64 zc.n) := kgc.cell 3
      have gc_4 : wn20.cell? ⟨gc, 4, none⟩ = some (.string zc.s) := kgc.cell 4
      go_wp2_with fail
      refine (implies_any za za _).mono ?_
      rintro e wn21 ⟨rfl, hBn⟩
      rw [hselfh.out]
      clear ga_0 ga_1 ga_2 ga_3 ga_4 gb_0 gb_1 gb_2 gb_3 gb_4 gc_0 gc_1 gc_2 gc_3 gc_4
      replace kga := kga.keep hBn
      replace kgb := kgb.keep hBn
      replace kgc := kgc.keep hBn
      replace hBB := PM.hid (PM.chain hBB.out hBn)
      clear hBn
      obtain ⟨x, hx⟩ : ∃ x, PM.tord za zb = x := ⟨_, rfl⟩
      obtain ⟨y, hy⟩ : ∃ y, PM.tord zb zc = y := ⟨_, rfl⟩
      obtain ⟨u, hu⟩ : ∃ u, PM.tord za zc = u := ⟨_, rfl⟩
      obtain ⟨de, hde⟩ : ∃ d, PM.teB za zb = d := ⟨_, rfl⟩
      rw [hx] at hanti hzero htl ⊢
      rw [hy] at htl ⊢
      rw [hu] at htl
      rw [hde] at hzero heq
      have hh := PM.hid (And.intro hx (And.intro hy (And.intro hu hde)))
      have hz := hzero.out
      have hxr : PM.I64 x := by rw [← hx]; exact PM.tord_rng _ _
      unfold PM.I64 at hxr
      clear hx hy hu hde
      have ga_0 : wn21.cell? ⟨ga, 0, none⟩ = some (.string za.name) := kga.cell 0
      have ga_1 : wn21.cell? ⟨ga, 1, none⟩ = some (.int .i64 za.op) := kga.cell 1
      have ga_2 : wn21.cell? ⟨ga, 2, none⟩ = some (.int .i64 za.k) := kga.cell 2
      have ga_3 : wn21.cell? ⟨ga, 3, none⟩ = some (.int .i64 za.n) := kga.cell 3
      have ga_4 : wn21.cell? ⟨ga, 4, none⟩ = some (.string za.s) := kga.cell 4
      have gb_0 : wn21.cell? ⟨gb, 0, none⟩ = some (.string zb.name) := kgb.cell 0
      have gb_1 : wn21.cell? ⟨gb, 1, none⟩ = some (.int .i64 zb.op) := kgb.cell 1
      have gb_2 : wn21.cell? ⟨gb, 2, none⟩ = some (.int .i64 zb.k) := kgb.cell 2
      have gb_3 : wn21.cell? ⟨gb, 3, none⟩ = some (.int .i64 zb.n) := kgb.cell 3
      have gb_4 : wn21.cell? ⟨gb, 4, none⟩ = some (.string zb.s) := kgb.cell 4
      have gc_0 : wn21.cell? ⟨gc, 0, none⟩ = some (.string zc.name) := kgc.cell 0
      have gc_1 : wn21.cell? ⟨gc, 1, none⟩ = some (.int .i64 zc.op) := kgc.cell 1
      have gc_2 : wn21.cell? ⟨gc, 2, none⟩ = some (.int .i64 zc.k) := kgc.cell 2
      have gc_3 : wn21.cell? ⟨gc, 3, none⟩ = some (.int .i64 zc.n) := kgc.cell 3
      have gc_4 : wn21.cell? ⟨gc, 4, none⟩ = some (.string zc.s) := kgc.cell 4
      go_wp2_with fail
      refine (torder_any zb za _).mono ?_
      rintro e wn22 ⟨rfl, hBn⟩
      rw [hanti.out]
      clear ga_0 ga_1 ga_2 ga_3 ga_4 gb_0 gb_1 gb_2 gb_3 gb_4 gc_0 gc_1 gc_2 gc_3 gc_4
      replace kga := kga.keep hBn
      replace kgb := kgb.keep hBn
      replace kgc := kgc.keep hBn
      replace hBB := PM.hid (PM.chain hBB.out hBn)
      clear hBn
      have ga_0 : wn22.cell? ⟨ga, 0, none⟩ = some (.string za.name) := kga.cell 0
      have ga_1 : wn22.cell? ⟨ga, 1, none⟩ = some (.int .i64 za.op) := kga.cell 1
      have ga_2 : wn22.cell? ⟨ga, 2, none⟩ = some (.int .i64 za.k) := kga.cell 2
      have ga_3 : wn22.cell? ⟨ga, 3, none⟩ = some (.int .i64 za.n) := kga.cell 3
      have ga_4 : wn22.cell? ⟨ga, 4, none⟩ = some (.string za.s) := kga.cell 4
      have gb_0 : wn22.cell? ⟨gb, 0, none⟩ = some (.string zb.name) := kgb.cell 0
      have gb_1 : wn22.cell? ⟨gb, 1, none⟩ = some (.int .i64 zb.op) := kgb.cell 1
      have gb_2 : wn22.cell? ⟨gb, 2, none⟩ = some (.int .i64 zb.k) := kgb.cell 2
      have gb_3 : wn22.cell? ⟨gb, 3, none⟩ = some (.int .i64 zb.n) := kgb.cell 3
      have gb_4 : wn22.cell? ⟨gb, 4, none⟩ = some (.string zb.s) := kgb.cell 4
      have gc_0 : wn22.cell? ⟨gc, 0, none⟩ = some (.string zc.name) := kgc.cell 0
      have gc_1 : wn22.cell? ⟨gc, 1, none⟩ = some (.int .i64 zc.op) := kgc.cell 1
      have gc_2 : wn22.cell? ⟨gc, 2, none⟩ = some (.int .i64 zc.k) := kgc.cell 2
      have gc_3 : wn22.cell? ⟨gc, 3, none⟩ = some (.int .i64 zc.n) := kgc.cell 3
      have gc_4 : wn22.cell? ⟨gc, 4, none⟩ = some (.string zc.s) := kgc.cell 4
      by_cases qx : 0 < x
      case pos =>
        go_wp2_with fail
        go_ret
        exact ⟨by first | rfl | simp, hBB.out⟩
      by_cases qy : 0 < y
      case pos =>
        go_wp2_with fail
        go_ret
        exact ⟨by first | rfl | simp, hBB.out⟩
      have qu := PM.hid (htl.out (by omega) (by omega))
      go_wp2_with fail
      refine (torder_any za zc _).mono ?_
      rintro e wn23 ⟨rfl, hBn⟩
      rw [hh.out.2.2.1]
      clear ga_0 ga_1 ga_2 ga_3 ga_4 gb_0 gb_1 gb_2 gb_3 gb_4 gc_0 gc_1 gc_2 gc_3 gc_4
      replace kga := kga.keep hBn
      replace kgb := kgb.keep hBn
      replace kgc := kgc.keep hBn
      replace hBB := PM.hid (PM.chain hBB.out hBn)
      clear hBn
      have qu' : u ≤ 0 := qu.out
      clear hz heq
      clear kga kgb kgc q1 q2
      go_wp2_with fail
      go_ret
      exact ⟨by first | rfl | simp, hBB.out⟩
end Go.Proofs.Ytbpajgejfnjaeaa
