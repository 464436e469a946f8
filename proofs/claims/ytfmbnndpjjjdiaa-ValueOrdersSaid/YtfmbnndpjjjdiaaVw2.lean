/-
  THE WALK OF LAYER 1's STATEMENT ON THE ORDER, case by case.
-/
import Derived.Test.YtfmbnndpjjjdiaaVa
import Derived.Laws.StructEq
namespace Go.Proofs.Ytfmbnndpjjjdiaa
open Go.RowKit
set_option linter.unusedVariables false
theorem orders_gt (k0 n0 : Int) (s0 : ByteArray) (k1 n1 : Int) (s1 : ByteArray) (k2 n2 : Int) (s2 : ByteArray) (w : World) (hx : PM.ord k0 n0 s0.data.toList k1 n1 s1.data.toList = 1) (hx' : PM.ord k1 n1 s1.data.toList k0 n0 s0.data.toList = -1) :
    Calls Try.prog 5 #[.agg #[.int .i64 k0, .int .i64 n0, .string s0], .agg #[.int .i64 k1, .int .i64 n1, .string s1], .agg #[.int .i64 k2, .int .i64 n2, .string s2]] w fun e w' => e = .returned (.bool true) ∧ Below w.heap.size w w' := by
  go_enter Try.func5, Try.ntmps5
  go_wp2_with fail
  refine (awake1 _).mono ?_
  rintro e w1 ⟨rfl, hb⟩
  have hB := PM.chain (w := w) (by go_grown) hb
  obtain ⟨B0, B1, B2⟩ := PM.Blk.three w #[.int .i64 k0, .int .i64 n0, .string s0] #[.int .i64 k1, .int .i64 n1, .string s1] #[.int .i64 k2, .int .i64 n2, .string s2] 24 24 24 (0, 0) (0, 0) (0, 0)
  replace B0 := B0.keep hb
  replace B1 := B1.keep hb
  replace B2 := B2.keep hb
  clear hb
  have c00 := B0.cell 0
  have c01 := B0.cell 1
  have c02 := B0.cell 2
  have c10 := B1.cell 0
  have c11 := B1.cell 1
  have c12 := B1.cell 2
  have c20 := B2.cell 0
  have c21 := B2.cell 1
  have c22 := B2.cell 2
  go_wp2_with fail
  all_goals try (go_ret; exact ⟨rfl, hB⟩)
  refine (order_any _ _ _ _ _ _ _).mono ?_
  rintro e w2 ⟨rfl, hb⟩
  replace hB := PM.chain hB hb
  replace B0 := B0.keep hb
  replace B1 := B1.keep hb
  replace B2 := B2.keep hb
  clear hb c00 c01 c02 c10 c11 c12 c20 c21 c22
  have c00 := B0.cell 0
  have c01 := B0.cell 1
  have c02 := B0.cell 2
  have c10 := B1.cell 0
  have c11 := B1.cell 1
  have c12 := B1.cell 2
  have c20 := B2.cell 0
  have c21 := B2.cell 1
  have c22 := B2.cell 2
  go_wp2_with fail
  refine (order_any _ _ _ _ _ _ _).mono ?_
  rintro e w3 ⟨rfl, hb⟩
  replace hB := PM.chain hB hb
  replace B0 := B0.keep hb
  replace B1 := B1.keep hb
  replace B2 := B2.keep hb
  clear hb c00 c01 c02 c10 c11 c12 c20 c21 c22
  have c00 := B0.cell 0
  have c01 := B0.cell 1
  have c02 := B0.cell 2
  have c10 := B1.cell 0
  have c11 := B1.cell 1
  have c12 := B1.cell 2
  have c20 := B2.cell 0
  have c21 := B2.cell 1
  have c22 := B2.cell 2
  go_wp2_with fail
  refine (order_any _ _ _ _ _ _ _).mono ?_
  rintro e w4 ⟨rfl, hb⟩
  replace hB := PM.chain hB hb
  replace B0 := B0.keep hb
  replace B1 := B1.keep hb
  replace B2 := B2.keep hb
  clear hb c00 c01 c02 c10 c11 c12 c20 c21 c22
  have c00 := B0.cell 0
  have c01 := B0.cell 1
  have c02 := B0.cell 2
  have c10 := B1.cell 0
  have c11 := B1.cell 1
  have c12 := B1.cell 2
  have c20 := B2.cell 0
  have c21 := B2.cell 1
  have c22 := B2.cell 2
  go_wp2_with fail
  refine (order_any _ _ _ _ _ _ _).mono ?_
  rintro e w5 ⟨rfl, hb⟩
  replace hB := PM.chain hB hb
  replace B0 := B0.keep hb
  replace B1 := B1.keep hb
  replace B2 := B2.keep hb
  clear hb c00 c01 c02 c10 c11 c12 c20 c21 c22
  have c00 := B0.cell 0
  have c01 := B0.cell 1
  have c02 := B0.cell 2
  have c10 := B1.cell 0
  have c11 := B1.cell 1
  have c12 := B1.cell 2
  have c20 := B2.cell 0
  have c21 := B2.cell 1
  have c22 := B2.cell 2
  go_wp2_with fail
  all_goals (go_ret; refine ⟨?_, hB⟩; first | rfl | (exfalso; simp_all [Lib.toList_data, PM.ord_self]))
theorem orders_lt1 (k0 n0 : Int) (s0 : ByteArray) (k1 n1 : Int) (s1 : ByteArray) (k2 n2 : Int) (s2 : ByteArray) (w : World) (hx : PM.ord k0 n0 s0.data.toList k1 n1 s1.data.toList = -1) (hx' : PM.ord k1 n1 s1.data.toList k0 n0 s0.data.toList = 1) (hy : PM.ord k1 n1 s1.data.toList k2 n2 s2.data.toList ≤ 0) (hz : PM.ord k0 n0 s0.data.toList k2 n2 s2.data.toList = -1) :
    Calls Try.prog 5 #[.agg #[.int .i64 k0, .int .i64 n0, .string s0], .agg #[.int .i64 k1, .int .i64 n1, .string s1], .agg #[.int .i64 k2, .int .i64 n2, .string s2]] w fun e w' => e = .returned (.bool true) ∧ Below w.heap.size w w' := by
  go_enter Try.func5, Try.ntmps5
  go_wp2_with fail
  refine (awake1 _).mono ?_
  rintro e w1 ⟨rfl, hb⟩
  have hB := PM.chain (w := w) (by go_grown) hb
  obtain ⟨B0, B1, B2⟩ := PM.Blk.three w #[.int .i64 k0, .int .i64 n0, .string s0] #[.int .i64 k1, .int .i64 n1, .string s1] #[.int .i64 k2, .int .i64 n2, .string s2] 24 24 24 (0, 0) (0, 0) (0, 0)
  replace B0 := B0.keep hb
  replace B1 := B1.keep hb
  replace B2 := B2.keep hb
  clear hb
  have c00 := B0.cell 0
  have c01 := B0.cell 1
  have c02 := B0.cell 2
  have c10 := B1.cell 0
  have c11 := B1.cell 1
  have c12 := B1.cell 2
  have c20 := B2.cell 0
  have c21 := B2.cell 1
  have c22 := B2.cell 2
  go_wp2_with fail
  all_goals try (go_ret; exact ⟨rfl, hB⟩)
  refine (order_any _ _ _ _ _ _ _).mono ?_
  rintro e w2 ⟨rfl, hb⟩
  replace hB := PM.chain hB hb
  replace B0 := B0.keep hb
  replace B1 := B1.keep hb
  replace B2 := B2.keep hb
  clear hb c00 c01 c02 c10 c11 c12 c20 c21 c22
  have c00 := B0.cell 0
  have c01 := B0.cell 1
  have c02 := B0.cell 2
  have c10 := B1.cell 0
  have c11 := B1.cell 1
  have c12 := B1.cell 2
  have c20 := B2.cell 0
  have c21 := B2.cell 1
  have c22 := B2.cell 2
  go_wp2_with fail
  refine (order_any _ _ _ _ _ _ _).mono ?_
  rintro e w3 ⟨rfl, hb⟩
  replace hB := PM.chain hB hb
  replace B0 := B0.keep hb
  replace B1 := B1.keep hb
  replace B2 := B2.keep hb
  clear hb c00 c01 c02 c10 c11 c12 c20 c21 c22
  have c00 := B0.cell 0
  have c01 := B0.cell 1
  have c02 := B0.cell 2
  have c10 := B1.cell 0
  have c11 := B1.cell 1
  have c12 := B1.cell 2
  have c20 := B2.cell 0
  have c21 := B2.cell 1
  have c22 := B2.cell 2
  go_wp2_with fail
  refine (order_any _ _ _ _ _ _ _).mono ?_
  rintro e w4 ⟨rfl, hb⟩
  replace hB := PM.chain hB hb
  replace B0 := B0.keep hb
  replace B1 := B1.keep hb
  replace B2 := B2.keep hb
  clear hb c00 c01 c02 c10 c11 c12 c20 c21 c22
  have c00 := B0.cell 0
  have c01 := B0.cell 1
  have c02 := B0.cell 2
  have c10 := B1.cell 0
  have c11 := B1.cell 1
  have c12 := B1.cell 2
  have c20 := B2.cell 0
  have c21 := B2.cell 1
  have c22 := B2.cell 2
  go_wp2_with fail
  refine (order_any _ _ _ _ _ _ _).mono ?_
  rintro e w5 ⟨rfl, hb⟩
  replace hB := PM.chain hB hb
  replace B0 := B0.keep hb
  replace B1 := B1.keep hb
  replace B2 := B2.keep hb
  clear hb c00 c01 c02 c10 c11 c12 c20 c21 c22
  have c00 := B0.cell 0
  have c01 := B0.cell 1
  have c02 := B0.cell 2
  have c10 := B1.cell 0
  have c11 := B1.cell 1
  have c12 := B1.cell 2
  have c20 := B2.cell 0
  have c21 := B2.cell 1
  have c22 := B2.cell 2
  go_wp2_with fail
  all_goals (go_ret; refine ⟨?_, hB⟩; first | rfl | (exfalso; simp_all [Lib.toList_data, PM.ord_self]))
theorem orders_lt2 (k0 n0 : Int) (s0 : ByteArray) (k1 n1 : Int) (s1 : ByteArray) (k2 n2 : Int) (s2 : ByteArray) (w : World) (hx : PM.ord k0 n0 s0.data.toList k1 n1 s1.data.toList = -1) (hx' : PM.ord k1 n1 s1.data.toList k0 n0 s0.data.toList = 1) (hy : PM.ord k1 n1 s1.data.toList k2 n2 s2.data.toList = 1) :
    Calls Try.prog 5 #[.agg #[.int .i64 k0, .int .i64 n0, .string s0], .agg #[.int .i64 k1, .int .i64 n1, .string s1], .agg #[.int .i64 k2, .int .i64 n2, .string s2]] w fun e w' => e = .returned (.bool true) ∧ Below w.heap.size w w' := by
  go_enter Try.func5, Try.ntmps5
  go_wp2_with fail
  refine (awake1 _).mono ?_
  rintro e w1 ⟨rfl, hb⟩
  have hB := PM.chain (w := w) (by go_grown) hb
  obtain ⟨B0, B1, B2⟩ := PM.Blk.three w #[.int .i64 k0, .int .i64 n0, .string s0] #[.int .i64 k1, .int .i64 n1, .string s1] #[.int .i64 k2, .int .i64 n2, .string s2] 24 24 24 (0, 0) (0, 0) (0, 0)
  replace B0 := B0.keep hb
  replace B1 := B1.keep hb
  replace B2 := B2.keep hb
  clear hb
  have c00 := B0.cell 0
  have c01 := B0.cell 1
  have c02 := B0.cell 2
  have c10 := B1.cell 0
  have c11 := B1.cell 1
  have c12 := B1.cell 2
  have c20 := B2.cell 0
  have c21 := B2.cell 1
  have c22 := B2.cell 2
  go_wp2_with fail
  all_goals try (go_ret; exact ⟨rfl, hB⟩)
  refine (order_any _ _ _ _ _ _ _).mono ?_
  rintro e w2 ⟨rfl, hb⟩
  replace hB := PM.chain hB hb
  replace B0 := B0.keep hb
  replace B1 := B1.keep hb
  replace B2 := B2.keep hb
  clear hb c00 c01 c02 c10 c11 c12 c20 c21 c22
  have c00 := B0.cell 0
  have c01 := B0.cell 1
  have c02 := B0.cell 2
  have c10 := B1.cell 0
  have c11 := B1.cell 1
  have c12 := B1.cell 2
  have c20 := B2.cell 0
  have c21 := B2.cell 1
  have c22 := B2.cell 2
  go_wp2_with fail
  refine (order_any _ _ _ _ _ _ _).mono ?_
  rintro e w3 ⟨rfl, hb⟩
  replace hB := PM.chain hB hb
  replace B0 := B0.keep hb
  replace B1 := B1.keep hb
  replace B2 := B2.keep hb
  clear hb c00 c01 c02 c10 c11 c12 c20 c21 c22
  have c00 := B0.cell 0
  have c01 := B0.cell 1
  have c02 := B0.cell 2
  have c10 := B1.cell 0
  have c11 := B1.cell 1
  have c12 := B1.cell 2
  have c20 := B2.cell 0
  have c21 := B2.cell 1
  have c22 := B2.cell 2
  go_wp2_with fail
  refine (order_any _ _ _ _ _ _ _).mono ?_
  rintro e w4 ⟨rfl, hb⟩
  replace hB := PM.chain hB hb
  replace B0 := B0.keep hb
  replace B1 := B1.keep hb
  replace B2 := B2.keep hb
  clear hb c00 c01 c02 c10 c11 c12 c20 c21 c22
  have c00 := B0.cell 0
  have c01 := B0.cell 1
  have c02 := B0.cell 2
  have c10 := B1.cell 0
  have c11 := B1.cell 1
  have c12 := B1.cell 2
  have c20 := B2.cell 0
  have c21 := B2.cell 1
  have c22 := B2.cell 2
  go_wp2_with fail
  refine (order_any _ _ _ _ _ _ _).mono ?_
  rintro e w5 ⟨rfl, hb⟩
  replace hB := PM.chain hB hb
  replace B0 := B0.keep hb
  replace B1 := B1.keep hb
  replace B2 := B2.keep hb
  clear hb c00 c01 c02 c10 c11 c12 c20 c21 c22
  have c00 := B0.cell 0
  have c01 := B0.cell 1
  have c02 := B0.cell 2
  have c10 := B1.cell 0
  have c11 := B1.cell 1
  have c12 := B1.cell 2
  have c20 := B2.cell 0
  have c21 := B2.cell 1
  have c22 := B2.cell 2
  go_wp2_with fail
  all_goals (go_ret; refine ⟨?_, hB⟩; first | rfl | (exfalso; simp_all [Lib.toList_data, PM.ord_self]))
theorem orders_eq1 (k0 n0 : Int) (s0 : ByteArray) (k2 n2 : Int) (s2 : ByteArray) (w : World) (hx : PM.ord k0 n0 s0.data.toList k0 n0 s0.data.toList = 0) (hy : PM.ord k0 n0 s0.data.toList k2 n2 s2.data.toList ≤ 0) :
    Calls Try.prog 5 #[.agg #[.int .i64 k0, .int .i64 n0, .string s0], .agg #[.int .i64 k0, .int .i64 n0, .string s0], .agg #[.int .i64 k2, .int .i64 n2, .string s2]] w fun e w' => e = .returned (.bool true) ∧ Below w.heap.size w w' := by
  go_enter Try.func5, Try.ntmps5
  go_wp2_with fail
  refine (awake1 _).mono ?_
  rintro e w1 ⟨rfl, hb⟩
  have hB := PM.chain (w := w) (by go_grown) hb
  obtain ⟨B0, B1, B2⟩ := PM.Blk.three w #[.int .i64 k0, .int .i64 n0, .string s0] #[.int .i64 k0, .int .i64 n0, .string s0] #[.int .i64 k2, .int .i64 n2, .string s2] 24 24 24 (0, 0) (0, 0) (0, 0)
  replace B0 := B0.keep hb
  replace B1 := B1.keep hb
  replace B2 := B2.keep hb
  clear hb
  have c00 := B0.cell 0
  have c01 := B0.cell 1
  have c02 := B0.cell 2
  have c10 := B1.cell 0
  have c11 := B1.cell 1
  have c12 := B1.cell 2
  have c20 := B2.cell 0
  have c21 := B2.cell 1
  have c22 := B2.cell 2
  go_wp2_with fail
  all_goals try (go_ret; exact ⟨rfl, hB⟩)
  refine (order_any _ _ _ _ _ _ _).mono ?_
  rintro e w2 ⟨rfl, hb⟩
  replace hB := PM.chain hB hb
  replace B0 := B0.keep hb
  replace B1 := B1.keep hb
  replace B2 := B2.keep hb
  clear hb c00 c01 c02 c10 c11 c12 c20 c21 c22
  have c00 := B0.cell 0
  have c01 := B0.cell 1
  have c02 := B0.cell 2
  have c10 := B1.cell 0
  have c11 := B1.cell 1
  have c12 := B1.cell 2
  have c20 := B2.cell 0
  have c21 := B2.cell 1
  have c22 := B2.cell 2
  go_wp2_with fail
  refine (order_any _ _ _ _ _ _ _).mono ?_
  rintro e w3 ⟨rfl, hb⟩
  replace hB := PM.chain hB hb
  replace B0 := B0.keep hb
  replace B1 := B1.keep hb
  replace B2 := B2.keep hb
  clear hb c00 c01 c02 c10 c11 c12 c20 c21 c22
  have c00 := B0.cell 0
  have c01 := B0.cell 1
  have c02 := B0.cell 2
  have c10 := B1.cell 0
  have c11 := B1.cell 1
  have c12 := B1.cell 2
  have c20 := B2.cell 0
  have c21 := B2.cell 1
  have c22 := B2.cell 2
  go_wp2_with fail
  refine (order_any _ _ _ _ _ _ _).mono ?_
  rintro e w4 ⟨rfl, hb⟩
  replace hB := PM.chain hB hb
  replace B0 := B0.keep hb
  replace B1 := B1.keep hb
  replace B2 := B2.keep hb
  clear hb c00 c01 c02 c10 c11 c12 c20 c21 c22
  have c00 := B0.cell 0
  have c01 := B0.cell 1
  have c02 := B0.cell 2
  have c10 := B1.cell 0
  have c11 := B1.cell 1
  have c12 := B1.cell 2
  have c20 := B2.cell 0
  have c21 := B2.cell 1
  have c22 := B2.cell 2
  go_wp2_with fail
  refine (order_any _ _ _ _ _ _ _).mono ?_
  rintro e w5 ⟨rfl, hb⟩
  replace hB := PM.chain hB hb
  replace B0 := B0.keep hb
  replace B1 := B1.keep hb
  replace B2 := B2.keep hb
  clear hb c00 c01 c02 c10 c11 c12 c20 c21 c22
  have c00 := B0.cell 0
  have c01 := B0.cell 1
  have c02 := B0.cell 2
  have c10 := B1.cell 0
  have c11 := B1.cell 1
  have c12 := B1.cell 2
  have c20 := B2.cell 0
  have c21 := B2.cell 1
  have c22 := B2.cell 2
  go_wp2_with fail
  all_goals (go_ret; refine ⟨?_, hB⟩; first | rfl | (exfalso; simp_all [Lib.toList_data, PM.ord_self]))
theorem orders_eq2 (k0 n0 : Int) (s0 : ByteArray) (k2 n2 : Int) (s2 : ByteArray) (w : World) (hx : PM.ord k0 n0 s0.data.toList k0 n0 s0.data.toList = 0) (hy : PM.ord k0 n0 s0.data.toList k2 n2 s2.data.toList = 1) :
    Calls Try.prog 5 #[.agg #[.int .i64 k0, .int .i64 n0, .string s0], .agg #[.int .i64 k0, .int .i64 n0, .string s0], .agg #[.int .i64 k2, .int .i64 n2, .string s2]] w fun e w' => e = .returned (.bool true) ∧ Below w.heap.size w w' := by
  go_enter Try.func5, Try.ntmps5
  go_wp2_with fail
  refine (awake1 _).mono ?_
  rintro e w1 ⟨rfl, hb⟩
  have hB := PM.chain (w := w) (by go_grown) hb
  obtain ⟨B0, B1, B2⟩ := PM.Blk.three w #[.int .i64 k0, .int .i64 n0, .string s0] #[.int .i64 k0, .int .i64 n0, .string s0] #[.int .i64 k2, .int .i64 n2, .string s2] 24 24 24 (0, 0) (0, 0) (0, 0)
  replace B0 := B0.keep hb
  replace B1 := B1.keep hb
  replace B2 := B2.keep hb
  clear hb
  have c00 := B0.cell 0
  have c01 := B0.cell 1
  have c02 := B0.cell 2
  have c10 := B1.cell 0
  have c11 := B1.cell 1
  have c12 := B1.cell 2
  have c20 := B2.cell 0
  have c21 := B2.cell 1
  have c22 := B2.cell 2
  go_wp2_with fail
  all_goals try (go_ret; exact ⟨rfl, hB⟩)
  refine (order_any _ _ _ _ _ _ _).mono ?_
  rintro e w2 ⟨rfl, hb⟩
  replace hB := PM.chain hB hb
  replace B0 := B0.keep hb
  replace B1 := B1.keep hb
  replace B2 := B2.keep hb
  clear hb c00 c01 c02 c10 c11 c12 c20 c21 c22
  have c00 := B0.cell 0
  have c01 := B0.cell 1
  have c02 := B0.cell 2
  have c10 := B1.cell 0
  have c11 := B1.cell 1
  have c12 := B1.cell 2
  have c20 := B2.cell 0
  have c21 := B2.cell 1
  have c22 := B2.cell 2
  go_wp2_with fail
  refine (order_any _ _ _ _ _ _ _).mono ?_
  rintro e w3 ⟨rfl, hb⟩
  replace hB := PM.chain hB hb
  replace B0 := B0.keep hb
  replace B1 := B1.keep hb
  replace B2 := B2.keep hb
  clear hb c00 c01 c02 c10 c11 c12 c20 c21 c22
  have c00 := B0.cell 0
  have c01 := B0.cell 1
  have c02 := B0.cell 2
  have c10 := B1.cell 0
  have c11 := B1.cell 1
  have c12 := B1.cell 2
  have c20 := B2.cell 0
  have c21 := B2.cell 1
  have c22 := B2.cell 2
  go_wp2_with fail
  refine (order_any _ _ _ _ _ _ _).mono ?_
  rintro e w4 ⟨rfl, hb⟩
  replace hB := PM.chain hB hb
  replace B0 := B0.keep hb
  replace B1 := B1.keep hb
  replace B2 := B2.keep hb
  clear hb c00 c01 c02 c10 c11 c12 c20 c21 c22
  have c00 := B0.cell 0
  have c01 := B0.cell 1
  have c02 := B0.cell 2
  have c10 := B1.cell 0
  have c11 := B1.cell 1
  have c12 := B1.cell 2
  have c20 := B2.cell 0
  have c21 := B2.cell 1
  have c22 := B2.cell 2
  go_wp2_with fail
  refine (order_any _ _ _ _ _ _ _).mono ?_
  rintro e w5 ⟨rfl, hb⟩
  replace hB := PM.chain hB hb
  replace B0 := B0.keep hb
  replace B1 := B1.keep hb
  replace B2 := B2.keep hb
  clear hb c00 c01 c02 c10 c11 c12 c20 c21 c22
  have c00 := B0.cell 0
  have c01 := B0.cell 1
  have c02 := B0.cell 2
  have c10 := B1.cell 0
  have c11 := B1.cell 1
  have c12 := B1.cell 2
  have c20 := B2.cell 0
  have c21 := B2.cell 1
  have c22 := B2.cell 2
  go_wp2_with fail
  all_goals (go_ret; refine ⟨?_, hB⟩; first | rfl | (exfalso; simp_all [Lib.toList_data, PM.ord_self]))
theorem valueOrders_walk (k0 n0 : Int) (s0 : ByteArray) (k1 n1 : Int) (s1 : ByteArray) (k2 n2 : Int) (s2 : ByteArray) (_ : (Lit.int .i64 k0).wf = true) (_ : (Lit.int .i64 n0).wf = true) (_ : s0.size ≤ maxLen) (_ : (Lit.int .i64 k1).wf = true) (_ : (Lit.int .i64 n1).wf = true) (_ : s1.size ≤ maxLen) (_ : (Lit.int .i64 k2).wf = true) (_ : (Lit.int .i64 n2).wf = true) (_ : s2.size ≤ maxLen) (w : World) :
    Calls Try.prog 5 #[.agg #[.int .i64 k0, .int .i64 n0, .string s0], .agg #[.int .i64 k1, .int .i64 n1, .string s1], .agg #[.int .i64 k2, .int .i64 n2, .string s2]] w fun e w' => e = .returned (.bool true) ∧ Below w.heap.size w w' := by
  have hx := PM.ord_bd k0 n0 s0.data.toList k1 n1 s1.data.toList
  have hy := PM.ord_bd k1 n1 s1.data.toList k2 n2 s2.data.toList
  have hz := PM.ord_bd k0 n0 s0.data.toList k2 n2 s2.data.toList
  have ha := PM.ord_anti k0 n0 s0.data.toList k1 n1 s1.data.toList
  by_cases h0 : PM.ord k0 n0 s0.data.toList k1 n1 s1.data.toList = 0
  · obtain ⟨rfl, rfl, hs⟩ := PM.ord_zero _ _ _ _ _ _ h0
    obtain rfl := PM.bytes_ext hs
    by_cases h1 : PM.ord k0 n0 s0.data.toList k2 n2 s2.data.toList ≤ 0
    · exact orders_eq1 _ _ _ _ _ _ w h0 h1
    · exact orders_eq2 _ _ _ _ _ _ w h0 (by omega)
  · by_cases h2 : PM.ord k0 n0 s0.data.toList k1 n1 s1.data.toList = 1
    · exact orders_gt _ _ _ _ _ _ _ _ _ w h2 (by omega)
    · by_cases h1 : PM.ord k1 n1 s1.data.toList k2 n2 s2.data.toList ≤ 0
      · have h3 := PM.ord_trans k0 n0 s0.data.toList k1 n1 s1.data.toList k2 n2 s2.data.toList (by omega) h1
        exact orders_lt1 _ _ _ _ _ _ _ _ _ w (by omega) (by omega) h1 (by omega)
      · exact orders_lt2 _ _ _ _ _ _ _ _ _ w (by omega) (by omega) (by omega)
end Go.Proofs.Ytfmbnndpjjjdiaa
