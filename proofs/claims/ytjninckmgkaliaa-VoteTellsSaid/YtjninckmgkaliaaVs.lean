/-
  CONTRACTS: slices.Index, slices.Contains over IDs and votes; fold.Aborted; vote.Says.
-/
import Derived.Test.YtjninckmgkaliaaVa
namespace Go.Proofs.Ytjninckmgkaliaa
open Go.RowKit
set_option linter.unusedVariables false
set_option linter.unusedSimpArgs false
namespace PM
structure Vo where
  id : Id
  yes : Bool
  deriving DecidableEq
def voL (x : Vo) : List Value := [.int .i64 x.id.br, .int .u64 (x.id.life : Int), .int .u64 (x.id.ser : Int), .bool x.yes]
theorem voL_len (x : Vo) : (voL x).length = 4 := rfl
theorem voL_one (x : Vo) : ∀ u ∈ voL x, u.oneCell' = true := by intro u hu; simp [voL] at hu; rcases hu with rfl | rfl | rfl | rfl <;> rfl
end PM
set_option maxRecDepth 100000 in
set_option maxHeartbeats 400000 in
theorem veq_run (a b : PM.Vo) : ∀ w : World, Sem.run Try.prog (binOp .eql 45 (.agg #[.int .i64 a.id.br, .int .u64 (a.id.life : Int), .int .u64 (a.id.ser : Int), .bool a.yes]) (.agg #[.int .i64 b.id.br, .int .u64 (b.id.life : Int), .int .u64 (b.id.ser : Int), .bool b.yes])) w = .ok (.bool (decide (a = b))) w := by
  intro w
  rw [run_eql_struct, show (10000 : Nat) = 9999 + 1 from rfl, run_equalIn_agg w 9999 45 _ _ (by kernel_rfl) (by kernel_rfl)]
  simp only [Program.fieldsOf, Try.underlying45, Try.underlying30]
  go_simp
  obtain ⟨⟨a1, a2, a3⟩, a4⟩ := a
  obtain ⟨⟨b1, b2, b3⟩, b4⟩ := b
  simp only [PM.Vo.mk.injEq, PM.Id.mk.injEq]
  by_cases e1 : a1 = b1 <;> by_cases e2 : a2 = b2 <;> by_cases e3 : a3 = b3 <;> by_cases e4 : a4 = b4 <;> simp [e1, e2, e3, e4] <;> omega
set_option maxHeartbeats 1000000 in
theorem idxI_any (v : Value) (i : PM.Id) (l : List PM.Id) (w : World) (hv : PM.EM PM.idL 3 w v l) :
    Calls Try.prog 50 #[v, .agg #[.int .i64 i.br, .int .u64 (i.life : Int), .int .u64 (i.ser : Int)]] w fun e w' => ∃ n, e = .returned (.int .i64 n) ∧ PM.At1 (fun x => decide (i = x)) l n ∧ Below w.heap.size w w' := by
  have hmax := hv.bound
  obtain ⟨ad, cap, rfl⟩ := hv.len
  unfold maxLen at hmax
  obtain ⟨L, hL⟩ : ∃ L, L = l.length := ⟨_, rfl⟩
  have hLh := PM.hid hL
  rw [← hL] at hv hmax ⊢
  obtain ⟨g, hg⟩ : ∃ g, g = w.heap.size := ⟨_, rfl⟩
  obtain ⟨w1, hw1⟩ : ∃ W, W = w.alloc (.cells #[.int .i64 i.br, .int .u64 (i.life : Int), .int .u64 (i.ser : Int)] 30) := ⟨_, rfl⟩
  have hal : Below w.heap.size w w1 := by rw [hw1]; exact (Below.refl _ _).alloc (Nat.le_refl _) _
  have kg : PM.BK w1 g #[.int .i64 i.br, .int .u64 (i.life : Int), .int .u64 (i.ser : Int)] 30 := by rw [hw1, hg]; exact PM.BK.new _ _ _
  have hvh := PM.hid (hv.keep hal)
  have kgh := PM.hid kg
  have halh := PM.hid hal
  clear hL hv hal kg
  go_enter Try.func50, Try.ntmps50
  go_upto_region 1 with fail
  rw [← hw1, ← hg]
  clear hw1 hg
  go_wp2
  go_loopw [8] (fun i' wr => ∃ k : Nat, i' = .int .i64 k ∧ k ≤ L ∧ (∀ j y, j < k → l[j]? = some y → decide (i = y) = false) ∧ Below w1.heap.size w1 wr) (fun i _ => L - (intOf i).toNat)
  case atStart => exact ⟨0, rfl, by omega, fun j y hj => absurd hj (by omega), Below.refl _ _⟩
  case round =>
    obtain ⟨k, rfl, hk, hall, hB⟩ := hrel
    have hS := PM.hid (And.intro hall hB)
    clear hall
    by_cases hlt : k < L
    · obtain ⟨z, hz⟩ : ∃ z, l[k]? = some z := ⟨l[k]'(by rw [← hLh.out]; exact hlt), List.getElem?_eq_getElem _⟩
      obtain ⟨b, off, cap', he, -, -, hce⟩ := PM.EM.open1 hvh.out (by rw [← hLh.out]; omega)
      injection he with he1 he2 he3
      subst he1
      have hl0 := hce k z hz
      have d0 : wr.cell? ⟨b, off + k * 3, none⟩ = some (.int .i64 z.br) := PM.cellA hB (hl0 0 _ rfl)
      have d1 : wr.cell? ⟨b, off + k * 3 + 1, none⟩ = some (.int .u64 (z.life : Int)) := PM.cellA hB (hl0 1 _ rfl)
      have d2 : wr.cell? ⟨b, off + k * 3 + 2, none⟩ = some (.int .u64 (z.ser : Int)) := PM.cellA hB (hl0 2 _ rfl)
      have b0 : wr.cell? ⟨g, 0, none⟩ = some (.int .i64 i.br) := PM.cellA hB (kgh.out.cell 0)
      have b1 : wr.cell? ⟨g, 1, none⟩ = some (.int .u64 (i.life : Int)) := PM.cellA hB (kgh.out.cell 1)
      have b2 : wr.cell? ⟨g, 2, none⟩ = some (.int .u64 (i.ser : Int)) := PM.cellA hB (kgh.out.cell 2)
      have hq := ideq_run i z
      have hzh := PM.hid hz
      clear hz hB hce hl0 he2 he3
      have hiz : Hid (decide (i = z) = decide (i = z)) := PM.hid rfl
      cases heq : decide (i = z)
      · rw [heq] at hq
        have heqh := PM.hid heq
        clear heq
        go_upto_region 4 with fail
        go_region
        go_wp2_with fail
        refine ⟨⟨k + 1, by go_num, by omega, fun j y hj hy => ?_, hS.out.2.drew⟩, by simp only [intOf]; omega⟩
        by_cases hjk : j < k
        · exact hS.out.1 j y hjk hy
        · obtain rfl : j = k := by omega
          rw [hzh.out] at hy
          cases hy
          exact heqh.out
      · rw [heq] at hq
        have heqh := PM.hid heq
        clear heq
        go_upto_region 4 with fail
        go_region
        go_wp2_with fail
        go_ret
        exact ⟨_, rfl, .inr ⟨k, z, rfl, hzh.out, heqh.out, hS.out.1⟩, (PM.chain halh.out hS.out.2).drew⟩
    · obtain rfl : k = L := by omega
      clear hB
      go_wp2_with fail
      go_ret
      refine ⟨_, rfl, .inl ⟨rfl, fun j z hj => ?_⟩, PM.chain halh.out hS.out.2⟩
      exact hS.out.1 j z (by rw [hLh.out]; exact (List.getElem?_eq_some_iff.1 hj).1) hj
set_option maxHeartbeats 1000000 in
theorem contI_any (v : Value) (i : PM.Id) (l : List PM.Id) (w : World) (hv : PM.EM PM.idL 3 w v l) :
    Calls Try.prog 36 #[v, .agg #[.int .i64 i.br, .int .u64 (i.life : Int), .int .u64 (i.ser : Int)]] w fun e w' => e = .returned (.bool (l.any fun x => decide (i = x))) ∧ Below w.heap.size w w' := by
  have hal : ∀ o, Below w.heap.size w (w.alloc o) := fun o => (Below.refl _ _).alloc (Nat.le_refl _) o
  have h := fun o => idxI_any v i l (w.alloc o) (hv.keep (hal o))
  replace hal := PM.hid hal
  clear hv
  obtain ⟨ib, il, ir⟩ := i
  simp only at h ⊢
  go_enter Try.func36, Try.ntmps36
  go_wp2_with fail
  refine (h _).mono ?_
  rintro e w2 ⟨n, rfl, hi, hB⟩
  have hh := PM.hid (And.intro hi (PM.chain (hal.out _) hB))
  clear h hi hB
  go_wp2_with fail
  go_ret
  exact ⟨by rw [← hh.out.1.any]; rfl, hh.out.2⟩
set_option maxHeartbeats 1000000 in
theorem idxV_any (v : Value) (i : PM.Vo) (l : List PM.Vo) (w : World) (hv : PM.EM PM.voL 4 w v l) :
    Calls Try.prog 52 #[v, .agg #[.int .i64 i.id.br, .int .u64 (i.id.life : Int), .int .u64 (i.id.ser : Int), .bool i.yes]] w fun e w' => ∃ n, e = .returned (.int .i64 n) ∧ PM.At1 (fun x => decide (i = x)) l n ∧ Below w.heap.size w w' := by
  have hmax := hv.bound
  obtain ⟨ad, cap, rfl⟩ := hv.len
  unfold maxLen at hmax
  obtain ⟨L, hL⟩ : ∃ L, L = l.length := ⟨_, rfl⟩
  have hLh := PM.hid hL
  rw [← hL] at hv hmax ⊢
  obtain ⟨g, hg⟩ : ∃ g, g = w.heap.size := ⟨_, rfl⟩
  obtain ⟨w1, hw1⟩ : ∃ W, W = w.alloc (.cells #[.int .i64 i.id.br, .int .u64 (i.id.life : Int), .int .u64 (i.id.ser : Int), .bool i.yes] 45) := ⟨_, rfl⟩
  have hal : Below w.heap.size w w1 := by rw [hw1]; exact (Below.refl _ _).alloc (Nat.le_refl _) _
  have kg : PM.BK w1 g #[.int .i64 i.id.br, .int .u64 (i.id.life : Int), .int .u64 (i.id.ser : Int), .bool i.yes] 45 := by rw [hw1, hg]; exact PM.BK.new _ _ _
  have hvh := PM.hid (hv.keep hal)
  have kgh := PM.hid kg
  have halh := PM.hid hal
  clear hL hv hal kg
  go_enter Try.func52, Try.ntmps52
  go_upto_region 1 with fail
  rw [← hw1, ← hg]
  clear hw1 hg
  go_wp2
  go_loopw [8] (fun i' wr => ∃ k : Nat, i' = .int .i64 k ∧ k ≤ L ∧ (∀ j y, j < k → l[j]? = some y → decide (i = y) = false) ∧ Below w1.heap.size w1 wr) (fun i _ => L - (intOf i).toNat)
  case atStart => exact ⟨0, rfl, by omega, fun j y hj => absurd hj (by omega), Below.refl _ _⟩
  case round =>
    obtain ⟨k, rfl, hk, hall, hB⟩ := hrel
    have hS := PM.hid (And.intro hall hB)
    clear hall
    by_cases hlt : k < L
    · obtain ⟨z, hz⟩ : ∃ z, l[k]? = some z := ⟨l[k]'(by rw [← hLh.out]; exact hlt), List.getElem?_eq_getElem _⟩
      obtain ⟨b, off, cap', he, -, -, hce⟩ := PM.EM.open1 hvh.out (by rw [← hLh.out]; omega)
      injection he with he1 he2 he3
      subst he1
      have hl0 := hce k z hz
      have d0 : wr.cell? ⟨b, off + k * 4, none⟩ = some (.int .i64 z.id.br) := PM.cellA hB (hl0 0 _ rfl)
      have d1 : wr.cell? ⟨b, off + k * 4 + 1, none⟩ = some (.int .u64 (z.id.life : Int)) := PM.cellA hB (hl0 1 _ rfl)
      have d2 : wr.cell? ⟨b, off + k * 4 + 2, none⟩ = some (.int .u64 (z.id.ser : Int)) := PM.cellA hB (hl0 2 _ rfl)
      have d3 : wr.cell? ⟨b, off + k * 4 + 3, none⟩ = some (.bool z.yes) := PM.cellA hB (hl0 3 _ rfl)
      have b0 : wr.cell? ⟨g, 0, none⟩ = some (.int .i64 i.id.br) := PM.cellA hB (kgh.out.cell 0)
      have b1 : wr.cell? ⟨g, 1, none⟩ = some (.int .u64 (i.id.life : Int)) := PM.cellA hB (kgh.out.cell 1)
      have b2 : wr.cell? ⟨g, 2, none⟩ = some (.int .u64 (i.id.ser : Int)) := PM.cellA hB (kgh.out.cell 2)
      have b3 : wr.cell? ⟨g, 3, none⟩ = some (.bool i.yes) := PM.cellA hB (kgh.out.cell 3)
      have hq := veq_run i z
      have hzh := PM.hid hz
      clear hz hB hce hl0 he2 he3
      have hiz : Hid (decide (i = z) = decide (i = z)) := PM.hid rfl
      cases heq : decide (i = z)
      · rw [heq] at hq
        have heqh := PM.hid heq
        clear heq
        go_upto_region 4 with fail
        go_region
        go_wp2_with fail
        refine ⟨⟨k + 1, by go_num, by omega, fun j y hj hy => ?_, hS.out.2.drew⟩, by simp only [intOf]; omega⟩
        by_cases hjk : j < k
        · exact hS.out.1 j y hjk hy
        · obtain rfl : j = k := by omega
          rw [hzh.out] at hy
          cases hy
          exact heqh.out
      · rw [heq] at hq
        have heqh := PM.hid heq
        clear heq
        go_upto_region 4 with fail
        go_region
        go_wp2_with fail
        go_ret
        exact ⟨_, rfl, .inr ⟨k, z, rfl, hzh.out, heqh.out, hS.out.1⟩, (PM.chain halh.out hS.out.2).drew⟩
    · obtain rfl : k = L := by omega
      clear hB
      go_wp2_with fail
      go_ret
      refine ⟨_, rfl, .inl ⟨rfl, fun j z hj => ?_⟩, PM.chain halh.out hS.out.2⟩
      exact hS.out.1 j z (by rw [hLh.out]; exact (List.getElem?_eq_some_iff.1 hj).1) hj
set_option maxHeartbeats 1000000 in
theorem contV_any (v : Value) (i : PM.Vo) (l : List PM.Vo) (w : World) (hv : PM.EM PM.voL 4 w v l) :
    Calls Try.prog 40 #[v, .agg #[.int .i64 i.id.br, .int .u64 (i.id.life : Int), .int .u64 (i.id.ser : Int), .bool i.yes]] w fun e w' => e = .returned (.bool (l.any fun x => decide (i = x))) ∧ Below w.heap.size w w' := by
  have hal : ∀ o, Below w.heap.size w (w.alloc o) := fun o => (Below.refl _ _).alloc (Nat.le_refl _) o
  have h := fun o => idxV_any v i l (w.alloc o) (hv.keep (hal o))
  replace hal := PM.hid hal
  clear hv
  obtain ⟨⟨ib, il, ir⟩, iy⟩ := i
  simp only at h ⊢
  go_enter Try.func40, Try.ntmps40
  go_wp2_with fail
  refine (h _).mono ?_
  rintro e w2 ⟨n, rfl, hi, hB⟩
  have hh := PM.hid (And.intro hi (PM.chain (hal.out _) hB))
  clear h hi hB
  go_wp2_with fail
  go_ret
  exact ⟨by rw [← hh.out.1.any]; rfl, hh.out.2⟩
set_option maxHeartbeats 1000000 in
theorem abortS_any (lf : Int) (a0 : Option Addr) (n0 c0 : Nat) (a1 : Option Addr) (n1 c1 : Nat) (a2 : Option Addr) (n2 c2 : Nat) (i : PM.Id) (l : List PM.Id) (w : World) (hv : PM.EM PM.idL 3 w (.slice a2 n2 c2) l) :
    Calls Try.prog 24 #[.agg #[.int .u64 lf, .slice a0 n0 c0, .slice a1 n1 c1, .slice a2 n2 c2], .agg #[.int .i64 i.br, .int .u64 (i.life : Int), .int .u64 (i.ser : Int)]] w fun e w' => e = .returned (.bool (PM.hasI l i)) ∧ Below w.heap.size w w' := by
  have hal : ∀ o p, Below w.heap.size w ((w.alloc o).alloc p) := fun o p => ((Below.refl _ _).alloc (Nat.le_refl _) o).alloc (by simp) p
  have hcf := fun o p => contI_any _ i l ((w.alloc o).alloc p) (hv.keep (hal o p))
  replace hal := PM.hid hal
  clear hv
  obtain ⟨ib, il, ir⟩ := i
  simp only at hcf
  go_enter Try.func24, Try.ntmps24
  go_wp2_with fail
  refine (hcf _ _).mono ?_
  rintro e w2 ⟨rfl, hB⟩
  have hB2 := PM.hid (PM.chain (hal.out _ _) hB)
  clear hB hcf
  go_wp2_with fail
  go_ret
  exact ⟨rfl, hB2.out⟩
end Go.Proofs.Ytjninckmgkaliaa
