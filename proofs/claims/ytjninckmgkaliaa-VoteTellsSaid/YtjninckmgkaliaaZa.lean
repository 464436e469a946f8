/-
  CONTRACTS of postilionref18.in/of/said/Says, postilionref16.among/Has/Promised/Aborted.
-/
import Derived.Test.YtjninckmgkaliaaWt
import Derived.Test.YtjninckmgkaliaaRk
namespace Go.Proofs.Ytjninckmgkaliaa
open Go.RowKit
set_option linter.unusedVariables false
set_option linter.unusedSimpArgs false
set_option maxRecDepth 100000 in
set_option maxHeartbeats 2000000 in
theorem rin_any (v : Value) (i : PM.Id) (l : List PM.Id) (w : World) (hv : PM.EM PM.idL 3 w v l) :
    Calls Try.prog 32 #[v, .agg #[.int .i64 i.br, .int .u64 (i.life : Int), .int .u64 (i.ser : Int)]] w fun e w' => e = .returned (.bool (PM.hasI l i)) ∧ Below w.heap.size w w' := by
  obtain ⟨va, vc, rfl⟩ := hv.len
  obtain ⟨N, hN⟩ : ∃ N, N = l.length := ⟨_, rfl⟩
  have hNh := PM.hid hN
  have hbd := hv.bound
  unfold maxLen at hbd
  rw [← hN] at hv hbd ⊢
  clear hN
  obtain ⟨gi, hgi⟩ : ∃ g, g = w.heap.size := ⟨_, rfl⟩
  obtain ⟨w1, hw1⟩ : ∃ W, W = w.alloc (.cells #[.int .i64 i.br, .int .u64 (i.life : Int), .int .u64 (i.ser : Int)] 30) := ⟨_, rfl⟩
  have hal : Below w.heap.size w w1 := by rw [hw1]; exact (Below.refl _ _).alloc (Nat.le_refl _) _
  have ki : PM.BK w1 gi #[.int .i64 i.br, .int .u64 (i.life : Int), .int .u64 (i.ser : Int)] 30 := by rw [hw1, hgi]; exact PM.BK.new _ _ _
  have kih := PM.hid ki
  have hvh := PM.hid hv
  have hBB := PM.hid hal
  clear ki hv hal
  go_enter Try.func32, Try.ntmps32
  go_upto_region 1 with fail
  rw [← hw1, ← hgi]
  clear hw1 hgi
  go_wp2_with fail
  go_loopw [5] (fun ix wr => ∃ k : Nat, ix = .int .i64 k ∧ k ≤ N ∧ Hid (PM.hasI (l.take k) i = false ∧ Below w1.heap.size w1 wr)) (fun ix _ => N - (intOf ix).toNat)
  case atStart => exact ⟨0, rfl, by omega, PM.hid ⟨rfl, Below.refl _ _⟩⟩
  case round =>
    obtain ⟨k, rfl, hk, hin⟩ := hrel
    by_cases hlt : k < N
    · obtain ⟨z, hz⟩ : ∃ z, l[k]? = some z := ⟨l[k]'(by rw [← hNh.out]; exact hlt), List.getElem?_eq_getElem _⟩
      obtain ⟨b, off, cap', he, -, -, hce⟩ := PM.EM.open1 hvh.out (by rw [← hNh.out]; omega)
      injection he with he1 he2 he3
      subst he1
      have hl0 := (hce k z hz).keep (PM.chain hBB.out hin.out.2)
      have d0 : wr.cell? ⟨b, off + k * 3, none⟩ = some (.int .i64 z.br) := hl0 0 _ rfl
      have d1 : wr.cell? ⟨b, off + k * 3 + 1, none⟩ = some (.int .u64 (z.life : Int)) := hl0 1 _ rfl
      have d2 : wr.cell? ⟨b, off + k * 3 + 2, none⟩ = some (.int .u64 (z.ser : Int)) := hl0 2 _ rfl
      have hzh := PM.hid hz
      clear hz hce hl0 he2 he3
      have y0 : wr.cell? ⟨gi, 0, none⟩ = some (.int .i64 i.br) := (kih.out.keep hin.out.2).cell 0
      have y1 : wr.cell? ⟨gi, 1, none⟩ = some (.int .u64 (i.life : Int)) := (kih.out.keep hin.out.2).cell 1
      have y2 : wr.cell? ⟨gi, 2, none⟩ = some (.int .u64 (i.ser : Int)) := (kih.out.keep hin.out.2).cell 2
      have hq := ideq_run z i
      have hsn : Hid (PM.hasI (l.take (k + 1)) i = (PM.hasI (l.take k) i || decide (z = i))) := PM.hid (by rw [PM.take_at hzh.out, PM.hasI_snoc]; simp [eq_comm])
      obtain ⟨c, hc⟩ : ∃ c, c = decide (z = i) := ⟨_, rfl⟩
      rw [← hc] at hq
      have hch := PM.hid hc
      clear hc
      cases c
      · go_upto_region 4 with fail
        go_region
        clear hq d0 d1 d2 y0 y1 y2
        go_wp2_with fail
        exact ⟨⟨k + 1, by go_num, by omega, PM.hid ⟨by rw [hsn.out, ← hch.out, hin.out.1]; rfl, hin.out.2.drew⟩⟩, by simp only [intOf]; omega⟩
      · have hfin : Hid (PM.hasI l i = true) := PM.hid (by
          have h9 := List.mem_of_getElem? hzh.out
          have h8 := of_decide_eq_true hch.out.symm
          exact PM.hasI_iff.2 (h8 ▸ h9))
        go_upto_region 4 with fail
        go_region
        clear hq d0 d1 d2 y0 y1 y2
        go_wp2_with fail
        go_ret
        exact ⟨by rw [hfin.out]; rfl, PM.chain hBB.out hin.out.2.drew⟩
    · obtain rfl : k = N := by omega
      have hfin : Hid (PM.hasI l i = false) := PM.hid (by
        have h9 := hin.out.1
        rw [hNh.out, List.take_length] at h9
        exact h9)
      go_wp2_with fail
      go_ret
      exact ⟨by rw [hfin.out]; rfl, PM.chain hBB.out hin.out.2⟩
set_option maxRecDepth 100000 in
set_option maxHeartbeats 2000000 in
theorem rof_any (v : Value) (i : PM.Id) (l : List PM.En) (w : World) (hv : PM.EnL w v l) :
    Calls Try.prog 31 #[v, .agg #[.int .i64 i.br, .int .u64 (i.life : Int), .int .u64 (i.ser : Int)]] w fun e w' => e = .returned (.bool (PM.hasE l i)) ∧ Below w.heap.size w w' := by
  obtain ⟨va, vc, rfl⟩ := hv.len
  obtain ⟨N, hN⟩ : ∃ N, N = l.length := ⟨_, rfl⟩
  have hNh := PM.hid hN
  have hbd := hv.bound
  unfold maxLen at hbd
  rw [← hN] at hv hbd ⊢
  clear hN
  obtain ⟨gi, hgi⟩ : ∃ g, g = w.heap.size := ⟨_, rfl⟩
  obtain ⟨w1, hw1⟩ : ∃ W, W = w.alloc (.cells #[.int .i64 i.br, .int .u64 (i.life : Int), .int .u64 (i.ser : Int)] 30) := ⟨_, rfl⟩
  have hal : Below w.heap.size w w1 := by rw [hw1]; exact (Below.refl _ _).alloc (Nat.le_refl _) _
  have ki : PM.BK w1 gi #[.int .i64 i.br, .int .u64 (i.life : Int), .int .u64 (i.ser : Int)] 30 := by rw [hw1, hgi]; exact PM.BK.new _ _ _
  have kih := PM.hid ki
  have hvh := PM.hid hv
  have hBB := PM.hid hal
  clear ki hv hal
  go_enter Try.func31, Try.ntmps31
  go_upto_region 1 with fail
  rw [← hw1, ← hgi]
  clear hw1 hgi
  go_wp2_with fail
  go_loopw [5] (fun ix wr => ∃ k : Nat, ix = .int .i64 k ∧ k ≤ N ∧ Hid (PM.hasE (l.take k) i = false ∧ Below w1.heap.size w1 wr)) (fun ix _ => N - (intOf ix).toNat)
  case atStart => exact ⟨0, rfl, by omega, PM.hid ⟨rfl, Below.refl _ _⟩⟩
  case round =>
    obtain ⟨k, rfl, hk, hin⟩ := hrel
    by_cases hlt : k < N
    · obtain ⟨z, hz⟩ : ∃ z, l[k]? = some z := ⟨l[k]'(by rw [← hNh.out]; exact hlt), List.getElem?_eq_getElem _⟩
      obtain ⟨b, off, hbe, hce⟩ := PM.RR.opn hvh.out (by rw [← hNh.out]; omega)
      subst hbe
      obtain ⟨cs, hl0, hR⟩ := hce k z hz
      obtain ⟨fa, fc, ea, ec, hcs, -, -⟩ := PM.enR_open hR
      replace hl0 := hl0.keep (PM.chain hBB.out hin.out.2)
      rw [hcs] at hl0
      have d0 : wr.cell? ⟨b, off + k * 8 + 1, none⟩ = some (.int .i64 z.id.br) := hl0 1 _ rfl
      have d1 : wr.cell? ⟨b, off + k * 8 + 2, none⟩ = some (.int .u64 (z.id.life : Int)) := hl0 2 _ rfl
      have d2 : wr.cell? ⟨b, off + k * 8 + 3, none⟩ = some (.int .u64 (z.id.ser : Int)) := hl0 3 _ rfl
      have hzh := PM.hid hz
      clear hz hce hl0 hR hcs cs
      have y0 : wr.cell? ⟨gi, 0, none⟩ = some (.int .i64 i.br) := (kih.out.keep hin.out.2).cell 0
      have y1 : wr.cell? ⟨gi, 1, none⟩ = some (.int .u64 (i.life : Int)) := (kih.out.keep hin.out.2).cell 1
      have y2 : wr.cell? ⟨gi, 2, none⟩ = some (.int .u64 (i.ser : Int)) := (kih.out.keep hin.out.2).cell 2
      have hq := ideq_run z.id i
      have hsn : Hid (PM.hasE (l.take (k + 1)) i = (PM.hasE (l.take k) i || decide (z.id = i))) := PM.hid (by rw [PM.take_at hzh.out, PM.hasE_snoc])
      obtain ⟨c, hc⟩ : ∃ c, c = decide (z.id = i) := ⟨_, rfl⟩
      rw [← hc] at hq
      have hch := PM.hid hc
      clear hc
      cases c
      · go_upto_region 4 with fail
        go_region
        clear hq d0 d1 d2 y0 y1 y2
        go_wp2_with fail
        exact ⟨⟨k + 1, by go_num, by omega, PM.hid ⟨by rw [hsn.out, ← hch.out, hin.out.1]; rfl, hin.out.2.drew⟩⟩, by simp only [intOf]; omega⟩
      · have hfin : Hid (PM.hasE l i = true) := PM.hid (by
          have h9 := List.mem_of_getElem? hzh.out
          have h8 := of_decide_eq_true hch.out.symm
          exact PM.hasE_iff.2 ⟨z, h9, h8⟩)
        go_upto_region 4 with fail
        go_region
        clear hq d0 d1 d2 y0 y1 y2
        go_wp2_with fail
        go_ret
        exact ⟨by rw [hfin.out]; rfl, PM.chain hBB.out hin.out.2.drew⟩
    · obtain rfl : k = N := by omega
      have hfin : Hid (PM.hasE l i = false) := PM.hid (by
        have h9 := hin.out.1
        rw [hNh.out, List.take_length] at h9
        exact h9)
      go_wp2_with fail
      go_ret
      exact ⟨by rw [hfin.out]; rfl, PM.chain hBB.out hin.out.2⟩
set_option maxRecDepth 100000 in
set_option maxHeartbeats 2000000 in
theorem ramong_any (v : Value) (i : PM.Id) (l : List PM.En) (w : World) (hv : PM.EnL w v l) :
    Calls Try.prog 47 #[v, .agg #[.int .i64 i.br, .int .u64 (i.life : Int), .int .u64 (i.ser : Int)]] w fun e w' => e = .returned (.bool (PM.hasE l i)) ∧ Below w.heap.size w w' := by
  obtain ⟨va, vc, rfl⟩ := hv.len
  obtain ⟨N, hN⟩ : ∃ N, N = l.length := ⟨_, rfl⟩
  have hNh := PM.hid hN
  have hbd := hv.bound
  unfold maxLen at hbd
  rw [← hN] at hv hbd ⊢
  clear hN
  obtain ⟨gi, hgi⟩ : ∃ g, g = w.heap.size := ⟨_, rfl⟩
  obtain ⟨w1, hw1⟩ : ∃ W, W = w.alloc (.cells #[.int .i64 i.br, .int .u64 (i.life : Int), .int .u64 (i.ser : Int)] 30) := ⟨_, rfl⟩
  have hal : Below w.heap.size w w1 := by rw [hw1]; exact (Below.refl _ _).alloc (Nat.le_refl _) _
  have ki : PM.BK w1 gi #[.int .i64 i.br, .int .u64 (i.life : Int), .int .u64 (i.ser : Int)] 30 := by rw [hw1, hgi]; exact PM.BK.new _ _ _
  have kih := PM.hid ki
  have hvh := PM.hid hv
  have hBB := PM.hid hal
  clear ki hv hal
  go_enter Try.func47, Try.ntmps47
  go_upto_region 1 with fail
  rw [← hw1, ← hgi]
  clear hw1 hgi
  go_wp2_with fail
  go_loopw [5] (fun ix wr => ∃ k : Nat, ix = .int .i64 k ∧ k ≤ N ∧ Hid (PM.hasE (l.take k) i = false ∧ Below w1.heap.size w1 wr)) (fun ix _ => N - (intOf ix).toNat)
  case atStart => exact ⟨0, rfl, by omega, PM.hid ⟨rfl, Below.refl _ _⟩⟩
  case round =>
    obtain ⟨k, rfl, hk, hin⟩ := hrel
    by_cases hlt : k < N
    · obtain ⟨z, hz⟩ : ∃ z, l[k]? = some z := ⟨l[k]'(by rw [← hNh.out]; exact hlt), List.getElem?_eq_getElem _⟩
      obtain ⟨b, off, hbe, hce⟩ := PM.RR.opn hvh.out (by rw [← hNh.out]; omega)
      subst hbe
      obtain ⟨cs, hl0, hR⟩ := hce k z hz
      obtain ⟨fa, fc, ea, ec, hcs, -, -⟩ := PM.enR_open hR
      replace hl0 := hl0.keep (PM.chain hBB.out hin.out.2)
      rw [hcs] at hl0
      have d0 : wr.cell? ⟨b, off + k * 8 + 1, none⟩ = some (.int .i64 z.id.br) := hl0 1 _ rfl
      have d1 : wr.cell? ⟨b, off + k * 8 + 2, none⟩ = some (.int .u64 (z.id.life : Int)) := hl0 2 _ rfl
      have d2 : wr.cell? ⟨b, off + k * 8 + 3, none⟩ = some (.int .u64 (z.id.ser : Int)) := hl0 3 _ rfl
      have hzh := PM.hid hz
      clear hz hce hl0 hR hcs cs
      have y0 : wr.cell? ⟨gi, 0, none⟩ = some (.int .i64 i.br) := (kih.out.keep hin.out.2).cell 0
      have y1 : wr.cell? ⟨gi, 1, none⟩ = some (.int .u64 (i.life : Int)) := (kih.out.keep hin.out.2).cell 1
      have y2 : wr.cell? ⟨gi, 2, none⟩ = some (.int .u64 (i.ser : Int)) := (kih.out.keep hin.out.2).cell 2
      have hq := ideq_run z.id i
      have hsn : Hid (PM.hasE (l.take (k + 1)) i = (PM.hasE (l.take k) i || decide (z.id = i))) := PM.hid (by rw [PM.take_at hzh.out, PM.hasE_snoc])
      obtain ⟨c, hc⟩ : ∃ c, c = decide (z.id = i) := ⟨_, rfl⟩
      rw [← hc] at hq
      have hch := PM.hid hc
      clear hc
      cases c
      · go_upto_region 4 with fail
        go_region
        clear hq d0 d1 d2 y0 y1 y2
        go_wp2_with fail
        exact ⟨⟨k + 1, by go_num, by omega, PM.hid ⟨by rw [hsn.out, ← hch.out, hin.out.1]; rfl, hin.out.2.drew⟩⟩, by simp only [intOf]; omega⟩
      · have hfin : Hid (PM.hasE l i = true) := PM.hid (by
          have h9 := List.mem_of_getElem? hzh.out
          have h8 := of_decide_eq_true hch.out.symm
          exact PM.hasE_iff.2 ⟨z, h9, h8⟩)
        go_upto_region 4 with fail
        go_region
        clear hq d0 d1 d2 y0 y1 y2
        go_wp2_with fail
        go_ret
        exact ⟨by rw [hfin.out]; rfl, PM.chain hBB.out hin.out.2.drew⟩
    · obtain rfl : k = N := by omega
      have hfin : Hid (PM.hasE l i = false) := PM.hid (by
        have h9 := hin.out.1
        rw [hNh.out, List.take_length] at h9
        exact h9)
      go_wp2_with fail
      go_ret
      exact ⟨by rw [hfin.out]; rfl, PM.chain hBB.out hin.out.2⟩
set_option maxRecDepth 100000 in
set_option maxHeartbeats 2000000 in
theorem rabort_any (lf : Int) (a0 : Option Addr) (n0 c0 : Nat) (a1 : Option Addr) (n1 c1 : Nat) (va : Option Addr) (vn vc : Nat) (i : PM.Id) (l : List PM.Id) (w : World) (hv : PM.EM PM.idL 3 w (.slice va vn vc) l) :
    Calls Try.prog 30 #[.agg #[.int .u64 lf, .slice a0 n0 c0, .slice a1 n1 c1, .slice va vn vc], .agg #[.int .i64 i.br, .int .u64 (i.life : Int), .int .u64 (i.ser : Int)]] w fun e w' => e = .returned (.bool (PM.hasI l i)) ∧ Below w.heap.size w w' := by
  obtain ⟨va2, vc2, hve⟩ := hv.len
  injection hve with e1 e2 e3
  subst e1 e3
  have hvn := e2
  clear e2
  obtain ⟨N, hN⟩ : ∃ N, N = l.length := ⟨_, rfl⟩
  have hNh := PM.hid hN
  have hbd := hv.bound
  unfold maxLen at hbd
  rw [← hN] at hbd hvn
  obtain rfl := hvn.symm
  clear hN
  obtain ⟨gs, hgs⟩ : ∃ g, g = w.heap.size := ⟨_, rfl⟩
  obtain ⟨gi, hgi⟩ : ∃ g, g = w.heap.size + 1 := ⟨_, rfl⟩
  obtain ⟨w0, hw0⟩ : ∃ W, W = w.alloc (.cells #[.int .u64 lf, .slice a0 n0 c0, .slice a1 n1 c1, .slice va N vc] 27) := ⟨_, rfl⟩
  have s0 : w0.heap.size = w.heap.size + 1 := by rw [hw0]; simp
  have hal0 : Below w.heap.size w w0 := by rw [hw0]; exact (Below.refl _ _).alloc (Nat.le_refl _) _
  have ks : PM.BK w0 gs #[.int .u64 lf, .slice a0 n0 c0, .slice a1 n1 c1, .slice va N vc] 27 := by rw [hw0, hgs]; exact PM.BK.new _ _ _
  obtain ⟨w1, hw1⟩ : ∃ W, W = w0.alloc (.cells #[.int .i64 i.br, .int .u64 (i.life : Int), .int .u64 (i.ser : Int)] 30) := ⟨_, rfl⟩
  have hal : Below w0.heap.size w0 w1 := by rw [hw1]; exact (Below.refl _ _).alloc (Nat.le_refl _) _
  have ki : PM.BK w1 gi #[.int .i64 i.br, .int .u64 (i.life : Int), .int .u64 (i.ser : Int)] 30 := by rw [hw1, hgi, ← s0]; exact PM.BK.new _ _ _
  have kih := PM.hid ki
  have hvh := PM.hid hv
  have ksh := PM.hid (ks.keep hal)
  have hBB := PM.hid (PM.chain hal0 hal)
  clear ki hv hal ks hal0 s0
  go_enter Try.func30, Try.ntmps30
  go_upto_region 1 with fail
  rw [← hw0, ← hw1, ← hgi, ← hgs]
  clear hw0 hw1 hgi hgs
  go_wp2_with fail
  go_loopw [5] (fun ix wr => ∃ k : Nat, ix = .int .i64 k ∧ k ≤ N ∧ Hid (PM.hasI (l.take k) i = false ∧ Below w1.heap.size w1 wr)) (fun ix _ => N - (intOf ix).toNat)
  case atStart => exact ⟨0, rfl, by omega, PM.hid ⟨rfl, Below.refl _ _⟩⟩
  case round =>
    obtain ⟨k, rfl, hk, hin⟩ := hrel
    have s3 : wr.cell? ⟨gs, 3, none⟩ = some (.slice va N vc) := (ksh.out.keep hin.out.2).cell 3
    by_cases hlt : k < N
    · obtain ⟨z, hz⟩ : ∃ z, l[k]? = some z := ⟨l[k]'(by rw [← hNh.out]; exact hlt), List.getElem?_eq_getElem _⟩
      obtain ⟨b, off, cap', he, -, -, hce⟩ := PM.EM.open1 hvh.out (by rw [← hNh.out]; omega)
      injection he with he1 he2 he3
      subst he1
      have hl0 := (hce k z hz).keep (PM.chain hBB.out hin.out.2)
      have d0 : wr.cell? ⟨b, off + k * 3, none⟩ = some (.int .i64 z.br) := hl0 0 _ rfl
      have d1 : wr.cell? ⟨b, off + k * 3 + 1, none⟩ = some (.int .u64 (z.life : Int)) := hl0 1 _ rfl
      have d2 : wr.cell? ⟨b, off + k * 3 + 2, none⟩ = some (.int .u64 (z.ser : Int)) := hl0 2 _ rfl
      have hzh := PM.hid hz
      clear hz hce hl0 he2 he3
      have y0 : wr.cell? ⟨gi, 0, none⟩ = some (.int .i64 i.br) := (kih.out.keep hin.out.2).cell 0
      have y1 : wr.cell? ⟨gi, 1, none⟩ = some (.int .u64 (i.life : Int)) := (kih.out.keep hin.out.2).cell 1
      have y2 : wr.cell? ⟨gi, 2, none⟩ = some (.int .u64 (i.ser : Int)) := (kih.out.keep hin.out.2).cell 2
      have hq := ideq_run z i
      have hsn : Hid (PM.hasI (l.take (k + 1)) i = (PM.hasI (l.take k) i || decide (z = i))) := PM.hid (by rw [PM.take_at hzh.out, PM.hasI_snoc]; simp [eq_comm])
      obtain ⟨c, hc⟩ : ∃ c, c = decide (z = i) := ⟨_, rfl⟩
      rw [← hc] at hq
      have hch := PM.hid hc
      clear hc
      cases c
      · go_upto_region 4 with fail
        go_region
        clear hq d0 d1 d2 y0 y1 y2 s3
        go_wp2_with fail
        exact ⟨⟨k + 1, by go_num, by omega, PM.hid ⟨by rw [hsn.out, ← hch.out, hin.out.1]; rfl, hin.out.2.drew⟩⟩, by simp only [intOf]; omega⟩
      · have hfin : Hid (PM.hasI l i = true) := PM.hid (by
          have h9 := List.mem_of_getElem? hzh.out
          have h8 := of_decide_eq_true hch.out.symm
          exact PM.hasI_iff.2 (h8 ▸ h9))
        go_upto_region 4 with fail
        go_region
        clear hq d0 d1 d2 y0 y1 y2 s3
        go_wp2_with fail
        go_ret
        exact ⟨by rw [hfin.out]; rfl, PM.chain hBB.out hin.out.2.drew⟩
    · obtain rfl : k = N := by omega
      have hfin : Hid (PM.hasI l i = false) := PM.hid (by
        have h9 := hin.out.1
        rw [hNh.out, List.take_length] at h9
        exact h9)
      go_wp2_with fail
      go_ret
      exact ⟨by rw [hfin.out]; rfl, PM.chain hBB.out hin.out.2⟩
set_option maxHeartbeats 1000000 in
theorem rhas_any (lf : Int) (a0 : Option Addr) (n0 c0 : Nat) (a1 : Option Addr) (n1 c1 : Nat) (a2 : Option Addr) (n2 c2 : Nat) (i : PM.Id) (l : List PM.En) (w : World) (hv : PM.EnL w (.slice a0 n0 c0) l) :
    Calls Try.prog 28 #[.agg #[.int .u64 lf, .slice a0 n0 c0, .slice a1 n1 c1, .slice a2 n2 c2], .agg #[.int .i64 i.br, .int .u64 (i.life : Int), .int .u64 (i.ser : Int)]] w fun e w' => e = .returned (.bool (PM.hasE l i)) ∧ Below w.heap.size w w' := by
  have hal : ∀ o p, Below w.heap.size w ((w.alloc o).alloc p) := fun o p => ((Below.refl _ _).alloc (Nat.le_refl _) o).alloc (by simp) p
  have hcf := fun o p => ramong_any _ i l ((w.alloc o).alloc p) (PM.RR.keep PM.enR_lasts (hal o p) hv)
  replace hal := PM.hid hal
  clear hv
  obtain ⟨ib, il, ir⟩ := i
  simp only at hcf
  go_enter Try.func28, Try.ntmps28
  go_wp2_with fail
  refine (hcf _ _).mono ?_
  rintro e w2 ⟨rfl, hB⟩
  have hB2 := PM.hid (PM.chain (hal.out _ _) hB)
  clear hB hcf
  go_wp2_with fail
  go_ret
  exact ⟨rfl, hB2.out⟩
set_option maxHeartbeats 1000000 in
theorem rprom_any (lf : Int) (a0 : Option Addr) (n0 c0 : Nat) (a1 : Option Addr) (n1 c1 : Nat) (a2 : Option Addr) (n2 c2 : Nat) (i : PM.Id) (l : List PM.En) (w : World) (hv : PM.EnL w (.slice a1 n1 c1) l) :
    Calls Try.prog 29 #[.agg #[.int .u64 lf, .slice a0 n0 c0, .slice a1 n1 c1, .slice a2 n2 c2], .agg #[.int .i64 i.br, .int .u64 (i.life : Int), .int .u64 (i.ser : Int)]] w fun e w' => e = .returned (.bool (PM.hasE l i)) ∧ Below w.heap.size w w' := by
  have hal : ∀ o p, Below w.heap.size w ((w.alloc o).alloc p) := fun o p => ((Below.refl _ _).alloc (Nat.le_refl _) o).alloc (by simp) p
  have hcf := fun o p => ramong_any _ i l ((w.alloc o).alloc p) (PM.RR.keep PM.enR_lasts (hal o p) hv)
  replace hal := PM.hid hal
  clear hv
  obtain ⟨ib, il, ir⟩ := i
  simp only at hcf
  go_enter Try.func29, Try.ntmps29
  go_wp2_with fail
  refine (hcf _ _).mono ?_
  rintro e w2 ⟨rfl, hB⟩
  have hB2 := PM.hid (PM.chain (hal.out _ _) hB)
  clear hB hcf
  go_wp2_with fail
  go_ret
  exact ⟨rfl, hB2.out⟩
namespace PM
def anV (l : List Vo) (v : Vo) : Bool := l.any fun x => decide (v = x)
theorem anV_snoc {l : List Vo} {k : Nat} {z : Vo} (h : l[k]? = some z) (v : Vo) : anV (l.take (k + 1)) v = (anV (l.take k) v || decide (v = z)) := by
  unfold anV
  rw [take_at h, List.any_append]
  simp
theorem vo_ne {z : Vo} {i : Id} (h : decide (z.id = i) = false) (y : Bool) : decide ((⟨i, y⟩ : Vo) = z) = false := by
  have h' := of_decide_eq_false h
  apply decide_eq_false
  rintro rfl
  exact h' rfl
theorem vo_eq {z : Vo} {i : Id} (h : decide (z.id = i) = true) (y : Bool) : decide ((⟨i, y⟩ : Vo) = z) = decide (z.yes = y) := by
  have h' := of_decide_eq_true h
  obtain ⟨a, b⟩ := z
  simp only at h'
  subst h'
  simp [eq_comm]
end PM
set_option maxRecDepth 100000 in
set_option maxHeartbeats 4000000 in
theorem said_any (mk : Int) (mh : Nat) (ma0 : Option Addr) (mn0 mc0 : Nat) (ma1 : Option Addr) (mn1 mc1 : Nat) (ma2 : Option Addr) (mn2 mc2 : Nat) (ma3 : Option Addr) (mn3 mc3 : Nat) (ma4 : Option Addr) (mn4 mc4 : Nat) (ma5 : Option Addr) (mn5 mc5 : Nat) (i : PM.Id) (l : List PM.Vo) (w : World) (hv : PM.EM PM.voL 4 w (.slice ma0 mn0 mc0) l) :
    Calls Try.prog 41 #[.agg #[.int .i64 mk, .int .u64 (mh : Int), .slice ma0 mn0 mc0, .slice ma1 mn1 mc1, .slice ma2 mn2 mc2, .slice ma3 mn3 mc3, .slice ma4 mn4 mc4, .slice ma5 mn5 mc5], .agg #[.int .i64 i.br, .int .u64 (i.life : Int), .int .u64 (i.ser : Int)]] w fun e w' => e = .returned (.tuple #[.bool (PM.anV l ⟨i, false⟩), .bool (PM.anV l ⟨i, true⟩)]) ∧ Below w.heap.size w w' := by
  obtain ⟨va2, vc2, hve⟩ := hv.len
  injection hve with e1 e2 e3
  subst e1 e3
  have hvn := e2
  clear e2
  obtain ⟨N, hN⟩ : ∃ N, N = l.length := ⟨_, rfl⟩
  have hNh := PM.hid hN
  have hbd := hv.bound
  unfold maxLen at hbd
  rw [← hN] at hbd hvn
  subst hvn
  clear hN
  obtain ⟨gm, hgm⟩ : ∃ g, g = w.heap.size := ⟨_, rfl⟩
  obtain ⟨gi, hgi⟩ : ∃ g, g = w.heap.size + 1 := ⟨_, rfl⟩
  obtain ⟨w0, hw0⟩ : ∃ W, W = w.alloc (.cells #[.int .i64 mk, .int .u64 (mh : Int), .slice ma0 mn0 mc0, .slice ma1 mn1 mc1, .slice ma2 mn2 mc2, .slice ma3 mn3 mc3, .slice ma4 mn4 mc4, .slice ma5 mn5 mc5] 41) := ⟨_, rfl⟩
  have s0 : w0.heap.size = w.heap.size + 1 := by rw [hw0]; simp
  have hal0 : Below w.heap.size w w0 := by rw [hw0]; exact (Below.refl _ _).alloc (Nat.le_refl _) _
  have km : PM.BK w0 gm #[.int .i64 mk, .int .u64 (mh : Int), .slice ma0 mn0 mc0, .slice ma1 mn1 mc1, .slice ma2 mn2 mc2, .slice ma3 mn3 mc3, .slice ma4 mn4 mc4, .slice ma5 mn5 mc5] 41 := by rw [hw0, hgm]; exact PM.BK.new _ _ _
  obtain ⟨w1, hw1⟩ : ∃ W, W = w0.alloc (.cells #[.int .i64 i.br, .int .u64 (i.life : Int), .int .u64 (i.ser : Int)] 30) := ⟨_, rfl⟩
  have hal : Below w0.heap.size w0 w1 := by rw [hw1]; exact (Below.refl _ _).alloc (Nat.le_refl _) _
  have ki : PM.BK w1 gi #[.int .i64 i.br, .int .u64 (i.life : Int), .int .u64 (i.ser : Int)] 30 := by rw [hw1, hgi, ← s0]; exact PM.BK.new _ _ _
  have kih := PM.hid ki
  have kmh := PM.hid (km.keep hal)
  have hvh := PM.hid hv
  have hBB := PM.hid (PM.chain hal0 hal)
  clear ki hv hal km hal0 s0
  go_enter Try.func41, Try.ntmps41
  go_upto_region 1 with fail
  rw [← hw0, ← hw1, ← hgi, ← hgm]
  clear hw0 hw1 hgi hgm
  go_wp2_with fail
  go_loopw [6, 7, 8] (fun no yes ix wr => ∃ k : Nat, ix = .int .i64 k ∧ k ≤ mn0 ∧ no = .bool (PM.anV (l.take k) ⟨i, false⟩) ∧ yes = .bool (PM.anV (l.take k) ⟨i, true⟩) ∧ Below w1.heap.size w1 wr) (fun _ _ ix _ => mn0 - (intOf ix).toNat)
  case atStart => exact ⟨0, rfl, by omega, rfl, rfl, Below.refl _ _⟩
  case round =>
    obtain ⟨k, rfl, hk, rfl, rfl, hB⟩ := hrel
    have hin := PM.hid hB
    clear hB
    have s3 : wr.cell? ⟨gm, 2, none⟩ = some (.slice ma0 mn0 mc0) := (kmh.out.keep hin.out).cell 2
    by_cases hlt : k < mn0
    · obtain ⟨z, hz⟩ : ∃ z, l[k]? = some z := ⟨l[k]'(by rw [← hNh.out]; exact hlt), List.getElem?_eq_getElem _⟩
      obtain ⟨b, off, cap', he, -, -, hce⟩ := PM.EM.open1 hvh.out (by rw [← hNh.out]; omega)
      injection he with he1 he2 he3
      subst he1
      have hl0 := (hce k z hz).keep (PM.chain hBB.out hin.out)
      have d0 : wr.cell? ⟨b, off + k * 4, none⟩ = some (.int .i64 z.id.br) := hl0 0 _ rfl
      have d1 : wr.cell? ⟨b, off + k * 4 + 1, none⟩ = some (.int .u64 (z.id.life : Int)) := hl0 1 _ rfl
      have d2 : wr.cell? ⟨b, off + k * 4 + 2, none⟩ = some (.int .u64 (z.id.ser : Int)) := hl0 2 _ rfl
      have d3 : wr.cell? ⟨b, off + k * 4 + 3, none⟩ = some (.bool z.yes) := hl0 3 _ rfl
      have hzh := PM.hid hz
      clear hz hce hl0 he2 he3
      have y0 : wr.cell? ⟨gi, 0, none⟩ = some (.int .i64 i.br) := (kih.out.keep hin.out).cell 0
      have y1 : wr.cell? ⟨gi, 1, none⟩ = some (.int .u64 (i.life : Int)) := (kih.out.keep hin.out).cell 1
      have y2 : wr.cell? ⟨gi, 2, none⟩ = some (.int .u64 (i.ser : Int)) := (kih.out.keep hin.out).cell 2
      have hq := ideq_run z.id i
      have h1 := PM.anV_snoc hzh.out ⟨i, false⟩
      have h2 := PM.anV_snoc hzh.out ⟨i, true⟩
      obtain ⟨A, hA⟩ : ∃ x, x = PM.anV (l.take k) ⟨i, false⟩ := ⟨_, rfl⟩
      obtain ⟨C, hC⟩ : ∃ x, x = PM.anV (l.take k) ⟨i, true⟩ := ⟨_, rfl⟩
      rw [← hA] at h1 ⊢
      rw [← hC] at h2 ⊢
      clear hA hC
      cases heq : decide (z.id = i)
      · rw [heq] at hq
        rw [PM.vo_ne heq, Bool.or_false] at h1 h2
        have hs := PM.hid (And.intro h1 h2)
        clear heq h1 h2
        go_upto_region 6 with fail
        go_region
        clear hq d0 d1 d2 y0 y1 y2 s3
        go_wp2_with fail
        exact ⟨⟨k + 1, by go_num, by omega, by rw [hs.out.1], by rw [hs.out.2], hin.out.drew⟩, by simp only [intOf]; omega⟩
      rw [heq] at hq
      rw [PM.vo_eq heq] at h1 h2
      clear heq
      go_upto_region 6 with fail
      go_region
      obtain ⟨wd, hwd⟩ : ∃ W, W = wr.drew := ⟨_, rfl⟩
      rw [← hwd]
      have hbd1 : Below wr.heap.size wr wd := by rw [hwd]; exact (Below.refl _ _).drew
      have hin2 : Hid (Below w1.heap.size w1 wd) := PM.hid (PM.chain hin.out hbd1)
      clear hwd hq d0 d1 d2 y0 y1 y2 s3
      replace d3 := PM.cellA hbd1 d3
      clear hbd1
      have s3 : wd.cell? ⟨gm, 2, none⟩ = some (.slice (some ⟨b, off, none⟩) mn0 mc0) := (kmh.out.keep hin2.out).cell 2
      cases hzy : z.yes
      all_goals
        rw [hzy] at d3 h1 h2
        have hs := PM.hid (And.intro h1 h2)
        clear hzy h1 h2
        cases A
        all_goals
          cases C
          all_goals
            go_wp2_with fail
            exact ⟨⟨k + 1, by go_num, by omega, by rw [hs.out.1]; rfl, by rw [hs.out.2]; rfl, hin2.out⟩, by simp only [intOf]; omega⟩
    · obtain rfl : k = mn0 := by omega
      have hfin : Hid (l.take k = l) := PM.hid (by rw [hNh.out]; exact List.take_length)
      go_wp2_with fail
      go_ret2
      exact ⟨by rw [hfin.out]; rfl, PM.chain hBB.out hin.out⟩
set_option maxRecDepth 100000 in
set_option maxHeartbeats 8000000 in
theorem rsays_any (v : Value) (i : PM.Id) (ks : List PM.Ms) (w : World) (hv : PM.MsL w v ks) :
    Calls Try.prog 21 #[v, .agg #[.int .i64 i.br, .int .u64 (i.life : Int), .int .u64 (i.ser : Int)]] w fun e w' => e = .returned (.int .i64 (PM.says ks i)) ∧ Below w.heap.size w w' := by
  obtain ⟨va, vc, rfl⟩ := hv.len
  obtain ⟨N, hN⟩ : ∃ N, N = ks.length := ⟨_, rfl⟩
  have hNh := PM.hid hN
  have hbd := hv.bound
  unfold maxLen at hbd
  rw [← hN] at hv hbd ⊢
  clear hN
  obtain ⟨gi, hgi⟩ : ∃ g, g = w.heap.size := ⟨_, rfl⟩
  obtain ⟨w1, hw1⟩ : ∃ W, W = w.alloc (.cells #[.int .i64 i.br, .int .u64 (i.life : Int), .int .u64 (i.ser : Int)] 30) := ⟨_, rfl⟩
  have hal : Below w.heap.size w w1 := by rw [hw1]; exact (Below.refl _ _).alloc (Nat.le_refl _) _
  have ki : PM.BK w1 gi #[.int .i64 i.br, .int .u64 (i.life : Int), .int .u64 (i.ser : Int)] 30 := by rw [hw1, hgi]; exact PM.BK.new _ _ _
  have kih := PM.hid ki
  have hvh := PM.hid hv
  have hBB := PM.hid hal
  clear ki hv hal
  go_enter Try.func21, Try.ntmps21
  go_upto_region 1 with fail
  rw [← hw1, ← hgi]
  clear hw1 hgi
  go_wp2_with fail
  go_loopw [5, 6, 7, 8, 9] (fun all some ix _ _ wr => ∃ k : Nat, ix = .int .i64 k ∧ k ≤ N ∧ some = .bool ((ks.take k).any (PM.hasV ⟨i, false⟩)) ∧ all = .bool ((ks.take k).all (PM.hasV ⟨i, true⟩)) ∧ Below w1.heap.size w1 wr) (fun _ _ ix _ _ _ => N - (intOf ix).toNat)
  case atStart => exact ⟨0, rfl, by omega, rfl, rfl, Below.refl _ _⟩
  case round =>
    obtain ⟨k, rfl, hk, rfl, rfl, hB⟩ := hrel
    have hin := PM.hid hB
    clear hB
    by_cases hlt : k < N
    · obtain ⟨z, hz⟩ : ∃ z, ks[k]? = some z := ⟨ks[k]'(by rw [← hNh.out]; exact hlt), List.getElem?_eq_getElem _⟩
      obtain ⟨b, off, hbe, hce⟩ := PM.RR.opn hvh.out (by rw [← hNh.out]; omega)
      subst hbe
      obtain ⟨cs, hl0, hR⟩ := hce k z hz
      obtain ⟨qa0, qc0, qa1, qc1, qa2, qc2, qa3, qc3, qa4, qc4, qa5, qc5, hcs, hvo, -⟩ := PM.msR_open hR
      replace hl0 := hl0.keep hBB.out
      replace hvo := hvo.keep hBB.out
      rw [hcs] at hl0
      have hs1 : Hid ((ks.take (k + 1)).any (PM.hasV ⟨i, false⟩) = ((ks.take k).any (PM.hasV ⟨i, false⟩) || PM.hasV ⟨i, false⟩ z)) := PM.hid (by rw [PM.take_at hz, List.any_append]; simp)
      have hs2 : Hid ((ks.take (k + 1)).all (PM.hasV ⟨i, true⟩) = ((ks.take k).all (PM.hasV ⟨i, true⟩) && PM.hasV ⟨i, true⟩ z)) := PM.hid (by rw [PM.take_at hz, List.all_append]; simp)
      clear hz hce hR hcs cs
      obtain ⟨qn0, hq0⟩ : ∃ q, q = z.votes.length := ⟨_, rfl⟩
      obtain ⟨qn1, hq1⟩ : ∃ q, q = z.asks.length := ⟨_, rfl⟩
      obtain ⟨qn2, hq2⟩ : ∃ q, q = z.entries.length := ⟨_, rfl⟩
      obtain ⟨qn3, hq3⟩ : ∃ q, q = z.prepares.length := ⟨_, rfl⟩
      obtain ⟨qn4, hq4⟩ : ∃ q, q = z.aborts.length := ⟨_, rfl⟩
      obtain ⟨qn5, hq5⟩ : ∃ q, q = z.ends.length := ⟨_, rfl⟩
      rw [← hq0, ← hq1, ← hq2, ← hq3, ← hq4, ← hq5] at hl0
      rw [← hq0] at hvo
      have zl := PM.hid hl0
      replace hvo := PM.hid hvo
      clear hl0 hq0 hq1 hq2 hq3 hq4 hq5
      obtain ⟨n1, hn1⟩ : ∃ x, x = PM.anV z.votes ⟨i, false⟩ := ⟨_, rfl⟩
      obtain ⟨y1, hy1⟩ : ∃ x, x = PM.anV z.votes ⟨i, true⟩ := ⟨_, rfl⟩
      have hn1h := PM.hid hn1
      have hy1h := PM.hid hy1
      rw [show PM.hasV ⟨i, false⟩ z = n1 from hn1.symm] at hs1
      rw [show PM.hasV ⟨i, true⟩ z = y1 from hy1.symm] at hs2
      clear hn1 hy1
      obtain ⟨A, hA⟩ : ∃ x, x = (ks.take k).any (PM.hasV ⟨i, false⟩) := ⟨_, rfl⟩
      obtain ⟨C, hC⟩ : ∃ x, x = (ks.take k).all (PM.hasV ⟨i, true⟩) := ⟨_, rfl⟩
      rw [← hA] at hs1 ⊢
      rw [← hC] at hs2 ⊢
      clear hA hC
      go_upto_region 6 with fail
      refine PM.wp_region_stK (fun W W' => Below W.heap.size W W') (fun W W' => Below W.heap.size W W') (fun _ => True) (fun _ _ h => h) (fun h => h) (fun h k => PM.chain h k) [some 17, some 18, some 19, some 20, some 21, some 22, some 16, some 23, some 24, some 8, some 9] [some 17, some 18, some 19, some 20, some 21, some 22, some 16, some 23, some 24, some 8, some 9] [[], [], [0, 1], [0, 1, 2], [], [0, 1, 2, 3, 4], [0, 1, 2, 3, 4, 5], [0, 1, 2, 3, 4, 5, 6], [0, 1, 2, 3, 4, 5, 6], [0, 1, 2, 3, 4, 5, 6, 7], [0, 1, 2, 3, 4, 5, 6, 7, 8, 9]] [false, false, false, false, false, false, false, false, false, false, false] [] [([], false), ([], false), ([0, 1], false), ([2], false), ([], false), ([3, 4], false), ([5], false), ([6], false), ([6], false), ([7], false), ([8], false)] [9, 10] [fun x _ => x = .slice (some ⟨b, off, none⟩) N vc, fun x _ => x = .int .i64 (k : Int), fun x _ => x = .pointer (some ⟨b, off + k * 8, none⟩), fun x _ => x = .agg #[.int .i64 z.kind, .int .u64 (z.hav : Int), .slice qa0 qn0 qc0, .slice qa1 qn1 qc1, .slice qa2 qn2 qc2, .slice qa3 qn3 qc3, .slice qa4 qn4 qc4, .slice qa5 qn5 qc5], fun x _ => x = .agg #[.int .i64 i.br, .int .u64 (i.life : Int), .int .u64 (i.ser : Int)], fun x _ => x = .tuple #[.bool n1, .bool y1], fun x _ => x = .tuple #[.bool n1, .bool y1], fun x _ => x = .bool n1, fun x _ => x = .bool y1, fun x _ => x = .bool n1, fun x _ => x = .bool y1] (by kernel_rfl) (by kernel_rfl) (by kernel_rfl) (by kernel_rfl) (by kernel_rfl) (by kernel_rfl) (by kernel_rfl) (by kernel_rfl) (by kernel_rfl) ?_ ?_ ?_ ?_ ?_ ?_
      · simp only [List.zip_cons_cons, List.zip_nil_right, List.forall_mem_cons]
        refine ⟨?_, ?_, ?_, ?_, ?_, ?_, ?_, ?_, ?_, ?_, ?_, by simp⟩
        all_goals (intro hk v W W' h hb; first | exact Bool.noConfusion hk | exact h)
      · simp only [List.forall_mem_cons]
        refine ⟨?_, ?_, ?_, ?_, ?_, ?_, ?_, ?_, ?_, ?_, ?_, by simp⟩
        all_goals (intro v W W' h hb; first | exact h)
      · exact fun _ _ _ _ => trivial
      · exact trivial
      · refine ⟨?_, ?_, ?_, ?_, ?_, ?_, ?_, ?_, ?_, ?_, ?_, trivial⟩
        all_goals
          intro a W hB hF hd hp
          have k0 := hF 0 rfl
          have k3 := hF 3 rfl
          have k7 := hF 7 rfl
          have hBW := PM.chain hin.out hB
          have e0 : W.cell? ⟨gi, 0, none⟩ = some (.int .i64 i.br) := (kih.out.keep hBW).cell 0
          have e1 : W.cell? ⟨gi, 1, none⟩ = some (.int .u64 (i.life : Int)) := (kih.out.keep hBW).cell 1
          have e2 : W.cell? ⟨gi, 2, none⟩ = some (.int .u64 (i.ser : Int)) := (kih.out.keep hBW).cell 2
          have d0 : W.cell? ⟨b, off + k * 8, none⟩ = some (.int .i64 z.kind) := PM.cellA hBW (zl.out 0 _ rfl)
          have d1 : W.cell? ⟨b, off + k * 8 + 1, none⟩ = some (.int .u64 (z.hav : Int)) := PM.cellA hBW (zl.out 1 _ rfl)
          have d2 : W.cell? ⟨b, off + k * 8 + 2, none⟩ = some (.slice qa0 qn0 qc0) := PM.cellA hBW (zl.out 2 _ rfl)
          have d3 : W.cell? ⟨b, off + k * 8 + 3, none⟩ = some (.slice qa1 qn1 qc1) := PM.cellA hBW (zl.out 3 _ rfl)
          have d4 : W.cell? ⟨b, off + k * 8 + 4, none⟩ = some (.slice qa2 qn2 qc2) := PM.cellA hBW (zl.out 4 _ rfl)
          have d5 : W.cell? ⟨b, off + k * 8 + 5, none⟩ = some (.slice qa3 qn3 qc3) := PM.cellA hBW (zl.out 5 _ rfl)
          have d6 : W.cell? ⟨b, off + k * 8 + 6, none⟩ = some (.slice qa4 qn4 qc4) := PM.cellA hBW (zl.out 6 _ rfl)
          have d7 : W.cell? ⟨b, off + k * 8 + 7, none⟩ = some (.slice qa5 qn5 qc5) := PM.cellA hBW (zl.out 7 _ rfl)
          clear hF
          simp [PM.depsK, PM.spec, PM.sl] at hd hp k0 k3 k7
          simp only [PM.wantL, PM.spec, PM.Spv]
          try simp only [PM.sl]
          go_simp
        all_goals try exact Below.refl _ _
        · refine (said_any z.kind z.hav qa0 qn0 qc0 qa1 qn1 qc1 qa2 qn2 qc2 qa3 qn3 qc3 qa4 qn4 qc4 qa5 qn5 qc5 i z.votes W (hvo.out.keep hBW)).mono ?_
          rintro e w' ⟨rfl, hb⟩
          rw [← hn1h.out, ← hy1h.out]
          first | exact ⟨hb, rfl⟩ | exact ⟨hb, _, rfl, rfl⟩
      · intro G W hB hF hS
        simp only [PM.allK, PM.spec] at hS
        simp at hS
        have h8 : G 8 = .bool n1 := hS.1
        have h9 : G 9 = .bool y1 := hS.2
        have k0 := hF 0 rfl
        have k1 := hF 1 rfl
        have k2 := hF 2 rfl
        have k3 := hF 3 rfl
        have k4 := hF 4 rfl
        have k5 := hF 5 rfl
        have k6 := hF 6 rfl
        have k7 := hF 7 rfl
        have k10 := hF 10 rfl
        have k11 := hF 11 rfl
        have k12 := hF 12 rfl
        have k13 := hF 13 rfl
        have k14 := hF 14 rfl
        have k15 := hF 15 rfl
        have k25 := hF 25 rfl
        have k26 := hF 26 rfl
        have k27 := hF 27 rfl
        have k28 := hF 28 rfl
        have k29 := hF 29 rfl
        have k30 := hF 30 rfl
        have k31 := hF 31 rfl
        have k32 := hF 32 rfl
        have k33 := hF 33 rfl
        have k34 := hF 34 rfl
        simp [PM.sl] at k0 k1 k2 k3 k4 k5 k6 k7 k10 k11 k12 k13 k14 k15 k25 k26 k27 k28 k29 k30 k31 k32 k33 k34
        rw [show ((List.range (Array.size _)).map G).toArray = #[G 0, G 1, G 2, G 3, G 4, G 5, G 6, G 7, G 8, G 9, G 10, G 11, G 12, G 13, G 14, G 15, G 16, G 17, G 18, G 19, G 20, G 21, G 22, G 23, G 24, G 25, G 26, G 27, G 28, G 29, G 30, G 31, G 32, G 33, G 34] from rfl]
        clear hF hS
        rw [h8, h9, k0, k1, k2, k3, k4, k5, k6, k7, k10, k11, k12, k13, k14, k15, k25, k26, k27, k28, k29, k30, k31, k32, k33, k34]
        clear h8 h9 k0 k1 k2 k3 k4 k5 k6 k7 k10 k11 k12 k13 k14 k15 k25 k26 k27 k28 k29 k30 k31 k32 k33 k34
        have hBh := PM.hid (PM.chain hin.out hB)
        clear hB
        cases A
        all_goals
          cases C
          all_goals
            cases n1
            all_goals
              cases y1
              all_goals
                go_wp2_with fail
                exact ⟨⟨k + 1, by go_num, by omega, by rw [hs1.out]; rfl, by rw [hs2.out]; rfl, hBh.out⟩, by simp only [intOf]; omega⟩
    · obtain rfl : k = N := by omega
      have hfin : Hid (ks.take k = ks) := PM.hid (by rw [hNh.out]; exact List.take_length)
      rw [hfin.out]
      have hsy : Hid (PM.says ks i = if ks.any (PM.hasV ⟨i, false⟩) then 2 else if ks.all (PM.hasV ⟨i, true⟩) then 1 else 0) := PM.hid rfl
      obtain ⟨A, hA⟩ : ∃ x, x = ks.any (PM.hasV ⟨i, false⟩) := ⟨_, rfl⟩
      obtain ⟨C, hC⟩ : ∃ x, x = ks.all (PM.hasV ⟨i, true⟩) := ⟨_, rfl⟩
      rw [← hA] at hsy ⊢
      rw [← hC] at hsy ⊢
      clear hA hC
      cases A
      all_goals
        cases C
        all_goals
          go_wp2_with fail
          go_ret
          exact ⟨by rw [hsy.out]; rfl, PM.chain hBB.out hin.out⟩
end Go.Proofs.Ytjninckmgkaliaa
