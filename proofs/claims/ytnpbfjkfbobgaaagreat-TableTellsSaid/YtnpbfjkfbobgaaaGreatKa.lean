/-
  CONTRACTS OF package cover: Covers$1, some (of tests), Covers; own.Flat, own.Filter.
-/
import Derived.Test.YtnpbfjkfbobgaaaGreatNc
import Derived.Test.YtnpbfjkfbobgaaaGreatG0
namespace Go.Proofs.YtnpbfjkfbobgaaaGreat
open Go.RowKit
set_option linter.unusedVariables false
set_option linter.unusedSimpArgs false
namespace PM
/-- is a test implied by some of a filter's? -/
def anyI (g : List Te) (t : Te) : Bool := g.any fun y => impB y t
/-- does a filter cover another one? -/
def covB (f g : List Te) : Bool := f.all fun t => anyI g t
end PM
theorem teTyK : PM.MTy Tryz.prog 27 50 5 56 := by
  refine ⟨Tryz.underlying27, by decide, ?_⟩
  obtain ⟨i, h1, h2, h3, h4⟩ := info_parts (P := Tryz.prog) (e := 50) (z := .agg #[.string ByteArray.empty, .int .i64 0, .int .i64 0, .int .i64 0, .string ByteArray.empty]) (size := 5) (bytes := 56) (by kernel_rfl)
  exact ⟨i, _, h1, h2, h3, h4, by kernel_rfl⟩
theorem cov1_any (y t : PM.Te) (g : Nat) (w : World) (h : PM.BK w g #[.string t.name, .int .i64 t.op, .int .i64 t.k, .int .i64 t.n, .string t.s] 50) :
    Calls Tryz.prog 64 #[.agg #[.string y.name, .int .i64 y.op, .int .i64 y.k, .int .i64 y.n, .string y.s], .pointer (some ⟨g, 0, none⟩)] w fun e w' => e = .returned (.bool (PM.impB y t)) ∧ Below w.heap.size w w' := by
  obtain ⟨gy, hgy⟩ : ∃ g, g = w.heap.size := ⟨_, rfl⟩
  obtain ⟨w1, hw1⟩ : ∃ W, W = w.alloc (.cells #[.string y.name, .int .i64 y.op, .int .i64 y.k, .int .i64 y.n, .string y.s] 50) := ⟨_, rfl⟩
  have hal : Below w.heap.size w w1 := by rw [hw1]; exact (Below.refl _ _).alloc (Nat.le_refl _) _
  have ky : PM.BK w1 gy #[.string y.name, .int .i64 y.op, .int .i64 y.k, .int .i64 y.n, .string y.s] 50 := by rw [hw1, hgy]; exact PM.BK.new _ _ _
  replace h := h.keep hal
  have hB := PM.hid hal
  go_enter Tryz.func64, Tryz.ntmps64
  go_upto_region 1 with fail
  rw [← hw1, ← hgy]
  clear hw1 hgy hal
  have c0 : w1.cell? ⟨gy, 0, none⟩ = some (.string y.name) := ky.cell 0
  have c1 : w1.cell? ⟨gy, 1, none⟩ = some (.int .i64 y.op) := ky.cell 1
  have c2 : w1.cell? ⟨gy, 2, none⟩ = some (.int .i64 y.k) := ky.cell 2
  have c3 : w1.cell? ⟨gy, 3, none⟩ = some (.int .i64 y.n) := ky.cell 3
  have c4 : w1.cell? ⟨gy, 4, none⟩ = some (.string y.s) := ky.cell 4
  have d0 : w1.cell? ⟨g, 0, none⟩ = some (.string t.name) := h.cell 0
  have d1 : w1.cell? ⟨g, 1, none⟩ = some (.int .i64 t.op) := h.cell 1
  have d2 : w1.cell? ⟨g, 2, none⟩ = some (.int .i64 t.k) := h.cell 2
  have d3 : w1.cell? ⟨g, 3, none⟩ = some (.int .i64 t.n) := h.cell 3
  have d4 : w1.cell? ⟨g, 4, none⟩ = some (.string t.s) := h.cell 4
  clear ky h
  go_wp2_with fail
  refine (implies_any y t w1).mono ?_
  rintro e w2 ⟨rfl, hB2⟩
  have hB' := PM.hid (PM.chain hB.out hB2)
  clear hB2 c0 c1 c2 c3 c4 d0 d1 d2 d3 d4
  go_wp2_with fail
  go_ret
  exact ⟨rfl, hB'.out⟩
set_option maxHeartbeats 2000000 in
theorem someT_any (v : Value) (l : List PM.Te) (t : PM.Te) (g : Nat) (w : World) (hv : PM.TV w v l) (h : PM.BK w g #[.string t.name, .int .i64 t.op, .int .i64 t.k, .int .i64 t.n, .string t.s] 50) :
    Calls Tryz.prog 63 #[v, .func (.func 64) #[] #[.pointer (some ⟨g, 0, none⟩)]] w fun e w' => e = .returned (.bool (PM.anyI l t)) ∧ Below w.heap.size w w' := by
  obtain ⟨ad, cap, rfl, hcap, hmax, hel⟩ := hv
  unfold maxLen at hmax
  obtain ⟨L, hL⟩ : ∃ L, L = l.length := ⟨_, rfl⟩
  have hLh := PM.hid hL
  rw [← hL] at hcap ⊢
  have helh := PM.hid hel
  have hh := PM.hid h
  clear hel hL h
  go_enter Tryz.func63, Tryz.ntmps63
  go_wp2_with fail
  go_loopw [9] (fun i wr => ∃ k : Nat, i = .int .i64 k ∧ k ≤ L ∧ Hid (Below w.heap.size w wr ∧ ∀ (j : Nat) z, j < k → l[j]? = some z → PM.impB z t = false)) (fun i _ => L - (intOf i).toNat)
  case atStart => exact ⟨0, rfl, by omega, PM.hid ⟨Below.refl _ _, fun j z hj => absurd hj (by omega)⟩⟩
  case round =>
    obtain ⟨k, rfl, hk, hin⟩ := hrel
    by_cases hlt : k < L
    · obtain ⟨z, hz⟩ : ∃ z, l[k]? = some z := ⟨l[k]'(by rw [← hLh.out]; exact hlt), List.getElem?_eq_getElem _⟩
      obtain ⟨b, off, rfl, hce⟩ := helh.out (by rw [← hLh.out]; omega)
      have hli := hce k z hz
      have d0 := PM.cellA hin.out.1 (hli 0 _ rfl)
      have d1 := PM.cellA hin.out.1 (hli 1 _ rfl)
      have d2 := PM.cellA hin.out.1 (hli 2 _ rfl)
      have d3 := PM.cellA hin.out.1 (hli 3 _ rfl)
      have d4 := PM.cellA hin.out.1 (hli 4 _ rfl)
      rw [Nat.add_zero] at d0
      have hzh := PM.hid hz
      clear hz hce hli
      go_upto_region 4 with fail
      obtain ⟨gz, hgz⟩ : ∃ g, g = wr.heap.size := ⟨_, rfl⟩
      obtain ⟨W4, hW4⟩ : ∃ W, W = wr.alloc (.cells #[.string z.name, .int .i64 z.op, .int .i64 z.k, .int .i64 z.n, .string z.s] 50) := ⟨_, rfl⟩
      have hal : Below wr.heap.size wr W4 := by rw [hW4]; exact (Below.refl _ _).alloc (Nat.le_refl _) _
      have kgz : PM.BK W4 gz #[.string z.name, .int .i64 z.op, .int .i64 z.k, .int .i64 z.n, .string z.s] 50 := by rw [hW4, hgz]; exact PM.BK.new _ _ _
      rw [← hW4, ← hgz]
      clear hW4 hgz
      have hB4 := PM.hid (PM.chain hin.out.1 hal)
      clear hal d0 d1 d2 d3 d4
      have a0 : W4.cell? ⟨gz, 0, none⟩ = some (.string z.name) := kgz.cell 0
      have a1 : W4.cell? ⟨gz, 1, none⟩ = some (.int .i64 z.op) := kgz.cell 1
      have a2 : W4.cell? ⟨gz, 2, none⟩ = some (.int .i64 z.k) := kgz.cell 2
      have a3 : W4.cell? ⟨gz, 3, none⟩ = some (.int .i64 z.n) := kgz.cell 3
      have a4 : W4.cell? ⟨gz, 4, none⟩ = some (.string z.s) := kgz.cell 4
      go_wp2_with fail
      refine (cov1_any z t g W4 (hh.out.keep hB4.out)).mono ?_
      rintro e W5 ⟨rfl, hB5⟩
      have hB5h := PM.hid (PM.chain hB4.out hB5)
      clear hB5 kgz a0 a1 a2 a3 a4
      cases hi : PM.impB z t
      · have hin' := PM.hid hi
        clear hi
        go_wp2_with fail
        refine ⟨⟨k + 1, by go_num, by omega, PM.hid ⟨hB5h.out, fun i x hi hx => ?_⟩⟩, by simp only [intOf]; omega⟩
        by_cases hij : i < k
        · exact hin.out.2 i x hij hx
        · obtain rfl : i = k := by omega
          rw [hzh.out] at hx
          injection hx with hx
          subst hx
          exact hin'.out
      · have ht : Hid (PM.anyI l t = true) := PM.hid (List.any_eq_true.2 ⟨z, List.mem_of_getElem? hzh.out, hi⟩)
        clear hi
        go_wp2_with fail
        go_ret
        exact ⟨by rw [ht.out]; rfl, hB5h.out⟩
    · obtain rfl : k = L := by omega
      have ht : Hid (PM.anyI l t = false) := PM.hid (by
        unfold PM.anyI
        rw [List.any_eq_false]
        intro x hx
        obtain ⟨j, hj⟩ := List.mem_iff_getElem?.1 hx
        rw [hin.out.2 j x (by rw [hLh.out]; exact (List.getElem?_eq_some_iff.1 hj).1) hj]
        simp)
      go_wp2_with fail
      go_ret
      exact ⟨by rw [ht.out]; rfl, hin.out.1⟩
set_option maxHeartbeats 2000000 in
theorem covers_any (v u : Value) (f g : List PM.Te) (w : World) (hv : PM.TV w v f) (hu : PM.TV w u g) :
    Calls Tryz.prog 47 #[v, u] w fun e w' => e = .returned (.bool (PM.covB f g)) ∧ Below w.heap.size w w' := by
  obtain ⟨ad, cap, rfl, hcap, hmax, hel⟩ := hv
  unfold maxLen at hmax
  obtain ⟨L, hL⟩ : ∃ L, L = f.length := ⟨_, rfl⟩
  have hLh := PM.hid hL
  rw [← hL] at hcap ⊢
  have helh := PM.hid hel
  have huh := PM.hid hu
  clear hel hL hu
  go_enter Tryz.func47, Tryz.ntmps47
  go_wp2_with fail
  go_loopw [9] (fun i wr => ∃ k : Nat, i = .int .i64 k ∧ k ≤ L ∧ Hid (Below w.heap.size w wr ∧ ∀ (j : Nat) z, j < k → f[j]? = some z → PM.anyI g z = true)) (fun i _ => L - (intOf i).toNat)
  case atStart => exact ⟨0, rfl, by omega, PM.hid ⟨Below.refl _ _, fun j z hj => absurd hj (by omega)⟩⟩
  case round =>
    obtain ⟨k, rfl, hk, hin⟩ := hrel
    by_cases hlt : k < L
    · obtain ⟨z, hz⟩ : ∃ z, f[k]? = some z := ⟨f[k]'(by rw [← hLh.out]; exact hlt), List.getElem?_eq_getElem _⟩
      obtain ⟨b, off, rfl, hce⟩ := helh.out (by rw [← hLh.out]; omega)
      have hli := hce k z hz
      have d0 := PM.cellA hin.out.1 (hli 0 _ rfl)
      have d1 := PM.cellA hin.out.1 (hli 1 _ rfl)
      have d2 := PM.cellA hin.out.1 (hli 2 _ rfl)
      have d3 := PM.cellA hin.out.1 (hli 3 _ rfl)
      have d4 := PM.cellA hin.out.1 (hli 4 _ rfl)
      rw [Nat.add_zero] at d0
      have hzh := PM.hid hz
      clear hz hce hli
      go_upto_region 4 with fail
      obtain ⟨gz, hgz⟩ : ∃ g, g = wr.heap.size := ⟨_, rfl⟩
      obtain ⟨W4, hW4⟩ : ∃ W, W = wr.alloc (.cells #[.string z.name, .int .i64 z.op, .int .i64 z.k, .int .i64 z.n, .string z.s] 50) := ⟨_, rfl⟩
      have hal : Below wr.heap.size wr W4 := by rw [hW4]; exact (Below.refl _ _).alloc (Nat.le_refl _) _
      have kgz : PM.BK W4 gz #[.string z.name, .int .i64 z.op, .int .i64 z.k, .int .i64 z.n, .string z.s] 50 := by rw [hW4, hgz]; exact PM.BK.new _ _ _
      rw [← hW4, ← hgz]
      clear hW4 hgz
      have hB4 := PM.hid (PM.chain hin.out.1 hal)
      clear hal d0 d1 d2 d3 d4
      go_wp2_with fail
      refine (someT_any u g z gz W4 (huh.out.keep hB4.out) kgz).mono ?_
      rintro e W5 ⟨rfl, hB5⟩
      have hB5h := PM.hid (PM.chain hB4.out hB5)
      clear hB5 kgz
      cases hi : PM.anyI g z
      · have ht : Hid (PM.covB f g = false) := PM.hid (by
          unfold PM.covB
          rw [List.all_eq_false]
          exact ⟨z, List.mem_of_getElem? hzh.out, by simp [hi]⟩)
        clear hi
        go_wp2_with fail
        go_ret
        exact ⟨by rw [ht.out]; rfl, hB5h.out⟩
      · have hin' := PM.hid hi
        clear hi
        go_wp2_with fail
        refine ⟨⟨k + 1, by go_num, by omega, PM.hid ⟨hB5h.out, fun i x hi hx => ?_⟩⟩, by simp only [intOf]; omega⟩
        by_cases hij : i < k
        · exact hin.out.2 i x hij hx
        · obtain rfl : i = k := by omega
          rw [hzh.out] at hx
          injection hx with hx
          subst hx
          exact hin'.out
    · obtain rfl : k = L := by omega
      have ht : Hid (PM.covB f g = true) := PM.hid (by
        unfold PM.covB
        rw [List.all_eq_true]
        intro x hx
        obtain ⟨j, hj⟩ := List.mem_iff_getElem?.1 hx
        exact hin.out.2 j x (by rw [hLh.out]; exact (List.getElem?_eq_some_iff.1 hj).1) hj)
      go_wp2_with fail
      go_ret
      exact ⟨by rw [ht.out]; rfl, hin.out.1⟩
set_option maxHeartbeats 2000000 in
theorem flatT_any (v : Value) (l : List PM.Te) (w : World) (hv : PM.TV w v l) (hl : l.length ≤ 1000) :
    Calls Tryz.prog 45 #[v] w fun e w' => ∃ u, e = .returned u ∧ PM.OM PM.teL 5 50 w.heap.size w' u l ∧ Below w.heap.size w w' := by
  obtain ⟨va, vc, hve⟩ := hv.len
  subst hve
  obtain ⟨N, hN⟩ : ∃ N, N = l.length := ⟨_, rfl⟩
  have hNh := PM.hid hN
  rw [← hN] at hv hl ⊢
  clear hN
  go_enter Tryz.func45, Tryz.ntmps45
  by_cases h0 : N = 0
  · subst h0
    have e0 : Hid (l = []) := PM.hid (List.length_eq_zero_iff.1 hNh.out.symm)
    clear hv hl
    go_wp2_with fail
    go_ret
    exact ⟨_, rfl, by rw [e0.out]; exact PM.OM.nilrow _, Below.refl _ _⟩
  have g0 : ((N : Int) == 0) = false := by simp; omega
  have hNn := PM.hid hv
  go_wp2_with (first | (at_make; refine PM.wpList_mkm (e := PM.teL) teTyK w.heap.size rfl _ _ rfl .i64 .i64 _ N rfl rfl rfl (by omega) (by unfold maxLen; omega) (Nat.le_refl _) ?_; intro w1 hO hB1 _; have hs1 := hv.keep hB1; have hz1 := hB1.size; have hn1 : (([] : List PM.Te).length + l.length) * 56 ≤ 140737488355328 ∧ ([] : List PM.Te).length + l.length ≤ maxLen := by (unfold maxLen; rw [← hNh.out]; simp; omega)) | (at_builtin; refine PM.wpList_em (e := PM.teL) teTyK PM.teL_len PM.teL_one w.heap.size rfl _ _ rfl (.slice (some ⟨w.heap.size, 0, none⟩) 0 N) (.slice va N vc) [] l rfl rfl hO hs1 hn1.1 hn1.2 hz1 ?_; intro v' w2 t1 t2 t3 t4; have hE := PM.hid (And.intro t1 (hB1.trans t2)); clear t1 t2 t3 t4 hO hs1 hB1 hz1 hn1))
  go_ret
  exact ⟨_, rfl, hE.out.1, hE.out.2⟩
theorem ownFK_any (v : Value) (l : List PM.Te) (w : World) (hv : PM.TV w v l) (hl : l.length ≤ 1000) :
    Calls Tryz.prog 28 #[v] w fun e w' => ∃ u, e = .returned u ∧ PM.OM PM.teL 5 50 w.heap.size w' u l ∧ Below w.heap.size w w' := by
  go_enter Tryz.func28, Tryz.ntmps28
  go_wp2_with fail
  refine (flatT_any v l w hv hl).mono ?_
  rintro e w1 ⟨u, rfl, h1, h2⟩
  have hh := PM.hid (And.intro h1 h2)
  clear h1 h2
  go_wp2_with fail
  go_ret
  exact ⟨_, rfl, hh.out⟩
end Go.Proofs.YtnpbfjkfbobgaaaGreat
