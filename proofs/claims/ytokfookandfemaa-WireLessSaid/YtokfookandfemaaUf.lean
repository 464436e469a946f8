/-
  CONTRACTS of layer 13: wire.list[Vote], list[ID], list[Entry].
-/
import Derived.Test.YtokfookandfemaaUe
namespace Go.Proofs.Ytokfookandfemaa
open Go.RowKit
set_option linter.unusedVariables false
set_option linter.unusedSimpArgs false
namespace PM
theorem rdN_all {α : Type} {f : Rs → α × Rs} {q : α → Prop} (h : ∀ s, q (f s).1) : ∀ k s, ∀ x ∈ (rdN f k s).1, q x
  | 0, s, x, hx => by simp [rdN] at hx
  | k + 1, s, x, hx => by
    have hx' : x ∈ (rdN f k s).1 ++ [(f (rdN f k s).2).1] := hx
    rw [List.mem_append, List.mem_singleton] at hx'
    rcases hx' with hx' | rfl
    · exact rdN_all h k s x hx'
    · exact h _
theorem rdL_all {α : Type} {f : Rs → α × Rs} {q : α → Prop} (h : ∀ s, q (f s).1) (s : Rs) : ∀ x ∈ (rdL f s).1, q x := by
  unfold rdL
  split
  · intro x hx; simp at hx
  · exact rdN_all h _ _
theorem rdN_snoc {α : Type} (f : Rs → α × Rs) (k : Nat) (s : Rs) : rdN f (k + 1) s = ((rdN f k s).1 ++ [(f (rdN f k s).2).1], (f (rdN f k s).2).2) := rfl
end PM
theorem idZ : ∀ i z, Try.prog.info? 45 = some i → i.zero = some z → ∀ x ∈ z.cells.toList, PM.NoB x := by
  intro i z hi hz x hx y
  have h0 : (Try.prog.info? 45).bind (·.zero) = some (.agg #[.int .i64 0, .int .u64 0, .int .u64 0]) := by kernel_rfl
  rw [hi] at h0
  simp only [Option.bind_some, hz, Option.some.injEq] at h0
  subst h0
  simp [Value.cells] at hx
  rcases hx with rfl | rfl <;> simp [PM.bv]
theorem voZ : ∀ i z, Try.prog.info? 53 = some i → i.zero = some z → ∀ x ∈ z.cells.toList, PM.NoB x := by
  intro i z hi hz x hx y
  have h0 : (Try.prog.info? 53).bind (·.zero) = some (.agg #[.int .i64 0, .int .u64 0, .int .u64 0, .bool false]) := by kernel_rfl
  rw [hi] at h0
  simp only [Option.bind_some, hz, Option.some.injEq] at h0
  subst h0
  simp [Value.cells] at hx
  rcases hx with rfl | rfl | rfl <;> simp [PM.bv]
theorem enZ : ∀ i z, Try.prog.info? 50 = some i → i.zero = some z → ∀ x ∈ z.cells.toList, PM.NoB x := by
  intro i z hi hz x hx y
  have h0 : (Try.prog.info? 50).bind (·.zero) = some (.agg #[.int .i64 0, .int .i64 0, .int .u64 0, .int .u64 0, .int .i64 0, .int .u64 0, .slice none 0 0, .slice none 0 0]) := by kernel_rfl
  rw [hi] at h0
  simp only [Option.bind_some, hz, Option.some.injEq] at h0
  subst h0
  simp [Value.cells] at hx
  rcases hx with rfl | rfl | rfl | rfl | rfl <;> simp [PM.bv]
theorem rdEnX_any (g b : Nat) (n : Nat) (s : PM.Rs) (w : World) (h : PM.WR 74 99 w g b (n : Int) s) (hl : s.l.length ≤ 70368744177664) (hn : n ≤ 70368744177664) :
    Calls Try.prog 45 #[.pointer (some ⟨g, 0, none⟩)] w fun e w' => ∃ fa fc ea ec, e = .returned (.agg #[.int .i64 (PM.rdEn n s).1.kind, .int .i64 (PM.rdEn n s).1.id.br, .int .u64 ((PM.rdEn n s).1.id.life : Int), .int .u64 ((PM.rdEn n s).1.id.ser : Int), .int .i64 (PM.rdEn n s).1.client, .int .u64 ((PM.rdEn n s).1.sub : Int), .slice fa (PM.rdEn n s).1.fil.length fc, .slice ea (PM.rdEn n s).1.evs.length ec]) ∧ PM.enO 138 136 114 w.heap.size w' [.int .i64 (PM.rdEn n s).1.kind, .int .i64 (PM.rdEn n s).1.id.br, .int .u64 ((PM.rdEn n s).1.id.life : Int), .int .u64 ((PM.rdEn n s).1.id.ser : Int), .int .i64 (PM.rdEn n s).1.client, .int .u64 ((PM.rdEn n s).1.sub : Int), .slice fa (PM.rdEn n s).1.fil.length fc, .slice ea (PM.rdEn n s).1.evs.length ec] (PM.rdEn n s).1 ∧ PM.WR 74 99 w' g b (n : Int) (PM.rdEn n s).2 ∧ PM.Bx2 b g w w' := rdEn_any g b n s w h hl hn
set_option maxRecDepth 100000 in
set_option maxHeartbeats 8000000 in
theorem listVo_any (g b : Nat) (long : Int) (s : PM.Rs) (w : World) (h : PM.WR 74 99 w g b long s) :
    Calls Try.prog 42 #[.pointer (some ⟨g, 0, none⟩), .func (.func 43) #[] #[]] w fun e w' => ∃ v, e = .returned v ∧ PM.ORn (fun _ cs x => cs = PM.voL x) 4 53 w.heap.size w' v (PM.rdL PM.rdVo s).1 ∧ PM.WR 74 99 w' g b long (PM.rdL PM.rdVo s).2 ∧ PM.Bx2 b g w w' := by
  have hT : 74 ≠ 99 := by decide
  obtain ⟨l, wr, bd⟩ := s
  obtain ⟨n, l1, wr1, e1⟩ : ∃ a b c, PM.stepN l wr = (a, b, c) := ⟨_, _, _, rfl⟩
  have hN := rnumber_any b l wr w h.2
  have hlt := PM.stepN_lt l wr
  obtain ⟨res, hr0⟩ : ∃ r, r = PM.rdL PM.rdVo ⟨l, wr, bd⟩ := ⟨_, rfl⟩
  rw [← hr0]
  unfold PM.rdL at hr0
  simp only at hr0
  rw [e1] at hN hlt hr0
  simp only at hN hlt hr0
  have hbig : Hid (16 < n → res = ([], ⟨l1, wr1, true⟩)) := PM.hid fun h => by rw [hr0]; exact if_pos h
  have hfew : Hid (¬ 16 < n → res = PM.rdN PM.rdVo n ⟨l1, wr1, bd⟩) := PM.hid fun h => by rw [hr0]; exact if_neg h
  clear hr0

  obtain ⟨hn64, hl1⟩ := hlt
  clear e1
  have c0 : w.cell? ⟨g, 0, none⟩ = some (.pointer (some ⟨b, 0, none⟩)) := h.1.cell 0
  have hh := PM.hid h
  clear h
  go_enter Try.func42, Try.ntmps42
  go_wp2_with fail
  refine hN.mono ?_
  clear hN c0
  rintro e w1 ⟨rfl, hr, hx1⟩
  have hW1 := PM.hid (hh.out.num hT hr hx1)
  have hX1 := PM.hid (PM.Bx2.ofb (g := g) hx1)
  clear hr hx1 hh
  by_cases h16 : 16 < n
  · have q : decide ((16 : Int) < (n : Int)) = true := by simp; omega
    have hresh := PM.hid (hbig.out h16)
    have c2 := hW1.out.1.cell 2
    have k2 := hW1.out.1.free 2
    clear h16 hbig hfew
    go_upto_region 4 with fail
    have hW5 := PM.hid (hW1.out.setBad hT)
    have hx5 : PM.Bx g w1 (w1.setCell ⟨g, 2, none⟩ (.bool true)) := PM.Bx.set g 2 w1 (.bool true)
    generalize (w1.setCell ⟨g, 2, none⟩ (.bool true)) = w5 at *
    replace hX1 := PM.hid (hX1.out.trans (PM.Bx2.ofg hx5))
    clear hx5 hW1 c2 k2
    go_wp2_with fail
    go_ret
    rw [hresh.out]
    exact ⟨_, rfl, PM.ORn.nil _, hW5.out, hX1.out⟩
  · have q : decide ((16 : Int) < (n : Int)) = false := by simp; omega
    have hn16 : n ≤ 16 := by omega
    have hresh := PM.hid (hfew.out h16)
    clear h16 hbig hfew
    go_wp2_with fail
    go_loopw [6, 18] (fun o i wr => ∃ k : Nat, i = .int .u64 k ∧ k ≤ n ∧ Hid (PM.ORn (fun _ cs x => cs = PM.voL x) 4 53 w.heap.size wr o (PM.rdN PM.rdVo k ⟨l1, wr1, bd⟩).1 ∧ PM.NBv wr o ∧ PM.WR 74 99 wr g b long (PM.rdN PM.rdVo k ⟨l1, wr1, bd⟩).2 ∧ PM.Bx2 b g w wr)) (fun _ i _ => n - (intOf i).toNat)
    case atStart => exact ⟨0, rfl, by omega, PM.hid ⟨PM.ORn.nil _, PM.NBv.nil _, hW1.out, hX1.out⟩⟩
    case round =>
      obtain ⟨k, rfl, hk, hin⟩ := hrel
      obtain ⟨hO, hN, hW, hx2⟩ := hin.out
      have hlen := PM.rdN_len (f := PM.rdVo) k ⟨l1, wr1, bd⟩
      by_cases hlt : k < n
      · have hc0 : decide ((k : Int) < (n : Int)) = true := by simp; omega
        obtain ⟨st, hst⟩ : ∃ st, st = (PM.rdN PM.rdVo k ⟨l1, wr1, bd⟩).2 := ⟨_, rfl⟩
        rw [← hst] at hW
        have hc := rdVo_any g b long st wr hW
        obtain ⟨x, hx⟩ : ∃ x, x = (PM.rdVo st).1 := ⟨_, rfl⟩
        rw [← hx] at hc
        obtain ⟨xs, hxs⟩ : ∃ xs, xs = (PM.rdN PM.rdVo k ⟨l1, wr1, bd⟩).1 := ⟨_, rfl⟩
        rw [← hxs] at hO hlen
        have hsn : Hid (PM.rdN PM.rdVo (k + 1) ⟨l1, wr1, bd⟩ = (xs ++ [x], (PM.rdVo st).2)) := PM.hid (by rw [PM.rdN_snoc, hxs, hx, hst])
        obtain ⟨cb, hbk⟩ := hW.2.bk
        have hgk := hW.1
        have hkp := PM.hid (And.intro hO (And.intro hN (And.intro hx2 (And.intro hbk hgk))))
        clear hO hN hW hx2 hin hst hx hxs hbk hgk
        go_wp2_with fail
        refine hc.mono ?_
        clear hc
        rintro e w3 ⟨rfl, hW3, hx3⟩
        obtain ⟨hO, hN, hx2, hbk, hgk⟩ := hkp.out
        have hRy : (PM.voCn x).1 = PM.voL x := rfl
        have hkt := hx3.kt (E := 53) hbk hgk (by decide) (by decide)
        have hO3 := PM.ORn.kt (R := fun _ cs x => cs = PM.voL x) (w := wr) (w' := w3) (fun _ _ h => h) hO hkt
        have hN3 := PM.NBv.kt hN hO.rt hkt
        have hx4 := PM.hid (hx2.trans hx3)
        obtain ⟨cb3, hbk3⟩ := hW3.2.bk
        have hne1 := PM.hid (hO3.nev hbk3 (by decide))
        have hne2 := PM.hid (hO3.nev hW3.1 (by decide))
        have hN3h := PM.hid hN3
        have hW3h := PM.hid hW3
        have hl16 : (xs.length + 1) * 32 ≤ 140737488355328 := by omega
        have hl17 : xs.length + 1 ≤ maxLen := by unfold maxLen; omega
        have hsz : w.heap.size ≤ w3.heap.size := hx4.out.size
        clear hO hN hx2 hbk hgk hkt hx3 hW3 hbk3 hkp
        go_wp2_with (at_builtin; refine PM.wpList_orn1 tyVoO voZ (fun _ _ _ _ _ _ _ h => h) w.heap.size w3 rfl _ _ rfl _ xs x (PM.voCn x) _ rfl rfl rfl rfl hRy hO3 hN3 hl16 hl17 hsz ?_; intro v' w' t1 t2 t3 t4; have hE := PM.hid (And.intro t1 (And.intro t2 (And.intro t3 t4))); clear t1 t2 t3 t4 hRy hO3 hN3)
        refine ⟨⟨k + 1, by simp, by omega, PM.hid ?_⟩, by simp only [intOf]; omega⟩
        rw [hsn.out]
        exact ⟨hE.out.1, hE.out.2.1, hW3h.out.kt hE.out.2.2.2 hN3h.out hne1.out hne2.out, hx4.out.low hE.out.2.2.1⟩
      · obtain rfl : k = n := by omega
        have hc0 : decide ((k : Int) < (k : Int)) = false := by simp
        have hfin := PM.hid (And.intro hO (And.intro hW hx2))
        clear hO hN hW hx2 hin hlen
        go_wp2_with fail
        go_ret
        rw [hresh.out]
        exact ⟨_, rfl, hfin.out.1, hfin.out.2.1, hfin.out.2.2⟩
set_option maxRecDepth 100000 in
set_option maxHeartbeats 8000000 in
theorem listId_any (g b : Nat) (long : Int) (s : PM.Rs) (w : World) (h : PM.WR 74 99 w g b long s) :
    Calls Try.prog 46 #[.pointer (some ⟨g, 0, none⟩), .func (.func 47) #[] #[]] w fun e w' => ∃ v, e = .returned v ∧ PM.ORn (fun _ cs x => cs = PM.idL x) 3 45 w.heap.size w' v (PM.rdL PM.rdId s).1 ∧ PM.WR 74 99 w' g b long (PM.rdL PM.rdId s).2 ∧ PM.Bx2 b g w w' := by
  have hT : 74 ≠ 99 := by decide
  obtain ⟨l, wr, bd⟩ := s
  obtain ⟨n, l1, wr1, e1⟩ : ∃ a b c, PM.stepN l wr = (a, b, c) := ⟨_, _, _, rfl⟩
  have hN := rnumber_any b l wr w h.2
  have hlt := PM.stepN_lt l wr
  obtain ⟨res, hr0⟩ : ∃ r, r = PM.rdL PM.rdId ⟨l, wr, bd⟩ := ⟨_, rfl⟩
  rw [← hr0]
  unfold PM.rdL at hr0
  simp only at hr0
  rw [e1] at hN hlt hr0
  simp only at hN hlt hr0
  have hbig : Hid (16 < n → res = ([], ⟨l1, wr1, true⟩)) := PM.hid fun h => by rw [hr0]; exact if_pos h
  have hfew : Hid (¬ 16 < n → res = PM.rdN PM.rdId n ⟨l1, wr1, bd⟩) := PM.hid fun h => by rw [hr0]; exact if_neg h
  clear hr0

  obtain ⟨hn64, hl1⟩ := hlt
  clear e1
  have c0 : w.cell? ⟨g, 0, none⟩ = some (.pointer (some ⟨b, 0, none⟩)) := h.1.cell 0
  have hh := PM.hid h
  clear h
  go_enter Try.func46, Try.ntmps46
  go_wp2_with fail
  refine hN.mono ?_
  clear hN c0
  rintro e w1 ⟨rfl, hr, hx1⟩
  have hW1 := PM.hid (hh.out.num hT hr hx1)
  have hX1 := PM.hid (PM.Bx2.ofb (g := g) hx1)
  clear hr hx1 hh
  by_cases h16 : 16 < n
  · have q : decide ((16 : Int) < (n : Int)) = true := by simp; omega
    have hresh := PM.hid (hbig.out h16)
    have c2 := hW1.out.1.cell 2
    have k2 := hW1.out.1.free 2
    clear h16 hbig hfew
    go_upto_region 4 with fail
    have hW5 := PM.hid (hW1.out.setBad hT)
    have hx5 : PM.Bx g w1 (w1.setCell ⟨g, 2, none⟩ (.bool true)) := PM.Bx.set g 2 w1 (.bool true)
    generalize (w1.setCell ⟨g, 2, none⟩ (.bool true)) = w5 at *
    replace hX1 := PM.hid (hX1.out.trans (PM.Bx2.ofg hx5))
    clear hx5 hW1 c2 k2
    go_wp2_with fail
    go_ret
    rw [hresh.out]
    exact ⟨_, rfl, PM.ORn.nil _, hW5.out, hX1.out⟩
  · have q : decide ((16 : Int) < (n : Int)) = false := by simp; omega
    have hn16 : n ≤ 16 := by omega
    have hresh := PM.hid (hfew.out h16)
    clear h16 hbig hfew
    go_wp2_with fail
    go_loopw [6, 18] (fun o i wr => ∃ k : Nat, i = .int .u64 k ∧ k ≤ n ∧ Hid (PM.ORn (fun _ cs x => cs = PM.idL x) 3 45 w.heap.size wr o (PM.rdN PM.rdId k ⟨l1, wr1, bd⟩).1 ∧ PM.NBv wr o ∧ PM.WR 74 99 wr g b long (PM.rdN PM.rdId k ⟨l1, wr1, bd⟩).2 ∧ PM.Bx2 b g w wr)) (fun _ i _ => n - (intOf i).toNat)
    case atStart => exact ⟨0, rfl, by omega, PM.hid ⟨PM.ORn.nil _, PM.NBv.nil _, hW1.out, hX1.out⟩⟩
    case round =>
      obtain ⟨k, rfl, hk, hin⟩ := hrel
      obtain ⟨hO, hN, hW, hx2⟩ := hin.out
      have hlen := PM.rdN_len (f := PM.rdId) k ⟨l1, wr1, bd⟩
      by_cases hlt : k < n
      · have hc0 : decide ((k : Int) < (n : Int)) = true := by simp; omega
        obtain ⟨st, hst⟩ : ∃ st, st = (PM.rdN PM.rdId k ⟨l1, wr1, bd⟩).2 := ⟨_, rfl⟩
        rw [← hst] at hW
        have hc := rdId_any g b long st wr hW
        obtain ⟨x, hx⟩ : ∃ x, x = (PM.rdId st).1 := ⟨_, rfl⟩
        rw [← hx] at hc
        obtain ⟨xs, hxs⟩ : ∃ xs, xs = (PM.rdN PM.rdId k ⟨l1, wr1, bd⟩).1 := ⟨_, rfl⟩
        rw [← hxs] at hO hlen
        have hsn : Hid (PM.rdN PM.rdId (k + 1) ⟨l1, wr1, bd⟩ = (xs ++ [x], (PM.rdId st).2)) := PM.hid (by rw [PM.rdN_snoc, hxs, hx, hst])
        obtain ⟨cb, hbk⟩ := hW.2.bk
        have hgk := hW.1
        have hkp := PM.hid (And.intro hO (And.intro hN (And.intro hx2 (And.intro hbk hgk))))
        clear hO hN hW hx2 hin hst hx hxs hbk hgk
        go_wp2_with fail
        refine hc.mono ?_
        clear hc
        rintro e w3 ⟨rfl, hW3, hx3⟩
        obtain ⟨hO, hN, hx2, hbk, hgk⟩ := hkp.out
        have hRy : (PM.idCn x).1 = PM.idL x := rfl
        have hkt := hx3.kt (E := 45) hbk hgk (by decide) (by decide)
        have hO3 := PM.ORn.kt (R := fun _ cs x => cs = PM.idL x) (w := wr) (w' := w3) (fun _ _ h => h) hO hkt
        have hN3 := PM.NBv.kt hN hO.rt hkt
        have hx4 := PM.hid (hx2.trans hx3)
        obtain ⟨cb3, hbk3⟩ := hW3.2.bk
        have hne1 := PM.hid (hO3.nev hbk3 (by decide))
        have hne2 := PM.hid (hO3.nev hW3.1 (by decide))
        have hN3h := PM.hid hN3
        have hW3h := PM.hid hW3
        have hl16 : (xs.length + 1) * 24 ≤ 140737488355328 := by omega
        have hl17 : xs.length + 1 ≤ maxLen := by unfold maxLen; omega
        have hsz : w.heap.size ≤ w3.heap.size := hx4.out.size
        clear hO hN hx2 hbk hgk hkt hx3 hW3 hbk3 hkp
        go_wp2_with (at_builtin; refine PM.wpList_orn1 tyIdO idZ (fun _ _ _ _ _ _ _ h => h) w.heap.size w3 rfl _ _ rfl _ xs x (PM.idCn x) _ rfl rfl rfl rfl hRy hO3 hN3 hl16 hl17 hsz ?_; intro v' w' t1 t2 t3 t4; have hE := PM.hid (And.intro t1 (And.intro t2 (And.intro t3 t4))); clear t1 t2 t3 t4 hRy hO3 hN3)
        refine ⟨⟨k + 1, by simp, by omega, PM.hid ?_⟩, by simp only [intOf]; omega⟩
        rw [hsn.out]
        exact ⟨hE.out.1, hE.out.2.1, hW3h.out.kt hE.out.2.2.2 hN3h.out hne1.out hne2.out, hx4.out.low hE.out.2.2.1⟩
      · obtain rfl : k = n := by omega
        have hc0 : decide ((k : Int) < (k : Int)) = false := by simp
        have hfin := PM.hid (And.intro hO (And.intro hW hx2))
        clear hO hN hW hx2 hin hlen
        go_wp2_with fail
        go_ret
        rw [hresh.out]
        exact ⟨_, rfl, hfin.out.1, hfin.out.2.1, hfin.out.2.2⟩
set_option maxRecDepth 100000 in
set_option maxHeartbeats 8000000 in
theorem listEn_any (g b : Nat) (n0 : Nat) (s : PM.Rs) (w : World) (h : PM.WR 74 99 w g b (n0 : Int) s) (hl : s.l.length ≤ 70368744177664) (hn0 : n0 ≤ 70368744177664) :
    Calls Try.prog 44 #[.pointer (some ⟨g, 0, none⟩), .func (.func 45) #[] #[]] w fun e w' => ∃ v, e = .returned v ∧ PM.ORn (PM.enO 138 136 114 w.heap.size) 8 50 w.heap.size w' v (PM.rdL (PM.rdEn n0) s).1 ∧ PM.WR 74 99 w' g b (n0 : Int) (PM.rdL (PM.rdEn n0) s).2 ∧ PM.Bx2 b g w w' := by
  have hT : 74 ≠ 99 := by decide
  obtain ⟨l, wr, bd⟩ := s
  obtain ⟨n, l1, wr1, e1⟩ : ∃ a b c, PM.stepN l wr = (a, b, c) := ⟨_, _, _, rfl⟩
  have hN := rnumber_any b l wr w h.2
  have hlt := PM.stepN_lt l wr
  obtain ⟨res, hr0⟩ : ∃ r, r = PM.rdL (PM.rdEn n0) ⟨l, wr, bd⟩ := ⟨_, rfl⟩
  rw [← hr0]
  unfold PM.rdL at hr0
  simp only at hr0
  rw [e1] at hN hlt hr0
  simp only at hN hlt hr0
  have hbig : Hid (16 < n → res = ([], ⟨l1, wr1, true⟩)) := PM.hid fun h => by rw [hr0]; exact if_pos h
  have hfew : Hid (¬ 16 < n → res = PM.rdN (PM.rdEn n0) n ⟨l1, wr1, bd⟩) := PM.hid fun h => by rw [hr0]; exact if_neg h
  clear hr0
  simp only at hl
  obtain ⟨hn64, hl1⟩ := hlt
  clear e1
  have c0 : w.cell? ⟨g, 0, none⟩ = some (.pointer (some ⟨b, 0, none⟩)) := h.1.cell 0
  have hh := PM.hid h
  clear h
  go_enter Try.func44, Try.ntmps44
  go_wp2_with fail
  refine hN.mono ?_
  clear hN c0
  rintro e w1 ⟨rfl, hr, hx1⟩
  have hW1 := PM.hid (hh.out.num hT hr hx1)
  have hX1 := PM.hid (PM.Bx2.ofb (g := g) hx1)
  clear hr hx1 hh
  by_cases h16 : 16 < n
  · have q : decide ((16 : Int) < (n : Int)) = true := by simp; omega
    have hresh := PM.hid (hbig.out h16)
    have c2 := hW1.out.1.cell 2
    have k2 := hW1.out.1.free 2
    clear h16 hbig hfew
    go_upto_region 4 with fail
    have hW5 := PM.hid (hW1.out.setBad hT)
    have hx5 : PM.Bx g w1 (w1.setCell ⟨g, 2, none⟩ (.bool true)) := PM.Bx.set g 2 w1 (.bool true)
    generalize (w1.setCell ⟨g, 2, none⟩ (.bool true)) = w5 at *
    replace hX1 := PM.hid (hX1.out.trans (PM.Bx2.ofg hx5))
    clear hx5 hW1 c2 k2
    go_wp2_with fail
    go_ret
    rw [hresh.out]
    exact ⟨_, rfl, PM.ORn.nil _, hW5.out, hX1.out⟩
  · have q : decide ((16 : Int) < (n : Int)) = false := by simp; omega
    have hn16 : n ≤ 16 := by omega
    have hresh := PM.hid (hfew.out h16)
    clear h16 hbig hfew
    go_wp2_with fail
    go_loopw [6, 18] (fun o i wr => ∃ k : Nat, i = .int .u64 k ∧ k ≤ n ∧ Hid (PM.ORn (PM.enO 138 136 114 w.heap.size) 8 50 w.heap.size wr o (PM.rdN (PM.rdEn n0) k ⟨l1, wr1, bd⟩).1 ∧ PM.NBv wr o ∧ PM.WR 74 99 wr g b (n0 : Int) (PM.rdN (PM.rdEn n0) k ⟨l1, wr1, bd⟩).2 ∧ PM.Bx2 b g w wr)) (fun _ i _ => n - (intOf i).toNat)
    case atStart => exact ⟨0, rfl, by omega, PM.hid ⟨PM.ORn.nil _, PM.NBv.nil _, hW1.out, hX1.out⟩⟩
    case round =>
      obtain ⟨k, rfl, hk, hin⟩ := hrel
      obtain ⟨hO, hN, hW, hx2⟩ := hin.out
      have hlen := PM.rdN_len (f := (PM.rdEn n0)) k ⟨l1, wr1, bd⟩
      by_cases hlt : k < n
      · have hc0 : decide ((k : Int) < (n : Int)) = true := by simp; omega
        have hsl : (PM.rdN (PM.rdEn n0) k ⟨l1, wr1, bd⟩).2.l.length ≤ 70368744177664 := Nat.le_trans (PM.rdN_sh (PM.rdEn_sh n0) k _) (by simp only; omega)
        obtain ⟨st, hst⟩ : ∃ st, st = (PM.rdN (PM.rdEn n0) k ⟨l1, wr1, bd⟩).2 := ⟨_, rfl⟩
        rw [← hst] at hW hsl
        have hc := rdEnX_any g b n0 st wr hW hsl hn0
        obtain ⟨xF, hxF⟩ : ∃ x_, x_ = (PM.rdEn n0 st).1.fil.length := ⟨_, rfl⟩
        obtain ⟨xE, hxE⟩ : ∃ x_, x_ = (PM.rdEn n0 st).1.evs.length := ⟨_, rfl⟩
        rw [← hxF, ← hxE] at hc
        clear hxF hxE hsl
        obtain ⟨x, hx⟩ : ∃ x, x = (PM.rdEn n0 st).1 := ⟨_, rfl⟩
        rw [← hx] at hc
        obtain ⟨xs, hxs⟩ : ∃ xs, xs = (PM.rdN (PM.rdEn n0) k ⟨l1, wr1, bd⟩).1 := ⟨_, rfl⟩
        rw [← hxs] at hO hlen
        have hsn : Hid (PM.rdN (PM.rdEn n0) (k + 1) ⟨l1, wr1, bd⟩ = (xs ++ [x], ((PM.rdEn n0) st).2)) := PM.hid (by rw [PM.rdN_snoc, hxs, hx, hst])
        obtain ⟨cb, hbk⟩ := hW.2.bk
        have hgk := hW.1
        have hkp := PM.hid (And.intro hO (And.intro hN (And.intro hx2 (And.intro hbk hgk))))
        clear hO hN hW hx2 hin hst hx hxs hbk hgk
        go_wp2_with fail
        refine hc.mono ?_
        clear hc
        rintro e w3 ⟨fa, fc, ea, ec, rfl, hRy, hW3, hx3⟩
        obtain ⟨hO, hN, hx2, hbk, hgk⟩ := hkp.out
        have hRy := PM.enO_mono (B' := w.heap.size) hx2.size hRy
        have hkt := hx3.kt (E := 50) hbk hgk (by decide) (by decide)
        have hO3 := PM.ORn.kt (R := PM.enO 138 136 114 w.heap.size) (w := wr) (w' := w3) (PM.enO_kt (hx3.kt hbk hgk (by decide) (by decide)) (hx3.kt hbk hgk (by decide) (by decide)) (hx3.kt hbk hgk (by decide) (by decide))) hO hkt
        have hN3 := PM.NBv.kt hN hO.rt hkt
        have hx4 := PM.hid (hx2.trans hx3)
        obtain ⟨cb3, hbk3⟩ := hW3.2.bk
        have hne1 := PM.hid (hO3.nev hbk3 (by decide))
        have hne2 := PM.hid (hO3.nev hW3.1 (by decide))
        have hN3h := PM.hid hN3
        have hW3h := PM.hid hW3
        have hl16 : (xs.length + 1) * 96 ≤ 140737488355328 := by omega
        have hl17 : xs.length + 1 ≤ maxLen := by unfold maxLen; omega
        have hsz : w.heap.size ≤ w3.heap.size := hx4.out.size
        clear hO hN hx2 hbk hgk hkt hx3 hW3 hbk3 hkp
        go_wp2_with (at_builtin; refine PM.wpList_orn1 tyEnO enZ (PM.enO_stays (by decide) (by decide) (by decide)) w.heap.size w3 rfl _ _ rfl _ xs x (PM.enCn x fa xF fc ea xE ec) _ rfl rfl rfl rfl hRy hO3 hN3 hl16 hl17 hsz ?_; intro v' w' t1 t2 t3 t4; have hE := PM.hid (And.intro t1 (And.intro t2 (And.intro t3 t4))); clear t1 t2 t3 t4 hRy hO3 hN3)
        refine ⟨⟨k + 1, by simp, by omega, PM.hid ?_⟩, by simp only [intOf]; omega⟩
        rw [hsn.out]
        exact ⟨hE.out.1, hE.out.2.1, hW3h.out.kt hE.out.2.2.2 hN3h.out hne1.out hne2.out, hx4.out.low hE.out.2.2.1⟩
      · obtain rfl : k = n := by omega
        have hc0 : decide ((k : Int) < (k : Int)) = false := by simp
        have hfin := PM.hid (And.intro hO (And.intro hW hx2))
        clear hO hN hW hx2 hin hlen
        go_wp2_with fail
        go_ret
        rw [hresh.out]
        exact ⟨_, rfl, hfin.out.1, hfin.out.2.1, hfin.out.2.2⟩
end Go.Proofs.Ytokfookandfemaa
