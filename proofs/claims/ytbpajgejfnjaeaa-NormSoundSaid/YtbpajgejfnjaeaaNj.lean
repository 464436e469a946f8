/-
  norm.Norm: plain, and its contract.
-/
import Derived.Test.YtbpajgejfnjaeaaNi
import Derived.Test.YtbpajgejfnjaeaaGu
import Derived.Test.YtbpajgejfnjaeaaGl
namespace Go.Proofs.Ytbpajgejfnjaeaa
open Go.RowKit
set_option linter.unusedVariables false
set_option linter.unusedSimpArgs false
namespace PM
/-- tests, of which those go that one that stayed, or one behind, implies -/
def nrmGo (st : List Te) : List Te → List Te
  | [] => st
  | t :: r => if st.any (fun x => impB x t) || r.any (fun x => impB x t) then nrmGo st r else nrmGo (st ++ [t]) r
def nrm (l : List Te) : List Te := nrmGo [] (srt l)
theorem nrmGo_out {st r : List Te} {t : Te} (h : (∃ x ∈ st, impB x t = true) ∨ (∃ x ∈ r, impB x t = true)) : nrmGo st (t :: r) = nrmGo st r := by
  rw [nrmGo, if_pos]
  simp only [Bool.or_eq_true, List.any_eq_true]
  exact h
theorem nrmGo_in {st r : List Te} {t : Te} (h1 : ∀ x ∈ st, impB x t = false) (h2 : ∀ x ∈ r, impB x t = false) : nrmGo st (t :: r) = nrmGo (st ++ [t]) r := by
  rw [nrmGo, if_neg]
  simp only [Bool.or_eq_true, List.any_eq_true, not_or, not_exists, not_and]
  exact ⟨fun x hx => by simp [h1 x hx], fun x hx => by simp [h2 x hx]⟩
theorem drop_at {s : List Te} {k : Nat} {z : Te} (h : s[k]? = some z) : s.drop k = z :: s.drop (k + 1) := by
  obtain ⟨hk, rfl⟩ := List.getElem?_eq_some_iff.1 h
  exact List.drop_eq_getElem_cons hk
/-- what a slice reads as, its form apart, in a later world -/
theorem EM.opn {w W : World} {ad : Option Addr} {n cap : Nat} {l : List Te} (h : EM teL 5 w (.slice ad n cap) l) (hb : Below w.heap.size w W) : EM teL 5 W (.slice ad n cap) l ∧ (0 < l.length → ∃ b off, ad = some ⟨b, off, none⟩ ∧ ∀ i x, l[i]? = some x → Lies W b (off + i * 5) (teL x)) := by
  have h' := h.keep hb
  refine ⟨h', fun hp => ?_⟩
  obtain ⟨a, c, hv, _, _, h3⟩ := h'
  injection hv with e1 e2 e3
  subst e1
  exact h3 hp
theorem EM.opn' {W : World} {ad : Option Addr} {n cap : Nat} {l : List Te} (h' : EM teL 5 W (.slice ad n cap) l) : EM teL 5 W (.slice ad n cap) l ∧ (0 < l.length → ∃ b off, ad = some ⟨b, off, none⟩ ∧ ∀ i x, l[i]? = some x → Lies W b (off + i * 5) (teL x)) := h'.opn (Below.refl _ _)
end PM
theorem PM.chain' {B : Nat} {x y z : World} (h : Below B x y) (k : Below B y z) : Below B x z := h.trans k
theorem teTyN : PM.MTy Try.prog 31 25 5 56 where
  sl := Try.underlying31
  pos := by decide
  row := by
    obtain ⟨i, h1, h2, h3, h4⟩ := info_parts (P := Try.prog) (e := 25) (z := .agg #[.string ByteArray.empty, .int .i64 0, .int .i64 0, .int .i64 0, .string ByteArray.empty]) (size := 5) (bytes := 56) (by kernel_rfl)
    exact ⟨i, _, h1, h2, h3, h4, by kernel_rfl⟩
set_option maxRecDepth 100000 in
set_option maxHeartbeats 4000000 in
theorem norm_any (v : Value) (l : List PM.Te) (w : World) (hv : PM.TV w v l) (hl : l.length ≤ 10) :
    Calls Try.prog 18 #[v] w fun e w' => ∃ u, e = .returned u ∧ PM.OM PM.teL 5 25 w.heap.size w' u (PM.nrm l) ∧ Below w.heap.size w w' := by
  have hn : (([] : List PM.Te).length + l.length) * 56 ≤ 140737488355328 := by simp; omega
  have hn2 : ([] : List PM.Te).length + l.length ≤ maxLen := by unfold maxLen; simp; omega
  have hlh := PM.hid hl
  obtain ⟨va, vc, hve⟩ := hv.len
  subst hve
  go_enter Try.func18, Try.ntmps18
  go_wp2_with fail
  go_step3
  go_wp2_with (at_builtin; go_loud (refine PM.wpList_em (e := PM.teL) teTyN PM.teL_len PM.teL_one w.heap.size rfl _ _ rfl (.slice none 0 0) (.slice va l.length vc) [] l rfl rfl (PM.OM.nilrow _) hv hn hn2 (Nat.le_refl _) ?_); intro v' w1 t1 t2 t3 t4; have hO := PM.hid (And.intro t1 t2); clear t1 t2 t3 t4 hv hn hn2)
  refine (sort_any w.heap.size v' l w1 hO.out.1 (by have := hlh.out; omega) hO.out.2.size).mono ?_
  rintro e w2 ⟨rfl, hO2, hB2⟩
  obtain ⟨s, hs⟩ : ∃ s, s = PM.srt l := ⟨_, rfl⟩
  rw [← hs] at hO2
  have hBw := PM.hid (PM.chain' hO.out.2 hB2)
  have hsl := PM.hid hs
  have hSM := hO2.em PM.teL_len
  have hsN : s.length ≤ 10 := by rw [hs, PM.srt_len]; exact hlh.out
  obtain ⟨sa, scap, rfl, hcap, hmax, hel⟩ := hO2.em PM.teL_len
  obtain ⟨N, hN⟩ : ∃ N, N = s.length := ⟨_, rfl⟩
  have hNh := PM.hid hN
  rw [← hN] at hcap hsN hSM ⊢
  unfold maxLen at hmax
  have hSMh := PM.hid hSM
  have helh := PM.hid hel
  clear hs hN hel hO2 hO hB2 hSM
  go_wp2_with fail
  go_step3
  go_wp2_with fail
  go_loopw [4, 17] (fun v4 i wr => ∃ (k : Nat) (st : List PM.Te), i = .int .i64 k ∧ k ≤ N ∧ st.length ≤ k ∧ Hid (PM.OM PM.teL 5 25 w2.heap.size wr v4 st ∧ Below w2.heap.size w2 wr ∧ PM.nrmGo st (s.drop k) = PM.nrmGo [] s)) (fun _ i _ => N - (intOf i).toNat)
  case atStart => exact ⟨0, [], rfl, by omega, by simp, PM.hid ⟨PM.OM.nilrow _, Below.refl _ _, by simp⟩⟩
  case round =>
    obtain ⟨k, st, rfl, hk, hstk, hin⟩ := hrel
    by_cases hlt : k < N
    · obtain ⟨z, hz⟩ : ∃ z, s[k]? = some z := ⟨s[k]'(by rw [← hNh.out]; exact hlt), List.getElem?_eq_getElem _⟩
      obtain ⟨b, off, rfl, hce⟩ := helh.out (by rw [← hNh.out]; omega)
      have hli := hce k z hz
      have d0 := PM.cellA hin.out.2.1 (hli 0 _ rfl)
      have d1 := PM.cellA hin.out.2.1 (hli 1 _ rfl)
      have d2 := PM.cellA hin.out.2.1 (hli 2 _ rfl)
      have d3 := PM.cellA hin.out.2.1 (hli 3 _ rfl)
      have d4 := PM.cellA hin.out.2.1 (hli 4 _ rfl)
      rw [Nat.add_zero] at d0
      have hzh := PM.hid hz
      have hceh := PM.hid hce
      obtain ⟨fa, fc, rfl⟩ := (hin.out.1.em PM.teL_len).len
      clear hz hce hli
      go_upto_region 7 with fail
      obtain ⟨gz, hgz⟩ : ∃ g, g = wr.heap.size := ⟨_, rfl⟩
      obtain ⟨W0, hW0⟩ : ∃ W, W = wr.alloc (.cells #[.string z.name, .int .i64 z.op, .int .i64 z.k, .int .i64 z.n, .string z.s] 25) := ⟨_, rfl⟩
      have hB0 : Below wr.heap.size wr W0 := by rw [hW0]; exact (Below.refl _ _).alloc (Nat.le_refl _) _
      have hkz0 : PM.BK W0 gz #[.string z.name, .int .i64 z.op, .int .i64 z.k, .int .i64 z.n, .string z.s] 25 := by rw [hW0, hgz]; exact PM.BK.new _ _ _
      have hBo := PM.hid (PM.chain hin.out.2.1 hB0)
      have hkz := PM.hid hkz0
      rw [← hW0, ← hgz]
      clear hW0 hgz d0 d1 d2 d3 d4 hkz0
      obtain ⟨M, hM⟩ : ∃ M, M = st.length := ⟨_, rfl⟩
      have Mh := PM.hid hM
      have hEm := PM.hid (PM.EM.opn (hin.out.1.em PM.teL_len) hB0)
      have hOw := PM.hid hin.out.1
      have hstk' := PM.hid hstk
      rw [← hM] at hOw hEm hstk ⊢
      clear hM
      go_wp2_with fail
      go_loopw [24] (fun i wi => ∃ j : Nat, i = .int .i64 j ∧ j ≤ M ∧ Hid (Below W0.heap.size W0 wi ∧ ∀ (x : PM.Te) (i : Nat), i < j → (st)[i]? = some x → PM.impB x z = false)) (fun i _ => M - (intOf i).toNat)
      case atStart => exact ⟨0, rfl, by omega, PM.hid ⟨Below.refl _ _, fun x i hi => absurd hi (by omega)⟩⟩
      case round =>
        obtain ⟨j, rfl, hj, hjn⟩ := hrel
        by_cases hjl : j < M
        · obtain ⟨y, hy⟩ : ∃ y, (st)[j]? = some y := ⟨(st)[j]'(by rw [← Mh.out]; exact hjl), List.getElem?_eq_getElem _⟩
          obtain ⟨fb, fo, hfe, hfc⟩ := hEm.out.2 (by first | omega | (rw [← Mh.out]; omega))
          subst hfe
          have hlj := hfc j y hy
          have e0 := PM.cellA hjn.out.1 (hlj 0 _ rfl)
          have e1 := PM.cellA hjn.out.1 (hlj 1 _ rfl)
          have e2 := PM.cellA hjn.out.1 (hlj 2 _ rfl)
          have e3 := PM.cellA hjn.out.1 (hlj 3 _ rfl)
          have e4 := PM.cellA hjn.out.1 (hlj 4 _ rfl)
          rw [Nat.add_zero] at e0
          have hyh := PM.hid hy
          clear hy hlj hfc
          go_upto_region 10 with fail
          obtain ⟨gy, hgy⟩ : ∃ g, g = wr.heap.size := ⟨_, rfl⟩
          obtain ⟨W4, hW4⟩ : ∃ W, W = wr.alloc (.cells #[.string y.name, .int .i64 y.op, .int .i64 y.k, .int .i64 y.n, .string y.s] 25) := ⟨_, rfl⟩
          have hal : Below wr.heap.size wr W4 := by rw [hW4]; exact (Below.refl _ _).alloc (Nat.le_refl _) _
          have hky : PM.BK W4 gy #[.string y.name, .int .i64 y.op, .int .i64 y.k, .int .i64 y.n, .string y.s] 25 := by rw [hW4, hgy]; exact PM.BK.new _ _ _
          have hkz4 := (hkz.out.keep hjn.out.1).keep hal
          have hB4 := PM.hid (PM.chain hjn.out.1 hal)
          rw [← hW4, ← hgy]
          clear hW4 hgy hal e0 e1 e2 e3 e4
          have a0 : W4.cell? ⟨gy, 0, none⟩ = some (.string y.name) := hky.cell 0
          have a1 : W4.cell? ⟨gy, 1, none⟩ = some (.int .i64 y.op) := hky.cell 1
          have a2 : W4.cell? ⟨gy, 2, none⟩ = some (.int .i64 y.k) := hky.cell 2
          have a3 : W4.cell? ⟨gy, 3, none⟩ = some (.int .i64 y.n) := hky.cell 3
          have a4 : W4.cell? ⟨gy, 4, none⟩ = some (.string y.s) := hky.cell 4
          have b0 : W4.cell? ⟨gz, 0, none⟩ = some (.string z.name) := hkz4.cell 0
          have b1 : W4.cell? ⟨gz, 1, none⟩ = some (.int .i64 z.op) := hkz4.cell 1
          have b2 : W4.cell? ⟨gz, 2, none⟩ = some (.int .i64 z.k) := hkz4.cell 2
          have b3 : W4.cell? ⟨gz, 3, none⟩ = some (.int .i64 z.n) := hkz4.cell 3
          have b4 : W4.cell? ⟨gz, 4, none⟩ = some (.string z.s) := hkz4.cell 4
          clear hky hkz4
          go_wp2_with fail
          refine (implies_any y z W4).mono ?_
          rintro e W5 ⟨rfl, hB5⟩
          have hB5h := PM.hid (PM.chain hB4.out hB5)
          clear hB5 a0 a1 a2 a3 a4 b0 b1 b2 b3 b4
          cases hi : PM.impB y z
          · have hin' := PM.hid hi
            clear hi
            go_wp2_with fail
            refine ⟨⟨j + 1, by go_num, by omega, PM.hid ⟨hB5h.out, fun x i hi hx => ?_⟩⟩, by simp only [intOf]; omega⟩
            by_cases hij : i < j
            · exact hjn.out.2 x i hij hx
            · obtain rfl : i = j := by omega
              rw [hyh.out] at hx
              injection hx with hx
              subst hx
              exact hin'.out
          · have hin' := PM.hid hi
            clear hi
            go_wp2_with fail
            refine ⟨⟨k + 1, st, by go_num, by omega, by have := hstk'.out; omega, PM.hid ⟨(hOw.out.keep hB0).keep hB5h.out, PM.chain hBo.out hB5h.out, ?_⟩⟩, by simp only [intOf]; omega⟩
            rw [← hin.out.2.2, PM.drop_at hzh.out]
            exact (PM.nrmGo_out (Or.inl ⟨y, List.mem_of_getElem? hyh.out, hin'.out⟩)).symm
        · obtain rfl : j = M := by omega
          have hjM : ¬ ((j : Int) < (j : Int)) := by omega
          have hall1 := PM.hid hjn.out.2
          have hBm := PM.hid hjn.out.1
          have hBo2 := PM.hid (PM.chain hBo.out hjn.out.1)
          replace hkz := PM.hid (hkz.out.keep hjn.out.1)
          obtain ⟨ra, rc, hrun, hrs⟩ := PM.run_restM teTyN (hSMh.out.keep hBo2.out) (K := k + 1) (by rw [← hNh.out]; omega)
          obtain ⟨J, hjd⟩ : ∃ J, J = N - (k + 1) := ⟨_, rfl⟩
          have jdl : J = (s.drop (k + 1)).length := by rw [List.length_drop, ← hNh.out, hjd]
          have Jh := PM.hid jdl
          rw [← hNh.out, ← hjd] at hrun hrs
          replace hrun : ∀ W : World, (Instr.slice 31 (.slice (some ⟨b, off, none⟩) N scap) (some (.int .i64 ((k : Int) + 1))) none none).run Try.prog W = .ok (.slice ra J rc) W := hrun
          have hEr := PM.hid (PM.EM.opn' hrs)
          have hjN := PM.hid hjd
          have hJ10 : J ≤ 10 := by omega
          clear hrs hjd jdl hjM
          obtain ⟨wo, rfl⟩ : ∃ wo : World, wo = wr := ⟨_, rfl⟩
          go_wp2_with fail
          clear hrun
          go_loopw [37] (fun i wi => ∃ j : Nat, i = .int .i64 j ∧ j ≤ J ∧ Hid (Below wo.heap.size wo wi ∧ ∀ (x : PM.Te) (i : Nat), i < j → (s.drop (k + 1))[i]? = some x → PM.impB x z = false)) (fun i _ => J - (intOf i).toNat)
          case atStart => exact ⟨0, rfl, by omega, PM.hid ⟨Below.refl _ _, fun x i hi => absurd hi (by omega)⟩⟩
          case round =>
            obtain ⟨j, rfl, hj, hjn⟩ := hrel
            by_cases hjl : j < J
            · obtain ⟨y, hy⟩ : ∃ y, (s.drop (k + 1))[j]? = some y := ⟨(s.drop (k + 1))[j]'(by rw [← Jh.out]; exact hjl), List.getElem?_eq_getElem _⟩
              obtain ⟨fb, fo, hfe, hfc⟩ := hEr.out.2 (by first | omega | (rw [← Jh.out]; omega))
              subst hfe
              have hlj := hfc j y hy
              have e0 := PM.cellA hjn.out.1 (hlj 0 _ rfl)
              have e1 := PM.cellA hjn.out.1 (hlj 1 _ rfl)
              have e2 := PM.cellA hjn.out.1 (hlj 2 _ rfl)
              have e3 := PM.cellA hjn.out.1 (hlj 3 _ rfl)
              have e4 := PM.cellA hjn.out.1 (hlj 4 _ rfl)
              rw [Nat.add_zero] at e0
              have hyh := PM.hid hy
              clear hy hlj hfc
              go_upto_region 15 with fail
              obtain ⟨gy, hgy⟩ : ∃ g, g = wr.heap.size := ⟨_, rfl⟩
              obtain ⟨W4, hW4⟩ : ∃ W, W = wr.alloc (.cells #[.string y.name, .int .i64 y.op, .int .i64 y.k, .int .i64 y.n, .string y.s] 25) := ⟨_, rfl⟩
              have hal : Below wr.heap.size wr W4 := by rw [hW4]; exact (Below.refl _ _).alloc (Nat.le_refl _) _
              have hky : PM.BK W4 gy #[.string y.name, .int .i64 y.op, .int .i64 y.k, .int .i64 y.n, .string y.s] 25 := by rw [hW4, hgy]; exact PM.BK.new _ _ _
              have hkz4 := (hkz.out.keep hjn.out.1).keep hal
              have hB4 := PM.hid (PM.chain hjn.out.1 hal)
              rw [← hW4, ← hgy]
              clear hW4 hgy hal e0 e1 e2 e3 e4
              have a0 : W4.cell? ⟨gy, 0, none⟩ = some (.string y.name) := hky.cell 0
              have a1 : W4.cell? ⟨gy, 1, none⟩ = some (.int .i64 y.op) := hky.cell 1
              have a2 : W4.cell? ⟨gy, 2, none⟩ = some (.int .i64 y.k) := hky.cell 2
              have a3 : W4.cell? ⟨gy, 3, none⟩ = some (.int .i64 y.n) := hky.cell 3
              have a4 : W4.cell? ⟨gy, 4, none⟩ = some (.string y.s) := hky.cell 4
              have b0 : W4.cell? ⟨gz, 0, none⟩ = some (.string z.name) := hkz4.cell 0
              have b1 : W4.cell? ⟨gz, 1, none⟩ = some (.int .i64 z.op) := hkz4.cell 1
              have b2 : W4.cell? ⟨gz, 2, none⟩ = some (.int .i64 z.k) := hkz4.cell 2
              have b3 : W4.cell? ⟨gz, 3, none⟩ = some (.int .i64 z.n) := hkz4.cell 3
              have b4 : W4.cell? ⟨gz, 4, none⟩ = some (.string z.s) := hkz4.cell 4
              clear hky hkz4
              go_wp2_with fail
              refine (implies_any y z W4).mono ?_
              rintro e W5 ⟨rfl, hB5⟩
              have hB5h := PM.hid (PM.chain hB4.out hB5)
              clear hB5 a0 a1 a2 a3 a4 b0 b1 b2 b3 b4
              cases hi : PM.impB y z
              · have hin' := PM.hid hi
                clear hi
                go_wp2_with fail
                refine ⟨⟨j + 1, by go_num, by omega, PM.hid ⟨hB5h.out, fun x i hi hx => ?_⟩⟩, by simp only [intOf]; omega⟩
                by_cases hij : i < j
                · exact hjn.out.2 x i hij hx
                · obtain rfl : i = j := by omega
                  rw [hyh.out] at hx
                  injection hx with hx
                  subst hx
                  exact hin'.out
              · have hin' := PM.hid hi
                clear hi
                go_wp2_with fail
                refine ⟨⟨k + 1, st, by go_num, by omega, by have := hstk'.out; omega, PM.hid ⟨((hOw.out.keep hB0).keep hBm.out).keep hB5h.out, PM.chain hBo2.out hB5h.out, ?_⟩⟩, by simp only [intOf]; omega⟩
                rw [← hin.out.2.2, PM.drop_at hzh.out]
                exact (PM.nrmGo_out (Or.inr ⟨y, List.mem_of_getElem? hyh.out, hin'.out⟩)).symm
            · obtain rfl : j = J := by omega
              have hjM : ¬ ((j : Int) < (j : Int)) := by omega
              have hall2 := hjn.out.2
              have hkz2 := hkz.out.keep hjn.out.1
              have hOm := ((hOw.out.keep hB0).keep hBm.out).keep hjn.out.1
              have hBo3 := PM.hid (PM.chain hBo2.out hjn.out.1)
              have b0 : wr.cell? ⟨gz, 0, none⟩ = some (.string z.name) := hkz2.cell 0
              have b1 : wr.cell? ⟨gz, 1, none⟩ = some (.int .i64 z.op) := hkz2.cell 1
              have b2 : wr.cell? ⟨gz, 2, none⟩ = some (.int .i64 z.k) := hkz2.cell 2
              have b3 : wr.cell? ⟨gz, 3, none⟩ = some (.int .i64 z.n) := hkz2.cell 3
              have b4 : wr.cell? ⟨gz, 4, none⟩ = some (.string z.s) := hkz2.cell 4
              have hst' := hstk'.out
              have hl16 : (st.length + 1) * 56 ≤ 140737488355328 := by omega
              have hl17 : st.length + 1 ≤ maxLen := by unfold maxLen; omega
              have hsz := hBo3.out.size
              have hnx := PM.hid (PM.nrmGo_in (st := st) (r := s.drop (k + 1)) (t := z) (fun x hx => by
                obtain ⟨i, hi⟩ := List.mem_iff_getElem?.1 hx
                exact hall1.out x i (by rw [Mh.out]; exact (List.getElem?_eq_some_iff.1 hi).1) hi) (fun x hx => by
                obtain ⟨i, hi⟩ := List.mem_iff_getElem?.1 hx
                exact hall2 x i (by rw [Jh.out]; exact (List.getElem?_eq_some_iff.1 hi).1) hi))
              clear hall2 hkz2 hst'
              obtain ⟨wq, hwq⟩ : ∃ W, W = wr := ⟨_, rfl⟩
              go_wp2_with (first
                | (at_builtin; refine PM.wpList_em1 (e := PM.teL) teTyN PM.teL_len PM.teL_one w2.heap.size wr rfl _ _ rfl _ st z _ rfl rfl ?_ rfl hOm hl16 hl17 hsz ?_; rfl; intro v' w' t1 t2 t3 t4; have hE := PM.hid (And.intro t1 (hBo3.out.trans t2)); clear t1 t2 t3 t4 hOm b0 b1 b2 b3 b4 hsz))
              refine ⟨⟨k + 1, st ++ [z], by go_num, by omega, by have := hstk'.out; simp; omega, PM.hid ⟨hE.out.1, hE.out.2, ?_⟩⟩, by simp only [intOf]; omega⟩
              rw [← hin.out.2.2, PM.drop_at hzh.out]
              exact hnx.out.symm
    · have hkN : k = N := by omega
      subst hkN
      have hfin := PM.hid (PM.hid (And.intro (hin.out.1.mono hBw.out.size) (PM.chain hBw.out hin.out.2.1)))
      have he : Hid (st = PM.nrm l) := PM.hid (by
        have := hin.out.2.2
        rw [hNh.out, List.drop_length] at this
        rw [hsl.out] at this
        exact this)
      clear hin hSMh helh
      go_wp2_with fail
      rw [Exit.noGoto_ret]
      go_ret
      exact ⟨_, rfl, by rw [← he.out]; exact hfin.out.out.1, hfin.out.out.2⟩
end Go.Proofs.Ytbpajgejfnjaeaa
