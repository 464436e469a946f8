/-
  THE WALK OF OrderDecides.
-/
import Derived.Test.YtlijmmldfdmajaaOg
import Derived.Test.YtlijmmldfdmajaaOi
namespace Go.Proofs.Ytlijmmldfdmajaa
open Go.RowKit
set_option linter.unusedVariables false
set_option linter.unusedSimpArgs false
namespace PM
theorem dec_sum (ks : List Ms) : ∀ l : List En, (yesL ks l).length + (noL ks l).length + (restL ks l).length = l.length
  | [] => rfl
  | x :: l => by
    have ih := dec_sum ks l
    unfold yesL noL restL at ih ⊢
    rw [List.length_map] at ih ⊢
    rcases says_cases ks x.id with h | h | h
    · rw [List.filter_cons_of_neg (by simp [h]), List.filter_cons_of_neg (by simp [h]), List.filter_cons_of_pos (by simp [h]), List.length_cons, List.length_cons]
      omega
    · rw [List.filter_cons_of_pos (by simp [h]), List.filter_cons_of_neg (by simp [h]), List.filter_cons_of_neg (by simp [h]), List.length_cons, List.length_cons]
      omega
    · rw [List.filter_cons_of_neg (by simp [h]), List.filter_cons_of_pos (by simp [h]), List.filter_cons_of_neg (by simp [h]), List.length_cons, List.length_cons]
      omega
theorem yes_at {ks : List Ms} {l : List En} {k : Nat} {z : En} (h : (yesL ks l)[k]? = some z) : says ks z.id = 1 := by
  have := List.mem_of_getElem? h
  unfold yesL at this
  rw [List.mem_filter] at this
  simpa using this.2
theorem rest_at {ks : List Ms} {l : List En} {k : Nat} {z : En} (h : (restL ks l)[k]? = some z) : says ks z.id = 0 := by
  have := List.mem_of_getElem? h
  unfold restL at this
  rw [List.mem_filter] at this
  simpa using this.2
theorem no_at {ks : List Ms} {l : List En} {k : Nat} {z : Id} (h : (noL ks l)[k]? = some z) : says ks z = 2 := by
  have := List.mem_of_getElem? h
  unfold noL at this
  rw [List.mem_map] at this
  obtain ⟨x, hx, rfl⟩ := this
  rw [List.mem_filter] at hx
  simpa using hx.2
theorem says_nil (i : Id) : says [] i = 1 := rfl
theorem dec_nil (l : List En) : yesL [] l = l ∧ noL [] l = [] ∧ restL [] l = [] := by
  unfold yesL noL restL
  refine ⟨?_, ?_, ?_⟩
  · exact List.filter_eq_self.2 fun x _ => rfl
  · rw [List.map_eq_nil_iff]; exact List.filter_eq_nil_iff.2 fun x _ => by rw [says_nil]; decide
  · exact List.filter_eq_nil_iff.2 fun x _ => by rw [says_nil]; decide
end PM
set_option maxRecDepth 100000 in
set_option maxHeartbeats 16000000 in
theorem orderDecides_walkA (b0 : Option Addr) (N d0 : Nat) (b1 : Option Addr) (M d1 : Nat) (l : List PM.En) (ks : List PM.Ms) (w : World) (hN : N = l.length) (hv0 : PM.EnL w (.slice b0 N d0) l) (hwf : ∀ x ∈ l, x.wf) (hv1 : PM.MsL w (.slice b1 M d1) ks) :
    Calls Try.prog 5 #[.slice b0 N d0, .slice b1 M d1] w fun e w' => e = .returned (.bool true) ∧ Below w.heap.size w w' := by
  have hNh := PM.hid hN
  clear hN
  replace hv0 := PM.hid hv0
  replace hv1 := PM.hid hv1
  replace hwf := PM.hid hwf
  go_enter Try.func5, Try.ntmps5
  go_wp2_with fail
  refine (awake19_any w).mono ?_
  rintro e w1 ⟨rfl, hBn⟩
  have hBB := PM.hid hBn
  clear hBn
  go_wp2_with fail
  refine (few19_any 0 none 0 0 none 0 0 none 0 0 b0 N d0 none 0 0 (.slice b1 M d1) [] l [] ks w1 (PM.RR.nil _) (PM.EnL.keep hv0.out hBB.out) (PM.RR.nil _) (PM.MsL.keep hv1.out hBB.out)).mono ?_
  rintro e w2 ⟨hF, hBn⟩
  replace hBB := PM.hid (PM.chain hBB.out hBn)
  clear hBn
  rcases hF with ⟨rfl, hF1, -⟩ | rfl
  case inr =>
    go_wp2_with fail
    go_ret
    exact ⟨rfl, hBB.out⟩
  have hens := PM.hid hF1.ensS
  have hN20 : N ≤ 20 := by rw [hNh.out]; exact hF1.1
  clear hF1
  go_wp2_with fail
  refine (decide_any (.slice b0 N d0) (.slice b1 M d1) l ks w2 (PM.EnL.keep hv0.out hBB.out) (PM.MsL.keep hv1.out hBB.out) hens.out).mono ?_
  rintro e w3 ⟨ua, ur, uo, rfl, hy, hr, ho, hb⟩
  have hB3 := PM.chain hBB.out hb
  replace hv0 := PM.hid (PM.EnL.keep hv0.out hB3)
  replace hv1 := PM.hid (PM.MsL.keep hv1.out hB3)
  replace hBB := PM.hid hB3
  clear hb hB3
  have hsum := PM.dec_sum ks l
  obtain ⟨ys, hys⟩ : ∃ t, t = PM.yesL ks l := ⟨_, rfl⟩
  obtain ⟨no, hno⟩ : ∃ t, t = PM.noL ks l := ⟨_, rfl⟩
  obtain ⟨ro, hro⟩ : ∃ t, t = PM.restL ks l := ⟨_, rfl⟩
  rw [← hys] at hy hsum
  rw [← hno] at hr hsum
  rw [← hro] at ho hsum
  have hysh := PM.hid hys
  have hnoh := PM.hid hno
  have hroh := PM.hid hro
  clear hys hno hro
  have hy := hy.rr
  have hr := hr.em PM.idL_len
  have ho := ho.rr
  obtain ⟨ya, yc, rfl⟩ := hy.len
  obtain ⟨ra, rc, rfl⟩ := hr.len
  obtain ⟨oa, oc, rfl⟩ := ho.len
  obtain ⟨Y, hY⟩ : ∃ t, t = ys.length := ⟨_, rfl⟩
  obtain ⟨R, hR⟩ : ∃ t, t = no.length := ⟨_, rfl⟩
  obtain ⟨O, hO⟩ : ∃ t, t = ro.length := ⟨_, rfl⟩
  rw [← hY, ← hR, ← hO, ← hNh.out] at hsum
  rw [← hY] at hy ⊢
  rw [← hR] at hr ⊢
  rw [← hO] at ho ⊢
  have hYh := PM.hid hY
  have hRh := PM.hid hR
  have hOh := PM.hid hO
  replace hy := PM.hid hy
  replace hr := PM.hid hr
  replace ho := PM.hid ho
  clear hY hR hO
  have q : (((Y : Int) + (R : Int) + (O : Int)) != (N : Int)) = false := by simp; omega
  go_wp2_with fail
  clear q
  go_loopw [9] (fun i wr => ∃ k : Nat, i = .int .i64 k ∧ k ≤ Y ∧ Hid (Below w3.heap.size w3 wr)) (fun i _ => Y - (intOf i).toNat)
  case atStart => exact ⟨0, rfl, by omega, PM.hid (Below.refl _ _)⟩
  case round =>
    obtain ⟨k, rfl, hk, hin⟩ := hrel
    by_cases hlt : k < Y
    · obtain ⟨z, hz⟩ : ∃ z, ys[k]? = some z := ⟨ys[k]'(by rw [← hYh.out]; exact hlt), List.getElem?_eq_getElem _⟩
      obtain ⟨pb, po, rfl, hce⟩ := PM.RR.opn hy.out (by rw [← hYh.out]; omega)
      obtain ⟨cs, hl0, hR⟩ := hce k z hz
      obtain ⟨fa, fc, ea, ec, hcs, -, -⟩ := PM.enR_open (PM.enO_enR hR)
      rw [hcs] at hl0
      have hyl := PM.hid (hl0.keep hin.out)
      have x0 : wr.cell? ⟨pb, po + k * 8 + 1, none⟩ = some (.int .i64 z.id.br) := hyl.out 1 _ rfl
      have x1 : wr.cell? ⟨pb, po + k * 8 + 2, none⟩ = some (.int .u64 (z.id.life : Int)) := hyl.out 2 _ rfl
      have x2 : wr.cell? ⟨pb, po + k * 8 + 3, none⟩ = some (.int .u64 (z.id.ser : Int)) := hyl.out 3 _ rfl
      clear hce hl0 hR hcs cs
      have hq := PM.yes_at (ks := ks) (l := l) (by rw [← hysh.out]; exact hz)
      have hcs := says_any (.slice b1 M d1) z.id ks wr (PM.MsL.keep hv1.out hin.out)
      rw [hq] at hcs
      clear hq hz hyl
      go_wp2_with fail
      refine hcs.mono ?_
      clear hcs
      rintro e w5 ⟨rfl, hb⟩
      have hin2 := PM.hid (PM.chain hin.out hb)
      clear hb
      go_wp2_with fail
      exact ⟨⟨k + 1, by go_num, by omega, hin2⟩, by simp only [intOf]; omega⟩
    · obtain rfl : k = Y := by omega
      go_wp2_with fail
      go_loopw [10] (fun i wr => ∃ k : Nat, i = .int .i64 k ∧ k ≤ R ∧ Hid (Below w3.heap.size w3 wr)) (fun i _ => R - (intOf i).toNat)
      case atStart => exact ⟨0, rfl, by omega, hin⟩
      case round =>
        obtain ⟨k, rfl, hk, hin⟩ := hrel
        by_cases hlt : k < R
        · obtain ⟨z, hz⟩ : ∃ z, no[k]? = some z := ⟨no[k]'(by rw [← hRh.out]; exact hlt), List.getElem?_eq_getElem _⟩
          obtain ⟨pb, po, pcap, hpe, -, -, hpl⟩ := PM.EM.open1 hr.out (by rw [← hRh.out]; omega)
          have hyl := hpl k z hz
          injection hpe with hpa hpb hpc
          subst hpa
          clear hpb hpc hpl pcap
          replace hyl := hyl.keep hin.out
          have x0 : wr.cell? ⟨pb, po + k * 3, none⟩ = some (.int .i64 z.br) := hyl 0 _ rfl
          have x1 : wr.cell? ⟨pb, po + k * 3 + 1, none⟩ = some (.int .u64 (z.life : Int)) := hyl 1 _ rfl
          have x2 : wr.cell? ⟨pb, po + k * 3 + 2, none⟩ = some (.int .u64 (z.ser : Int)) := hyl 2 _ rfl
          have hq := PM.no_at (ks := ks) (l := l) (by rw [← hnoh.out]; exact hz)
          have hcs := says_any (.slice b1 M d1) z ks wr (PM.MsL.keep hv1.out hin.out)
          rw [hq] at hcs
          clear hq hz hyl
          go_wp2_with fail
          refine hcs.mono ?_
          clear hcs
          rintro e w5 ⟨rfl, hb⟩
          have hin2 := PM.hid (PM.chain hin.out hb)
          clear hb
          go_wp2_with fail
          exact ⟨⟨k + 1, by go_num, by omega, hin2⟩, by simp only [intOf]; omega⟩
        · obtain rfl : k = R := by omega
          go_wp2_with fail
          go_loopw [11] (fun i wr => ∃ k : Nat, i = .int .i64 k ∧ k ≤ O ∧ Hid (Below w3.heap.size w3 wr)) (fun i _ => O - (intOf i).toNat)
          case atStart => exact ⟨0, rfl, by omega, hin⟩
          case round =>
            obtain ⟨k, rfl, hk, hin⟩ := hrel
            by_cases hlt : k < O
            · obtain ⟨z, hz⟩ : ∃ z, ro[k]? = some z := ⟨ro[k]'(by rw [← hOh.out]; exact hlt), List.getElem?_eq_getElem _⟩
              obtain ⟨pb, po, rfl, hce⟩ := PM.RR.opn ho.out (by rw [← hOh.out]; omega)
              obtain ⟨cs, hl0, hR⟩ := hce k z hz
              obtain ⟨fa, fc, ea, ec, hcs, -, -⟩ := PM.enR_open (PM.enO_enR hR)
              rw [hcs] at hl0
              have hyl := PM.hid (hl0.keep hin.out)
              have x0 : wr.cell? ⟨pb, po + k * 8 + 1, none⟩ = some (.int .i64 z.id.br) := hyl.out 1 _ rfl
              have x1 : wr.cell? ⟨pb, po + k * 8 + 2, none⟩ = some (.int .u64 (z.id.life : Int)) := hyl.out 2 _ rfl
              have x2 : wr.cell? ⟨pb, po + k * 8 + 3, none⟩ = some (.int .u64 (z.id.ser : Int)) := hyl.out 3 _ rfl
              clear hce hl0 hR hcs cs
              have hq := PM.rest_at (ks := ks) (l := l) (by rw [← hroh.out]; exact hz)
              have hcs := says_any (.slice b1 M d1) z.id ks wr (PM.MsL.keep hv1.out hin.out)
              rw [hq] at hcs
              clear hq hz hyl
              go_wp2_with fail
              refine hcs.mono ?_
              clear hcs
              rintro e w5 ⟨rfl, hb⟩
              have hin2 := PM.hid (PM.chain hin.out hb)
              clear hb
              go_wp2_with fail
              exact ⟨⟨k + 1, by go_num, by omega, hin2⟩, by simp only [intOf]; omega⟩
            · obtain rfl : k = O := by omega
              go_wp2_with fail
              have hdn := decide_any (.slice b0 N d0) (.slice none 0 0) l [] wr (PM.EnL.keep hv0.out hin.out) (PM.RR.nil _) hens.out
              rw [(PM.dec_nil l).1, (PM.dec_nil l).2.1, (PM.dec_nil l).2.2] at hdn
              refine hdn.mono ?_
              clear hdn
              rintro e w6 ⟨u1, u2, u3, rfl, hu1, hu2, hu3, hb⟩
              have hB6 := PM.hid (PM.chain hin.out hb)
              obtain ⟨e2, f2, rfl⟩ := (hu2.em PM.idL_len).len
              obtain ⟨e3, f3, rfl⟩ := hu3.rr.len
              have hsm := sameEns_any u1 (.slice b0 N d0) l l w6 (hu1.rr.imp fun cs x h => PM.enO_enR h) (PM.EnL.keep hv0.out hB6.out) hwf.out hwf.out
              clear hb hu1 hu2 hu3 hin
              simp only [List.length_nil]
              go_wp2_with fail
              refine hsm.mono ?_
              clear hsm
              rintro e w7 ⟨h, hb⟩
              have hBe := PM.hid (PM.chain hBB.out (PM.chain hB6.out hb))
              clear hb
              rcases h with ⟨rfl, -⟩ | ⟨-, h⟩
              · go_wp2_with fail
                go_ret
                exact ⟨by simp, hBe.out⟩
              · first | exact absurd rfl h | exact absurd trivial h
theorem orderDecides_walk (v0 : Value) (l : List PM.En) (v1 : Value) (ks : List PM.Ms) (w : World) (hv0 : PM.EnL w v0 l) (hwf : ∀ x ∈ l, x.wf) (hv1 : PM.MsL w v1 ks) :
    Calls Try.prog 5 #[v0, v1] w fun e w' => e = .returned (.bool true) ∧ Below w.heap.size w w' := by
  obtain ⟨a0, c0, rfl⟩ := hv0.len
  obtain ⟨a1, c1, rfl⟩ := hv1.len
  exact orderDecides_walkA a0 _ c0 a1 _ c1 l ks w rfl hv0 hwf hv1
end Go.Proofs.Ytlijmmldfdmajaa
