/-
  THE WALKS OF OrderTold, OrderNames.
-/
import Derived.Test.YtlijmmldfdmajaaOg
import Derived.Test.YtlijmmldfdmajaaWt
namespace Go.Proofs.Ytlijmmldfdmajaa
open Go.RowKit
set_option linter.unusedVariables false
set_option linter.unusedSimpArgs false
namespace PM
def cnt (l : List Id) (i : Id) : Nat := (l.filter fun j => decide (j = i)).length
theorem cnt_snoc (l : List Id) (x i : Id) : cnt (l ++ [x]) i = cnt l i + if x = i then 1 else 0 := by
  unfold cnt
  rw [List.filter_append, List.length_append]
  by_cases h : x = i <;> simp [h]
theorem cnt_has (l : List Id) (i : Id) : hasI l i = false ↔ cnt l i = 0 := by
  unfold hasI cnt
  rw [List.any_eq_false, List.length_eq_zero_iff, List.filter_eq_nil_iff]
  constructor
  · intro h a ha
    have := h a ha
    simp only [decide_eq_true_eq] at this ⊢
    exact fun e => this e.symm
  · intro h a ha
    have := h a ha
    simp only [decide_eq_true_eq] at this ⊢
    exact fun e => this e.symm
theorem td1_len' (ab : List Id) (out : List Id) (x : En) : (td1 ab out x).length ≤ out.length + 1 := by
  unfold td1
  split
  · simp
  · omega
theorem told_cnt (ab : List Id) : ∀ (l : List En) (out : List Id), out.length + l.length ≤ 16 → (l.foldl (td1 ab) out).length ≤ out.length + l.length ∧ ∀ i, cnt (l.foldl (td1 ab) out) i = if hasI ab i = true ∧ cnt out i = 0 ∧ (l.any fun x => decide (x.id = i)) = true then 1 else cnt out i
  | [], out, _ => ⟨by simp, fun i => by simp⟩
  | x :: l, out, h => by
    rw [List.length_cons] at h
    have hl := td1_len' ab out x
    obtain ⟨h1, h2⟩ := told_cnt ab l (td1 ab out x) (by omega)
    rw [List.foldl_cons]
    refine ⟨by rw [List.length_cons]; omega, fun i => ?_⟩
    rw [h2]
    clear h1 h2
    unfold td1
    by_cases hg : hasI ab x.id = true ∧ hasI out x.id = false ∧ out.length < 16
    · rw [if_pos hg, cnt_snoc]
      have h0 := (cnt_has out x.id).1 hg.2.1
      by_cases hi : x.id = i
      · subst hi
        simp [h0, hg.1]
      · simp [hi]
    · rw [if_neg hg]
      by_cases hi : x.id = i
      · subst hi
        by_cases ha : hasI ab x.id = true
        · have h0 : ¬ cnt out x.id = 0 := fun h0 => hg ⟨ha, (cnt_has _ _).2 h0, by omega⟩
          simp [h0]
        · simp [ha]
      · simp [hi]
theorem told_at {ab : List Id} {l : List En} {k : Nat} {z : En} (h : l.length ≤ 16) (hz : l[k]? = some z) : cnt (toldL ab l) z.id = if hasI ab z.id = true then 1 else 0 := by
  unfold toldL
  rw [(told_cnt ab l [] (by simpa using h)).2]
  have : (l.any fun x => decide (x.id = z.id)) = true := List.any_eq_true.2 ⟨z, List.mem_of_getElem? hz, by simp⟩
  rw [this]
  simp [cnt]
theorem told_len {ab : List Id} {l : List En} (h : l.length ≤ 16) : (toldL ab l).length ≤ l.length := by
  have := (told_cnt ab l [] (by simpa using h)).1
  simpa [toldL] using this
theorem hasI_take {l : List Id} {k : Nat} {y i : Id} (h : l[k]? = some y) : hasI (l.take (k + 1)) i = (hasI (l.take k) i || decide (y = i)) := by
  rw [take_at h, hasI_snoc']
  simp [eq_comm]
theorem cnt_take {l : List Id} {k : Nat} {y i : Id} (h : l[k]? = some y) : cnt (l.take (k + 1)) i = cnt (l.take k) i + if y = i then 1 else 0 := by
  rw [take_at h, cnt_snoc]
end PM
set_option maxRecDepth 100000 in
set_option maxHeartbeats 16000000 in
theorem orderTold_walkA (a0 : Option Addr) (A c0 : Nat) (a1 : Option Addr) (N c1 : Nat) (ab : List PM.Id) (l : List PM.En) (w : World) (hA : A = ab.length) (hN : N = l.length) (hv0 : PM.EM PM.idL 3 w (.slice a0 A c0) ab) (hv1 : PM.EnL w (.slice a1 N c1) l) :
    Calls Try.prog 7 #[.slice a0 A c0, .slice a1 N c1] w fun e w' => e = .returned (.bool true) ∧ Below w.heap.size w w' := by
  have hAh := PM.hid hA
  have hNh := PM.hid hN
  clear hA hN
  replace hv0 := PM.hid hv0
  replace hv1 := PM.hid hv1
  go_enter Try.func7, Try.ntmps7
  go_wp2_with fail
  refine (awake19_any w).mono ?_
  rintro e w1 ⟨rfl, hBn⟩
  have hBB := PM.hid hBn
  clear hBn
  go_wp2_with fail
  refine (few19_any 0 none 0 0 none 0 0 a0 A c0 a1 N c1 none 0 0 (.slice none 0 0) [] l [] [] w1 (PM.RR.nil _) (PM.EnL.keep hv1.out hBB.out) (PM.RR.nil _) (PM.RR.nil _)).mono ?_
  rintro e w2 ⟨hF, hBn⟩
  replace hBB := PM.hid (PM.chain hBB.out hBn)
  clear hBn
  rcases hF with ⟨rfl, hF1, -, -, -, hA50, -⟩ | rfl
  case inr =>
    go_wp2_with fail
    go_ret
    exact ⟨rfl, hBB.out⟩
  clear hF1
  by_cases h16 : N ≤ 16
  case neg =>
    have q : decide ((16 : Int) < (N : Int)) = true := by simp; omega
    have q' : (16 : Int) < (N : Int) := by omega
    go_wp2_with fail
    go_ret
    exact ⟨rfl, hBB.out⟩
  have q : decide ((16 : Int) < (N : Int)) = false := by simp; omega
  have q' : ¬ (16 : Int) < (N : Int) := by omega
  go_wp2_with fail
  clear q q'
  refine (told_any _ _ ab l w2 (hv0.out.keep hBB.out) (PM.EnL.keep hv1.out hBB.out)).mono ?_
  rintro e w3 ⟨u, rfl, hu, hBn⟩
  have hu6 := hu.em PM.idL_len
  have hB23 := PM.chain hBB.out hBn
  replace hv0 := PM.hid (hv0.out.keep hB23)
  replace hv1 := PM.hid (PM.EnL.keep hv1.out hB23)
  replace hBB := PM.hid hB23
  clear hBn hu hB23
  obtain ⟨tl, htl⟩ : ∃ t, t = PM.toldL ab l := ⟨_, rfl⟩
  rw [← htl] at hu6
  obtain ⟨a6, c6, rfl⟩ := hu6.len
  obtain ⟨T, hT⟩ : ∃ t, t = tl.length := ⟨_, rfl⟩
  rw [← hT] at hu6 ⊢
  have hTN : T ≤ N := by rw [hT, htl, hNh.out]; exact PM.told_len (by rw [← hNh.out]; exact h16)
  have hTh := PM.hid hT
  have htlh := PM.hid htl
  have hv6 := PM.hid hu6
  clear hT htl hu6
  go_wp2_with fail
  go_loopw [7] (fun i wr => ∃ k : Nat, i = .int .i64 k ∧ k ≤ N ∧ Hid (Below w3.heap.size w3 wr)) (fun i _ => N - (intOf i).toNat)
  case atStart => exact ⟨0, rfl, by omega, PM.hid (Below.refl _ _)⟩
  case round =>
    obtain ⟨k, rfl, hk, hin⟩ := hrel
    by_cases hlt : k < N
    · obtain ⟨z, hz⟩ : ∃ z, l[k]? = some z := ⟨l[k]'(by rw [← hNh.out]; exact hlt), List.getElem?_eq_getElem _⟩
      obtain ⟨b, off, rfl, hce⟩ := PM.RR.opn hv1.out (by rw [← hNh.out]; omega)
      obtain ⟨cs, hl0, hR⟩ := hce k z hz
      obtain ⟨fa, fc, ea, ec, hcs, -, -⟩ := PM.enR_open hR
      rw [hcs] at hl0
      have hzl := PM.hid hl0
      have hcn : Hid (PM.cnt tl z.id = if PM.hasI ab z.id = true then 1 else 0) := PM.hid (by rw [htlh.out]; exact PM.told_at (by rw [← hNh.out]; exact h16) hz)
      clear hce hl0 hR hcs cs hz
      go_wp2_with fail
      go_loopw [8, 9] (fun g j wr2 => ∃ J : Nat, j = .int .i64 J ∧ J ≤ A ∧ g = .bool (PM.hasI (ab.take J) z.id) ∧ Hid (Below w3.heap.size w3 wr2)) (fun _ j _ => A - (intOf j).toNat)
      case atStart => exact ⟨0, rfl, by omega, rfl, hin⟩
      case round =>
        obtain ⟨J, rfl, hJ, rfl, hin2⟩ := hrel
        have hB2 := hin2.out
        by_cases hJt : J < A
        · obtain ⟨y, hy⟩ : ∃ y, ab[J]? = some y := ⟨ab[J]'(by rw [← hAh.out]; omega), List.getElem?_eq_getElem _⟩
          obtain ⟨pb, po, pcap, hpe, -, -, hpl⟩ := PM.EM.open1 hv0.out (by rw [← hAh.out]; omega)
          have hyl := hpl J y hy
          injection hpe with hpa hpb hpc
          subst hpa
          clear hpb hpc hpl pcap
          replace hyl := hyl.keep hB2
          have e0 : wr.cell? ⟨pb, po + J * 3, none⟩ = some (.int .i64 y.br) := hyl 0 _ rfl
          have e1 : wr.cell? ⟨pb, po + J * 3 + 1, none⟩ = some (.int .u64 (y.life : Int)) := hyl 1 _ rfl
          have e2 : wr.cell? ⟨pb, po + J * 3 + 2, none⟩ = some (.int .u64 (y.ser : Int)) := hyl 2 _ rfl
          clear hyl
          have d0 : wr.cell? ⟨b, off + k * 8 + 1, none⟩ = some (.int .i64 z.id.br) := PM.cellA hB2 (hzl.out 1 _ rfl)
          have d1 : wr.cell? ⟨b, off + k * 8 + 2, none⟩ = some (.int .u64 (z.id.life : Int)) := PM.cellA hB2 (hzl.out 2 _ rfl)
          have d2 : wr.cell? ⟨b, off + k * 8 + 3, none⟩ = some (.int .u64 (z.id.ser : Int)) := PM.cellA hB2 (hzl.out 3 _ rfl)
          have q := ideq_run y z.id
          have hnx := PM.hid (PM.hasI_take (i := z.id) hy)
          have hyh := PM.hid hy
          clear hB2 hy
          generalize hgb : PM.hasI (ab.take J) z.id = gb at *
          generalize hcc : decide (y = z.id) = cc at *
          clear hgb
          cases gb
          case true =>
            go_wp2_with fail
            go_region
            all_goals (try go_wp2_with fail)
            all_goals exact ⟨⟨J + 1, by go_num, by omega, by rw [hnx.out]; simp, PM.hid hin2.out.drew⟩, by simp only [intOf]; omega⟩
          case false =>
            go_wp2_with fail
            go_region
            all_goals (try go_wp2_with fail)
            all_goals exact ⟨⟨J + 1, by go_num, by omega, by rw [hnx.out]; simp, PM.hid hin2.out.drew⟩, by simp only [intOf]; omega⟩
        · obtain rfl : J = A := by omega
          have h9 : ab.take J = ab := by rw [hAh.out]; exact List.take_length
          rw [h9]
          clear hB2 h9
          generalize hgb : PM.hasI ab z.id = gb at *
          have hgbh := PM.hid hgb
          clear hgb
          go_wp2_with fail
          go_loopw [10, 11] (fun g j wr2 => ∃ J : Nat, j = .int .i64 J ∧ J ≤ T ∧ g = .int .i64 (PM.cnt (tl.take J) z.id : Nat) ∧ Hid (Below w3.heap.size w3 wr2)) (fun _ j _ => T - (intOf j).toNat)
          case atStart => exact ⟨0, rfl, by omega, rfl, hin2⟩
          case round =>
            obtain ⟨J, rfl, hJ, rfl, hin2⟩ := hrel
            have hB2 := hin2.out
            by_cases hJt : J < T
            · obtain ⟨y, hy⟩ : ∃ y, tl[J]? = some y := ⟨tl[J]'(by rw [← hTh.out]; omega), List.getElem?_eq_getElem _⟩
              obtain ⟨pb, po, pcap, hpe, -, -, hpl⟩ := PM.EM.open1 hv6.out (by rw [← hTh.out]; omega)
              have hyl := hpl J y hy
              injection hpe with hpa hpb hpc
              subst hpa
              clear hpb hpc hpl pcap
              replace hyl := hyl.keep hB2
              have e0 : wr.cell? ⟨pb, po + J * 3, none⟩ = some (.int .i64 y.br) := hyl 0 _ rfl
              have e1 : wr.cell? ⟨pb, po + J * 3 + 1, none⟩ = some (.int .u64 (y.life : Int)) := hyl 1 _ rfl
              have e2 : wr.cell? ⟨pb, po + J * 3 + 2, none⟩ = some (.int .u64 (y.ser : Int)) := hyl 2 _ rfl
              clear hyl
              have d0 : wr.cell? ⟨b, off + k * 8 + 1, none⟩ = some (.int .i64 z.id.br) := PM.cellA hB2 (hzl.out 1 _ rfl)
              have d1 : wr.cell? ⟨b, off + k * 8 + 2, none⟩ = some (.int .u64 (z.id.life : Int)) := PM.cellA hB2 (hzl.out 2 _ rfl)
              have d2 : wr.cell? ⟨b, off + k * 8 + 3, none⟩ = some (.int .u64 (z.id.ser : Int)) := PM.cellA hB2 (hzl.out 3 _ rfl)
              have q := ideq_run y z.id
              have hnx := PM.hid (PM.cnt_take (i := z.id) hy)
              have hyh := PM.hid hy
              clear hB2 hy
              have hcl : PM.cnt (tl.take J) z.id ≤ J := by unfold PM.cnt; exact Nat.le_trans (List.length_filter_le _ _) (by rw [List.length_take]; omega)
              generalize PM.cnt (tl.take J) z.id = cn at *
              by_cases hc : y = z.id
              · rw [if_pos hc] at hnx
                rw [decide_eq_true hc] at q
                clear hc
                go_wp2_with fail
                go_region
                all_goals (try go_wp2_with fail)
                all_goals exact ⟨⟨J + 1, by go_num, by omega, by rw [hnx.out]; go_num, PM.hid hin2.out.drew⟩, by simp only [intOf]; omega⟩
              · rw [if_neg hc] at hnx
                rw [decide_eq_false hc] at q
                clear hc
                go_wp2_with fail
                go_region
                all_goals (try go_wp2_with fail)
                all_goals exact ⟨⟨J + 1, by go_num, by omega, by rw [hnx.out]; rfl, PM.hid hin2.out.drew⟩, by simp only [intOf]; omega⟩
            · obtain rfl : J = T := by omega
              have h9 : tl.take J = tl := by rw [hTh.out]; exact List.take_length
              rw [h9, hcn.out]
              clear hB2 h9
              cases gb
              case true =>
                go_wp2_with fail
                exact ⟨⟨k + 1, by go_num, by omega, hin2⟩, by simp only [intOf]; omega⟩
              case false =>
                go_wp2_with fail
                exact ⟨⟨k + 1, by go_num, by omega, hin2⟩, by simp only [intOf]; omega⟩
    · obtain rfl : k = N := by omega
      have q : decide ((T : Int) ≤ (k : Int)) = true := by simp; omega
      have q' : (T : Int) ≤ (k : Int) := by omega
      go_wp2_with fail
      go_ret
      exact ⟨by simp, PM.chain hBB.out hin.out⟩
theorem orderTold_walk (v0 : Value) (ab : List PM.Id) (v1 : Value) (l : List PM.En) (w : World) (hv0 : PM.EM PM.idL 3 w v0 ab) (hv1 : PM.EnL w v1 l) :
    Calls Try.prog 7 #[v0, v1] w fun e w' => e = .returned (.bool true) ∧ Below w.heap.size w w' := by
  obtain ⟨a0, c0, rfl⟩ := hv0.len
  obtain ⟨a1, c1, rfl⟩ := hv1.len
  exact orderTold_walkA a0 _ c0 a1 _ c1 ab l w rfl rfl hv0 hv1
theorem orderNames_walk (w : World) : Calls Try.prog 3 #[] w fun e w' => e = .returned (.bool true) ∧ Below w.heap.size w w' := by
  go_enter Try.func3, Try.ntmps3
  go_wp2_with fail
  refine (awake19_any w).mono ?_
  rintro e w1 ⟨rfl, hB⟩
  have hBB := PM.hid hB
  clear hB
  go_wp2_with fail
  go_ret
  exact ⟨rfl, hBB.out⟩
end Go.Proofs.Ytlijmmldfdmajaa
