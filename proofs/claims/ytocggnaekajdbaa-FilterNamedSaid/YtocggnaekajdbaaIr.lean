/-
  THE WALKS OF LAYER 5's STATEMENTS: named.
-/
import Derived.Test.YtocggnaekajdbaaIj
import Derived.Test.YtocggnaekajdbaaIh
import Derived.Test.YtocggnaekajdbaaIk
import Derived.Test.YtocggnaekajdbaaAm
import Derived.BigQuiet
namespace Go.Proofs.Ytocggnaekajdbaa
open Go.RowKit
set_option linter.unusedVariables false
namespace PM
/-- whether a filter names an attribute -/
def asked (l : List Te) (x : At) : Bool := l.any fun y => y.name.toList == x.name.toList
/-- whether an event has a name -/
def hasN (z : Te) (es : List At) : Bool := es.any fun x => x.name.toList == z.name.toList
theorem holdsB_named (l : List Te) (z : Te) (hz : z ∈ l) (es : List At) : holdsB z (es.filter (asked l)) = holdsB z es := by
  unfold holdsB
  rw [List.find?_filter]
  have : (fun a => asked l a && (a.name.toList == z.name.toList)) = fun a : At => a.name.toList == z.name.toList := by
    funext a
    cases h : a.name.toList == z.name.toList
    · simp
    · have : asked l a = true := by
        unfold asked
        rw [List.any_eq_true]
        exact ⟨z, hz, by simp only [beq_iff_eq] at h ⊢; exact h.symm⟩
      simp [this]
  first
    | rw [this]
    | (simp only [Bool.decide_and, Bool.decide_eq_true] at *; rw [this])
theorem matchB_named (l : List Te) (es : List At) : matchB l (es.filter (asked l)) = matchB l es := by
  unfold matchB
  rw [Bool.eq_iff_iff, List.all_eq_true, List.all_eq_true]
  exact ⟨fun h x hx => by rw [← holdsB_named l x hx]; exact h x hx, fun h x hx => by rw [holdsB_named l x hx]; exact h x hx⟩
theorem holdsB_none (z : Te) (es : List At) (h : hasN z es = false) : holdsB z es = false := by
  unfold holdsB
  have : es.find? (fun x => x.name.toList == z.name.toList) = none := by
    rw [List.find?_eq_none]
    intro x hx he
    unfold hasN at h
    rw [Bool.eq_false_iff] at h
    exact h (List.any_eq_true.2 ⟨x, hx, he⟩)
  rw [this]
theorem any_next {α : Type} (p : α → Bool) (l : List α) (k : Nat) (x : α) (h : l[k]? = some x) : (l.take (k + 1)).any p = ((l.take k).any p || p x) := by
  rw [List.take_add_one, h]
  simp
theorem filter_next {α : Type} (p : α → Bool) (l : List α) (k : Nat) (x : α) (h : l[k]? = some x) : (l.take (k + 1)).filter p = (l.take k).filter p ++ (if p x then [x] else []) := by
  rw [List.take_add_one, h, List.filter_append]
  cases hp : p x <;> simp [hp]
end PM
set_option maxRecDepth 100000 in
set_option maxHeartbeats 2000000 in
theorem filterNamed_walk (v : Value) (l : List PM.Te) (ev : Value) (es : List PM.At) (z : PM.Te) (hz : z.wf) (w : World) (hv : PM.TV w v l) (hw : ∀ x ∈ l, x.wf) (he : PM.EV w ev es) (hwe : ∀ x ∈ es, x.wf) :
    Calls Try.prog 8 #[v, ev, .agg #[.string z.name, .int .i64 z.op, .int .i64 z.k, .int .i64 z.n, .string z.s]] w fun e w' => e = .returned (.bool true) ∧ Below w.heap.size w w' := by
  clear hw hwe hz
  obtain ⟨va, vc, hve⟩ := hv.len
  subst hve
  obtain ⟨ea, ec, hee⟩ := he.em.len
  subst hee
  obtain ⟨g6, hg6⟩ : ∃ g, g = w.heap.size := ⟨_, rfl⟩
  obtain ⟨wa, hwa⟩ : ∃ W, W = w.alloc (.cells #[.string z.name, .int .i64 z.op, .int .i64 z.k, .int .i64 z.n, .string z.s] 30) := ⟨_, rfl⟩
  have hBa : Below w.heap.size w wa := by rw [hwa]; exact (Below.refl _ _).alloc (Nat.le_refl _) _
  have hk6 : PM.BK wa g6 #[.string z.name, .int .i64 z.op, .int .i64 z.k, .int .i64 z.n, .string z.s] 30 := by rw [hwa, hg6]; exact PM.BK.new _ _ _
  replace hv := hv.keep hBa
  replace he := he.keep hBa
  go_enter Try.func8, Try.ntmps8
  go_upto_region 1 with fail
  rw [← hwa, ← hg6]
  clear hwa hg6
  go_wp2_with fail
  refine (awake5 _).mono ?_
  rintro e w1 ⟨rfl, hB1⟩
  replace hv := hv.keep hB1
  replace he := he.keep hB1
  replace hk6 := hk6.keep hB1
  have hBB := PM.hid (PM.chain hBa hB1)
  clear hB1 hBa
  go_wp2_with fail
  refine (ffew_any _ l w1 hv).mono ?_
  rintro e w2 ⟨hF, rfl⟩
  rcases hF with ⟨rfl, hF⟩ | ⟨rfl, hF⟩
  case inr =>
    clear hF hv he hk6
    go_wp2_with fail
    go_ret
    exact ⟨rfl, hBB.out⟩
  have hl10 := hF.1
  clear hF
  have c0 : w2.cell? ⟨g6, 0, none⟩ = some (.string z.name) := hk6.cell 0
  have c1 : w2.cell? ⟨g6, 1, none⟩ = some (.int .i64 z.op) := hk6.cell 1
  have c2 : w2.cell? ⟨g6, 2, none⟩ = some (.int .i64 z.k) := hk6.cell 2
  have c3 : w2.cell? ⟨g6, 3, none⟩ = some (.int .i64 z.n) := hk6.cell 3
  have c4 : w2.cell? ⟨g6, 4, none⟩ = some (.string z.s) := hk6.cell 4
  go_wp2_with fail
  obtain ⟨gl, hgl⟩ : ∃ g, g = w2.heap.size := ⟨_, rfl⟩
  obtain ⟨w3, hw3⟩ : ∃ W, W = w2.alloc (.cells #[.string z.name, .int .i64 z.op, .int .i64 z.k, .int .i64 z.n, .string z.s] 30) := ⟨_, rfl⟩
  have hal : Below w2.heap.size w2 w3 := by rw [hw3]; exact (Below.refl _ _).alloc (Nat.le_refl _) _
  have hlit : PM.TV w3 (.slice (some ⟨gl, 0, none⟩) 1 1) [z] := by rw [hw3, hgl]; exact PM.EM.lit PM.teL_len w2 30 z
  rw [← hw3, ← hgl]
  replace hv := hv.keep hal
  replace he := he.keep hal
  replace hk6 := hk6.keep hal
  replace hBB := PM.hid (PM.chain hBB.out hal)
  clear hw3 hgl hal c0 c1 c2 c3 c4
  refine (ffew_any _ [z] w3 hlit).mono ?_
  rintro e w4 ⟨hF, rfl⟩
  clear hlit
  rcases hF with ⟨rfl, hF⟩ | ⟨rfl, hF⟩
  case inr =>
    clear hF hv he hk6
    go_wp2_with fail
    go_ret
    exact ⟨rfl, hBB.out⟩
  clear hF
  go_wp2_with fail
  refine (few_any _ es w4 he).mono ?_
  rintro e w5 ⟨hF, rfl⟩
  rcases hF with ⟨rfl, hF⟩ | ⟨rfl, hF⟩
  case inr =>
    clear hF hv he hk6
    go_wp2_with fail
    go_ret
    exact ⟨rfl, hBB.out⟩
  have hF20 := hF.1
  clear hF
  obtain ⟨L, hL⟩ : ∃ L, L = es.length := ⟨_, rfl⟩
  obtain ⟨M, hM⟩ : ∃ M, M = l.length := ⟨_, rfl⟩
  have hLh := PM.hid hL
  have hMh := PM.hid hM
  have hL20 : L ≤ 20 := by rw [hL]; exact hF20
  rw [← hM] at hl10
  have hin := PM.hid (And.intro hv (And.intro he hk6))
  rw [← hM, ← hL]
  clear hL hM hv he hk6 hF20
  go_wp2_with fail
  go_loopw [8, 9, 10] (fun o h i wr => ∃ k : Nat, i = .int .i64 k ∧ k ≤ L ∧ h = .bool (PM.hasN z (es.take k)) ∧ PM.OM PM.attL 4 50 w5.heap.size wr o ((es.take k).filter (PM.asked l)) ∧ Below w5.heap.size w5 wr) (fun _ _ i _ => L - (intOf i).toNat)
  case atStart => exact ⟨0, rfl, by omega, rfl, PM.OM.nilrow _, Below.refl _ _⟩
  case round =>
    obtain ⟨k, rfl, hk, rfl, hO, hBr⟩ := hrel
    by_cases hlt : k < L
    · obtain ⟨x, hx⟩ : ∃ x, es[k]? = some x := ⟨es[k]'(by rw [← hLh.out]; exact hlt), List.getElem?_eq_getElem _⟩
      obtain ⟨b, off, ecc, hee, _, _, hce⟩ := hin.out.2.1.em.open1 (by rw [← hLh.out]; omega)
      injection hee with hee1 hee2 hee3
      subst hee1
      clear hee2 hee3
      have x0 := hce k x hx 0 _ rfl
      have x1 := hce k x hx 1 _ rfl
      have x2 := hce k x hx 2 _ rfl
      have x3 := hce k x hx 3 _ rfl
      rw [Nat.add_zero] at x0
      have hxs := PM.hid (And.intro x0 (And.intro x1 (And.intro x2 (And.intro x3 hx))))
      have hin2 := PM.hid (And.intro hO hBr)
      have hfl := List.length_filter_le (PM.asked l) (es.take k)
      rw [List.length_take] at hfl
      clear hce x0 x1 x2 x3 hx hO hBr
      obtain ⟨wo, rfl⟩ : ∃ wo : World, wo = wr := ⟨_, rfl⟩
      generalize hHN : PM.hasN z (es.take k) = hn at *
      have hHNh := PM.hid hHN
      clear hHN
      go_wp2_with fail
      go_loopw [11, 12] (fun a j wi => ∃ m : Nat, j = .int .i64 m ∧ m ≤ M ∧ a = .bool (PM.asked (l.take m) x) ∧ Below wo.heap.size wo wi) (fun _ j _ => M - (intOf j).toNat)
      case atStart => exact ⟨0, rfl, by omega, rfl, Below.refl _ _⟩
      case round =>
        obtain ⟨m, rfl, hm, rfl, hBi⟩ := hrel
        by_cases hlm : m < M
        · obtain ⟨y, hy⟩ : ∃ y, l[m]? = some y := ⟨l[m]'(by rw [← hMh.out]; exact hlm), List.getElem?_eq_getElem _⟩
          obtain ⟨b', off', vcc, hvv, _, _, hcf⟩ := hin.out.1.open1 (by rw [← hMh.out]; omega)
          injection hvv with hvv1 hvv2 hvv3
          subst hvv1
          clear hvv2 hvv3
          have hBw := PM.chain hin2.out.2 hBi
          have d0 := PM.cellA hBw (hcf m y hy 0 _ rfl)
          rw [Nat.add_zero] at d0
          have e0 := PM.cellA hBw hxs.out.1
          have hBh := PM.hid hBi
          have hyh := PM.hid hy
          have hA := PM.hid (PM.any_next (fun y => y.name.toList == x.name.toList) l m y hy)
          clear hcf hBi hBw hy
          cases hq : PM.asked (l.take m) x
          · have hqh := PM.hid hq
            clear hq
            by_cases qn : y.name.toList = x.name.toList
            · go_wp2_with fail
              go_quiet (fail)
              go_wp2_with fail
              refine ⟨⟨m + 1, by go_num, by omega, ?_, PM.dN' hBh.out _⟩, by simp only [intOf]; omega⟩
              have := hA.out
              simp only [PM.asked] at hqh ⊢
              rw [this, hqh.out]
              first | (simp; done) | (simp [qn]; done)
            · go_wp2_with fail
              go_quiet (fail)
              go_wp2_with fail
              refine ⟨⟨m + 1, by go_num, by omega, ?_, PM.dN' hBh.out _⟩, by simp only [intOf]; omega⟩
              have := hA.out
              simp only [PM.asked] at hqh ⊢
              rw [this, hqh.out]
              first | (simp; done) | (simp [qn]; done)
          · have hqh := PM.hid hq
            clear hq d0 e0
            go_wp2_with fail
            go_quiet (fail)
            go_wp2_with fail
            refine ⟨⟨m + 1, by go_num, by omega, ?_, PM.dN' hBh.out _⟩, by simp only [intOf]; omega⟩
            have := hA.out
            simp only [PM.asked] at hqh ⊢
            rw [this, hqh.out]
            simp
        · have hmM : m = M := by omega
          subst hmM
          have hT : Hid (PM.asked (l.take m) x = PM.asked l x) := PM.hid (by rw [List.take_of_length_le (by rw [hMh.out]; exact Nat.le_refl _)])
          rw [hT.out]
          have hBw := PM.chain hin2.out.2 hBi
          have e0 := PM.cellA hBw hxs.out.1
          have e1 := PM.cellA hBw hxs.out.2.1
          have e2 := PM.cellA hBw hxs.out.2.2.1
          have e3 := PM.cellA hBw hxs.out.2.2.2.1
          have hFn := PM.hid (PM.filter_next (PM.asked l) es k x hxs.out.2.2.2.2)
          have hHn := PM.hid (PM.any_next (fun x => x.name.toList == z.name.toList) es k x hxs.out.2.2.2.2)
          have hOi := hin2.out.1.keep hBi
          have hk6 := hin.out.2.2.keep hBw
          have hBwh := PM.hid hBw
          have hc0 := PM.hid (hin.out.2.2.cell 0)
          clear hT
          cases hq : PM.asked l x
          · have hqh := PM.hid hq
            have c0 : wr.cell? ⟨g6, 0, none⟩ = some (.string z.name) := hk6.cell 0
            have b0 := e0
            have hOh := PM.hid hOi
            clear hq e0 e1 e2 e3 hk6 hOi hBw
            cases hn
            · by_cases qz : x.name.toList = z.name.toList
              · go_wp2_with fail
                go_quiet (fail)
                go_wp2_with fail
                refine ⟨⟨k + 1, by go_num, by omega, ?_, ?_, PM.dN' hBwh.out _⟩, by simp only [intOf]; omega⟩
                · have := hHn.out
                  simp only [PM.hasN] at hHNh ⊢
                  rw [this, hHNh.out]
                  first | (simp; done) | (simp [qz]; done)
                · rw [hFn.out, hqh.out]
                  refine PM.OM.keep (PM.dN' (Below.refl _ _) _) ?_
                  simpa using hOh.out
              · go_wp2_with fail
                go_quiet (fail)
                go_wp2_with fail
                refine ⟨⟨k + 1, by go_num, by omega, ?_, ?_, PM.dN' hBwh.out _⟩, by simp only [intOf]; omega⟩
                · have := hHn.out
                  simp only [PM.hasN] at hHNh ⊢
                  rw [this, hHNh.out]
                  first | (simp; done) | (simp [qz]; done)
                · rw [hFn.out, hqh.out]
                  refine PM.OM.keep (PM.dN' (Below.refl _ _) _) ?_
                  simpa using hOh.out
            · clear c0 b0
              have qz := True.intro
              go_wp2_with fail
              go_quiet (fail)
              go_wp2_with fail
              refine ⟨⟨k + 1, by go_num, by omega, ?_, ?_, PM.dN' hBwh.out _⟩, by simp only [intOf]; omega⟩
              · have := hHn.out
                simp only [PM.hasN] at hHNh ⊢
                rw [this, hHNh.out]
                first | (simp; done) | (simp [qz]; done)
              · rw [hFn.out, hqh.out]
                refine PM.OM.keep (PM.dN' (Below.refl _ _) _) ?_
                simpa using hOh.out
          · have hqh := PM.hid hq
            have hlen16 : (((es.take k).filter (PM.asked l)).length + 1) * 48 ≤ 140737488355328 := by omega
            have hlen17 : ((es.take k).filter (PM.asked l)).length + 1 ≤ maxLen := by unfold maxLen; omega
            have hzz := hBw.size
            clear hq
            go_wp2_with (first
              | (at_builtin; refine PM.wpList_em1 (e := PM.attL) attTy PM.attL_len PM.attL_one w5.heap.size wr rfl _ _ rfl _ ((es.take k).filter (PM.asked l)) x _ rfl rfl ?_ rfl hOi hlen16 hlen17 hzz ?_; rfl; intro v' w' t1 t2 t3 t4; have hE := PM.hid (And.intro t1 (hBwh.out.trans t2)); have c0 := PM.cellA hE.out.2 hc0.out; have b0 := PM.cellA hE.out.2 hxs.out.1; clear t1 t2 t3 t4 hOi e0 e1 e2 e3 hk6 hBw hzz))
            cases hn
            · by_cases qz : x.name.toList = z.name.toList
              · go_wp2_with fail
                go_quiet (fail)
                go_wp2_with fail
                refine ⟨⟨k + 1, by go_num, by omega, ?_, ?_, PM.dN' hE.out.2 _⟩, by simp only [intOf]; omega⟩
                · have := hHn.out
                  simp only [PM.hasN] at hHNh ⊢
                  rw [this, hHNh.out]
                  first | (simp; done) | (simp [qz]; done)
                · rw [hFn.out, hqh.out]
                  refine PM.OM.keep (PM.dN' (Below.refl _ _) _) ?_
                  simpa using hE.out.1
              · go_wp2_with fail
                go_quiet (fail)
                go_wp2_with fail
                refine ⟨⟨k + 1, by go_num, by omega, ?_, ?_, PM.dN' hE.out.2 _⟩, by simp only [intOf]; omega⟩
                · have := hHn.out
                  simp only [PM.hasN] at hHNh ⊢
                  rw [this, hHNh.out]
                  first | (simp; done) | (simp [qz]; done)
                · rw [hFn.out, hqh.out]
                  refine PM.OM.keep (PM.dN' (Below.refl _ _) _) ?_
                  simpa using hE.out.1
            · clear c0 b0
              have qz := True.intro
              go_wp2_with fail
              go_quiet (fail)
              go_wp2_with fail
              refine ⟨⟨k + 1, by go_num, by omega, ?_, ?_, PM.dN' hE.out.2 _⟩, by simp only [intOf]; omega⟩
              · have := hHn.out
                simp only [PM.hasN] at hHNh ⊢
                rw [this, hHNh.out]
                first | (simp; done) | (simp [qz]; done)
              · rw [hFn.out, hqh.out]
                refine PM.OM.keep (PM.dN' (Below.refl _ _) _) ?_
                simpa using hE.out.1
    · have hkL : k = L := by omega
      subst hkL
      have hT : Hid (es.take k = es) := PM.hid (List.take_of_length_le (by rw [hLh.out]; exact Nat.le_refl _))
      rw [hT.out] at hO ⊢
      have hS := (hO.em PM.attL_len).ev
      have hv := hin.out.1.keep hBr
      have he := hin.out.2.1.keep hBr
      have hk6 := hin.out.2.2.keep hBr
      have hBB2 := PM.hid (PM.chain hBB.out hBr)
      rw [← hMh.out] at hv
      rw [← hLh.out] at he
      have f1 := PM.hid (PM.matchB_named l es)
      have f2 := PM.hid (PM.holdsB_none z es)
      generalize hHN : PM.hasN z es = hn at *
      clear hHN hO hBr hT hlt hk
      have hd : decide ((k : Int) < (k : Int)) = false := by simp
      go_wp2_with fail
      refine (matches_any _ l _ _ wr hv hS).mono ?_
      rw [f1.out]
      rintro e w9 ⟨rfl, hB9⟩
      replace hv := hv.keep hB9
      replace he := he.keep hB9
      replace hk6 := hk6.keep hB9
      replace hBB2 := PM.hid (PM.chain hBB2.out hB9)
      clear hB9 hS f1
      go_wp2_with fail
      refine (matches_any _ l _ es w9 hv he).mono ?_
      rintro e w10 ⟨rfl, hB10⟩
      replace he := he.keep hB10
      replace hk6 := hk6.keep hB10
      replace hBB2 := PM.hid (PM.chain hBB2.out hB10)
      clear hB10 hv
      have d0 : w10.cell? ⟨g6, 0, none⟩ = some (.string z.name) := hk6.cell 0
      have d1 : w10.cell? ⟨g6, 1, none⟩ = some (.int .i64 z.op) := hk6.cell 1
      have d2 : w10.cell? ⟨g6, 2, none⟩ = some (.int .i64 z.k) := hk6.cell 2
      have d3 : w10.cell? ⟨g6, 3, none⟩ = some (.int .i64 z.n) := hk6.cell 3
      have d4 : w10.cell? ⟨g6, 4, none⟩ = some (.string z.s) := hk6.cell 4
      generalize PM.matchB l es = B
      cases hn with
      | true =>
        clear d0 d1 d2 d3 d4 hk6 he f2
        go_wp2_with fail
        go_ret
        exact ⟨by simp, hBB2.out⟩
      | false =>
        have hh := PM.hid (f2.out rfl)
        clear f2
        go_wp2_with fail
        refine (holds_any z _ es w10 he).mono ?_
        rw [hh.out]
        rintro e w11 ⟨rfl, hB11⟩
        replace hBB2 := PM.hid (PM.chain hBB2.out hB11)
        clear hB11 d0 d1 d2 d3 d4 hk6 he
        go_wp2_with fail
        go_ret
        exact ⟨by simp, hBB2.out⟩
end Go.Proofs.Ytocggnaekajdbaa
