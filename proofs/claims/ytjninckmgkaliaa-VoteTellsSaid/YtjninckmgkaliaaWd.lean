/-
  CONTRACTS OF postilionlaw11.Few, postilionlaw13.few, Few, postilionlaw18.few.
-/
import Derived.Test.YtjninckmgkaliaaVk
import Derived.Test.YtjninckmgkaliaaIC
namespace Go.Proofs.Ytjninckmgkaliaa
open Go.RowKit
set_option linter.unusedVariables false
set_option linter.unusedSimpArgs false
namespace PM
def FewEn (x : En) : Prop := x.evs.length ≤ 10 ∧ (∀ e ∈ x.evs, Few e) ∧ FFew x.fil
def FewL (l : List En) : Prop := l.length ≤ 20 ∧ ∀ x ∈ l, FewEn x
def FewMs (m : Ms) : Prop := FewL m.asks ∧ FewL m.entries ∧ FewL m.prepares ∧ m.votes.length ≤ 50 ∧ m.aborts.length ≤ 50 ∧ m.ends.length ≤ 50
theorem FewEn.enS {x : En} (h : FewEn x) : EnS x := ⟨by have := h.2.2.1; omega, by have := h.1; omega, fun e he => by have := (h.2.1 e he).1; omega⟩
theorem FewL.ensS {l : List En} (h : FewL l) : EnsS l := ⟨by have := h.1; omega, fun x hx => (h.2 x hx).enS⟩
end PM
set_option maxRecDepth 100000 in
set_option maxHeartbeats 2000000 in
theorem few11s_any (x : PM.En) (fv ev : Value) (w : World) (hf : PM.TV w fv x.fil) (he : PM.EVL w ev x.evs) :
    Calls Try.prog 54 #[.agg (PM.enC x fv ev).toArray] w fun e w' => (e = .returned (.bool true) ∧ PM.FewEn x ∨ e = .returned (.bool false)) ∧ Below w.heap.size w w' := by
  obtain ⟨ea, ec, hee⟩ := he.len
  subst hee
  obtain ⟨fa, fc, hfe⟩ := hf.len
  subst hfe
  have hbe := he.bound
  unfold maxLen at hbe
  obtain ⟨Q, hQ⟩ : ∃ Q : Prop, Q = PM.FewEn x := ⟨_, rfl⟩
  rw [← hQ]
  have hQh := PM.hid hQ
  clear hQ
  obtain ⟨kd, ⟨ib, il, is⟩, cl, sub, fil, evs⟩ := x
  unfold PM.enC
  simp only at hf he hbe ⊢
  obtain ⟨L, hL⟩ : ∃ F, F = evs.length := ⟨_, rfl⟩
  obtain ⟨F, hF⟩ : ∃ F, F = fil.length := ⟨_, rfl⟩
  rw [← hL] at he hbe ⊢
  rw [← hF] at hf ⊢
  have hLh := PM.hid hL
  clear hL hF
  obtain ⟨g, hg⟩ : ∃ g, g = w.heap.size := ⟨_, rfl⟩
  obtain ⟨w1, hw1⟩ : ∃ W, W = w.alloc (.cells #[.int .i64 kd, .int .i64 ib, .int .u64 (il : Int), .int .u64 (is : Int), .int .i64 cl, .int .u64 (sub : Int), .slice fa F fc, .slice ea L ec] 50) := ⟨_, rfl⟩
  have hal : Below w.heap.size w w1 := by rw [hw1]; exact (Below.refl _ _).alloc (Nat.le_refl _) _
  have kg : PM.BK w1 g #[.int .i64 kd, .int .i64 ib, .int .u64 (il : Int), .int .u64 (is : Int), .int .i64 cl, .int .u64 (sub : Int), .slice fa F fc, .slice ea L ec] 50 := by rw [hw1, hg]; exact PM.BK.new _ _ _
  replace hf := PM.hid (hf.keep hal)
  replace he := PM.hid (he.keep hal)
  have hB := PM.hid hal
  clear hal
  have c6 : w1.cell? ⟨g, 6, none⟩ = some (.slice fa F fc) := kg.cell 6
  have c7 : w1.cell? ⟨g, 7, none⟩ = some (.slice ea L ec) := kg.cell 7
  by_cases hbig : 10 < L
  · have hb : (10 : Int) < (L : Int) := by omega
    go_enter Try.func54, Try.ntmps54
    go_upto_region 1 with fail
    rw [← hw1, ← hg]
    clear hw1 hg kg
    go_wp2_with fail
    go_ret
    exact ⟨.inr rfl, hB.out⟩
  have hb : ¬ (10 : Int) < (L : Int) := by omega
  go_enter Try.func54, Try.ntmps54
  go_upto_region 1 with fail
  rw [← hw1, ← hg]
  clear hw1 hg kg
  go_wp2_with fail
  go_loopw [3] (fun i wr => ∃ k : Nat, i = .int .i64 k ∧ k ≤ L ∧ wr = w1 ∧ ∀ j e, j < k → evs[j]? = some e → PM.Few e) (fun i _ => L - (intOf i).toNat)
  case atStart => exact ⟨0, rfl, by omega, rfl, fun j e hj => absurd hj (by omega)⟩
  case round =>
    obtain ⟨k, rfl, hk, rfl, hall⟩ := hrel
    replace hall := PM.hid hall
    by_cases hlt : k < L
    · obtain ⟨x, hx⟩ : ∃ x, evs[k]? = some x := ⟨evs[k]'(by rw [← hLh.out]; exact hlt), List.getElem?_eq_getElem _⟩
      obtain ⟨b, off, rfl, hce⟩ := PM.RR.opn he.out (by rw [← hLh.out]; omega)
      obtain ⟨cs, hl0, xv, hcs, hxv⟩ := hce k x hx
      have c0 := hl0 0 xv (by rw [hcs]; rfl)
      rw [Nat.mul_one, Nat.add_zero] at c0
      have hfw := few_any xv x wr hxv
      have hxh := PM.hid hx
      clear hx hce hl0 hcs hxv cs
      go_wp2_with fail
      refine hfw.mono ?_
      clear hfw c0
      rintro e W5 ⟨hF, rfl⟩
      rcases hF with ⟨rfl, hF⟩ | ⟨rfl, hF⟩
      · replace hF := PM.hid hF
        go_wp2_with fail
        refine ⟨⟨k + 1, by go_num, by omega, by first | rfl | trivial, fun j e hj hje => ?_⟩, by simp only [intOf]; omega⟩
        by_cases hjk : j < k
        · exact hall.out j e hjk hje
        · obtain rfl : j = k := by omega
          rw [hxh.out] at hje
          cases hje
          exact hF.out
      · clear hF
        go_wp2_with fail
        go_ret
        exact ⟨.inr rfl, hB.out⟩
    · obtain rfl : k = L := by omega
      go_wp2_with fail
      refine (ffew_any _ fil wr hf.out).mono ?_
      rintro e W5 ⟨hF, rfl⟩
      rcases hF with ⟨rfl, hF⟩ | ⟨rfl, hF⟩
      · replace hF := PM.hid hF
        go_wp2_with fail
        go_ret
        refine ⟨.inl ⟨rfl, ?_⟩, hB.out⟩
        rw [hQh.out]
        refine ⟨by simp only; rw [← hLh.out]; omega, fun e he => ?_, hF.out⟩
        obtain ⟨j, hj⟩ := List.mem_iff_getElem?.1 he
        exact hall.out j e (by rw [hLh.out]; exact (List.getElem?_eq_some_iff.1 hj).1) hj
      · clear hF
        go_wp2_with fail
        go_ret
        exact ⟨.inr rfl, hB.out⟩
set_option maxHeartbeats 2000000 in
theorem few13l_any (v : Value) (l : List PM.En) (w : World) (hv : PM.EnL w v l) :
    Calls Try.prog 43 #[v] w fun e w' => (e = .returned (.bool true) ∧ PM.FewL l ∨ e = .returned (.bool false)) ∧ Below w.heap.size w w' := by
  have hmax := hv.bound
  unfold maxLen at hmax
  obtain ⟨va, vc, rfl⟩ := hv.len
  obtain ⟨N, hN⟩ : ∃ N, N = l.length := ⟨_, rfl⟩
  have hNh := PM.hid hN
  rw [← hN] at hv hmax ⊢
  have hvh := PM.hid hv
  clear hN hv
  go_enter Try.func43, Try.ntmps43
  by_cases hbig : 20 < N
  · have hb : (20 : Int) < (N : Int) := by omega
    go_wp2_with fail
    go_ret
    exact ⟨.inr rfl, Below.refl _ _⟩
  have hb : ¬ (20 : Int) < (N : Int) := by omega
  go_wp2_with fail
  go_loopw [3] (fun i wr => ∃ k : Nat, i = .int .i64 k ∧ k ≤ N ∧ Hid ((∀ j e, j < k → l[j]? = some e → PM.FewEn e) ∧ Below w.heap.size w wr)) (fun i _ => N - (intOf i).toNat)
  case atStart => exact ⟨0, rfl, by omega, PM.hid ⟨fun j e hj => absurd hj (by omega), Below.refl _ _⟩⟩
  case round =>
    obtain ⟨k, rfl, hk, hin⟩ := hrel
    by_cases hlt : k < N
    · obtain ⟨z, hz⟩ : ∃ z, l[k]? = some z := ⟨l[k]'(by rw [← hNh.out]; exact hlt), List.getElem?_eq_getElem _⟩
      obtain ⟨b, off, rfl, hce⟩ := PM.RR.opn hvh.out (by rw [← hNh.out]; omega)
      obtain ⟨cs, hl0, hR⟩ := hce k z hz
      obtain ⟨fa, fc, ea, ec, hcs, hzf, hze⟩ := PM.enR_open hR
      replace hl0 := hl0.keep hin.out.2
      rw [hcs] at hl0
      have d0 : wr.cell? ⟨b, off + k * 8, none⟩ = some (.int .i64 z.kind) := hl0 0 _ rfl
      have d1 : wr.cell? ⟨b, off + k * 8 + 1, none⟩ = some (.int .i64 z.id.br) := hl0 1 _ rfl
      have d2 : wr.cell? ⟨b, off + k * 8 + 2, none⟩ = some (.int .u64 (z.id.life : Int)) := hl0 2 _ rfl
      have d3 : wr.cell? ⟨b, off + k * 8 + 3, none⟩ = some (.int .u64 (z.id.ser : Int)) := hl0 3 _ rfl
      have d4 : wr.cell? ⟨b, off + k * 8 + 4, none⟩ = some (.int .i64 z.client) := hl0 4 _ rfl
      have d5 : wr.cell? ⟨b, off + k * 8 + 5, none⟩ = some (.int .u64 (z.sub : Int)) := hl0 5 _ rfl
      have d6 : wr.cell? ⟨b, off + k * 8 + 6, none⟩ = some (.slice fa z.fil.length fc) := hl0 6 _ rfl
      have d7 : wr.cell? ⟨b, off + k * 8 + 7, none⟩ = some (.slice ea z.evs.length ec) := hl0 7 _ rfl
      have hfw := few11s_any z _ _ wr (hzf.keep hin.out.2) (PM.RR.keep PM.evR_lasts hin.out.2 hze)
      have hzh := PM.hid hz
      unfold PM.enC at hfw
      clear hz hce hl0 hR hcs cs hzf hze
      generalize z.fil.length = zF at *
      generalize z.evs.length = zE at *
      go_wp2_with fail
      refine hfw.mono ?_
      clear hfw d0 d1 d2 d3 d4 d5 d6 d7
      rintro e w5 ⟨hF, hBn⟩
      have hBw := PM.hid (PM.chain hin.out.2 hBn)
      clear hBn
      rcases hF with ⟨rfl, hF⟩ | rfl
      · replace hF := PM.hid hF
        go_wp2_with fail
        refine ⟨⟨k + 1, by go_num, by omega, PM.hid ⟨fun j e hj hje => ?_, hBw.out⟩⟩, by simp only [intOf]; omega⟩
        by_cases hjk : j < k
        · exact hin.out.1 j e hjk hje
        · obtain rfl : j = k := by omega
          rw [hzh.out] at hje
          cases hje
          exact hF.out
      · go_wp2_with fail
        go_ret
        exact ⟨.inr rfl, hBw.out⟩
    · obtain rfl : k = N := by omega
      go_wp2_with fail
      go_ret
      refine ⟨.inl ⟨rfl, by rw [← hNh.out]; omega, fun e he => ?_⟩, hin.out.2⟩
      obtain ⟨j, hj⟩ := List.mem_iff_getElem?.1 he
      exact hin.out.1 j e (by rw [hNh.out]; exact (List.getElem?_eq_some_iff.1 hj).1) hj
set_option maxRecDepth 100000 in
set_option maxHeartbeats 4000000 in
theorem fewM_any (mk : Int) (mh : Nat) (ma0 : Option Addr) (mn0 mc0 : Nat) (ma1 : Option Addr) (mn1 mc1 : Nat) (ma2 : Option Addr) (mn2 mc2 : Nat) (ma3 : Option Addr) (mn3 mc3 : Nat) (ma4 : Option Addr) (mn4 mc4 : Nat) (ma5 : Option Addr) (mn5 mc5 : Nat) (aks es ps : List PM.En) (w : World) (h1 : PM.EnL w (.slice ma1 mn1 mc1) aks) (h2 : PM.EnL w (.slice ma2 mn2 mc2) es) (h3 : PM.EnL w (.slice ma3 mn3 mc3) ps) :
    Calls Try.prog 25 #[.agg #[.int .i64 mk, .int .u64 (mh : Int), .slice ma0 mn0 mc0, .slice ma1 mn1 mc1, .slice ma2 mn2 mc2, .slice ma3 mn3 mc3, .slice ma4 mn4 mc4, .slice ma5 mn5 mc5]] w fun e w' => (e = .returned (.bool true) ∧ (PM.FewL aks ∧ PM.FewL es ∧ PM.FewL ps ∧ mn0 ≤ 50 ∧ mn4 ≤ 50 ∧ mn5 ≤ 50) ∨ e = .returned (.bool false)) ∧ Below w.heap.size w w' := by
  obtain ⟨gm, hgm⟩ : ∃ g, g = w.heap.size := ⟨_, rfl⟩
  obtain ⟨w1, hw1⟩ : ∃ W, W = w.alloc (.cells #[.int .i64 mk, .int .u64 (mh : Int), .slice ma0 mn0 mc0, .slice ma1 mn1 mc1, .slice ma2 mn2 mc2, .slice ma3 mn3 mc3, .slice ma4 mn4 mc4, .slice ma5 mn5 mc5] 41) := ⟨_, rfl⟩
  have hal : Below w.heap.size w w1 := by rw [hw1]; exact (Below.refl _ _).alloc (Nat.le_refl _) _
  have km : PM.BK w1 gm #[.int .i64 mk, .int .u64 (mh : Int), .slice ma0 mn0 mc0, .slice ma1 mn1 mc1, .slice ma2 mn2 mc2, .slice ma3 mn3 mc3, .slice ma4 mn4 mc4, .slice ma5 mn5 mc5] 41 := by rw [hw1, hgm]; exact PM.BK.new _ _ _
  have f1 := PM.hid fun (W : World) (hb : Below w.heap.size w W) => few13l_any _ aks W (PM.EnL.keep h1 hb)
  have f2 := PM.hid fun (W : World) (hb : Below w.heap.size w W) => few13l_any _ es W (PM.EnL.keep h2 hb)
  have f3 := PM.hid fun (W : World) (hb : Below w.heap.size w W) => few13l_any _ ps W (PM.EnL.keep h3 hb)
  have hBB := PM.hid hal
  clear hal h1 h2 h3
  go_enter Try.func25, Try.ntmps25
  go_upto_region 1 with fail
  rw [← hw1, ← hgm]
  clear hw1 hgm
  have m0 : w1.cell? ⟨gm, 0, none⟩ = some (.int .i64 mk) := km.cell 0
  have m1 : w1.cell? ⟨gm, 1, none⟩ = some (.int .u64 (mh : Int)) := km.cell 1
  have m2 : w1.cell? ⟨gm, 2, none⟩ = some (.slice ma0 mn0 mc0) := km.cell 2
  have m3 : w1.cell? ⟨gm, 3, none⟩ = some (.slice ma1 mn1 mc1) := km.cell 3
  have m4 : w1.cell? ⟨gm, 4, none⟩ = some (.slice ma2 mn2 mc2) := km.cell 4
  have m5 : w1.cell? ⟨gm, 5, none⟩ = some (.slice ma3 mn3 mc3) := km.cell 5
  have m6 : w1.cell? ⟨gm, 6, none⟩ = some (.slice ma4 mn4 mc4) := km.cell 6
  have m7 : w1.cell? ⟨gm, 7, none⟩ = some (.slice ma5 mn5 mc5) := km.cell 7
  go_wp2_with fail
  refine (f1.out w1 hBB.out).mono ?_
  rintro e w2 ⟨hF, hBn⟩
  clear m0 m1 m2 m3 m4 m5 m6 m7
  replace km := km.keep hBn
  replace hBB := PM.hid (PM.chain hBB.out hBn)
  clear hBn
  obtain ⟨b1, rfl, q1⟩ : ∃ b : Bool, e = .returned (.bool b) ∧ Hid (b = true → PM.FewL aks) := by
    rcases hF with ⟨rfl, hF⟩ | rfl
    · exact ⟨true, rfl, PM.hid fun _ => hF⟩
    · exact ⟨false, rfl, PM.hid fun h => by cases h⟩
  clear hF
  have m0 : w2.cell? ⟨gm, 0, none⟩ = some (.int .i64 mk) := km.cell 0
  have m1 : w2.cell? ⟨gm, 1, none⟩ = some (.int .u64 (mh : Int)) := km.cell 1
  have m2 : w2.cell? ⟨gm, 2, none⟩ = some (.slice ma0 mn0 mc0) := km.cell 2
  have m3 : w2.cell? ⟨gm, 3, none⟩ = some (.slice ma1 mn1 mc1) := km.cell 3
  have m4 : w2.cell? ⟨gm, 4, none⟩ = some (.slice ma2 mn2 mc2) := km.cell 4
  have m5 : w2.cell? ⟨gm, 5, none⟩ = some (.slice ma3 mn3 mc3) := km.cell 5
  have m6 : w2.cell? ⟨gm, 6, none⟩ = some (.slice ma4 mn4 mc4) := km.cell 6
  have m7 : w2.cell? ⟨gm, 7, none⟩ = some (.slice ma5 mn5 mc5) := km.cell 7
  go_wp2_with fail
  refine (f2.out w2 hBB.out).mono ?_
  rintro e w3 ⟨hF, hBn⟩
  clear m0 m1 m2 m3 m4 m5 m6 m7
  replace km := km.keep hBn
  replace hBB := PM.hid (PM.chain hBB.out hBn)
  clear hBn
  obtain ⟨b2, rfl, q2⟩ : ∃ b : Bool, e = .returned (.bool b) ∧ Hid (b = true → PM.FewL es) := by
    rcases hF with ⟨rfl, hF⟩ | rfl
    · exact ⟨true, rfl, PM.hid fun _ => hF⟩
    · exact ⟨false, rfl, PM.hid fun h => by cases h⟩
  clear hF
  have m0 : w3.cell? ⟨gm, 0, none⟩ = some (.int .i64 mk) := km.cell 0
  have m1 : w3.cell? ⟨gm, 1, none⟩ = some (.int .u64 (mh : Int)) := km.cell 1
  have m2 : w3.cell? ⟨gm, 2, none⟩ = some (.slice ma0 mn0 mc0) := km.cell 2
  have m3 : w3.cell? ⟨gm, 3, none⟩ = some (.slice ma1 mn1 mc1) := km.cell 3
  have m4 : w3.cell? ⟨gm, 4, none⟩ = some (.slice ma2 mn2 mc2) := km.cell 4
  have m5 : w3.cell? ⟨gm, 5, none⟩ = some (.slice ma3 mn3 mc3) := km.cell 5
  have m6 : w3.cell? ⟨gm, 6, none⟩ = some (.slice ma4 mn4 mc4) := km.cell 6
  have m7 : w3.cell? ⟨gm, 7, none⟩ = some (.slice ma5 mn5 mc5) := km.cell 7
  go_wp2_with fail
  refine (f3.out w3 hBB.out).mono ?_
  rintro e w4 ⟨hF, hBn⟩
  clear m0 m1 m2 m3 m4 m5 m6 m7
  replace km := km.keep hBn
  replace hBB := PM.hid (PM.chain hBB.out hBn)
  clear hBn
  obtain ⟨b3, rfl, q3⟩ : ∃ b : Bool, e = .returned (.bool b) ∧ Hid (b = true → PM.FewL ps) := by
    rcases hF with ⟨rfl, hF⟩ | rfl
    · exact ⟨true, rfl, PM.hid fun _ => hF⟩
    · exact ⟨false, rfl, PM.hid fun h => by cases h⟩
  clear hF
  have m0 : w4.cell? ⟨gm, 0, none⟩ = some (.int .i64 mk) := km.cell 0
  have m1 : w4.cell? ⟨gm, 1, none⟩ = some (.int .u64 (mh : Int)) := km.cell 1
  have m2 : w4.cell? ⟨gm, 2, none⟩ = some (.slice ma0 mn0 mc0) := km.cell 2
  have m3 : w4.cell? ⟨gm, 3, none⟩ = some (.slice ma1 mn1 mc1) := km.cell 3
  have m4 : w4.cell? ⟨gm, 4, none⟩ = some (.slice ma2 mn2 mc2) := km.cell 4
  have m5 : w4.cell? ⟨gm, 5, none⟩ = some (.slice ma3 mn3 mc3) := km.cell 5
  have m6 : w4.cell? ⟨gm, 6, none⟩ = some (.slice ma4 mn4 mc4) := km.cell 6
  have m7 : w4.cell? ⟨gm, 7, none⟩ = some (.slice ma5 mn5 mc5) := km.cell 7
  clear km
  cases b1
  case false =>
    go_wp2_with fail
    go_ret
    exact ⟨.inr rfl, hBB.out⟩
  cases b2
  case false =>
    go_wp2_with fail
    go_ret
    exact ⟨.inr rfl, hBB.out⟩
  cases b3
  case false =>
    go_wp2_with fail
    go_ret
    exact ⟨.inr rfl, hBB.out⟩
  by_cases l0 : mn0 ≤ 50
  case neg =>
    have l0' : decide ((mn0 : Int) ≤ 50) = false := by simp; omega
    have l0'' : ¬ ((mn0 : Int) ≤ 50) := by omega
    go_wp2_with fail
    go_ret
    exact ⟨.inr rfl, hBB.out⟩
  have l0' : decide ((mn0 : Int) ≤ 50) = true := by simp; omega
  have l0'' : ((mn0 : Int) ≤ 50) := by omega
  by_cases l4 : mn4 ≤ 50
  case neg =>
    have l4' : decide ((mn4 : Int) ≤ 50) = false := by simp; omega
    have l4'' : ¬ ((mn4 : Int) ≤ 50) := by omega
    go_wp2_with fail
    go_ret
    exact ⟨.inr rfl, hBB.out⟩
  have l4' : decide ((mn4 : Int) ≤ 50) = true := by simp; omega
  have l4'' : ((mn4 : Int) ≤ 50) := by omega
  by_cases l5 : mn5 ≤ 50
  case neg =>
    have l5' : decide ((mn5 : Int) ≤ 50) = false := by simp; omega
    have l5'' : ¬ ((mn5 : Int) ≤ 50) := by omega
    go_wp2_with fail
    go_ret
    exact ⟨.inr rfl, hBB.out⟩
  have l5' : decide ((mn5 : Int) ≤ 50) = true := by simp; omega
  have l5'' : ((mn5 : Int) ≤ 50) := by omega
  go_wp2_with fail
  go_ret
  exact ⟨.inl ⟨rfl, q1.out (by simp), q2.out (by simp), q3.out (by simp), l0, l4, l5⟩, hBB.out⟩
set_option maxRecDepth 100000 in
set_option maxHeartbeats 8000000 in
theorem few18_any (lf : Nat) (a0 : Option Addr) (n0 c0 : Nat) (a1 : Option Addr) (n1 c1 : Nat) (a2 : Option Addr) (n2 c2 : Nat) (v : Value) (ls ps : List PM.En) (ks : List PM.Ms) (w : World) (h0 : PM.EnL w (.slice a0 n0 c0) ls) (h1 : PM.EnL w (.slice a1 n1 c1) ps) (h2 : PM.MsL w v ks) :
    Calls Try.prog 10 #[.agg #[.int .u64 (lf : Int), .slice a0 n0 c0, .slice a1 n1 c1, .slice a2 n2 c2], v] w fun e w' => (e = .returned (.bool true) ∧ (PM.FewL ls ∧ PM.FewL ps ∧ n2 ≤ 50 ∧ ks.length ≤ 6 ∧ ∀ m ∈ ks, PM.FewMs m) ∨ e = .returned (.bool false)) ∧ Below w.heap.size w w' := by
  have hmax := h2.bound
  unfold maxLen at hmax
  obtain ⟨va, vc, rfl⟩ := h2.len
  obtain ⟨N, hN⟩ : ∃ N, N = ks.length := ⟨_, rfl⟩
  have hNh := PM.hid hN
  rw [← hN] at h2 hmax ⊢
  obtain ⟨g, hg⟩ : ∃ g, g = w.heap.size := ⟨_, rfl⟩
  obtain ⟨w1, hw1⟩ : ∃ W, W = w.alloc (.cells #[.int .u64 (lf : Int), .slice a0 n0 c0, .slice a1 n1 c1, .slice a2 n2 c2] 27) := ⟨_, rfl⟩
  have hal : Below w.heap.size w w1 := by rw [hw1]; exact (Below.refl _ _).alloc (Nat.le_refl _) _
  have kg : PM.BK w1 g #[.int .u64 (lf : Int), .slice a0 n0 c0, .slice a1 n1 c1, .slice a2 n2 c2] 27 := by rw [hw1, hg]; exact PM.BK.new _ _ _
  have hfm := fewM_any 0 0 none 0 0 none 0 0 a0 n0 c0 a1 n1 c1 none 0 0 none 0 0 [] ls ps w1 (PM.RR.nil _) (PM.EnL.keep h0 hal) (PM.EnL.keep h1 hal)
  have hvh := PM.hid h2
  have hBB := PM.hid hal
  clear hal h0 h1 h2 hN
  go_enter Try.func10, Try.ntmps10
  go_upto_region 1 with fail
  rw [← hw1, ← hg]
  clear hw1 hg
  have s0 : w1.cell? ⟨g, 0, none⟩ = some (.int .u64 (lf : Int)) := kg.cell 0
  have s1 : w1.cell? ⟨g, 1, none⟩ = some (.slice a0 n0 c0) := kg.cell 1
  have s2 : w1.cell? ⟨g, 2, none⟩ = some (.slice a1 n1 c1) := kg.cell 2
  have s3 : w1.cell? ⟨g, 3, none⟩ = some (.slice a2 n2 c2) := kg.cell 3
  go_wp2_with fail
  refine hfm.mono ?_
  rintro e w2 ⟨hF, hBn⟩
  clear hfm s0 s1 s2 s3
  replace kg := kg.keep hBn
  replace hBB := PM.hid (PM.chain hBB.out hBn)
  clear hBn
  rcases hF with ⟨rfl, -, hF1, hF2, -⟩ | rfl
  case inr =>
    clear kg
    go_wp2_with fail
    go_ret
    exact ⟨.inr rfl, hBB.out⟩
  replace hF1 := PM.hid hF1
  replace hF2 := PM.hid hF2
  have s0 : w2.cell? ⟨g, 0, none⟩ = some (.int .u64 (lf : Int)) := kg.cell 0
  have s1 : w2.cell? ⟨g, 1, none⟩ = some (.slice a0 n0 c0) := kg.cell 1
  have s2 : w2.cell? ⟨g, 2, none⟩ = some (.slice a1 n1 c1) := kg.cell 2
  have s3 : w2.cell? ⟨g, 3, none⟩ = some (.slice a2 n2 c2) := kg.cell 3
  clear kg
  by_cases hk6 : N ≤ 6
  case neg =>
    have q : decide ((6 : Int) < (N : Int)) = true := by simp; omega
    have q' : (6 : Int) < (N : Int) := by omega
    go_wp2_with fail
    go_ret
    exact ⟨.inr rfl, hBB.out⟩
  have q : decide ((6 : Int) < (N : Int)) = false := by simp; omega
  have q' : ¬ (6 : Int) < (N : Int) := by omega
  by_cases ha : n2 ≤ 50
  case neg =>
    have p : decide ((50 : Int) < (n2 : Int)) = true := by simp; omega
    have p' : (50 : Int) < (n2 : Int) := by omega
    go_wp2_with fail
    go_ret
    exact ⟨.inr rfl, hBB.out⟩
  have p : decide ((50 : Int) < (n2 : Int)) = false := by simp; omega
  have p' : ¬ (50 : Int) < (n2 : Int) := by omega
  go_wp2_with fail
  clear s0 s1 s2 s3
  go_loopw [6] (fun i wr => ∃ k : Nat, i = .int .i64 k ∧ k ≤ N ∧ Hid ((∀ j e, j < k → ks[j]? = some e → PM.FewMs e) ∧ Below w.heap.size w wr)) (fun i _ => N - (intOf i).toNat)
  case atStart => exact ⟨0, rfl, by omega, PM.hid ⟨fun j e hj => absurd hj (by omega), hBB.out⟩⟩
  case round =>
    obtain ⟨k, rfl, hk, hin⟩ := hrel
    by_cases hlt : k < N
    · obtain ⟨z, hz⟩ : ∃ z, ks[k]? = some z := ⟨ks[k]'(by rw [← hNh.out]; exact hlt), List.getElem?_eq_getElem _⟩
      obtain ⟨b, off, rfl, hce⟩ := PM.RR.opn hvh.out (by rw [← hNh.out]; omega)
      obtain ⟨cs, hl0, hR⟩ := hce k z hz
      obtain ⟨b0, e0, b1, e1, b2, e2, b3, e3, b4, e4, b5, e5, hcs, -, r1, r2, r3, -, -⟩ := PM.msR_open hR
      replace hl0 := hl0.keep hin.out.2
      rw [hcs] at hl0
      have d0 : wr.cell? ⟨b, off + k * 8, none⟩ = some (.int .i64 z.kind) := hl0 0 _ rfl
      have d1 : wr.cell? ⟨b, off + k * 8 + 1, none⟩ = some (.int .u64 (z.hav : Int)) := hl0 1 _ rfl
      have d2 : wr.cell? ⟨b, off + k * 8 + 2, none⟩ = some (.slice b0 z.votes.length e0) := hl0 2 _ rfl
      have d3 : wr.cell? ⟨b, off + k * 8 + 3, none⟩ = some (.slice b1 z.asks.length e1) := hl0 3 _ rfl
      have d4 : wr.cell? ⟨b, off + k * 8 + 4, none⟩ = some (.slice b2 z.entries.length e2) := hl0 4 _ rfl
      have d5 : wr.cell? ⟨b, off + k * 8 + 5, none⟩ = some (.slice b3 z.prepares.length e3) := hl0 5 _ rfl
      have d6 : wr.cell? ⟨b, off + k * 8 + 6, none⟩ = some (.slice b4 z.aborts.length e4) := hl0 6 _ rfl
      have d7 : wr.cell? ⟨b, off + k * 8 + 7, none⟩ = some (.slice b5 z.ends.length e5) := hl0 7 _ rfl
      have hfw := fewM_any z.kind z.hav b0 z.votes.length e0 b1 z.asks.length e1 b2 z.entries.length e2 b3 z.prepares.length e3 b4 z.aborts.length e4 b5 z.ends.length e5 z.asks z.entries z.prepares wr (PM.EnL.keep r1 hin.out.2) (PM.EnL.keep r2 hin.out.2) (PM.EnL.keep r3 hin.out.2)
      have hzh := PM.hid hz
      obtain ⟨FZ, hFZ⟩ : ∃ P : Prop, P = (PM.FewL z.asks ∧ PM.FewL z.entries ∧ PM.FewL z.prepares ∧ z.votes.length ≤ 50 ∧ z.aborts.length ≤ 50 ∧ z.ends.length ≤ 50) := ⟨_, rfl⟩
      rw [← hFZ] at hfw
      have hFZh : Hid (FZ → PM.FewMs z) := PM.hid fun h => by rw [hFZ] at h; exact h
      clear hz hce hl0 hR hcs cs r1 r2 r3 hFZ
      generalize z.votes.length = z0 at *
      generalize z.asks.length = z1 at *
      generalize z.entries.length = z2 at *
      generalize z.prepares.length = z3 at *
      generalize z.aborts.length = z4 at *
      generalize z.ends.length = z5 at *
      go_wp2_with fail
      refine hfw.mono ?_
      clear hfw d0 d1 d2 d3 d4 d5 d6 d7
      rintro e w5 ⟨hF, hBn⟩
      have hBw := PM.hid (PM.chain hin.out.2 hBn)
      clear hBn
      rcases hF with ⟨rfl, hF⟩ | rfl
      · replace hF := PM.hid hF
        go_wp2_with fail
        refine ⟨⟨k + 1, by go_num, by omega, PM.hid ⟨fun j e hj hje => ?_, hBw.out⟩⟩, by simp only [intOf]; omega⟩
        by_cases hjk : j < k
        · exact hin.out.1 j e hjk hje
        · obtain rfl : j = k := by omega
          rw [hzh.out] at hje
          cases hje
          exact hFZh.out hF.out
      · go_wp2_with fail
        go_ret
        exact ⟨.inr rfl, hBw.out⟩
    · obtain rfl : k = N := by omega
      go_wp2_with fail
      go_ret
      refine ⟨.inl ⟨rfl, hF1.out, hF2.out, ha, hk6, fun e he => ?_⟩, hin.out.2⟩
      obtain ⟨j, hj⟩ := List.mem_iff_getElem?.1 he
      exact hin.out.1 j e (by rw [hNh.out]; exact (List.getElem?_eq_some_iff.1 hj).1) hj
end Go.Proofs.Ytjninckmgkaliaa
