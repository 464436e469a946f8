/-
  CONTRACTS OF postilionlaw11.Few, postilionlaw13.few, Few, postilionlaw18.few.
-/
import Derived.Test.YtnpbfjkfbobgaaaGreatVk
import Derived.Test.YtnpbfjkfbobgaaaGreatIC
namespace Go.Proofs.YtnpbfjkfbobgaaaGreat
open Go.RowKit
set_option linter.unusedVariables false
set_option linter.unusedSimpArgs false
namespace PM
def FewEn (x : En) : Prop := x.evs.length ≤ 10 ∧ (∀ e ∈ x.evs, Few e) ∧ FFew x.fil
def FewL (l : List En) : Prop := l.length ≤ 20 ∧ ∀ x ∈ l, FewEn x
def FewMs (m : Ms) : Prop := FewL m.asks ∧ FewL m.entries ∧ FewL m.prepares ∧ m.votes.length ≤ 50 ∧ m.aborts.length ≤ 50 ∧ m.ends.length ≤ 50
theorem FewEn.enS {x : En} (h : FewEn x) : EnS x := ⟨by have := h.2.2.1; omega, by have := h.1; omega, fun e he => by have := (h.2.1 e he).1; omega⟩
theorem FewL.ensS {l : List En} (h : FewL l) : EnsS l := ⟨by have := h.1; omega, fun x hx => (h.2 x hx).enS⟩
end PM
set_option maxRecDepth 100000 in
set_option maxHeartbeats 2000000 in
theorem few11s_any (x : PM.En) (fv ev : Value) (w : World) (hf : PM.TV w fv x.fil) (he : PM.EVL w ev x.evs) :
    Calls Tryz.prog 5 #[.agg (PM.enC x fv ev).toArray] w fun e w' => (e = .returned (.bool true) ∧ PM.FewEn x ∨ e = .returned (.bool false)) ∧ Below w.heap.size w w' := by
  obtain ⟨ea, ec, hee⟩ := he.len
  subst hee
  obtain ⟨fa, fc, hfe⟩ := hf.len
  subst hfe
  have hbe := he.bound
  unfold maxLen at hbe
  obtain ⟨Q, hQ⟩ : ∃ Q : Prop, Q = PM.FewEn x := ⟨_, rfl⟩
  rw [← hQ]
  have hQh := PM.hid hQ
  clear hQ
  obtain ⟨kd, ⟨ib, il, is⟩, cl, sub, fil, evs⟩ := x
  unfold PM.enC
  simp only at hf he hbe ⊢
  obtain ⟨L, hL⟩ : ∃ F, F = evs.length := ⟨_, rfl⟩
  obtain ⟨F, hF⟩ : ∃ F, F = fil.length := ⟨_, rfl⟩
  rw [← hL] at he hbe ⊢
  rw [← hF] at hf ⊢
  have hLh := PM.hid hL
  clear hL hF
  obtain ⟨g, hg⟩ : ∃ g, g = w.heap.size := ⟨_, rfl⟩
  obtain ⟨w1, hw1⟩ : ∃ W, W = w.alloc (.cells #[.int .i64 kd, .int .i64 ib, .int .u64 (il : Int), .int .u64 (is : Int), .int .i64 cl, .int .u64 (sub : Int), .slice fa F fc, .slice ea L ec] 31) := ⟨_, rfl⟩
  have hal : Below w.heap.size w w1 := by rw [hw1]; exact (Below.refl _ _).alloc (Nat.le_refl _) _
  have kg : PM.BK w1 g #[.int .i64 kd, .int .i64 ib, .int .u64 (il : Int), .int .u64 (is : Int), .int .i64 cl, .int .u64 (sub : Int), .slice fa F fc, .slice ea L ec] 31 := by rw [hw1, hg]; exact PM.BK.new _ _ _
  replace hf := PM.hid (hf.keep hal)
  replace he := PM.hid (he.keep hal)
  have hB := PM.hid hal
  clear hal
  have c6 : w1.cell? ⟨g, 6, none⟩ = some (.slice fa F fc) := kg.cell 6
  have c7 : w1.cell? ⟨g, 7, none⟩ = some (.slice ea L ec) := kg.cell 7
  by_cases hbig : 10 < L
  · have hb : (10 : Int) < (L : Int) := by omega
    go_enter Tryz.func5, Tryz.ntmps5
    go_upto_region 1 with fail
    rw [← hw1, ← hg]
    clear hw1 hg kg
    go_wp2_with fail
    go_ret
    exact ⟨.inr rfl, hB.out⟩
  have hb : ¬ (10 : Int) < (L : Int) := by omega
  go_enter Tryz.func5, Tryz.ntmps5
  go_upto_region 1 with fail
  rw [← hw1, ← hg]
  clear hw1 hg kg
  go_wp2_with fail
  go_loopw [3] (fun i wr => ∃ k : Nat, i = .int .i64 k ∧ k ≤ L ∧ wr = w1 ∧ ∀ j e, j < k → evs[j]? = some e → PM.Few e) (fun i _ => L - (intOf i).toNat)
  case atStart => exact ⟨0, rfl, by omega, rfl, fun j e hj => absurd hj (by omega)⟩
  case round =>
    obtain ⟨k, rfl, hk, rfl, hall⟩ := hrel
    replace hall := PM.hid hall
    by_cases hlt : k < L
    · obtain ⟨x, hx⟩ : ∃ x, evs[k]? = some x := ⟨evs[k]'(by rw [← hLh.out]; exact hlt), List.getElem?_eq_getElem _⟩
      obtain ⟨b, off, rfl, hce⟩ := PM.RR.opn he.out (by rw [← hLh.out]; omega)
      obtain ⟨cs, hl0, xv, hcs, hxv⟩ := hce k x hx
      have c0 := hl0 0 xv (by rw [hcs]; rfl)
      rw [Nat.mul_one, Nat.add_zero] at c0
      have hfw := few_any xv x wr hxv
      have hxh := PM.hid hx
      clear hx hce hl0 hcs hxv cs
      go_wp2_with fail
      refine hfw.mono ?_
      clear hfw c0
      rintro e W5 ⟨hF, rfl⟩
      rcases hF with ⟨rfl, hF⟩ | ⟨rfl, hF⟩
      · replace hF := PM.hid hF
        go_wp2_with fail
        refine ⟨⟨k + 1, by go_num, by omega, by first | rfl | trivial, fun j e hj hje => ?_⟩, by simp only [intOf]; omega⟩
        by_cases hjk : j < k
        · exact hall.out j e hjk hje
        · obtain rfl : j = k := by omega
          rw [hxh.out] at hje
          cases hje
          exact hF.out
      · clear hF
        go_wp2_with fail
        go_ret
        exact ⟨.inr rfl, hB.out⟩
    · obtain rfl : k = L := by omega
      go_wp2_with fail
      refine (ffew_any _ fil wr hf.out).mono ?_
      rintro e W5 ⟨hF, rfl⟩
      rcases hF with ⟨rfl, hF⟩ | ⟨rfl, hF⟩
      · replace hF := PM.hid hF
        go_wp2_with fail
        go_ret
        refine ⟨.inl ⟨rfl, ?_⟩, hB.out⟩
        rw [hQh.out]
        refine ⟨by simp only; rw [← hLh.out]; omega, fun e he => ?_, hF.out⟩
        obtain ⟨j, hj⟩ := List.mem_iff_getElem?.1 he
        exact hall.out j e (by rw [hLh.out]; exact (List.getElem?_eq_some_iff.1 hj).1) hj
      · clear hF
        go_wp2_with fail
        go_ret
        exact ⟨.inr rfl, hB.out⟩
end Go.Proofs.YtnpbfjkfbobgaaaGreat
