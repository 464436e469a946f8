/-
  THE WALKS OF LAYER 3's STATEMENTS: names; own.
-/
import Derived.Test.YtpilgbiedbhpeaaFa
namespace Go.Proofs.Ytpilgbiedbhpeaa
open Go.RowKit
set_option linter.unusedVariables false
theorem frameNames_walk (w : World) :
    Calls Try.prog 3 #[] w fun e w' => e = .returned (.bool true) ∧ Below w.heap.size w w' := by
  go_enter Try.func3, Try.ntmps3
  go_wp2_with (go_at_call 9; refine (awake3 _).mono ?_; rintro e w1 ⟨rfl, hb⟩)
  go_ret
  exact ⟨rfl, hb⟩
namespace PM
/-- the only row of one -/
theorem OBL.one {T E : TypeId} {B : Nat} {w : World} {v : Value} {l : List UInt8} (h : OBL T E B w v [l]) (hl : 0 < l.length) :
    ∃ b off c g cap, v = .slice (some ⟨b, off, none⟩) 1 c ∧ 1 ≤ c ∧ c ≤ 9223372036854775807 ∧ w.cell? ⟨b, off, none⟩ = some (.slice (some ⟨g, 0, none⟩) l.length cap) ∧ B ≤ g ∧ l.length ≤ cap ∧ cap ≤ 9223372036854775807 ∧ (∀ i x, l[i]? = some x → w.cell? ⟨g, i, none⟩ = some (bv x)) ∧ (∀ i, w.frozen? ⟨g, i, none⟩ = false) := by
  obtain ⟨vs, h1, h2, h3⟩ := h
  match vs, h2, h1, h3 with
  | [x], _, h1, h3 =>
    obtain ⟨b, off, c, e, g1, g2, g3⟩ := h1.es.open1 (by simp)
    have hx := h3 0 x l rfl rfl
    rcases hx.2 with ⟨rfl, h0⟩ | ⟨g, cap, cur, rfl, hB, hg, hn, hm, hs, ht⟩
    · omega
    · refine ⟨b, off, c, g, cap, e, g1, g2, g3 0 _ rfl, hB, hn, hm, fun i y hi => ?_, fun i => by simp [World.frozen?, hg]⟩
      have hi' : i < l.length := (List.getElem?_eq_some_iff.1 hi).1
      have e1 : cur.toList[i]? = some (bv y) := by
        have e2 : (cur.toList.take (l.length * 1))[i]? = some (bv y) := by rw [ht]; simp [hi]
        rw [List.getElem?_take_of_lt (by omega)] at e2
        exact e2
      have e3 : cur[i]? = some (bv y) := by simpa using e1
      simp only [World.cell?, hg]
      simpa using e3
end PM
theorem scan_one (l : List UInt8) (h1 : 0 < l.length) (h2 : l.length ≤ 4000) : PM.scanL (PM.wrapL l) = [l] := by
  rw [← List.append_nil (PM.wrapL l), PM.scan_wrap l _ h1 h2]; rfl
set_option maxHeartbeats 2000000 in
theorem frameOwn_walk (v : Value) (l : List UInt8) (w : World) (h : PM.BS w v l) :
    Calls Try.prog 8 #[v] w fun e w' => e = .returned (.bool true) ∧ Below w.heap.size w w' := by
  obtain ⟨va, vc, rfl⟩ := h.len
  have hh := PM.hid h
  obtain ⟨L, hL⟩ : ∃ L, L = l.length := ⟨_, rfl⟩
  have hLh := PM.hid hL
  by_cases hbad : L = 0 ∨ 500 < L
  · rw [← hL]
    clear hL h
    rcases hbad with rfl | hbad
    · go_enter Try.func8, Try.ntmps8
      go_wp2_with (go_at_call 9; refine (awake3 _).mono ?_; rintro e w1 ⟨rfl, hb⟩)
      go_ret
      exact ⟨rfl, hb⟩
    · have q1 : (500 : Int) < (L : Int) := by omega
      have q0 : ((L : Int) == 0) = false := beq_eq_false_iff_ne.2 (by omega)
      go_enter Try.func8, Try.ntmps8
      go_wp2_with (go_at_call 9; refine (awake3 _).mono ?_; rintro e w1 ⟨rfl, hb⟩)
      go_ret
      exact ⟨rfl, hb⟩
  · rw [← hL]
    have hl1 : 0 < L := by omega
    have hl2 : L ≤ 500 := by omega
    have q1 : ¬ (500 : Int) < (L : Int) := by omega
    have q0 : ((L : Int) == 0) = false := beq_eq_false_iff_ne.2 (by omega)
    have hsc := scan_one l (by omega) (by omega)
    have hsch := PM.hid hsc
    have hwl : (PM.wrapL l).length = 6 + L := by rw [PM.wrapL_length, hL]
    have hwlh := PM.hid hwl
    clear hL h hbad hsc hwl
    go_enter Try.func8, Try.ntmps8
    go_wp2_with fail
    refine (awake3 _).mono ?_
    rintro e w1 ⟨rfl, hb⟩
    have h1 := hh.out.keep hb
    have hW := Wrap_any _ l w1 h1 (by rw [← hLh.out]; exact hl1) (by rw [← hLh.out]; omega)
    rw [← hLh.out] at hW
    have hb1 := PM.hid hb
    clear hb h1
    go_wp2_with fail
    refine hW.mono ?_
    rintro e w2 ⟨v2, rfl, ho2, hB2⟩
    have hb2 := PM.hid (PM.chain hb1.out hB2)
    have hs2 := PM.hid ho2.bs
    obtain ⟨a2, c2, hv2⟩ : ∃ a c, v2 = .slice a (6 + L) c := by obtain ⟨a, c, e⟩ := ho2.bs.len; exact ⟨a, c, by rw [e, hwlh.out]⟩
    subst hv2
    clear hW hb1 ho2 hB2
    go_wp2_with fail
    refine (Scan_any _ _ w2 hs2.out (by rw [hwlh.out]; omega)).mono ?_
    rintro e w3 ⟨v3, rfl, ho3, hB3⟩
    rw [hsch.out] at ho3 ⊢
    rw [show PM.sizeL [l] = 6 + L by rw [hLh.out]; simp [PM.sizeL]]
    obtain ⟨b, off, c, g, cap, rfl, p1, p2, p3, p4, p5, p6, p7, p8⟩ := ho3.one (by rw [← hLh.out]; exact hl1)
    rw [← hLh.out] at p3 p5
    obtain ⟨z, hz⟩ : ∃ z, l[0]? = some z := ⟨l[0]'(by rw [← hLh.out]; exact hl1), List.getElem?_eq_getElem _⟩
    have p9 : w3.cell? ⟨g, 0, none⟩ = some (.int .u8 (z.toNat : Int)) := p7 0 z hz
    have p10 := p8 0
    have hg : w2.heap.size ≤ g := p4
    have hb3 := PM.hid (And.intro hb2.out hB3)
    clear ho3 hB3 p7 p8 hz p4
    go_wp2_with fail
    go_region
    go_wp2_with fail
    have hB5 := ((hb3.out.2).setCell (p := ⟨g, 0, none⟩) hg (.int .u8 (bits .xor .u8 (z.toNat : Int) 1))).drew
    refine (Scan_any _ _ _ (hs2.out.keep hB5) (by rw [hwlh.out]; omega)).mono ?_
    rintro e w6 ⟨v6, rfl, ho6, hB6⟩
    rw [hsch.out] at ho6
    have hb6 := PM.hid (PM.chain (PM.chain hb3.out.1 hB5) hB6)
    have hsl : PM.BS w6 (.slice va L vc) l := by rw [hLh.out]; exact hh.out.keep hb6.out
    obtain ⟨b6, off6, c6, g6, cap6, rfl, r1, r2, r3, _, r5, r6, r7, _⟩ := ho6.one (by rw [← hLh.out]; exact hl1)
    have hse : PM.BS w6 (.slice (some ⟨g6, 0, none⟩) l.length cap6) l := .inr (.inl ⟨g6, 0, cap6, rfl, r5, r6, fun i x hi => by rw [Nat.zero_add]; exact r7 i x hi⟩)
    rw [← hLh.out] at r3 hse r5
    have k1 := PM.run_str bty Try.underlying9 (hse.keep (Below.refl _ _).drew)
    have k2 := PM.run_str bty Try.underlying9 (hsl.keep (Below.refl _ _).drew)
    clear hB5 ho6 hB6 r7 hse hsl p1 p2 p3 p5 p6 p9 p10 hg
    go_wp2_with fail
    go_region
    all_goals go_wp2
    all_goals go_ret
    all_goals first | exact ⟨rfl, hb6.out.drew⟩ | exact ⟨PM.ret_b (by simp), hb6.out.drew⟩
end Go.Proofs.Ytpilgbiedbhpeaa
