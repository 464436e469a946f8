/-
  THE CALL AT THE HEAD OF ALL STATEMENTS OF LAYER 5.
-/
import Derived.Test.YtocggnaekajdbaaIe
import Derived.Test.YtocggnaekajdbaaIf
import Derived.Test.YtocggnaekajdbaaIh
import Derived.Test.YtocggnaekajdbaaIi
namespace Go.Proofs.Ytocggnaekajdbaa
open Go.RowKit
set_option linter.unusedVariables false
namespace PM
theorem EM.lits {α : Type} {e : α → List Value} {c : Nat} (he : ∀ x, (e x).length = c) (W : World) (E : TypeId) (l : List α) (n : Nat) (hn : n = l.length) (hl : l.length ≤ maxLen) (cs : Array Value) (hcs : cs = (l.flatMap e).toArray) : EM e c (W.alloc (.cells cs E)) (.slice (Option.some ⟨W.heap.size, 0, Option.none⟩) n n) l := by
  subst hn hcs
  refine ⟨_, l.length, rfl, Nat.le_refl _, hl, fun _ => ⟨W.heap.size, 0, rfl, fun i y hi j u hu => ?_⟩⟩
  rw [Nat.zero_add, World.cell?_alloc_new]
  have := flat_get he l i y hi j u hu
  simpa using this
theorem attV_of (W : World) (v : Value) (es : List At) (h : EM (fun x : At => [.string x.name, .int .i64 x.k, .int .i64 x.n, .string x.s]) 4 W v es) : EV W v es := by
  obtain ⟨ad, cap, hv, h1, h2, h3⟩ := h
  refine ⟨ad, cap, hv, h1, h2, fun hp => ?_⟩
  obtain ⟨b, off, ha, h4⟩ := h3 hp
  exact ⟨b, off, ha, fun i x hi => ⟨h4 i x hi 0 _ rfl, h4 i x hi 1 _ rfl, h4 i x hi 2 _ rfl, h4 i x hi 3 _ rfl⟩⟩
def x5 : At := ⟨⟨#[112]⟩, 1, 5, ⟨#[]⟩⟩
def ta : Te := ⟨⟨#[112]⟩, 5, 1, 3, ⟨#[]⟩⟩
def tb : Te := ⟨⟨#[112]⟩, 4, 1, 5, ⟨#[]⟩⟩
def tq : Te := ⟨⟨#[113]⟩, 8, 0, 0, ⟨#[]⟩⟩
theorem holds_one (z : Te) (x : At) (h : x.name = z.name) : holdsB z [x] = isB z x.k x.n x.s := by
  unfold holdsB
  simp [h]
theorem holds_not (z : Te) (x : At) (h : x.name.data.toList ≠ z.name.data.toList) : holdsB z [x] = false := by
  have : (x.name.toList == z.name.toList) = false := by rw [ByteArray.toList_eq, ByteArray.toList_eq]; simpa using h
  unfold holdsB
  simp [this]
theorem h_ta : holdsB ta [x5] = true := (holds_one ta x5 rfl).trans (by decide)
theorem h_tb : holdsB tb [x5] = true := (holds_one tb x5 rfl).trans (by decide)
theorem h_tq : holdsB tq [x5] = false := holds_not tq x5 (by decide)
theorem m_f : matchB [ta, tb] [x5] = true := by unfold matchB; simp [h_ta, h_tb]
theorem m_q : matchB [tq] [x5] = false := by unfold matchB; simp [h_tq]
theorem p_f : filP [ta, tb] := ⟨by decide, by intro x hx; simp at hx; rcases hx with rfl | rfl <;> decide⟩
theorem p_q : filP [tq] := ⟨by decide, by intro x hx; simp at hx; subst hx; decide⟩
theorem w_q : ∀ x ∈ [tq], x.wf := by intro x hx; simp at hx; subst hx; exact ⟨by decide, by decide, by decide, by decide, by decide⟩
theorem b_q : filB [tq] = [1, 1, 1, 1, 113, 1, 8] := by decide
theorem d_q : decT [1, 1, 1, 1, 113, 1, 8] = some [tq] := by rw [← b_q]; exact decT_enc p_q w_q
end PM
set_option maxHeartbeats 4000000 in
set_option maxRecDepth 100000 in
theorem awake5 (w : World) :
    Calls Try.prog 10 #[] w fun e w' => e = .returned (.bool true) ∧ Below w.heap.size w w' := by
  go_enter Try.func10, Try.ntmps10
  go_wp2_with fail
  refine (int_any _ _).mono ?_
  rintro e w1 ⟨rfl, hB1⟩
  go_upto_region 2 with fail
  obtain ⟨ge, hge⟩ : ∃ g, g = w1.heap.size := ⟨_, rfl⟩
  obtain ⟨w2, hw2⟩ : ∃ W, W = w1.alloc (.cells #[.string ⟨#[112]⟩, .int .i64 1, .int .i64 5, .string ⟨#[]⟩] 50) := ⟨_, rfl⟩
  have hE : PM.EV w2 (.slice (some ⟨ge, 0, none⟩) 1 1) [PM.x5] := by rw [hw2, hge]; exact PM.attV_of _ _ _ (PM.EM.lits (e := fun x : PM.At => [.string x.name, .int .i64 x.k, .int .i64 x.n, .string x.s]) (fun _ => rfl) w1 50 [PM.x5] 1 rfl (by decide) _ rfl)
  have hB2 : Below w.heap.size w w2 := by rw [hw2]; exact PM.chain hB1 ((Below.refl _ _).alloc (Nat.le_refl _) _)
  rw [← hw2, ← hge]
  clear hw2 hge hB1
  go_wp2_with fail
  refine (int_any _ _).mono ?_
  rintro e w3 ⟨rfl, hB3⟩
  go_wp2_with fail
  refine (int_any _ _).mono ?_
  rintro e w4 ⟨rfl, hB4⟩
  have hE4 := (hE.keep hB3).keep hB4
  have hB4' := PM.chain (PM.chain hB2 hB3) hB4
  clear hE hB2 hB3 hB4
  go_upto_region 3 with fail
  obtain ⟨gf, hgf⟩ : ∃ g, g = w4.heap.size := ⟨_, rfl⟩
  obtain ⟨w5, hw5⟩ : ∃ W, W = w4.alloc (.cells #[.string ⟨#[112]⟩, .int .i64 5, .int .i64 1, .int .i64 3, .string ⟨#[]⟩, .string ⟨#[112]⟩, .int .i64 4, .int .i64 1, .int .i64 5, .string ⟨#[]⟩] 30) := ⟨_, rfl⟩
  have hF : PM.TV w5 (.slice (some ⟨gf, 0, none⟩) 2 2) [PM.ta, PM.tb] := by rw [hw5, hgf]; exact PM.EM.lits PM.teL_len w4 30 [PM.ta, PM.tb] 2 rfl (by decide) _ rfl
  have hKf : PM.BK w5 gf #[.string ⟨#[112]⟩, .int .i64 5, .int .i64 1, .int .i64 3, .string ⟨#[]⟩, .string ⟨#[112]⟩, .int .i64 4, .int .i64 1, .int .i64 5, .string ⟨#[]⟩] 30 := by rw [hw5, hgf]; exact PM.BK.new _ _ _
  have hal : Below w4.heap.size w4 w5 := by rw [hw5]; exact (Below.refl _ _).alloc (Nat.le_refl _) _
  have hE5 := hE4.keep hal
  have hB5 := PM.chain hB4' hal
  rw [← hw5, ← hgf]
  clear hw5 hgf hal hE4 hB4'
  go_upto_region 4 with fail
  obtain ⟨gi, hgi⟩ : ∃ g, g = w5.heap.size := ⟨_, rfl⟩
  obtain ⟨w6, hw6⟩ : ∃ W, W = w5.alloc (.cells #[.string ⟨#[113]⟩, .int .i64 8, .int .i64 0, .int .i64 0, .string ⟨#[]⟩] 30) := ⟨_, rfl⟩
  have hI : PM.TV w6 (.slice (some ⟨gi, 0, none⟩) 1 1) [PM.tq] := by rw [hw6, hgi]; exact PM.EM.lits PM.teL_len w5 30 [PM.tq] 1 rfl (by decide) _ rfl
  have hal : Below w5.heap.size w5 w6 := by rw [hw6]; exact (Below.refl _ _).alloc (Nat.le_refl _) _
  have hE6 := hE5.keep hal
  have hF6 := hF.keep hal
  have hK6 := hKf.keep hal
  have hB6 := PM.chain hB5 hal
  rw [← hw6, ← hgi]
  clear hw6 hgi hal hE5 hF hKf hB5
  go_wp2_with fail
  refine (fencode_any _ _ w6 hI PM.w_q).mono ?_
  rintro e w7 ⟨o7, rfl, ho7, _, hB7⟩
  have hs7 := (ho7 PM.p_q).bs
  rw [PM.b_q] at hs7
  rw [PM.filE_yes PM.p_q]
  have hE7 := hE6.keep hB7
  have hF7 := hF6.keep hB7
  have hK7 := hK6.keep hB7
  have hI7 := hI.keep hB7
  have hB7' := PM.chain hB6 hB7
  clear ho7 hE6 hF6 hK6 hI hB6 hB7
  go_wp2_with fail
  refine (fdecode_any _ _ w7 hs7 (by decide)).mono ?_
  rintro e w8 ⟨o8, rfl, ho8, _, hB8⟩
  have hD8 := (ho8 _ PM.d_q).em PM.teL_len
  rw [PM.decTN_some PM.d_q]
  have hE8 := hE7.keep hB8
  have hF8 := hF7.keep hB8
  have hK8 := hK7.keep hB8
  have hI8 := hI7.keep hB8
  have hs8 := hs7.keep hB8
  have hB8' := PM.chain hB7' hB8
  clear ho8 hE7 hF7 hK7 hI7 hs7 hB7' hB8
  go_wp2_with fail
  refine (fsame_any _ _ _ _ w8 hI8 hD8).mono ?_
  rintro e w9 ⟨hsm, hB9⟩
  have hsm' : e = .returned (.bool true) := by
    rcases hsm with ⟨h, _⟩ | ⟨_, h⟩
    · exact h
    · exact absurd rfl h
  subst hsm'
  have hE9 := hE8.keep hB9
  have hF9 := hF8.keep hB9
  have hK9 := hK8.keep hB9
  have hI9 := hI8.keep hB9
  have hs9 := hs8.keep hB9
  have hB9' := PM.chain hB8' hB9
  clear hsm hD8 hE8 hF8 hK8 hI8 hs8 hB8' hB9
  go_wp2_with fail
  refine (matches_any _ _ _ _ w9 hF9 hE9).mono ?_
  rintro e wa ⟨rfl, hBa⟩
  rw [PM.m_f]
  have hEa := hE9.keep hBa
  have hFa := hF9.keep hBa
  have hKa := hK9.keep hBa
  have hIa := hI9.keep hBa
  have hsa := hs9.keep hBa
  have hBa' := PM.chain hB9' hBa
  clear hE9 hF9 hK9 hI9 hs9 hB9' hBa
  go_wp2_with fail
  refine (matches_any _ _ _ _ wa hIa hEa).mono ?_
  rintro e wb ⟨rfl, hBb⟩
  rw [PM.m_q]
  have hEb := hEa.keep hBb
  have hFb := hFa.keep hBb
  have hKb := hKa.keep hBb
  have hsb := hsa.keep hBb
  have hBb' := PM.chain hBa' hBb
  clear hEa hFa hKa hIa hsa hBa' hBb
  go_wp2_with fail
  refine (matches_any _ [] _ _ wb (PM.EM.nil _) hEb).mono ?_
  rintro e wc ⟨rfl, hBc⟩
  rw [show PM.matchB [] [PM.x5] = true from rfl]
  have hEc := hEb.keep hBc
  have hFc := hFb.keep hBc
  have hKc := hKb.keep hBc
  have hsc := hsb.keep hBc
  have hBc' := PM.chain hBb' hBc
  clear hEb hFb hKb hsb hBb' hBc
  go_wp2_with fail
  refine (text_any _ _).mono ?_
  rintro e wd ⟨rfl, hBd⟩
  go_wp2_with fail
  refine (int_any _ _).mono ?_
  rintro e we ⟨rfl, hBe⟩
  go_wp2_with fail
  refine (is_any ⟨⟨#[112]⟩, 2, 2, 0, ⟨#[97]⟩⟩ 1 5 ⟨#[]⟩ we).mono ?_
  rintro e wf ⟨rfl, hBf⟩
  rw [show PM.isB ⟨⟨#[112]⟩, 2, 2, 0, ⟨#[97]⟩⟩ 1 5 ⟨#[]⟩ = false by decide]
  have hdef := PM.chain (PM.chain hBd hBe) hBf
  have hEf := hEc.keep hdef
  have hFf := hFc.keep hdef
  have hKf := hKc.keep hdef
  have hsf := hsc.keep hdef
  have hBf' := PM.hid (PM.chain hBc' hdef)
  clear hEc hFc hKc hsc hBc' hdef hBd hBe hBf
  have hal : Below wf.heap.size wf (wf.alloc (.cells (List.map PM.bv [1, 1, 1, 1, 113, 1, 8]).toArray 5)) := (Below.refl _ _).alloc (Nat.le_refl _) _
  have k1 := PM.run_str bty Try.underlying9 hsf
  have k2 := PM.run_str bty Try.underlying9 (PM.BS.lit wf 5 [1, 1, 1, 1, 113, 1, 8] (by decide))
  replace k2 : (convert 33 9 (.slice (some ⟨wf.heap.size, 0, none⟩) 7 7)).run Try.prog (wf.alloc (.cells #[.int .u8 1, .int .u8 1, .int .u8 1, .int .u8 1, .int .u8 113, .int .u8 1, .int .u8 8] 5)) = .ok (.string ⟨#[1, 1, 1, 1, 113, 1, 8]⟩) (wf.alloc (.cells #[.int .u8 1, .int .u8 1, .int .u8 1, .int .u8 1, .int .u8 113, .int .u8 1, .int .u8 8] 5)) := k2
  go_wp2_with fail
  obtain ⟨wg, hwg⟩ : ∃ W, W = wf.alloc (.cells #[.int .u8 1, .int .u8 1, .int .u8 1, .int .u8 1, .int .u8 113, .int .u8 1, .int .u8 8] 5) := ⟨_, rfl⟩
  have hal2 : Below wf.heap.size wf wg := by rw [hwg]; exact (Below.refl _ _).alloc (Nat.le_refl _) _
  rw [← hwg]
  have hEg := hEf.keep hal2
  have hFg := hFf.keep hal2
  have hKg := hKf.keep hal2
  have hBg := PM.hid (PM.chain hBf'.out hal2)
  clear hwg hal hal2 k1 k2 hEf hFf hKf hsf hBf'
  refine (fcheck_any _ _ wg hFg).mono ?_
  rintro e wh ⟨rfl, hBh⟩
  rw [PM.filE_yes PM.p_f]
  have hEh := hEg.keep hBh
  have hKh := hKg.keep hBh
  have hBh' := PM.hid (PM.chain hBg.out hBh)
  clear hEg hFg hKg hBg hBh
  go_wp2_with fail
  refine (one_any ⟨⟨#[]⟩, 0, 0, 0, ⟨#[]⟩⟩ wh).mono ?_
  rintro e wi ⟨rfl, hBi⟩
  rw [show PM.teE ⟨⟨#[]⟩, 0, 0, 0, ⟨#[]⟩⟩ = 50 by decide]
  have hEi := hEh.keep hBi
  have hKi := hKh.keep hBi
  have hBi' := PM.hid (PM.chain hBh'.out hBi)
  have c0 : wi.cell? ⟨gf, 0, none⟩ = some (.string ⟨#[112]⟩) := hKi.cell 0
  have c1 : wi.cell? ⟨gf, 1, none⟩ = some (.int .i64 5) := hKi.cell 1
  have c2 : wi.cell? ⟨gf, 2, none⟩ = some (.int .i64 1) := hKi.cell 2
  have c3 : wi.cell? ⟨gf, 3, none⟩ = some (.int .i64 3) := hKi.cell 3
  have c4 : wi.cell? ⟨gf, 4, none⟩ = some (.string ⟨#[]⟩) := hKi.cell 4
  clear hEh hKh hBh' hBi hKi
  go_wp2_with fail
  refine (holds_any PM.ta _ _ wi hEi).mono ?_
  rintro e wj ⟨rfl, hBj⟩
  rw [PM.h_ta]
  have hBj' := PM.hid (PM.chain hBi'.out hBj)
  clear hEi hBi' hBj c0 c1 c2 c3 c4
  go_wp2_with fail
  go_ret
  exact ⟨rfl, hBj'.out⟩
end Go.Proofs.Ytocggnaekajdbaa
