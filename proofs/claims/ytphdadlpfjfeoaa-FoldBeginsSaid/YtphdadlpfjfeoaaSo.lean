/-
  THE WALKS of FoldBack, FoldBegins. (Written by tools/mk_so.py.)
-/
import Derived.Test.YtphdadlpfjfeoaaSn
namespace Go.Proofs.Ytphdadlpfjfeoaa
open Go.RowKit
set_option linter.unusedVariables false
set_option linter.unusedSimpArgs false
namespace PM
/-- a state's parts are read -/
def Sts (w : World) (s : Fs) (a b c : Value) : Prop := EnL w a s.ls ∧ EnL w b s.ps ∧ EM idL 3 w c s.ab
theorem Sts.keep {W w : World} {s : Fs} {a b c : Value} (hb : Below W.heap.size W w) (h : Sts W s a b c) : Sts w s a b c := ⟨EnL.keep h.1 hb, EnL.keep h.2.1 hb, h.2.2.keep hb⟩
theorem md40 {l : List Rc} (hw : ∀ x ∈ l, x.wf) : FsOk 40 (mdP l) := by
  by_cases hl : l.length ≤ 40
  · have := md_ok l hw l.length (Nat.le_refl _) hl
    rw [List.take_length] at this
    exact this.mono hl
  · have := md_ok l hw 40 (by omega) (Nat.le_refl _)
    rwa [md_end l (.inr rfl)] at this
end PM
namespace PM
theorem EM.takeU' {α : Type} {e : α → List Value} {c nb : Nat} {P : Program} {T E : TypeId} (MT : MTy P T E c nb) {w : World} {v : Value} {l : List α} (h : EM e c w v l) {K : Nat} (hK : K ≤ l.length) :
    ∃ a k, (∀ W : World, (Instr.slice T v none (some (.int .i64 (K : Int))) none).run P W = .ok (.slice a K k) W) ∧ EM e c w (.slice a K k) (l.take K) := run_takeM MT h hK
end PM
set_option maxRecDepth 100000 in
set_option maxHeartbeats 16000000 in
theorem foldBack_walk (v : Value) (l : List PM.Rc) (w : World) (hv : PM.RcL w v l) (hwl : ∀ x ∈ l, x.wf) :
    Calls Try.prog 4 #[v] w fun e w' => e = .returned (.bool true) ∧ Below w.heap.size w w' := by
  obtain ⟨va, vc, hve⟩ := hv.len
  obtain ⟨s, hs⟩ : ∃ q, q = PM.mdP l := ⟨_, rfl⟩
  have hgd : Hid (PM.Gd s) := PM.hid (by rw [hs]; exact PM.mdP_gd hwl)
  have hok : Hid (PM.FsOk 40 s) := PM.hid (by rw [hs]; exact PM.md40 hwl)
  have hln := PM.mdP_len l
  rw [← hs] at hln
  obtain ⟨NV, hNV⟩ : ∃ q, q = l.length := ⟨_, rfl⟩
  obtain ⟨RN, hRN⟩ : ∃ q, q = (PM.recL s).length := ⟨_, rfl⟩
  rw [← hNV] at hve hln
  rw [← hRN] at hln
  have hle : (RN : Int) ≤ (NV : Int) := by omega
  have hRNh := PM.hid hRN
  have hmd := fun (W : World) (hb : Below w.heap.size w W) => made_any v l W (PM.RR.keep PM.rcR_lasts hb hv) hwl
  rw [← hs] at hmd
  rw [hve] at hmd
  have hmdh := PM.hid hmd
  clear hmd hs hNV hRN hln hwl hv
  subst hve
  go_enter Try.func4, Try.ntmps4
  go_wp2_with fail
  refine (awake16_any w).mono ?_
  rintro e w2 ⟨rfl, hb2⟩
  have hBB := PM.hid hb2
  have ht := hmdh.out w2 hb2
  clear hb2
  go_wp2_with fail
  refine ht.mono ?_
  rintro e w3 ⟨u4, un4, uc4, p4, pn4, pc4, t4, tn4, tc4, rfl, r1, r2, r3, hb3⟩
  clear ht hmdh
  have hst : PM.Sts w3 s (.slice u4 un4 uc4) (.slice p4 pn4 pc4) (.slice t4 tn4 tc4) := ⟨PM.EnW.enl r1, PM.EnW.enl r2, r3.em PM.idL_len⟩
  clear r1 r2 r3
  go_upto_region 5 with fail
  obtain ⟨g4, hg4⟩ : ∃ g, g = w3.heap.size := ⟨_, rfl⟩
  obtain ⟨w4, hw4⟩ : ∃ W, W = w3.alloc (.cells #[.int .u64 (s.lf : Int), .slice u4 un4 uc4, .slice p4 pn4 pc4, .slice t4 tn4 tc4] 28) := ⟨_, rfl⟩
  have hbw4 : Below w3.heap.size w3 w4 := by rw [hw4]; exact (Below.refl _ _).alloc (Nat.le_refl _) _
  have k4 : PM.BK w4 g4 #[.int .u64 (s.lf : Int), .slice u4 un4 uc4, .slice p4 pn4 pc4, .slice t4 tn4 tc4] 28 := by rw [hw4, hg4]; exact PM.BK.new _ _ _
  rw [← hw4, ← hg4]
  clear hw4 hg4
  replace hst := hst.keep hbw4
  replace hBB := PM.hid (PM.chain (PM.chain hBB.out hb3) hbw4)
  clear hb3 hbw4
  have e0 : un4 = s.ls.length := by obtain ⟨_, _, h⟩ := hst.1.len; injection h
  have e1 : pn4 = s.ps.length := by obtain ⟨_, _, h⟩ := hst.2.1.len; injection h
  have e2 : tn4 = s.ab.length := by obtain ⟨_, _, h⟩ := hst.2.2.len; injection h
  have hl1 : s.ls.length ≤ 1000 := by have := hok.out.1; omega
  have hrok := PM.recL_ok hgd.out hl1
  have ht := records_any s u4 un4 uc4 p4 pn4 pc4 t4 tn4 tc4 w4 hst.1 hst.2.1 hst.2.2 e0 e1 e2 hl1 (by have := hok.out.2.1; omega) (by have := hok.out.2.2.1; omega) (fun r hr => (hrok r hr).1)
  clear e0 e1 e2
  replace hrok := PM.hid hrok
  have x0 : w4.cell? ⟨g4, 0, none⟩ = some (.int .u64 (s.lf : Int)) := k4.cell 0
  have x1 : w4.cell? ⟨g4, 1, none⟩ = some (.slice u4 un4 uc4) := k4.cell 1
  have x2 : w4.cell? ⟨g4, 2, none⟩ = some (.slice p4 pn4 pc4) := k4.cell 2
  have x3 : w4.cell? ⟨g4, 3, none⟩ = some (.slice t4 tn4 tc4) := k4.cell 3
  go_wp2_with fail
  refine ht.mono ?_
  clear ht x0 x1 x2 x3
  rintro e w5 ⟨o, c, rfl, hor, hbw⟩
  rcases hor with ⟨rfl, -, hrow⟩ | ⟨-, ⟨r, hr, hnr⟩, -⟩
  case inr => exact (hnr (hrok.out r hr).2).elim
  obtain ⟨oa, oc, rfl⟩ := hrow.rr.len
  have ht := all_any (.slice oa ((PM.recL s).map PM.rcB).length oc) ((PM.recL s).map PM.rcB) w5 (PM.RR.imp hrow.rr fun cs x h => PM.bbO_bsR h) (by rw [List.length_map, PM.recL_len]; have h1 := hok.out.1; have h2 := hok.out.2.1; have h3 := hok.out.2.2.1; have h4 := PM.r0_len s.lf; omega) (fun q hq => by obtain ⟨r, hr, rfl⟩ := List.mem_map.1 hq; obtain ⟨h1, h2⟩ := hrok.out r hr; have := PM.rcB_le h1 h2; omega)
  rw [PM.back_all hgd.out hl1] at ht
  rw [List.length_map, ← hRNh.out] at ht ⊢
  clear hrow hrok
  replace hst := hst.keep hbw
  replace k4 := k4.keep hbw
  replace hBB := PM.hid (PM.chain hBB.out hbw)
  clear hbw hl1
  go_wp2_with fail
  refine ht.mono ?_
  clear ht
  rintro e w6 ⟨u7, un7, uc7, p7, pn7, pc7, t7, tn7, tc7, rfl, r1, r2, r3, hbw⟩
  simp only at r1 r2 r3 ⊢
  have hst7 : PM.Sts w6 s (.slice u7 un7 uc7) (.slice p7 pn7 pc7) (.slice t7 tn7 tc7) := ⟨PM.EnW.enl r1, PM.EnW.enl r2, r3.em PM.idL_len⟩
  clear r1 r2 r3
  replace hst := hst.keep hbw
  replace k4 := k4.keep hbw
  replace hBB := PM.hid (PM.chain hBB.out hbw)
  clear hbw
  go_upto_region 7 with fail
  obtain ⟨g7, hg7⟩ : ∃ g, g = w6.heap.size := ⟨_, rfl⟩
  obtain ⟨w7, hw7⟩ : ∃ W, W = w6.alloc (.cells #[.int .u64 (s.lf : Int), .slice u7 un7 uc7, .slice p7 pn7 pc7, .slice t7 tn7 tc7] 28) := ⟨_, rfl⟩
  have hbw7 : Below w6.heap.size w6 w7 := by rw [hw7]; exact (Below.refl _ _).alloc (Nat.le_refl _) _
  have k7 : PM.BK w7 g7 #[.int .u64 (s.lf : Int), .slice u7 un7 uc7, .slice p7 pn7 pc7, .slice t7 tn7 tc7] 28 := by rw [hw7, hg7]; exact PM.BK.new _ _ _
  rw [← hw7, ← hg7]
  clear hw7 hg7
  replace hst := hst.keep hbw7
  replace hst7 := hst7.keep hbw7
  replace k4 := k4.keep hbw7
  replace hBB := PM.hid (PM.chain hBB.out hbw7)
  clear hbw7
  have ht := same16_any s s u4 un4 uc4 p4 pn4 pc4 t4 tn4 tc4 u7 un7 uc7 p7 pn7 pc7 t7 tn7 tc7 w7 ⟨hgd.out.wfL, hgd.out.wfP⟩ ⟨hgd.out.wfL, hgd.out.wfP⟩ hst hst7
  have x0 : w7.cell? ⟨g4, 0, none⟩ = some (.int .u64 (s.lf : Int)) := k4.cell 0
  have x1 : w7.cell? ⟨g4, 1, none⟩ = some (.slice u4 un4 uc4) := k4.cell 1
  have x2 : w7.cell? ⟨g4, 2, none⟩ = some (.slice p4 pn4 pc4) := k4.cell 2
  have x3 : w7.cell? ⟨g4, 3, none⟩ = some (.slice t4 tn4 tc4) := k4.cell 3
  have y0 : w7.cell? ⟨g7, 0, none⟩ = some (.int .u64 (s.lf : Int)) := k7.cell 0
  have y1 : w7.cell? ⟨g7, 1, none⟩ = some (.slice u7 un7 uc7) := k7.cell 1
  have y2 : w7.cell? ⟨g7, 2, none⟩ = some (.slice p7 pn7 pc7) := k7.cell 2
  have y3 : w7.cell? ⟨g7, 3, none⟩ = some (.slice t7 tn7 tc7) := k7.cell 3
  clear hst hst7 k4 k7
  go_wp2_with fail
  refine ht.mono ?_
  clear ht x0 x1 x2 x3 y0 y1 y2 y3
  rintro e w8 ⟨hh, hbw⟩
  replace hBB := PM.hid (PM.chain hBB.out hbw)
  clear hbw
  rcases hh with ⟨rfl, -⟩ | ⟨-, hno⟩
  case inr => first | exact (hno rfl).elim | exact (hno trivial).elim
  go_wp2_with fail
  go_ret
  exact ⟨by first | rfl | (simp; omega), hBB.out⟩
set_option maxRecDepth 100000 in
set_option maxHeartbeats 16000000 in
theorem foldBegins_walk (v : Value) (l : List PM.Rc) (n : Int) (hn : (Lit.int .i64 n).wf = true) (w : World) (hv : PM.RcL w v l) (hwl : ∀ x ∈ l, x.wf) :
    Calls Try.prog 6 #[v, .int .i64 n] w fun e w' => e = .returned (.bool true) ∧ Below w.heap.size w w' := by
  have hat := Go.bounds_i64 hn
  clear hn
  have hmx := hv.bound
  unfold maxLen at hmx
  obtain ⟨va, vc, hve⟩ := hv.len
  obtain ⟨NV, hNV⟩ : ∃ q, q = l.length := ⟨_, rfl⟩
  rw [← hNV] at hve hmx
  obtain ⟨A, hA⟩ : ∃ A : Nat, (A : Int) = if n < 0 then -(n + 1) else n := ⟨(if n < 0 then -(n + 1) else n).toNat, by split <;> omega⟩
  have hAb : A ≤ 9223372036854775807 := by split at hA <;> omega
  obtain ⟨M1, m, hwM, hM0, hrem, hmN⟩ : ∃ (M1 : Int) (m : Nat), IntKind.i64.wrap ((NV : Int) + 1) = M1 ∧ M1 ≠ 0 ∧ (A : Int).tmod M1 = (m : Int) ∧ m ≤ NV := by
    by_cases hbig : NV + 1 < 9223372036854775808
    · refine ⟨(NV : Int) + 1, A % (NV + 1), by rw [IntKind.wrap_i64]; omega, by omega, ?_, by have := Nat.mod_lt A (show 0 < NV + 1 by omega); omega⟩
      rw [Int.tmod_eq_emod_of_nonneg (by omega)]
      rfl
    · refine ⟨-9223372036854775808, A, ?_, by decide, ?_, by omega⟩
      · have : (NV : Int) + 1 = 9223372036854775808 := by omega
        rw [this]; decide
      · rw [Int.tmod_eq_emod_of_nonneg (by omega), Int.emod_neg, Int.emod_eq_of_lt (by omega) (by omega)]
  have hM0' : (M1 == 0) = false := by simpa using hM0
  have hA2h : Hid ((n < 0 → -(n + 1) = (A : Int)) ∧ (¬ n < 0 → n = (A : Int))) := PM.hid ⟨fun h => by rw [hA, if_pos h], fun h => by rw [hA, if_neg h]⟩
  clear hA
  obtain ⟨ta, tk, ht, hT⟩ := PM.RR.take tyRcO hv (K := m) (by rw [← hNV]; exact hmN)
  obtain ⟨sa, ha⟩ : ∃ q, q = PM.mdP (l.take m) := ⟨_, rfl⟩
  obtain ⟨sb, hb⟩ : ∃ q, q = PM.mdP l := ⟨_, rfl⟩
  have hgr := PM.md_grown l m
  rw [← ha, ← hb] at hgr
  have hwt : ∀ x ∈ l.take m, x.wf := fun x hx => hwl x (List.mem_of_mem_take hx)
  have hwfa : Hid (∀ x ∈ sa.ls, x.wf) := PM.hid (by rw [ha]; exact (PM.mdP_gd hwt).wfL)
  have hmd := fun (W : World) (hb : Below w.heap.size w W) => made_any v l W (PM.RR.keep PM.rcR_lasts hb hv) hwl
  have hmt := fun (W : World) (hb : Below w.heap.size w W) => made_any _ (l.take m) W (PM.RR.keep PM.rcR_lasts hb hT) hwt
  rw [← hb] at hmd
  rw [← ha] at hmt
  obtain ⟨⟨xl, gl⟩, ⟨xa, ga⟩, gf⟩ := hgr
  have hpre : Hid (sb.ls.take sa.ls.length = sa.ls ∧ sb.ab.take sa.ab.length = sa.ab) := PM.hid ⟨by rw [gl]; simp, by rw [ga]; simp⟩
  have hq1 : Hid (sa.ls.length ≤ sb.ls.length ∧ sa.ab.length ≤ sb.ab.length ∧ sa.lf ≤ sb.lf) := PM.hid ⟨by rw [gl]; simp, by rw [ga]; simp, gf⟩
  rw [hve] at hmd ht
  have hmdh := PM.hid hmd
  have hmth := PM.hid hmt
  clear hmd hmt ha hb hNV hwl hv gl ga gf hwt hT
  subst hve
  go_enter Try.func6, Try.ntmps6
  go_wp2_with fail
  refine (awake16_any w).mono ?_
  rintro e w2 ⟨rfl, hb2⟩
  have hBB := PM.hid hb2
  go_upto_if 14 with fail
  go_cut [1] from 13 to 18 (fun a wx => w2 = wx ∧ a = .int .i64 (A : Int))
  case first =>
    by_cases hneg : n < 0
    · have hAe := hA2h.out.1 hneg
      go_wp2_with fail
      all_goals go_meet
      all_goals first | exact ⟨rfl, rfl⟩ | exact ⟨rfl, by rw [hAe]⟩
    · have hAe := hA2h.out.2 (by omega)
      go_wp2_with fail
      all_goals go_meet
      all_goals first | exact ⟨rfl, rfl⟩ | exact ⟨rfl, by rw [hAe]⟩
  case rest =>
    obtain ⟨rfl, rfl⟩ := hcut
    clear hA2h
    have hma := hmth.out w2 hBB.out
    clear hmth
    go_wp2_with fail
    refine hma.mono ?_
    clear hma
    rintro e w3 ⟨u6, un6, uc6, p6, pn6, pc6, t6, tn6, tc6, rfl, r1, r2, r3, hb3⟩
    clear ht hwM hM0 hM0' hrem
    have hst6 : PM.Sts w3 sa (.slice u6 un6 uc6) (.slice p6 pn6 pc6) (.slice t6 tn6 tc6) := ⟨PM.EnW.enl r1, PM.EnW.enl r2, r3.em PM.idL_len⟩
    clear r1 r2 r3
    go_upto_region 7 with fail
    obtain ⟨g6, hg6⟩ : ∃ g, g = w3.heap.size := ⟨_, rfl⟩
    obtain ⟨w4, hw4⟩ : ∃ W, W = w3.alloc (.cells #[.int .u64 (sa.lf : Int), .slice u6 un6 uc6, .slice p6 pn6 pc6, .slice t6 tn6 tc6] 28) := ⟨_, rfl⟩
    have hbw4 : Below w3.heap.size w3 w4 := by rw [hw4]; exact (Below.refl _ _).alloc (Nat.le_refl _) _
    have kb6 : PM.BK w4 g6 #[.int .u64 (sa.lf : Int), .slice u6 un6 uc6, .slice p6 pn6 pc6, .slice t6 tn6 tc6] 28 := by rw [hw4, hg6]; exact PM.BK.new _ _ _
    rw [← hw4, ← hg6]
    clear hw4 hg6
    replace hst6 := hst6.keep hbw4
    replace hBB := PM.hid (PM.chain (PM.chain hBB.out hb3) hbw4)
    clear hb3 hbw4
    have hma := hmdh.out w4 hBB.out
    clear hmdh
    go_wp2_with fail
    refine hma.mono ?_
    clear hma
    rintro e w5 ⟨u7, un7, uc7, p7, pn7, pc7, t7, tn7, tc7, rfl, r1, r2, r3, hb3⟩
    have hst7 : PM.Sts w5 sb (.slice u7 un7 uc7) (.slice p7 pn7 pc7) (.slice t7 tn7 tc7) := ⟨PM.EnW.enl r1, PM.EnW.enl r2, r3.em PM.idL_len⟩
    clear r1 r2 r3
    go_upto_region 8 with fail
    obtain ⟨g7, hg7⟩ : ∃ g, g = w5.heap.size := ⟨_, rfl⟩
    obtain ⟨w6, hw6⟩ : ∃ W, W = w5.alloc (.cells #[.int .u64 (sb.lf : Int), .slice u7 un7 uc7, .slice p7 pn7 pc7, .slice t7 tn7 tc7] 28) := ⟨_, rfl⟩
    have hbw6 : Below w5.heap.size w5 w6 := by rw [hw6]; exact (Below.refl _ _).alloc (Nat.le_refl _) _
    have kb7 : PM.BK w6 g7 #[.int .u64 (sb.lf : Int), .slice u7 un7 uc7, .slice p7 pn7 pc7, .slice t7 tn7 tc7] 28 := by rw [hw6, hg7]; exact PM.BK.new _ _ _
    rw [← hw6, ← hg7]
    clear hw6 hg7
    replace hst7 := PM.hid (hst7.keep hbw6)
    replace hst6 := PM.hid ((hst6.keep hb3).keep hbw6)
    replace kb6 := (kb6.keep hb3).keep hbw6
    replace hBB := PM.hid (PM.chain (PM.chain hBB.out hb3) hbw6)
    clear hb3 hbw6
    have e0 : un6 = sa.ls.length := by obtain ⟨_, _, h⟩ := hst6.out.1.len; injection h
    have e1 : tn6 = sa.ab.length := by obtain ⟨_, _, h⟩ := hst6.out.2.2.len; injection h
    have e2 : un7 = sb.ls.length := by obtain ⟨_, _, h⟩ := hst7.out.1.len; injection h
    have e3 : tn7 = sb.ab.length := by obtain ⟨_, _, h⟩ := hst7.out.2.2.len; injection h
    rw [← e0, ← e1] at hpre
    have hg3 : Hid (un6 ≤ sb.ls.length ∧ tn6 ≤ sb.ab.length) := PM.hid (by rw [e0, e1]; exact ⟨hq1.out.1, hq1.out.2.1⟩)
    have hc1 : (un6 : Int) ≤ (un7 : Int) := by rw [e0, e2]; have := hq1.out.1; omega
    have hc2 : (tn6 : Int) ≤ (tn7 : Int) := by rw [e1, e3]; have := hq1.out.2.1; omega
    have hc3 : (sa.lf : Int) ≤ (sb.lf : Int) := by have := hq1.out.2.2; omega
    have hc1' : ¬ (un7 : Int) < (un6 : Int) := by omega
    have hc2' : ¬ (tn7 : Int) < (tn6 : Int) := by omega
    have hc3' : ¬ (sb.lf : Int) < (sa.lf : Int) := by omega
    have hd1 : decide ((un7 : Int) < (un6 : Int)) = false := by simpa using hc1
    have hd2 : decide ((tn7 : Int) < (tn6 : Int)) = false := by simpa using hc2
    have hd3 : decide ((sb.lf : Int) < (sa.lf : Int)) = false := by simpa using hc3
    clear e0 e1 e2 e3 hq1 hc1 hc2 hc3
    obtain ⟨ta, tk, ht, hT⟩ := PM.RR.take tyEnO hst7.out.1 (K := un6) hg3.out.1
    rw [hpre.out.1] at hT
    replace hT := PM.hid hT
    have x0 : w6.cell? ⟨g6, 0, none⟩ = some (.int .u64 (sa.lf : Int)) := kb6.cell 0
    have x1 : w6.cell? ⟨g6, 1, none⟩ = some (.slice u6 un6 uc6) := kb6.cell 1
    have x2 : w6.cell? ⟨g6, 2, none⟩ = some (.slice p6 pn6 pc6) := kb6.cell 2
    have x3 : w6.cell? ⟨g6, 3, none⟩ = some (.slice t6 tn6 tc6) := kb6.cell 3
    have y0 : w6.cell? ⟨g7, 0, none⟩ = some (.int .u64 (sb.lf : Int)) := kb7.cell 0
    have y1 : w6.cell? ⟨g7, 1, none⟩ = some (.slice u7 un7 uc7) := kb7.cell 1
    have y2 : w6.cell? ⟨g7, 2, none⟩ = some (.slice p7 pn7 pc7) := kb7.cell 2
    have y3 : w6.cell? ⟨g7, 3, none⟩ = some (.slice t7 tn7 tc7) := kb7.cell 3
    go_upto_region 10 with fail
    clear x0 x1 x2 x3 y0 y1 y2 y3 hd1 hd2 hd3 hc1' hc2' hc3'
    refine PM.wp_region_stK (fun W W' => Below W.heap.size W W') (fun W W' => Below W.heap.size W W') (fun _ => True) (fun _ _ h => h) (fun h => h) (fun h k => PM.chain h k) [some 51, some 52, some 53, some 54, some 55, some 56, some 57, some 58, some 59, some 8] [some 51, some 52, some 53, some 54, some 55, some 56, some 57, some 58, some 59, some 8] [[], [0], [], [2], [2, 3], [0, 1, 2, 3, 4], [], [6], [0, 1, 2, 3, 4, 5, 6, 7], [0, 1, 2, 3, 4, 5, 6, 7, 8]] [false, false, false, false, false, false, false, false, false, false] [] [([], false), ([0], false), ([], false), ([2], false), ([3], false), ([1, 4], false), ([], false), ([6], false), ([5, 7], false), ([8], false)] [9] [fun x _ => x = .pointer (some ⟨g7, 1, none⟩), fun x _ => x = .slice u7 un7 uc7, fun x _ => x = .pointer (some ⟨g6, 1, none⟩), fun x _ => x = .slice u6 un6 uc6, fun x _ => x = .int .i64 (un6 : Int), fun x _ => x = .slice ta un6 tk, fun x _ => x = .pointer (some ⟨g6, 1, none⟩), fun x _ => x = .slice u6 un6 uc6, fun x _ => x = .bool true, fun x _ => x = .bool true] (by kernel_rfl) (by kernel_rfl) (by kernel_rfl) (by kernel_rfl) (by kernel_rfl) (by kernel_rfl) (by kernel_rfl) (by kernel_rfl) (by kernel_rfl) ?_ ?_ ?_ ?_ ?_ ?_
    · simp only [List.zip_cons_cons, List.zip_nil_right, List.forall_mem_cons]
      refine ⟨?_, ?_, ?_, ?_, ?_, ?_, ?_, ?_, ?_, ?_, by simp⟩
      all_goals (intro hk v W W' h hb; first | exact Bool.noConfusion hk | exact h)
    · simp only [List.forall_mem_cons]
      refine ⟨?_, ?_, ?_, ?_, ?_, ?_, ?_, ?_, ?_, ?_, by simp⟩
      all_goals (intro v W W' h hb; first | exact h)
    · exact fun _ _ _ _ => trivial
    · exact trivial
    · refine ⟨?_, ?_, ?_, ?_, ?_, ?_, ?_, ?_, ?_, ?_, trivial⟩
      all_goals
        intro a W hB hF hd hp
        have k6 := hF 6 rfl
        have k7 := hF 7 rfl
        have k6' := kb6.keep hB
        have k7' := kb7.keep hB
        have x1 : W.cell? ⟨g6, 1, none⟩ = some (.slice u6 un6 uc6) := k6'.cell 1
        have y1 : W.cell? ⟨g7, 1, none⟩ = some (.slice u7 un7 uc7) := k7'.cell 1
        clear k6' k7'
        clear hF
        simp [PM.depsK, PM.spec, PM.sl] at hd hp k6 k7
        simp only [PM.wantL, PM.spec, PM.Spv]
        try simp only [PM.sl]
        go_simp
      all_goals try exact Below.refl _ _
      · refine (sameEns_any (.slice ta un6 tk) (.slice u6 un6 uc6) sa.ls sa.ls W (PM.EnL.keep hT.out hB) (PM.EnL.keep hst6.out.1 hB) hwfa.out hwfa.out).mono ?_
        rintro e w' ⟨hh, hb⟩
        rcases hh with ⟨rfl, -⟩ | ⟨-, hno⟩
        · first | exact ⟨hb, rfl⟩ | exact ⟨hb, _, rfl, rfl⟩
        · first | exact (hno rfl).elim | exact (hno trivial).elim
    · intro G W hB hF hS
      simp only [PM.allK, PM.spec] at hS
      simp at hS
      try simp [PM.sl] at hS
      have h0' := hF 0 rfl
      have h1' := hF 1 rfl
      have h2' := hF 2 rfl
      have h3' := hF 3 rfl
      have h4' := hF 4 rfl
      have h5' := hF 5 rfl
      have h6' := hF 6 rfl
      have h7' := hF 7 rfl
      simp [PM.sl] at h0' h1' h2' h3' h4' h5' h6' h7'
      rw [show ((List.range (Array.size _)).map G).toArray = #[G 0, G 1, G 2, G 3, G 4, G 5, G 6, G 7, G 8, G 9, G 10, G 11, G 12, G 13, G 14, G 15, G 16, G 17, G 18, G 19, G 20, G 21, G 22, G 23, G 24, G 25, G 26, G 27, G 28, G 29, G 30, G 31, G 32, G 33, G 34, G 35, G 36, G 37, G 38, G 39, G 40, G 41, G 42, G 43, G 44, G 45, G 46, G 47, G 48, G 49, G 50, G 51, G 52, G 53, G 54, G 55, G 56, G 57, G 58, G 59, G 60, G 61, G 62, G 63, G 64, G 65, G 66, G 67, G 68, G 69, G 70, G 71, G 72] from rfl]
      rw [h0', h1', h2', h3', h4', h5', h6', h7', hS]
      clear h0' h1' h2' h3' h4' h5' h6' h7' hF hS
      replace hBB := PM.hid (PM.chain hBB.out hB)
      replace hst6 := PM.hid (hst6.out.keep hB)
      replace hst7 := PM.hid (hst7.out.keep hB)
      replace kb6 := kb6.keep hB
      replace kb7 := kb7.keep hB
      clear hB hT ht
      clear ta tk
      obtain ⟨ta, tk, ht, hT⟩ := PM.EM.takeU' tyIdO hst7.out.2.2 (K := tn6) (by have := hg3.out; omega)
      rw [show sb.ab.take tn6 = sa.ab from hpre.out.2] at hT
      replace hT := PM.hid hT
      go_upto_region 11 with fail
      refine PM.wp_region_stK (fun W W' => Below W.heap.size W W') (fun W W' => Below W.heap.size W W') (fun _ => True) (fun _ _ h => h) (fun h => h) (fun h k => PM.chain h k) [some 60, some 61, some 62, some 63, some 64, some 65, some 66, some 67, some 68, some 9] [some 60, some 61, some 62, some 63, some 64, some 65, some 66, some 67, some 68, some 9] [[], [0], [], [2], [2, 3], [0, 1, 2, 3, 4], [], [6], [0, 1, 2, 3, 4, 5, 6, 7], [0, 1, 2, 3, 4, 5, 6, 7, 8]] [false, false, false, false, false, false, false, false, false, false] [] [([], false), ([0], false), ([], false), ([2], false), ([3], false), ([1, 4], false), ([], false), ([6], false), ([5, 7], false), ([8], false)] [9] [fun x _ => x = .pointer (some ⟨g7, 3, none⟩), fun x _ => x = .slice t7 tn7 tc7, fun x _ => x = .pointer (some ⟨g6, 3, none⟩), fun x _ => x = .slice t6 tn6 tc6, fun x _ => x = .int .i64 (tn6 : Int), fun x _ => x = .slice ta tn6 tk, fun x _ => x = .pointer (some ⟨g6, 3, none⟩), fun x _ => x = .slice t6 tn6 tc6, fun x _ => x = .bool true, fun x _ => x = .bool true] (by kernel_rfl) (by kernel_rfl) (by kernel_rfl) (by kernel_rfl) (by kernel_rfl) (by kernel_rfl) (by kernel_rfl) (by kernel_rfl) (by kernel_rfl) ?_ ?_ ?_ ?_ ?_ ?_
      · simp only [List.zip_cons_cons, List.zip_nil_right, List.forall_mem_cons]
        refine ⟨?_, ?_, ?_, ?_, ?_, ?_, ?_, ?_, ?_, ?_, by simp⟩
        all_goals (intro hk v W W' h hb; first | exact Bool.noConfusion hk | exact h)
      · simp only [List.forall_mem_cons]
        refine ⟨?_, ?_, ?_, ?_, ?_, ?_, ?_, ?_, ?_, ?_, by simp⟩
        all_goals (intro v W W' h hb; first | exact h)
      · exact fun _ _ _ _ => trivial
      · exact trivial
      · refine ⟨?_, ?_, ?_, ?_, ?_, ?_, ?_, ?_, ?_, ?_, trivial⟩
        all_goals
          intro a W hB hF hd hp
          have k6 := hF 6 rfl
          have k7 := hF 7 rfl
          have k6' := kb6.keep hB
          have k7' := kb7.keep hB
          have x1 : W.cell? ⟨g6, 3, none⟩ = some (.slice t6 tn6 tc6) := k6'.cell 3
          have y1 : W.cell? ⟨g7, 3, none⟩ = some (.slice t7 tn7 tc7) := k7'.cell 3
          clear k6' k7'
          clear hF
          simp [PM.depsK, PM.spec, PM.sl] at hd hp k6 k7
          simp only [PM.wantL, PM.spec, PM.Spv]
          try simp only [PM.sl]
          go_simp
        all_goals try exact Below.refl _ _
        · refine (sameIds_any (.slice ta tn6 tk) (.slice t6 tn6 tc6) sa.ab sa.ab W (hT.out.keep hB) (hst6.out.2.2.keep hB)).mono ?_
          rintro e w' ⟨hh, hb⟩
          rcases hh with ⟨rfl, -⟩ | ⟨-, hno⟩
          · first | exact ⟨hb, rfl⟩ | exact ⟨hb, _, rfl, rfl⟩
          · first | exact (hno rfl).elim | exact (hno trivial).elim
      · intro G W hB hF hS
        simp only [PM.allK, PM.spec] at hS
        simp at hS
        try simp [PM.sl] at hS
        have h0' := hF 0 rfl
        have h1' := hF 1 rfl
        have h2' := hF 2 rfl
        have h3' := hF 3 rfl
        have h4' := hF 4 rfl
        have h5' := hF 5 rfl
        have h6' := hF 6 rfl
        have h7' := hF 7 rfl
        have h8' := hF 8 rfl
        simp [PM.sl] at h0' h1' h2' h3' h4' h5' h6' h7' h8'
        rw [show ((List.range (Array.size _)).map G).toArray = #[G 0, G 1, G 2, G 3, G 4, G 5, G 6, G 7, G 8, G 9, G 10, G 11, G 12, G 13, G 14, G 15, G 16, G 17, G 18, G 19, G 20, G 21, G 22, G 23, G 24, G 25, G 26, G 27, G 28, G 29, G 30, G 31, G 32, G 33, G 34, G 35, G 36, G 37, G 38, G 39, G 40, G 41, G 42, G 43, G 44, G 45, G 46, G 47, G 48, G 49, G 50, G 51, G 52, G 53, G 54, G 55, G 56, G 57, G 58, G 59, G 60, G 61, G 62, G 63, G 64, G 65, G 66, G 67, G 68, G 69, G 70, G 71, G 72] from rfl]
        rw [h0', h1', h2', h3', h4', h5', h6', h7', h8', hS]
        clear h0' h1' h2' h3' h4' h5' h6' h7' h8' hF hS
        replace hBB := PM.hid (PM.chain hBB.out hB)
        clear hB kb6 kb7
        go_wp2_with fail
        go_ret
        exact ⟨rfl, hBB.out⟩
end Go.Proofs.Ytphdadlpfjfeoaa
