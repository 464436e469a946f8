/-
  THE WALKS OF LAYER 7's STATEMENTS: reduces.
-/
import Derived.Test.YtenfjgfpeheepaaKe
import Derived.Test.YtenfjgfpeheepaaRx
import Derived.Deep.Cut
import Derived.Deep.CutRange
namespace Go.Proofs.Ytenfjgfpeheepaa
open Go.RowKit
set_option linter.unusedVariables false
set_option linter.unusedSimpArgs false
set_option maxRecDepth 100000 in
set_option maxHeartbeats 8000000 in
theorem coverReduces_walk (v : Value) (ls : List (List PM.Te)) (ev : Value) (es : List PM.At) (w : World) (hv : PM.FL w v ls) (he : PM.EV w ev es) (we_ : ∀ x ∈ es, x.wf) :
    Calls Try.prog 5 #[v, ev] w fun e w' => e = .returned (.bool true) ∧ Below w.heap.size w w' := by
  clear we_
  have hBB := PM.hid (Below.refl w.heap.size w)
  obtain ⟨va, vc, ve⟩ := hv.len
  subst ve
  obtain ⟨vN, vh⟩ : ∃ N, N = ls.length := ⟨_, rfl⟩
  have vH := PM.hid vh
  rw [← vh] at hv ⊢
  clear vh
  go_enter Try.func5, Try.ntmps5
  go_wp2_with fail
  refine (awake7 _).mono ?_
  rintro e wn1 ⟨rfl, hBn⟩
  replace hv := hv.keep hBn
  replace he := he.keep hBn
  replace hBB := PM.hid (PM.chain hBB.out hBn)
  clear hBn
  go_wp2_with fail
  refine (few7_any _ ls _ hv).mono ?_
  rintro e wf ⟨hF, rfl⟩
  rcases hF with ⟨rfl, hF⟩ | ⟨rfl, hF⟩
  case inr =>
    clear hv he hF
    go_wp2_with fail
    go_ret
    exact ⟨by first | rfl | simp, hBB.out⟩
  have hFF := PM.hid hF
  clear hF
  go_wp2_with fail
  refine (few_any ev es _ he).mono ?_
  rintro e wf ⟨hF, rfl⟩
  rcases hF with ⟨rfl, hF⟩ | ⟨rfl, hF⟩
  case inr =>
    clear hv he hF
    go_wp2_with fail
    go_ret
    exact ⟨by first | rfl | simp, hBB.out⟩
  clear hF
  go_wp2_with fail
  refine (may7_any _ ls _ hv).mono ?_
  rintro e wm ⟨hF, hBn⟩
  replace hv := hv.keep hBn
  replace he := he.keep hBn
  replace hBB := PM.hid (PM.chain hBB.out hBn)
  clear hBn
  rcases hF with ⟨rfl, hF⟩ | ⟨rfl, hF⟩
  case inr =>
    clear hv he hF
    go_wp2_with fail
    go_ret
    exact ⟨by first | rfl | simp, hBB.out⟩
  have hmy := PM.hid hF
  clear hF
  by_cases hk : PM.chkP es
  case neg =>
    go_wp2_with fail
    refine (echeck_any ev es _ he).mono ?_
    rintro e wn2 ⟨rfl, hBn⟩
    rw [PM.chk_no hk]
    replace hv := hv.keep hBn
    replace he := he.keep hBn
    replace hBB := PM.hid (PM.chain hBB.out hBn)
    clear hBn
    clear hv he hk
    go_wp2_with fail
    go_ret
    exact ⟨by first | rfl | simp, hBB.out⟩
  go_wp2_with fail
  refine (echeck_any ev es _ he).mono ?_
  rintro e wn3 ⟨rfl, hBn⟩
  rw [PM.chk_yes hk]
  replace hv := hv.keep hBn
  replace he := he.keep hBn
  replace hBB := PM.hid (PM.chain hBB.out hBn)
  clear hBn
  have hany := PM.hid (PM.redL_any hmy.out hk)
  have hrr := PM.hid (PM.redL_redL ls)
  have hrl := PM.redL_len ls
  have hsm := PM.redL_some ls
  have hno := PM.hid (fun (a b : Nat) (x y : List PM.Te) (h : a ≠ b) => PM.redL_no (l := ls) (a := a) (b := b) (x := x) (y := y) h)
  have hsz := PM.hid (fun (x : List PM.Te) (hx : x ∈ PM.redL ls) => hFF.out.len (PM.redL_mem hx))
  have hl12 := hFF.out.1
  rw [← vH.out] at hl12 hrl hsm
  clear hk
  go_wp2_with fail
  refine (reduce_any _ ls _ hv (by rw [← vH.out]; omega) (fun x hx => hFF.out.len hx)).mono ?_
  rintro e w8 ⟨u, rfl, hO, hBn⟩
  have hr := hO.rr.imp (R' := PM.fR) (fun _ _ h => PM.fO_fR h)
  clear hO
  replace hv := hv.keep hBn
  replace he := he.keep hBn
  replace hBB := PM.hid (PM.chain hBB.out hBn)
  clear hBn
  generalize hred : PM.redL ls = rs at *
  clear hred
  obtain ⟨ra, rc, hre⟩ := hr.len
  subst hre
  obtain ⟨N, hN⟩ : ∃ N, N = rs.length := ⟨_, rfl⟩
  have hNh := PM.hid hN
  rw [← hN] at hr hrl hsm ⊢
  have hsmh := PM.hid hsm
  clear hN hsm
  have hN12 : N ≤ 12 := by omega
  obtain ⟨wz, rfl⟩ : ∃ x : World, x = w8 := ⟨_, rfl⟩
  have hrh := PM.hid hr
  have hvh := PM.hid (And.intro hv he)
  clear hr hv he
  go_wp2_with fail
  go_loopw [7] (fun i wr => ∃ na : Nat, i = .int .i64 na ∧ na ≤ N ∧ Hid (Below wz.heap.size wz wr)) (fun i _ => N - (intOf i).toNat)
  case atStart => exact ⟨0, rfl, by omega, PM.hid (Below.refl _ _)⟩
  case round =>
    obtain ⟨na, rfl, ha, hB⟩ := hrel
    obtain ⟨wo, rfl⟩ : ∃ wo : World, wo = wr := ⟨_, rfl⟩
    by_cases hlt : na < N
    · go_wp2_with fail
      go_loopw [8] (fun i wr => ∃ nb : Nat, i = .int .i64 nb ∧ nb ≤ N ∧ Hid (Below wz.heap.size wz wr)) (fun i _ => N - (intOf i).toNat)
      case atStart => exact ⟨0, rfl, by omega, hB⟩
      case round =>
        obtain ⟨nb, rfl, hb, hB2⟩ := hrel
        by_cases hlb : nb < N
        · obtain ⟨zx, hx⟩ : ∃ x, rs[na]? = some x := ⟨rs[na]'(by rw [← hNh.out]; exact hlt), List.getElem?_eq_getElem _⟩
          obtain ⟨zy, hy⟩ : ∃ x, rs[nb]? = some x := ⟨rs[nb]'(by rw [← hNh.out]; exact hlb), List.getElem?_eq_getElem _⟩
          obtain ⟨g, off, rfl, hce⟩ := PM.RR.opn hrh.out (by rw [← hNh.out]; omega)
          obtain ⟨xv, hc, hxv⟩ := PM.fR_cell (hce na zx hx)
          obtain ⟨yv, hd, hyv⟩ := PM.fR_cell (hce nb zy hy)
          have hcc := PM.hid (And.intro (PM.cell_keepK hB2.out hc) (And.intro (PM.cell_keepK hB2.out hd) (And.intro (hxv.keep hB2.out) (hyv.keep hB2.out))))
          have hxy := PM.hid (And.intro hx hy)
          clear hx hy hce hc hd hxv hyv
          by_cases hab : na = nb
          · subst hab
            have q1 : ((na : Int) != (na : Int)) = false := by simp
            go_upto_region 11 with fail
            refine PM.wp_region_st [some 44, some 45, some 46, some 47, some 48, some 49, some 50, some 51, some 52, some 53, some 54, some 55, some 56, some 57] [fun x _ => x = .int .i64 (na : Int), fun x _ => x = .int .i64 (na : Int), fun x _ => x = .bool false, fun x _ => x = .bool false, fun _ _ => True, fun _ _ => True, fun _ _ => True, fun _ _ => True, fun _ _ => True, fun _ _ => True, fun _ _ => True, fun _ _ => True, fun _ _ => True, fun x _ => x = .bool false] (by kernel_rfl) (by kernel_rfl) (by kernel_rfl) ?_ ?_ ?_
            · simp only [List.forall_mem_cons]
              refine ⟨?_, ?_, ?_, ?_, ?_, ?_, ?_, ?_, ?_, ?_, ?_, ?_, ?_, ?_, by simp⟩
              all_goals (intro x W W' h hb; first | exact h | exact PM.BS.keep hb h | exact PM.OW.keep hb h)
            · refine ⟨?_, ?_, ?_, ?_, ?_, ?_, ?_, ?_, ?_, ?_, ?_, ?_, ?_, ?_, trivial⟩
              all_goals
                intro a W hB hF hd
                have k6 := hF 6 rfl
                have k7 := hF 7 rfl
                have k8 := hF 8 rfl
                clear hF
                simp [PM.depsL, PM.spec, PM.sl, Region.binds] at hd k6 k7 k8
                simp only [PM.wantL, PM.spec]
                try simp only [PM.sl]
                go_simp
              all_goals try exact Below.refl _ _
            · intro G W hB hF hS
              have h57 : G 57 = .bool false := by simp [PM.allSp, PM.spec] at hS; simp [hS]
              have k0 := hF 0 rfl
              have k1 := hF 1 rfl
              have k2 := hF 2 rfl
              have k3 := hF 3 rfl
              have k4 := hF 4 rfl
              have k5 := hF 5 rfl
              have k6 := hF 6 rfl
              have k7 := hF 7 rfl
              have k8 := hF 8 rfl
              have k9 := hF 9 rfl
              have k10 := hF 10 rfl
              have k11 := hF 11 rfl
              have k12 := hF 12 rfl
              have k13 := hF 13 rfl
              have k14 := hF 14 rfl
              have k15 := hF 15 rfl
              have k16 := hF 16 rfl
              have k17 := hF 17 rfl
              have k18 := hF 18 rfl
              have k19 := hF 19 rfl
              have k20 := hF 20 rfl
              have k21 := hF 21 rfl
              have k22 := hF 22 rfl
              have k23 := hF 23 rfl
              have k24 := hF 24 rfl
              have k25 := hF 25 rfl
              have k26 := hF 26 rfl
              have k27 := hF 27 rfl
              have k28 := hF 28 rfl
              have k29 := hF 29 rfl
              have k30 := hF 30 rfl
              have k31 := hF 31 rfl
              have k32 := hF 32 rfl
              have k33 := hF 33 rfl
              have k34 := hF 34 rfl
              have k35 := hF 35 rfl
              have k36 := hF 36 rfl
              have k37 := hF 37 rfl
              have k38 := hF 38 rfl
              have k39 := hF 39 rfl
              have k40 := hF 40 rfl
              have k41 := hF 41 rfl
              have k42 := hF 42 rfl
              have k43 := hF 43 rfl
              have k58 := hF 58 rfl
              have k59 := hF 59 rfl
              have k60 := hF 60 rfl
              have k61 := hF 61 rfl
              have k62 := hF 62 rfl
              have k63 := hF 63 rfl
              have k64 := hF 64 rfl
              have k65 := hF 65 rfl
              have k66 := hF 66 rfl
              have k67 := hF 67 rfl
              have k68 := hF 68 rfl
              have k69 := hF 69 rfl
              have k70 := hF 70 rfl
              have k71 := hF 71 rfl
              have k72 := hF 72 rfl
              have k73 := hF 73 rfl
              have k74 := hF 74 rfl
              have k75 := hF 75 rfl
              have k76 := hF 76 rfl
              have k77 := hF 77 rfl
              have k78 := hF 78 rfl
              have k79 := hF 79 rfl
              have k80 := hF 80 rfl
              have k81 := hF 81 rfl
              have k82 := hF 82 rfl
              have k83 := hF 83 rfl
              have k84 := hF 84 rfl
              have k85 := hF 85 rfl
              have k86 := hF 86 rfl
              have k87 := hF 87 rfl
              have k88 := hF 88 rfl
              have k89 := hF 89 rfl
              have k90 := hF 90 rfl
              simp [PM.sl] at k0 k1 k2 k3 k4 k5 k6 k7 k8 k9 k10 k11 k12 k13 k14 k15 k16 k17 k18 k19 k20 k21 k22 k23 k24 k25 k26 k27 k28 k29 k30 k31 k32 k33 k34 k35 k36 k37 k38 k39 k40 k41 k42 k43 k58 k59 k60 k61 k62 k63 k64 k65 k66 k67 k68 k69 k70 k71 k72 k73 k74 k75 k76 k77 k78 k79 k80 k81 k82 k83 k84 k85 k86 k87 k88 k89 k90
              rw [show ((List.range (Array.size _)).map G).toArray = #[G 0, G 1, G 2, G 3, G 4, G 5, G 6, G 7, G 8, G 9, G 10, G 11, G 12, G 13, G 14, G 15, G 16, G 17, G 18, G 19, G 20, G 21, G 22, G 23, G 24, G 25, G 26, G 27, G 28, G 29, G 30, G 31, G 32, G 33, G 34, G 35, G 36, G 37, G 38, G 39, G 40, G 41, G 42, G 43, G 44, G 45, G 46, G 47, G 48, G 49, G 50, G 51, G 52, G 53, G 54, G 55, G 56, G 57, G 58, G 59, G 60, G 61, G 62, G 63, G 64, G 65, G 66, G 67, G 68, G 69, G 70, G 71, G 72, G 73, G 74, G 75, G 76, G 77, G 78, G 79, G 80, G 81, G 82, G 83, G 84, G 85, G 86, G 87, G 88, G 89, G 90] from rfl]
              clear hF hS
              rw [h57, k0, k1, k2, k3, k4, k5, k6, k7, k8, k9, k10, k11, k12, k13, k14, k15, k16, k17, k18, k19, k20, k21, k22, k23, k24, k25, k26, k27, k28, k29, k30, k31, k32, k33, k34, k35, k36, k37, k38, k39, k40, k41, k42, k43, k58, k59, k60, k61, k62, k63, k64, k65, k66, k67, k68, k69, k70, k71, k72, k73, k74, k75, k76, k77, k78, k79, k80, k81, k82, k83, k84, k85, k86, k87, k88, k89, k90]
              clear h57 k0 k1 k2 k3 k4 k5 k6 k7 k8 k9 k10 k11 k12 k13 k14 k15 k16 k17 k18 k19 k20 k21 k22 k23 k24 k25 k26 k27 k28 k29 k30 k31 k32 k33 k34 k35 k36 k37 k38 k39 k40 k41 k42 k43 k58 k59 k60 k61 k62 k63 k64 k65 k66 k67 k68 k69 k70 k71 k72 k73 k74 k75 k76 k77 k78 k79 k80 k81 k82 k83 k84 k85 k86 k87 k88 k89 k90
              have hB3 := PM.hid (PM.chain hB2.out hB)
              clear hB hB2 hcc
              go_wp2_with fail
              exact ⟨⟨na + 1, by go_num, by omega, hB3⟩, by simp only [intOf]; omega⟩
          · have ff := PM.hid (hno.out na nb zx zy hab hxy.out.1 hxy.out.2)
            have q1 : ((na : Int) != (nb : Int)) = true := by simp; omega
            go_upto_region 11 with fail
            refine PM.wp_region_st [some 44, some 45, some 46, some 47, some 48, some 49, some 50, some 51, some 52, some 53, some 54, some 55, some 56, some 57] [fun x _ => x = .int .i64 (na : Int), fun x _ => x = .int .i64 (nb : Int), fun x _ => x = .bool true, fun x _ => x = .bool true, fun x _ => x = .slice (some ⟨g, off, none⟩) N rc, fun x _ => x = .int .i64 (na : Int), fun x _ => x = .pointer (some ⟨g, off + na, none⟩), fun x _ => x = xv, fun x _ => x = .slice (some ⟨g, off, none⟩) N rc, fun x _ => x = .int .i64 (nb : Int), fun x _ => x = .pointer (some ⟨g, off + nb, none⟩), fun x _ => x = yv, fun x _ => x = .bool false, fun x _ => x = .bool false] (by kernel_rfl) (by kernel_rfl) (by kernel_rfl) ?_ ?_ ?_
            · simp only [List.forall_mem_cons]
              refine ⟨?_, ?_, ?_, ?_, ?_, ?_, ?_, ?_, ?_, ?_, ?_, ?_, ?_, ?_, by simp⟩
              all_goals (intro x W W' h hb; first | exact h | exact PM.BS.keep hb h | exact PM.OW.keep hb h)
            · refine ⟨?_, ?_, ?_, ?_, ?_, ?_, ?_, ?_, ?_, ?_, ?_, ?_, ?_, ?_, trivial⟩
              all_goals
                intro a W hB hF hd
                have k6 := hF 6 rfl
                have k7 := hF 7 rfl
                have k8 := hF 8 rfl
                have c0 : W.cell? ⟨g, off + na, none⟩ = some xv := PM.cell_keepK hB hcc.out.1
                have d0 : W.cell? ⟨g, off + nb, none⟩ = some yv := PM.cell_keepK hB hcc.out.2.1
                clear hF
                simp [PM.depsL, PM.spec, PM.sl, Region.binds] at hd k6 k7 k8
                simp only [PM.wantL, PM.spec]
                try simp only [PM.sl]
                go_simp
              all_goals try exact Below.refl _ _
              · refine (covers_any xv yv zx zy W (hcc.out.2.2.1.keep hB) (hcc.out.2.2.2.keep hB)).mono ?_
                rw [ff.out]
                rintro e w' ⟨rfl, hb⟩
                exact ⟨hb, rfl⟩
            · intro G W hB hF hS
              have h57 : G 57 = .bool false := by simp [PM.allSp, PM.spec] at hS; simp [hS]
              have k0 := hF 0 rfl
              have k1 := hF 1 rfl
              have k2 := hF 2 rfl
              have k3 := hF 3 rfl
              have k4 := hF 4 rfl
              have k5 := hF 5 rfl
              have k6 := hF 6 rfl
              have k7 := hF 7 rfl
              have k8 := hF 8 rfl
              have k9 := hF 9 rfl
              have k10 := hF 10 rfl
              have k11 := hF 11 rfl
              have k12 := hF 12 rfl
              have k13 := hF 13 rfl
              have k14 := hF 14 rfl
              have k15 := hF 15 rfl
              have k16 := hF 16 rfl
              have k17 := hF 17 rfl
              have k18 := hF 18 rfl
              have k19 := hF 19 rfl
              have k20 := hF 20 rfl
              have k21 := hF 21 rfl
              have k22 := hF 22 rfl
              have k23 := hF 23 rfl
              have k24 := hF 24 rfl
              have k25 := hF 25 rfl
              have k26 := hF 26 rfl
              have k27 := hF 27 rfl
              have k28 := hF 28 rfl
              have k29 := hF 29 rfl
              have k30 := hF 30 rfl
              have k31 := hF 31 rfl
              have k32 := hF 32 rfl
              have k33 := hF 33 rfl
              have k34 := hF 34 rfl
              have k35 := hF 35 rfl
              have k36 := hF 36 rfl
              have k37 := hF 37 rfl
              have k38 := hF 38 rfl
              have k39 := hF 39 rfl
              have k40 := hF 40 rfl
              have k41 := hF 41 rfl
              have k42 := hF 42 rfl
              have k43 := hF 43 rfl
              have k58 := hF 58 rfl
              have k59 := hF 59 rfl
              have k60 := hF 60 rfl
              have k61 := hF 61 rfl
              have k62 := hF 62 rfl
              have k63 := hF 63 rfl
              have k64 := hF 64 rfl
              have k65 := hF 65 rfl
              have k66 := hF 66 rfl
              have k67 := hF 67 rfl
              have k68 := hF 68 rfl
              have k69 := hF 69 rfl
              have k70 := hF 70 rfl
              have k71 := hF 71 rfl
              have k72 := hF 72 rfl
              have k73 := hF 73 rfl
              have k74 := hF 74 rfl
              have k75 := hF 75 rfl
              have k76 := hF 76 rfl
              have k77 := hF 77 rfl
              have k78 := hF 78 rfl
              have k79 := hF 79 rfl
              have k80 := hF 80 rfl
              have k81 := hF 81 rfl
              have k82 := hF 82 rfl
              have k83 := hF 83 rfl
              have k84 := hF 84 rfl
              have k85 := hF 85 rfl
              have k86 := hF 86 rfl
              have k87 := hF 87 rfl
              have k88 := hF 88 rfl
              have k89 := hF 89 rfl
              have k90 := hF 90 rfl
              simp [PM.sl] at k0 k1 k2 k3 k4 k5 k6 k7 k8 k9 k10 k11 k12 k13 k14 k15 k16 k17 k18 k19 k20 k21 k22 k23 k24 k25 k26 k27 k28 k29 k30 k31 k32 k33 k34 k35 k36 k37 k38 k39 k40 k41 k42 k43 k58 k59 k60 k61 k62 k63 k64 k65 k66 k67 k68 k69 k70 k71 k72 k73 k74 k75 k76 k77 k78 k79 k80 k81 k82 k83 k84 k85 k86 k87 k88 k89 k90
              rw [show ((List.range (Array.size _)).map G).toArray = #[G 0, G 1, G 2, G 3, G 4, G 5, G 6, G 7, G 8, G 9, G 10, G 11, G 12, G 13, G 14, G 15, G 16, G 17, G 18, G 19, G 20, G 21, G 22, G 23, G 24, G 25, G 26, G 27, G 28, G 29, G 30, G 31, G 32, G 33, G 34, G 35, G 36, G 37, G 38, G 39, G 40, G 41, G 42, G 43, G 44, G 45, G 46, G 47, G 48, G 49, G 50, G 51, G 52, G 53, G 54, G 55, G 56, G 57, G 58, G 59, G 60, G 61, G 62, G 63, G 64, G 65, G 66, G 67, G 68, G 69, G 70, G 71, G 72, G 73, G 74, G 75, G 76, G 77, G 78, G 79, G 80, G 81, G 82, G 83, G 84, G 85, G 86, G 87, G 88, G 89, G 90] from rfl]
              clear hF hS
              rw [h57, k0, k1, k2, k3, k4, k5, k6, k7, k8, k9, k10, k11, k12, k13, k14, k15, k16, k17, k18, k19, k20, k21, k22, k23, k24, k25, k26, k27, k28, k29, k30, k31, k32, k33, k34, k35, k36, k37, k38, k39, k40, k41, k42, k43, k58, k59, k60, k61, k62, k63, k64, k65, k66, k67, k68, k69, k70, k71, k72, k73, k74, k75, k76, k77, k78, k79, k80, k81, k82, k83, k84, k85, k86, k87, k88, k89, k90]
              clear h57 k0 k1 k2 k3 k4 k5 k6 k7 k8 k9 k10 k11 k12 k13 k14 k15 k16 k17 k18 k19 k20 k21 k22 k23 k24 k25 k26 k27 k28 k29 k30 k31 k32 k33 k34 k35 k36 k37 k38 k39 k40 k41 k42 k43 k58 k59 k60 k61 k62 k63 k64 k65 k66 k67 k68 k69 k70 k71 k72 k73 k74 k75 k76 k77 k78 k79 k80 k81 k82 k83 k84 k85 k86 k87 k88 k89 k90
              have hB3 := PM.hid (PM.chain hB2.out hB)
              clear hB hB2 hcc
              go_wp2_with fail
              exact ⟨⟨nb + 1, by go_num, by omega, hB3⟩, by simp only [intOf]; omega⟩
        · obtain rfl : nb = N := by omega
          go_wp2_with fail
          exact ⟨⟨na + 1, by go_num, by omega, hB2⟩, by simp only [intOf]; omega⟩
    · obtain rfl : na = N := by omega
      replace hBB := PM.hid (PM.chain hBB.out hB.out)
      have hr := PM.FL.keep hB.out hrh.out
      have hv := PM.FL.keep hB.out hvh.out.1
      have he := PM.EV.keep hB.out hvh.out.2
      clear hrh hvh hB
      go_wp2_with fail
      refine (reduce_any _ rs _ hr (by rw [← hNh.out]; omega) hsz.out).mono ?_
      rintro e w9 ⟨u2, rfl, hO, hBn⟩
      rw [hrr.out] at hO
      have hr2 := hO.rr.imp (R' := PM.fR) (fun _ _ h => PM.fO_fR h)
      replace hr := PM.FL.keep hBn hr
      replace hv := PM.FL.keep hBn hv
      replace he := PM.EV.keep hBn he
      replace hBB := PM.hid (PM.chain hBB.out hBn)
      clear hO hBn
      go_wp2_with fail
      refine (same7_any _ _ _ _ w9 hr2 hr).mono ?_
      rintro e w10 ⟨hsm, hBn⟩
      obtain rfl : e = .returned (.bool true) := by rcases hsm with ⟨h, _⟩ | ⟨_, h⟩; exact h; exact absurd rfl h
      replace hr := PM.FL.keep hBn hr
      replace hv := PM.FL.keep hBn hv
      replace he := PM.EV.keep hBn he
      replace hBB := PM.hid (PM.chain hBB.out hBn)
      clear hsm hBn hr2
      go_wp2_with fail
      refine (cany_any _ ev rs es w10 hr he).mono ?_
      rw [hany.out]
      rintro e w11 ⟨rfl, hBn⟩
      replace hv := PM.FL.keep hBn hv
      replace he := PM.EV.keep hBn he
      replace hBB := PM.hid (PM.chain hBB.out hBn)
      clear hBn hr
      go_wp2_with fail
      refine (cany_any _ ev ls es w11 hv he).mono ?_
      rintro e w12 ⟨rfl, hBn⟩
      replace hBB := PM.hid (PM.chain hBB.out hBn)
      clear hBn hv he
      have hq : decide ((0 : Int) < (na : Int)) = decide ((0 : Int) < (vN : Int)) := by
        rw [Bool.eq_iff_iff, decide_eq_true_iff, decide_eq_true_iff]
        have := hsmh.out
        constructor
        · intro h; have h' : 0 < na := by omega
          rw [this] at h'; omega
        · intro h; have h' : 0 < vN := by omega
          rw [← this] at h'; omega
      have hqh := PM.hid hq
      have hq' : decide (0 < na) = decide (0 < vN) := by rw [Bool.eq_iff_iff, decide_eq_true_iff, decide_eq_true_iff, hsmh.out]
      clear hq
      by_cases hz : 0 < vN
      · have hz' : 0 < na := by rw [hsmh.out]; exact hz
        clear hq'
        go_wp2_with fail
        go_ret
        exact ⟨by first | rfl | simp, hBB.out⟩
      · have hz' : ¬ 0 < na := by rw [hsmh.out]; exact hz
        clear hq'
        go_wp2_with fail
        go_ret
        exact ⟨by first | rfl | simp, hBB.out⟩
end Go.Proofs.Ytenfjgfpeheepaa
