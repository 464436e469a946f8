/-
  THE WALKS OF LAYER 12's STATEMENTS: long.
-/
import Derived.Test.YtmlgiifebbigeaaTw
namespace Go.Proofs.Ytmlgiifebbigeaa
open Go.RowKit
set_option linter.unusedVariables false
set_option maxHeartbeats 4000000 in
theorem treeLong_walk (v : Value) (l : List Int) (a : Int) (b : Int) (wa : (Lit.int .i64 a).wf = true) (wb : (Lit.int .i64 b).wf = true) (w : World) (h : PM.ES PM.iv w v l) :
    Calls Try.prog 6 #[v, .int .i64 a, .int .i64 b] w fun e w' => e = .returned (.bool true) ∧ Below w.heap.size w w' := by
  clear wa wb
  have hbd := h.bound
  by_cases g1 : (100 : Int) < l.length
  · obtain ⟨va, vc, rfl⟩ := h.len
    clear h
    go_enter Try.func6, Try.ntmps6
    go_wp2_with (go_at_call 9; refine (awake12 _).mono ?_; rintro e w1 ⟨rfl, hb⟩)
    go_ret
    exact ⟨rfl, hb⟩
  · rcases es_tree v l w h with ⟨e1, _⟩ | ⟨e1, bb, off, cap, rfl, hP⟩
    · obtain ⟨va, vc, rfl⟩ := h.len
      go_enter Try.func6, Try.ntmps6
      go_wp2_with fail
      refine (awake12 _).mono ?_
      rintro e w1 ⟨rfl, hb⟩
      have hC := Check_es _ l w1 (h.keep hb)
      rw [e1] at hC
      have hb' := PM.hid hb
      clear hb h
      go_wp2_with (go_at_call 10; refine hC.mono ?_; rintro e w2 ⟨rfl, rfl⟩)
      go_ret
      exact ⟨rfl, hb'.out⟩
    · clear h e1
      have ht := hP.1
      have hpos := ht.pos
      have hle := ht.le
      by_cases hab : 0 ≤ a ∧ a < l.length ∧ 0 ≤ b ∧ b < l.length
      · obtain ⟨m, rfl⟩ : ∃ m : Nat, a = m := ⟨a.toNat, by omega⟩
        obtain ⟨n, rfl⟩ : ∃ n : Nat, b = n := ⟨b.toNat, by omega⟩
        have hm : m < l.length := by omega
        have hn : n < l.length := by omega
        have hlen := ht.way_len hm hn
        obtain ⟨r, hhd⟩ := ht.way_head hm hn
        have htop := PM.hid (ht.way_top m n hm hn ⟨hn, hm⟩)
        go_enter Try.func6, Try.ntmps6
        go_wp2_with fail
        refine (awake12 _).mono ?_
        rintro e w1 ⟨rfl, hb⟩
        have hC := Check_ok bb off cap l w1 (hP.keep hb)
        have hP1 := PM.hid (hP.keep hb)
        have hb' := PM.hid hb
        have hT := PM.hid ht
        clear hb hP ht
        have hW := Way_any bb off cap l m n w1 hP1.out hm hn
        go_wp2_with (go_at_call 10; refine hC.mono ?_; rintro e w2 ⟨rfl, rfl⟩)
        refine hW.mono ?_
        rintro e w3 ⟨v, rfl, ho, hB3⟩
        obtain ⟨xb, xo, xc, rfl, hx1, hx2, hx3⟩ := ho.es.open1 (by rw [hhd]; simp)
        have hcell : ∀ (k x : Nat), (PM.way l m n)[k]? = some x → w3.cell? ⟨xb, xo + k, none⟩ = some (.int .i64 x) := fun k x hk => hx3 k x (by rw [List.getElem?_map, hk]; rfl)
        have hP3 := PM.hid (hP1.out.keep hB3)
        have hb3 := PM.hid (PM.chain hb'.out hB3)
        clear ho hB3 hP1 hb' hW hC hx3
        have h0 := hcell 0 m (by rw [hhd]; rfl)
        have h0' : w3.cell? ⟨xb, xo, none⟩ = some (.int .i64 m) := h0
        have hpos2 : 0 < (PM.way l m n).length := by rw [hhd]; simp
        have hmem : m ∈ PM.way l m n := by rw [hhd]; simp
        rw [List.length_map] at hx1 ⊢
        obtain ⟨L, hL⟩ : ∃ L, L = (PM.way l m n).length := ⟨_, rfl⟩
        rw [← hL] at hlen hpos2 hx1 ⊢
        simp only [maxLen] at hx2
        have hLh := PM.hid hL
        obtain ⟨Wy, hWy⟩ : ∃ Wy, Wy = PM.way l m n := ⟨_, rfl⟩
        have hWh := PM.hid hWy
        rw [← hWy] at hcell hmem
        have hg0 : ((L : Int) == 0) = false := beq_eq_false_iff_ne.2 (by omega)
        clear hhd h0 hL hWy
        have hfalse : PM.up l m m = PM.up l m m := rfl
        clear hfalse
        have hD := fun n => Depth_any bb off cap l n w3 hP3.out
        have hU := fun n m => Up_any bb off cap l n m w3 hP3.out
        go_wp2
        go_loop [10, 11] (fun x y => ∃ (i k : Nat), x = .int .i64 i ∧ y = .int .i64 k ∧ k ≤ L ∧ i ∈ Wy ∧ ∀ (j z : Nat), j < k → Wy[j]? = some z → PM.depI l i ≤ PM.depI l z) (fun _ y => 40 - (intOf y).toNat)
        case atStart => exact ⟨m, 0, rfl, rfl, by omega, hmem, fun j z hj => by omega⟩
        case round =>
          obtain ⟨i, k, rfl, rfl, hk, hi, hall⟩ := hrel
          by_cases hlt : k < L
          · obtain ⟨z, hz⟩ : ∃ z, Wy[k]? = some z := ⟨Wy[k]'(by rw [hWh.out, ← hLh.out]; exact hlt), List.getElem?_eq_getElem _⟩
            have hc := hcell k z hz
            have hz2 : z ∈ Wy := List.mem_of_getElem? hz
            have hS := PM.hid (And.intro hall (And.intro hz (And.intro hz2 hi)))
            obtain ⟨dz, ez⟩ : ∃ d, PM.depI l z = d := ⟨_, rfl⟩
            obtain ⟨di, ei⟩ : ∃ d, PM.depI l i = d := ⟨_, rfl⟩
            have hez := PM.hid ez
            have hei := PM.hid ei
            clear hall hz hz2 hi hcell hmem h0'
            go_wp2_with (go_at_call 14; refine (hD _).mono ?_; rintro e w5 ⟨rfl, rfl⟩)
            · have hdd : dz < di := by assumption
              obtain ⟨hall, hz, hz2, hi⟩ := hS.out
              refine ⟨⟨z, k + 1, rfl, by go_num, by omega, hz2, fun j y hj hy => ?_⟩, by simp only [intOf]; omega⟩
              rw [hez.out]
              by_cases hjk : j < k
              · have := hall j y hjk hy
                rw [hei.out] at this
                omega
              · have : j = k := by omega
                subst this
                rw [hz] at hy
                obtain rfl : z = y := by simpa using hy
                rw [hez.out]
                exact Int.le_refl _
            · have hdd : di ≤ dz := by assumption
              obtain ⟨hall, hz, hz2, hi⟩ := hS.out
              refine ⟨⟨i, k + 1, rfl, by go_num, by omega, hi, fun j y hj hy => ?_⟩, by simp only [intOf]; omega⟩
              by_cases hjk : j < k
              · exact hall j y hjk hy
              · have : j = k := by omega
                subst this
                rw [hz] at hy
                obtain rfl : z = y := by simpa using hy
                rw [hei.out, hez.out]
                exact hdd
          · have hkL : k = L := by omega
            subst hkL
            obtain ⟨t1, t2, t3, t4, t5⟩ := htop.out
            have ht := hT.out
            rw [← hWh.out] at t1 t4 t5
            have hil := (t4 i hi).1
            obtain ⟨j, hj⟩ := List.mem_iff_getElem?.1 t1
            have hjl : j < k := by
              have := (List.getElem?_eq_some_iff.1 hj).1
              rw [hLh.out, ← hWh.out]; exact this
            have hle := hall j _ hjl hj
            have htl := (t4 _ t1).1
            have d1 : PM.depI l i = (PM.dep l i : Int) := if_pos (by omega)
            have d2 : PM.depI l (PM.top l m n : Nat) = (PM.dep l (PM.top l m n) : Int) := if_pos (by omega)
            have d3 : PM.depI l m = (PM.dep l m : Int) := if_pos (by omega)
            have d4 : PM.depI l n = (PM.dep l n : Int) := if_pos (by omega)
            have hdu := ht.dep_up i hil (t4 i hi).2
            have hit : PM.top l m n = i := hdu.2 (by omega)
            rw [hit] at t2 t3 t5
            have u1 : PM.up l i m = true := by unfold PM.up; simp [t2]; omega
            have u2 : PM.up l i n = true := by unfold PM.up; simp [t3]; omega
            have l1 := ht.dep_le m hm
            have l2 := ht.dep_le n hn
            have l3 := ht.dep_le i hil
            have t6 : k + 2 * PM.dep l i = PM.dep l m + PM.dep l n + 1 := by rw [hLh.out, ← hWh.out]; exact t5
            clear t1 t2 t3 t4 t5 hj hjl hle htl d2 hdu hit ht hall hi hcell hmem h0'
            generalize PM.dep l i = x at *
            generalize PM.dep l m = y at *
            generalize PM.dep l n = z at *
            go_wp2_with (first | (go_at_call 14; refine (hD _).mono ?_; rintro e w5 ⟨rfl, rfl⟩) | (go_at_call 15; refine (hU _ _).mono ?_; rintro e w5 ⟨rfl, rfl⟩))
            go_ret
            exact ⟨PM.ret_b (by rw [beq_iff_eq]; omega), hb3.out⟩
      · skip
        go_enter Try.func6, Try.ntmps6
        go_wp2_with fail
        refine (awake12 _).mono ?_
        rintro e w1 ⟨rfl, hb⟩
        have hC := Check_ok bb off cap l w1 (hP.keep hb)
        have hP1 := PM.hid (hP.keep hb)
        have hb' := PM.hid hb
        have hT := PM.hid ht
        clear hb hP ht
        by_cases q1 : a < 0
        · go_wp2_with (go_at_call 10; refine hC.mono ?_; rintro e w2 ⟨rfl, rfl⟩)
          go_ret
          exact ⟨rfl, hb'.out⟩
        by_cases q2 : b < 0
        · go_wp2_with (go_at_call 10; refine hC.mono ?_; rintro e w2 ⟨rfl, rfl⟩)
          go_ret
          exact ⟨rfl, hb'.out⟩
        by_cases q3 : (l.length : Int) ≤ a
        · go_wp2_with (go_at_call 10; refine hC.mono ?_; rintro e w2 ⟨rfl, rfl⟩)
          go_ret
          exact ⟨rfl, hb'.out⟩
        have q4 : (l.length : Int) ≤ b := by omega
        go_wp2_with (go_at_call 10; refine hC.mono ?_; rintro e w2 ⟨rfl, rfl⟩)
        go_ret
        exact ⟨rfl, hb'.out⟩
end Go.Proofs.Ytmlgiifebbigeaa
