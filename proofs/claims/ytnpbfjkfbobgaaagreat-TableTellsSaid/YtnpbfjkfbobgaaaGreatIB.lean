import Derived.Test.YtnpbfjkfbobgaaaGreatIA
import Derived.Test.YtnpbfjkfbobgaaaGreatEA
import Derived.Test.YtnpbfjkfbobgaaaGreatG0
import Derived.Test.YtnpbfjkfbobgaaaGreatVc
import Derived.Deep.CutRange
/-
  CONTRACTS OF package filter: One, Check.
-/
namespace Go.Proofs.YtnpbfjkfbobgaaaGreat
open Go.RowKit
set_option linter.unusedVariables false
theorem PM.teE_no {z : PM.Te} (h : PM.teOk z = false) : PM.teE z = 50 := by unfold PM.teE; rw [h]; rfl
theorem PM.teE_yes {z : PM.Te} (h : PM.teOk z = true) : PM.teE z = 0 := by unfold PM.teE; rw [h]; rfl
theorem PM.mayE_yes {k n : Int} {s : List UInt8} (h : PM.may k n s = true) : PM.mayE k n s = 0 := by unfold PM.mayE; rw [if_pos h]
theorem PM.mayE_no {k n : Int} {s : List UInt8} (h : PM.may k n s = false) : PM.mayE k n s = 10 := by unfold PM.mayE; rw [h]; rfl
set_option maxHeartbeats 2000000 in
theorem one_any (z : PM.Te) (w : World) :
    Calls Tryz.prog 60 #[.agg #[.string z.name, .int .i64 z.op, .int .i64 z.k, .int .i64 z.n, .string z.s]] w fun e w' => e = .returned (.int .i64 (PM.teE z)) ∧ Below w.heap.size w w' := by
  go_enter Tryz.func60, Tryz.ntmps60
  go_wp2_with fail
  obtain ⟨g, hg⟩ : ∃ g, g = w.heap.size := ⟨_, rfl⟩
  obtain ⟨W0, hW0⟩ : ∃ W, W = w.alloc (.cells #[.string z.name, .int .i64 z.op, .int .i64 z.k, .int .i64 z.n, .string z.s] 50) := ⟨_, rfl⟩
  have hB0 : Below w.heap.size w W0 := by rw [hW0]; exact (Below.refl _ _).alloc (Nat.le_refl _) _
  have hk0 : PM.BK W0 g #[.string z.name, .int .i64 z.op, .int .i64 z.k, .int .i64 z.n, .string z.s] 50 := by rw [hW0, hg]; exact PM.BK.new _ _ _
  rw [← hW0, ← hg]
  clear hW0 hg
  refine (name_any z.name W0).mono ?_
  rintro e w1 ⟨rfl, hB1⟩
  have hk1 := hk0.keep hB1
  have hB := PM.hid (PM.chain hB0 hB1)
  have hkh := PM.hid hk1
  have c1 : w1.cell? ⟨g, 1, none⟩ = some (.int .i64 z.op) := hk1.cell 1
  have c2 : w1.cell? ⟨g, 2, none⟩ = some (.int .i64 z.k) := hk1.cell 2
  have c3 : w1.cell? ⟨g, 3, none⟩ = some (.int .i64 z.n) := hk1.cell 3
  have c4 : w1.cell? ⟨g, 4, none⟩ = some (.string z.s) := hk1.cell 4
  clear hk0 hk1 hB0 hB1
  by_cases hn : PM.nameL z.name.data.toList = true
  case neg =>
    have hn' : PM.nameL z.name.data.toList = false := by simpa using hn
    have hT : Hid (PM.teE z = 50) := PM.hid (PM.teE_no (by unfold PM.teOk; rw [hn']; rfl))
    rw [hn']
    clear hn hn'
    go_wp2_with fail
    go_ret
    exact ⟨by rw [hT.out]; rfl, hB.out⟩
  have hnh := PM.hid hn
  rw [hn]
  clear hn
  by_cases o1 : z.op < 1
  · have d1 : decide (z.op < 1) = true := by simpa using o1
    have hT : Hid (PM.teE z = 50) := PM.hid (PM.teE_no (by
      have : decide (1 ≤ z.op ∧ z.op ≤ 8) = false := by simp; omega
      unfold PM.teOk; rw [this]; simp))
    go_wp2_with fail
    go_ret
    exact ⟨by rw [hT.out]; rfl, hB.out⟩
  have d1 : decide (z.op < 1) = false := by simp; omega
  by_cases o2 : 8 < z.op
  · have d2 : decide (8 < z.op) = true := by simpa using o2
    have hT : Hid (PM.teE z = 50) := PM.hid (PM.teE_no (by
      have : decide (1 ≤ z.op ∧ z.op ≤ 8) = false := by simp; omega
      unfold PM.teOk; rw [this]; simp))
    go_wp2_with fail
    go_ret
    exact ⟨by rw [hT.out]; rfl, hB.out⟩
  have d2 : decide (8 < z.op) = false := by simp; omega
  have hokh : Hid (PM.teOk z = (if z.op = 8 then decide (z.k = 0 ∧ z.n = 0 ∧ z.s.data.toList = []) else PM.may z.k z.n z.s.data.toList && (if z.op = 7 then decide (z.k = 2) else true))) := PM.hid (by
    have : decide (1 ≤ z.op ∧ z.op ≤ 8) = true := by simp; omega
    unfold PM.teOk; rw [hnh.out, this]; rfl)
  go_wp2_with fail
  refine (vcheck_any z.k z.n z.s w1).mono ?_
  rintro e w2 ⟨rfl, hB2⟩
  have hk2 := hkh.out.keep hB2
  have e1 : w2.cell? ⟨g, 1, none⟩ = some (.int .i64 z.op) := hk2.cell 1
  have e2 : w2.cell? ⟨g, 2, none⟩ = some (.int .i64 z.k) := hk2.cell 2
  have e3 : w2.cell? ⟨g, 3, none⟩ = some (.int .i64 z.n) := hk2.cell 3
  have e4 : w2.cell? ⟨g, 4, none⟩ = some (.string z.s) := hk2.cell 4
  have hBf := PM.hid (PM.chain hB.out hB2)
  clear hk2 hkh hB hB2 c1 c2 c3 c4 d1 d2 hnh
  by_cases h8 : z.op = 8
  · rw [if_pos h8] at hokh
    have q7 : (z.op == 7) = false := by rw [h8]; rfl
    have q8 : (z.op == 8) = true := by rw [h8]; rfl
    generalize PM.mayE z.k z.n z.s.data.toList = M
    by_cases hz : z.k = 0 ∧ z.n = 0 ∧ z.s.data.toList = []
    · obtain ⟨a, b, c⟩ := hz
      have hT : Hid (PM.teE z = 0) := PM.hid (PM.teE_yes (by rw [hokh.out]; simp [a, b, c]))
      have hs : z.s = ⟨#[]⟩ := by
        cases hzs : z.s with
        | mk d => rw [hzs] at c; simp at c; rw [c]
      clear c hokh
      rw [a] at e2
      rw [b] at e3
      rw [hs] at e4
      clear a b hs h8
      go_wp2_with fail
      all_goals
        go_ret
        exact ⟨by rw [hT.out]; rfl, hBf.out⟩
    · have hT : Hid (PM.teE z = 50) := PM.hid (PM.teE_no (by rw [hokh.out]; simpa using hz))
      by_cases hk : z.k = 0
      case neg =>
        clear hz hokh h8 o1 o2
        go_wp2_with fail
        all_goals
          go_ret
          exact ⟨by rw [hT.out]; rfl, hBf.out⟩
      by_cases hn : z.n = 0
      case neg =>
        rw [hk] at e2
        clear hz hokh h8 o1 o2 hk
        go_wp2_with fail
        all_goals
          go_ret
          exact ⟨by rw [hT.out]; rfl, hBf.out⟩
      have hs : ¬ z.s.data.toList = [] := fun h => hz ⟨hk, hn, h⟩
      rw [hk] at e2
      rw [hn] at e3
      clear hz hokh h8 o1 o2 hk hn
      have hs2 : z.s.toList ≠ [] := by rw [ByteArray.toList_eq]; exact hs
      have hs3 : (z.s.toList == []) = false := by simpa using hs2
      go_wp2_with fail
      all_goals
        go_ret
        exact ⟨by rw [hT.out]; rfl, hBf.out⟩
  · rw [if_neg h8] at hokh
    have q8 : (z.op == 8) = false := by simpa using h8
    by_cases hm : PM.may z.k z.n z.s.data.toList = true
    · rw [PM.mayE_yes hm]
      rw [hm] at hokh
      by_cases h7 : z.op = 7
      · have q7 : (z.op == 7) = true := by simpa using h7
        rw [if_pos h7] at hokh
        by_cases hk : z.k = 2
        · have hT : Hid (PM.teE z = 0) := PM.hid (PM.teE_yes (by rw [hokh.out]; simp [hk]))
          have qk : (z.k == 2) = true := by simpa using hk
          clear hk h7 h8 hm hokh o1 o2
          go_wp2_with fail
          go_ret
          exact ⟨by rw [hT.out]; rfl, hBf.out⟩
        · have hT : Hid (PM.teE z = 50) := PM.hid (PM.teE_no (by rw [hokh.out]; simp [hk]))
          have qk : (z.k == 2) = false := by simpa using hk
          clear hk h7 h8 hm hokh o1 o2
          go_wp2_with fail
          go_ret
          exact ⟨by rw [hT.out]; rfl, hBf.out⟩
      · have q7 : (z.op == 7) = false := by simpa using h7
        rw [if_neg h7] at hokh
        have hT : Hid (PM.teE z = 0) := PM.hid (PM.teE_yes (by rw [hokh.out]; rfl))
        clear h7 h8 hm hokh o1 o2
        go_wp2_with fail
        go_ret
        exact ⟨by rw [hT.out]; rfl, hBf.out⟩
    · have hm' : PM.may z.k z.n z.s.data.toList = false := by simpa using hm
      rw [PM.mayE_no hm']
      rw [hm'] at hokh
      have hT : Hid (PM.teE z = 50) := PM.hid (PM.teE_no (by rw [hokh.out]; rfl))
      clear hm hm' hokh h8 o1 o2
      by_cases h7 : z.op = 7
      · have q7 : (z.op == 7) = true := by simpa using h7
        clear h7
        go_wp2_with fail
        go_ret
        exact ⟨by rw [hT.out]; rfl, hBf.out⟩
      · have q7 : (z.op == 7) = false := by simpa using h7
        clear h7
        go_wp2_with fail
        go_ret
        exact ⟨by rw [hT.out]; rfl, hBf.out⟩
end Go.Proofs.YtnpbfjkfbobgaaaGreat

/-
  CONTRACTS OF package filter: Check; asks.
-/
namespace Go.Proofs.YtnpbfjkfbobgaaaGreat
open Go.RowKit
set_option linter.unusedVariables false
set_option maxHeartbeats 2000000 in
theorem fcheck_any (v : Value) (es : List PM.Te) (w : World) (hv : PM.TV w v es) :
    Calls Tryz.prog 41 #[v] w fun e w' => e = .returned (.int .i64 (PM.filE es)) ∧ Below w.heap.size w w' := by
  obtain ⟨ad, cap, rfl, hcap, hmax, hel⟩ := hv
  unfold maxLen at hmax
  obtain ⟨L, hL⟩ : ∃ L, L = es.length := ⟨_, rfl⟩
  have hLh := PM.hid hL
  rw [← hL] at hcap ⊢
  have helh := PM.hid hel
  clear hel hL
  by_cases h8 : 8 < L
  · have hd : decide ((8 : Int) < (L : Int)) = true := by simp; omega
    have hT : Hid (PM.filE es = 50) := PM.hid (PM.filE_no (fun h => by have := h.1; rw [← hLh.out] at this; omega))
    go_enter Tryz.func41, Tryz.ntmps41
    go_wp2_with fail
    go_ret
    exact ⟨by rw [hT.out]; rfl, Below.refl _ _⟩
  have hd : decide ((8 : Int) < (L : Int)) = false := by simp; omega
  go_enter Tryz.func41, Tryz.ntmps41
  go_wp2_with fail
  go_loopw [11] (fun i wr => ∃ k : Nat, i = .int .i64 k ∧ k ≤ L ∧ (∀ (j : Nat) x, j < k → es[j]? = some x → PM.teOk x = true) ∧ Below w.heap.size w wr) (fun i _ => L - (intOf i).toNat)
  case atStart => exact ⟨0, rfl, by omega, fun j x hj => absurd hj (by omega), Below.refl _ _⟩
  case round =>
    obtain ⟨k, rfl, hk, hall, hB⟩ := hrel
    by_cases hlt : k < L
    · obtain ⟨z, hz⟩ : ∃ z, es[k]? = some z := ⟨es[k]'(by rw [← hLh.out]; exact hlt), List.getElem?_eq_getElem _⟩
      obtain ⟨b, off, rfl, hce⟩ := helh.out (by rw [← hLh.out]; omega)
      have hli := hce k z hz
      have d0 := PM.cellA hB (hli 0 _ rfl)
      have d1 := PM.cellA hB (hli 1 _ rfl)
      have d2 := PM.cellA hB (hli 2 _ rfl)
      have d3 := PM.cellA hB (hli 3 _ rfl)
      have d4 := PM.cellA hB (hli 4 _ rfl)
      rw [Nat.add_zero] at d0
      have hin := PM.hid (And.intro hz (And.intro hall hB))
      clear hz hce hli hall hB
      go_wp2_with fail
      obtain ⟨W0, hW0⟩ : ∃ W, W = wr.alloc (.cells #[.string z.name, .int .i64 z.op, .int .i64 z.k, .int .i64 z.n, .string z.s] 50) := ⟨_, rfl⟩
      have hB0 : Below wr.heap.size wr W0 := by rw [hW0]; exact (Below.refl _ _).alloc (Nat.le_refl _) _
      rw [← hW0]
      clear hW0 d0 d1 d2 d3 d4
      refine (one_any z W0).mono ?_
      rintro e w2 ⟨rfl, hB2⟩
      have hB3 := PM.hid (PM.chain hin.out.2.2 (PM.chain hB0 hB2))
      clear hB0 hB2
      by_cases hok : PM.teOk z = true
      · rw [PM.teE_yes hok]
        have hokh := PM.hid hok
        clear hok
        go_wp2_with fail
        refine ⟨⟨k + 1, by go_num, by omega, fun j x hj hx => ?_, hB3.out⟩, by simp only [intOf]; omega⟩
        by_cases hjk : j < k
        · exact hin.out.2.1 j x hjk hx
        · obtain rfl : j = k := by omega
          have := hin.out.1
          rw [hx] at this
          injection this with this
          subst this
          exact hokh.out
      · rw [PM.teE_no (by simpa using hok)]
        have hT : Hid (PM.filE es = 50) := PM.hid (PM.filE_no (fun h => hok (h.2 z (List.mem_of_getElem? hin.out.1))))
        clear hok
        go_wp2_with fail
        go_ret
        exact ⟨by rw [hT.out]; rfl, hB3.out⟩
    · have hkL : k = L := by omega
      subst hkL
      have hT : Hid (PM.filE es = 0) := PM.hid (PM.filE_yes ⟨by rw [← hLh.out]; omega, fun x hx => by
        obtain ⟨i, hi⟩ := List.mem_iff_getElem?.1 hx
        exact hall i x (by rw [hLh.out]; exact (List.getElem?_eq_some_iff.1 hi).1) hi⟩)
      have hBh := PM.hid hB
      clear hall hB
      go_wp2_with fail
      go_ret
      exact ⟨by rw [hT.out]; rfl, hBh.out⟩
namespace PM
/-- what each op asks, as asks lays it: closures over the order's number, and over both values -/
def askL (p v w : Nat) : List (Int × Value) :=
  [(1, .func (.func 107) #[] #[.pointer (some ⟨p, 0, none⟩)]), (2, .func (.func 108) #[] #[.pointer (some ⟨p, 0, none⟩)]), (3, .func (.func 109) #[] #[.pointer (some ⟨p, 0, none⟩)]), (4, .func (.func 110) #[] #[.pointer (some ⟨p, 0, none⟩)]), (5, .func (.func 111) #[] #[.pointer (some ⟨p, 0, none⟩)]), (6, .func (.func 112) #[] #[.pointer (some ⟨p, 0, none⟩)]), (7, .func (.func 113) #[] #[.pointer (some ⟨v, 0, none⟩), .pointer (some ⟨w, 0, none⟩)])]
/-- the boxes that the closures hold -/
def Boxes (w : World) (p a b : Nat) (o k n : Int) (s : ByteArray) (k' n' : Int) (s' : ByteArray) : Prop :=
  BK w p #[.int .i64 o] 3 ∧ BK w a #[.int .i64 k, .int .i64 n, .string s] 48 ∧ BK w b #[.int .i64 k', .int .i64 n', .string s'] 48
theorem Boxes.keep {W w : World} {p a b : Nat} {o k n : Int} {s : ByteArray} {k' n' : Int} {s' : ByteArray} (hb : Below W.heap.size W w) (h : Boxes W p a b o k n s k' n' s') : Boxes w p a b o k n s k' n' s' :=
  ⟨h.1.keep hb, h.2.1.keep hb, h.2.2.keep hb⟩
end PM
set_option maxHeartbeats 4000000 in
theorem asks_any (k n : Int) (s : ByteArray) (k' n' : Int) (s' : ByteArray) (w : World) :
    Calls Tryz.prog 105 #[.agg #[.int .i64 k, .int .i64 n, .string s], .agg #[.int .i64 k', .int .i64 n', .string s']] w fun e w' =>
      ∃ g p a b, e = .returned (.map (some g)) ∧ PM.IM w' g (PM.askL p a b) ∧ PM.Boxes w' p a b (PM.ord k n s.data.toList k' n' s'.data.toList) k n s k' n' s' ∧ Below w.heap.size w w' := by
  go_enter Tryz.func105, Tryz.ntmps105
  go_wp2_with fail
  obtain ⟨ga, hga⟩ : ∃ g, g = w.heap.size := ⟨_, rfl⟩
  obtain ⟨wa, hwa⟩ : ∃ W, W = w.alloc (.cells #[.int .i64 k, .int .i64 n, .string s] 48) := ⟨_, rfl⟩
  obtain ⟨gb, hgb⟩ : ∃ g, g = w.heap.size + 1 := ⟨_, rfl⟩
  obtain ⟨wb, hwb⟩ : ∃ W, W = wa.alloc (.cells #[.int .i64 k', .int .i64 n', .string s'] 48) := ⟨_, rfl⟩
  have hBa : Below w.heap.size w wa := by rw [hwa]; exact (Below.refl _ _).alloc (Nat.le_refl _) _
  have hBb : Below wa.heap.size wa wb := by rw [hwb]; exact (Below.refl _ _).alloc (Nat.le_refl _) _
  have hsa : wa.heap.size = w.heap.size + 1 := by rw [hwa]; simp
  have ka : PM.BK wb ga #[.int .i64 k, .int .i64 n, .string s] 48 := by
    have : PM.BK wa ga #[.int .i64 k, .int .i64 n, .string s] 48 := by rw [hwa, hga]; exact PM.BK.new _ _ _
    exact this.keep hBb
  have kb : PM.BK wb gb #[.int .i64 k', .int .i64 n', .string s'] 48 := by rw [hwb, hgb, ← hsa]; exact PM.BK.new _ _ _
  rw [← hwa, ← hwb, ← hgb, ← hga]
  have hBab := PM.chain hBa hBb
  clear hwa hwb hgb hga hsa hBa hBb
  refine (order_any k n s k' n' s' wb).mono ?_
  rintro e wc ⟨rfl, hBc⟩
  generalize hO : PM.ord k n s.data.toList k' n' s'.data.toList = o
  have hOh := PM.hid hO
  clear hO
  replace ka := ka.keep hBc
  replace kb := kb.keep hBc
  have hB3 := PM.chain hBab hBc
  go_upto_region 2 with fail
  obtain ⟨p, hp⟩ : ∃ g, g = wc.heap.size := ⟨_, rfl⟩
  obtain ⟨wd, hwd⟩ : ∃ W, W = wc.alloc (.cells #[.int .i64 o] 3) := ⟨_, rfl⟩
  have hBd : Below wc.heap.size wc wd := by rw [hwd]; exact (Below.refl _ _).alloc (Nat.le_refl _) _
  have kp : PM.BK wd p #[.int .i64 o] 3 := by rw [hwd, hp]; exact PM.BK.new _ _ _
  rw [← hwd, ← hp]
  replace ka := ka.keep hBd
  replace kb := kb.keep hBd
  have hB4 := PM.chain hB3 hBd
  have hX := PM.hid (And.intro (And.intro kp (And.intro ka kb)) hB4)
  clear hwd hp hBd ka kb kp hB3 hB4 hBc hBab
  obtain ⟨m0, hm0⟩ : ∃ W, W = wd.alloc (.map #[] 0) := ⟨_, rfl⟩
  have i0 : PM.IM m0 wd.heap.size [] := by rw [hm0]; exact PM.IM.new wd
  have x0 : Below wd.heap.size wd m0 := by rw [hm0]; exact (Below.refl _ _).alloc (Nat.le_refl _) _
  obtain ⟨m1, r1, i1, x1⟩ := PM.run_insert_int (P := Tryz.prog) (T := 115) Tryz.underlying115 Tryz.underlying3 i0 1 (.func (.func 107) #[] #[.pointer (some ⟨p, 0, none⟩)]) (by simp [PM.lookI])
  obtain ⟨m2, r2, i2, x2⟩ := PM.run_insert_int (P := Tryz.prog) (T := 115) Tryz.underlying115 Tryz.underlying3 i1 2 (.func (.func 108) #[] #[.pointer (some ⟨p, 0, none⟩)]) (by simp [PM.lookI])
  obtain ⟨m3, r3, i3, x3⟩ := PM.run_insert_int (P := Tryz.prog) (T := 115) Tryz.underlying115 Tryz.underlying3 i2 3 (.func (.func 109) #[] #[.pointer (some ⟨p, 0, none⟩)]) (by simp [PM.lookI])
  obtain ⟨m4, r4, i4, x4⟩ := PM.run_insert_int (P := Tryz.prog) (T := 115) Tryz.underlying115 Tryz.underlying3 i3 4 (.func (.func 110) #[] #[.pointer (some ⟨p, 0, none⟩)]) (by simp [PM.lookI])
  obtain ⟨m5, r5, i5, x5⟩ := PM.run_insert_int (P := Tryz.prog) (T := 115) Tryz.underlying115 Tryz.underlying3 i4 5 (.func (.func 111) #[] #[.pointer (some ⟨p, 0, none⟩)]) (by simp [PM.lookI])
  obtain ⟨m6, r6, i6, x6⟩ := PM.run_insert_int (P := Tryz.prog) (T := 115) Tryz.underlying115 Tryz.underlying3 i5 6 (.func (.func 112) #[] #[.pointer (some ⟨p, 0, none⟩)]) (by simp [PM.lookI])
  obtain ⟨m7, r7, i7, x7⟩ := PM.run_insert_int (P := Tryz.prog) (T := 115) Tryz.underlying115 Tryz.underlying3 i6 7 (.func (.func 113) #[] #[.pointer (some ⟨ga, 0, none⟩), .pointer (some ⟨gb, 0, none⟩)]) (by simp [PM.lookI])
  have r0 : (Instr.makeMap 115 none).run Tryz.prog wd = .ok (.map (some wd.heap.size)) m0 := by rw [hm0]; simp [Instr.makeMap, go_sem]
  have hfin : PM.IM m7 wd.heap.size (PM.askL p ga gb) := i7
  have hxx : PM.Bx wd.heap.size m0 m7 := (((((x1.trans x2).trans x3).trans x4).trans x5).trans x6).trans x7
  have hBf : Below wd.heap.size wd m7 := hxx.below x0 (Nat.le_refl _) x0.size
  have hR := PM.hid (And.intro hfin hBf)
  clear i0 i1 i2 i3 i4 i5 i6 i7 x0 x1 x2 x3 x4 x5 x6 x7 hm0 hfin hxx hBf
  go_wp2_with fail
  go_ret
  rw [hOh.out]
  exact ⟨wd.heap.size, p, ga, gb, rfl, hR.out.1, PM.Boxes.keep hR.out.2 hX.out.1, PM.chain hX.out.2 hR.out.2⟩
end Go.Proofs.YtnpbfjkfbobgaaaGreat
