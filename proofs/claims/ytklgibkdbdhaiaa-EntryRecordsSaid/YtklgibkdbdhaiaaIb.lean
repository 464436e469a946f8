/-
  CONTRACTS OF package filter: One, Check.
-/
import Derived.Test.YtklgibkdbdhaiaaIa
import Derived.Test.YtklgibkdbdhaiaaEc
import Derived.Test.YtklgibkdbdhaiaaBk
namespace Go.Proofs.Ytklgibkdbdhaiaa
open Go.RowKit
set_option linter.unusedVariables false
theorem PM.teE_no {z : PM.Te} (h : PM.teOk z = false) : PM.teE z = 50 := by unfold PM.teE; rw [h]; rfl
theorem PM.teE_yes {z : PM.Te} (h : PM.teOk z = true) : PM.teE z = 0 := by unfold PM.teE; rw [h]; rfl
theorem PM.mayE_yes {k n : Int} {s : List UInt8} (h : PM.may k n s = true) : PM.mayE k n s = 0 := by unfold PM.mayE; rw [if_pos h]
theorem PM.mayE_no {k n : Int} {s : List UInt8} (h : PM.may k n s = false) : PM.mayE k n s = 10 := by unfold PM.mayE; rw [h]; rfl
set_option maxHeartbeats 2000000 in
theorem one_any (z : PM.Te) (w : World) :
    Calls Try.prog 51 #[.agg #[.string z.name, .int .i64 z.op, .int .i64 z.k, .int .i64 z.n, .string z.s]] w fun e w' => e = .returned (.int .i64 (PM.teE z)) ∧ Below w.heap.size w w' := by
  go_enter Try.func51, Try.ntmps51
  go_wp2_with fail
  obtain ⟨g, hg⟩ : ∃ g, g = w.heap.size := ⟨_, rfl⟩
  obtain ⟨W0, hW0⟩ : ∃ W, W = w.alloc (.cells #[.string z.name, .int .i64 z.op, .int .i64 z.k, .int .i64 z.n, .string z.s] 81) := ⟨_, rfl⟩
  have hB0 : Below w.heap.size w W0 := by rw [hW0]; exact (Below.refl _ _).alloc (Nat.le_refl _) _
  have hk0 : PM.BK W0 g #[.string z.name, .int .i64 z.op, .int .i64 z.k, .int .i64 z.n, .string z.s] 81 := by rw [hW0, hg]; exact PM.BK.new _ _ _
  rw [← hW0, ← hg]
  clear hW0 hg
  refine (name_any z.name W0).mono ?_
  rintro e w1 ⟨rfl, hB1⟩
  have hk1 := hk0.keep hB1
  have hB := PM.hid (PM.chain hB0 hB1)
  have hkh := PM.hid hk1
  have c1 : w1.cell? ⟨g, 1, none⟩ = some (.int .i64 z.op) := hk1.cell 1
  have c2 : w1.cell? ⟨g, 2, none⟩ = some (.int .i64 z.k) := hk1.cell 2
  have c3 : w1.cell? ⟨g, 3, none⟩ = some (.int .i64 z.n) := hk1.cell 3
  have c4 : w1.cell? ⟨g, 4, none⟩ = some (.string z.s) := hk1.cell 4
  clear hk0 hk1 hB0 hB1
  by_cases hn : PM.nameL z.name.data.toList = true
  case neg =>
    have hn' : PM.nameL z.name.data.toList = false := by simpa using hn
    have hT : Hid (PM.teE z = 50) := PM.hid (PM.teE_no (by unfold PM.teOk; rw [hn']; rfl))
    rw [hn']
    clear hn hn'
    go_wp2_with fail
    go_ret
    exact ⟨by rw [hT.out]; rfl, hB.out⟩
  have hnh := PM.hid hn
  rw [hn]
  clear hn
  by_cases o1 : z.op < 1
  · have d1 : decide (z.op < 1) = true := by simpa using o1
    have hT : Hid (PM.teE z = 50) := PM.hid (PM.teE_no (by
      have : decide (1 ≤ z.op ∧ z.op ≤ 8) = false := by simp; omega
      unfold PM.teOk; rw [this]; simp))
    go_wp2_with fail
    go_ret
    exact ⟨by rw [hT.out]; rfl, hB.out⟩
  have d1 : decide (z.op < 1) = false := by simp; omega
  by_cases o2 : 8 < z.op
  · have d2 : decide (8 < z.op) = true := by simpa using o2
    have hT : Hid (PM.teE z = 50) := PM.hid (PM.teE_no (by
      have : decide (1 ≤ z.op ∧ z.op ≤ 8) = false := by simp; omega
      unfold PM.teOk; rw [this]; simp))
    go_wp2_with fail
    go_ret
    exact ⟨by rw [hT.out]; rfl, hB.out⟩
  have d2 : decide (8 < z.op) = false := by simp; omega
  have hokh : Hid (PM.teOk z = (if z.op = 8 then decide (z.k = 0 ∧ z.n = 0 ∧ z.s.data.toList = []) else PM.may z.k z.n z.s.data.toList && (if z.op = 7 then decide (z.k = 2) else true))) := PM.hid (by
    have : decide (1 ≤ z.op ∧ z.op ≤ 8) = true := by simp; omega
    unfold PM.teOk; rw [hnh.out, this]; rfl)
  go_wp2_with fail
  refine (vcheck_any z.k z.n z.s w1).mono ?_
  rintro e w2 ⟨rfl, hB2⟩
  have hk2 := hkh.out.keep hB2
  have e1 : w2.cell? ⟨g, 1, none⟩ = some (.int .i64 z.op) := hk2.cell 1
  have e2 : w2.cell? ⟨g, 2, none⟩ = some (.int .i64 z.k) := hk2.cell 2
  have e3 : w2.cell? ⟨g, 3, none⟩ = some (.int .i64 z.n) := hk2.cell 3
  have e4 : w2.cell? ⟨g, 4, none⟩ = some (.string z.s) := hk2.cell 4
  have hBf := PM.hid (PM.chain hB.out hB2)
  clear hk2 hkh hB hB2 c1 c2 c3 c4 d1 d2 hnh
  by_cases h8 : z.op = 8
  · rw [if_pos h8] at hokh
    have q7 : (z.op == 7) = false := by rw [h8]; rfl
    have q8 : (z.op == 8) = true := by rw [h8]; rfl
    generalize PM.mayE z.k z.n z.s.data.toList = M
    by_cases hz : z.k = 0 ∧ z.n = 0 ∧ z.s.data.toList = []
    · obtain ⟨a, b, c⟩ := hz
      have hT : Hid (PM.teE z = 0) := PM.hid (PM.teE_yes (by rw [hokh.out]; simp [a, b, c]))
      have hs : z.s = ⟨#[]⟩ := by
        cases hzs : z.s with
        | mk d => rw [hzs] at c; simp at c; rw [c]
      clear c hokh
      rw [a] at e2
      rw [b] at e3
      rw [hs] at e4
      clear a b hs h8
      go_wp2_with fail
      all_goals
        go_ret
        exact ⟨by rw [hT.out]; rfl, hBf.out⟩
    · have hT : Hid (PM.teE z = 50) := PM.hid (PM.teE_no (by rw [hokh.out]; simpa using hz))
      by_cases hk : z.k = 0
      case neg =>
        clear hz hokh h8 o1 o2
        go_wp2_with fail
        all_goals
          go_ret
          exact ⟨by rw [hT.out]; rfl, hBf.out⟩
      by_cases hn : z.n = 0
      case neg =>
        rw [hk] at e2
        clear hz hokh h8 o1 o2 hk
        go_wp2_with fail
        all_goals
          go_ret
          exact ⟨by rw [hT.out]; rfl, hBf.out⟩
      have hs : ¬ z.s.data.toList = [] := fun h => hz ⟨hk, hn, h⟩
      rw [hk] at e2
      rw [hn] at e3
      clear hz hokh h8 o1 o2 hk hn
      have hs2 : z.s.toList ≠ [] := by rw [ByteArray.toList_eq]; exact hs
      have hs3 : (z.s.toList == []) = false := by simpa using hs2
      go_wp2_with fail
      all_goals
        go_ret
        exact ⟨by rw [hT.out]; rfl, hBf.out⟩
  · rw [if_neg h8] at hokh
    have q8 : (z.op == 8) = false := by simpa using h8
    by_cases hm : PM.may z.k z.n z.s.data.toList = true
    · rw [PM.mayE_yes hm]
      rw [hm] at hokh
      by_cases h7 : z.op = 7
      · have q7 : (z.op == 7) = true := by simpa using h7
        rw [if_pos h7] at hokh
        by_cases hk : z.k = 2
        · have hT : Hid (PM.teE z = 0) := PM.hid (PM.teE_yes (by rw [hokh.out]; simp [hk]))
          have qk : (z.k == 2) = true := by simpa using hk
          clear hk h7 h8 hm hokh o1 o2
          go_wp2_with fail
          go_ret
          exact ⟨by rw [hT.out]; rfl, hBf.out⟩
        · have hT : Hid (PM.teE z = 50) := PM.hid (PM.teE_no (by rw [hokh.out]; simp [hk]))
          have qk : (z.k == 2) = false := by simpa using hk
          clear hk h7 h8 hm hokh o1 o2
          go_wp2_with fail
          go_ret
          exact ⟨by rw [hT.out]; rfl, hBf.out⟩
      · have q7 : (z.op == 7) = false := by simpa using h7
        rw [if_neg h7] at hokh
        have hT : Hid (PM.teE z = 0) := PM.hid (PM.teE_yes (by rw [hokh.out]; rfl))
        clear h7 h8 hm hokh o1 o2
        go_wp2_with fail
        go_ret
        exact ⟨by rw [hT.out]; rfl, hBf.out⟩
    · have hm' : PM.may z.k z.n z.s.data.toList = false := by simpa using hm
      rw [PM.mayE_no hm']
      rw [hm'] at hokh
      have hT : Hid (PM.teE z = 50) := PM.hid (PM.teE_no (by rw [hokh.out]; rfl))
      clear hm hm' hokh h8 o1 o2
      by_cases h7 : z.op = 7
      · have q7 : (z.op == 7) = true := by simpa using h7
        clear h7
        go_wp2_with fail
        go_ret
        exact ⟨by rw [hT.out]; rfl, hBf.out⟩
      · have q7 : (z.op == 7) = false := by simpa using h7
        clear h7
        go_wp2_with fail
        go_ret
        exact ⟨by rw [hT.out]; rfl, hBf.out⟩
end Go.Proofs.Ytklgibkdbdhaiaa
