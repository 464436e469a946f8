/-
  THE WALKS OF LAYER 5's STATEMENTS: decodes.
-/
import Derived.Test.YtocggnaekajdbaaIj
import Derived.Test.YtocggnaekajdbaaIo
namespace Go.Proofs.Ytocggnaekajdbaa
open Go.RowKit
set_option linter.unusedVariables false
set_option maxRecDepth 100000 in
set_option maxHeartbeats 1000000 in
theorem filterDecodes_walk (u : Value) (lb : List UInt8) (w : World) (hu : PM.BS w u lb) :
    Calls Try.prog 5 #[u] w fun e w' => e = .returned (.bool true) ∧ Below w.heap.size w w' := by
  obtain ⟨ub, uc, hue⟩ := hu.len
  obtain ⟨N, hN⟩ : ∃ N, N = lb.length := ⟨_, rfl⟩
  have hNh := PM.hid hN
  subst hue
  rw [← hN] at hu ⊢
  clear hN
  go_enter Try.func5, Try.ntmps5
  go_wp2_with fail
  refine (awake5 _).mono ?_
  rintro e w1 ⟨rfl, hB1⟩
  replace hu := hu.keep hB1
  have hB := PM.hid hB1
  clear hB1
  by_cases h1000 : 1000 < N
  case pos =>
    have hd : decide ((1000 : Int) < (N : Int)) = true := by simp; omega
    clear hu
    go_wp2_with fail
    go_ret
    exact ⟨rfl, hB.out⟩
  have hd : decide ((1000 : Int) < (N : Int)) = false := by simp; omega
  go_wp2_with fail
  refine (fdecode_any _ lb w1 hu (by rw [← hNh.out]; omega)).mono ?_
  rintro e w2 ⟨o2, rfl, ho2, hn2, hB2⟩
  replace hu := hu.keep hB2
  have h2 : PM.TV w2 o2 ((PM.decT lb).getD []) := by
    cases h : PM.decT lb with
    | none => rw [hn2 h]; exact (PM.OM.nilrow (B := 0) (E := 30) _).em PM.teL_len
    | some es => exact (ho2 es h).em PM.teL_len
  replace hB := PM.hid (PM.chain hB.out hB2)
  clear ho2 hn2 hB2
  go_wp2_with fail
  refine (rfdecode_any _ lb w2 hu (by rw [← hNh.out]; omega)).mono ?_
  rintro e w3 ⟨o3, rfl, ho3, hn3, hB3⟩
  have h3 : PM.TV w3 o3 ((PM.decT lb).getD []) := by
    cases h : PM.decT lb with
    | none => rw [hn3 h]; exact (PM.OM.nilrow (B := 0) (E := 30) _).em PM.teL_len
    | some es => exact (ho3 es h).em PM.teL_len
  replace h2 := h2.keep hB3
  replace hB := PM.hid (PM.chain hB.out hB3)
  clear ho3 hn3 hB3 hu
  generalize PM.decTN lb = D
  go_wp2_with fail
  refine (fsame_any _ _ _ _ w3 h2 h3).mono ?_
  rintro e w4 ⟨hsm, hB4⟩
  have hsm' : e = .returned (.bool true) := by
    rcases hsm with ⟨h, _⟩ | ⟨_, h⟩
    · exact h
    · exact absurd rfl h
  subst hsm'
  replace hB := PM.hid (PM.chain hB.out hB4)
  clear hsm h2 h3 hB4
  go_wp2_with fail
  go_ret
  exact ⟨by simp, hB.out⟩
end Go.Proofs.Ytocggnaekajdbaa
