/-
  CONTRACTS OF package filter: Check; asks.
-/
import Derived.Test.YtklgibkdbdhaiaaIb
import Derived.Test.YtklgibkdbdhaiaaMi
import Derived.Test.YtklgibkdbdhaiaaVc
import Derived.Deep.CutRange
namespace Go.Proofs.Ytklgibkdbdhaiaa
open Go.RowKit
set_option linter.unusedVariables false
set_option maxHeartbeats 2000000 in
theorem fcheck_any (v : Value) (es : List PM.Te) (w : World) (hv : PM.TV w v es) :
    Calls Try.prog 43 #[v] w fun e w' => e = .returned (.int .i64 (PM.filE es)) ∧ Below w.heap.size w w' := by
  obtain ⟨ad, cap, rfl, hcap, hmax, hel⟩ := hv
  unfold maxLen at hmax
  obtain ⟨L, hL⟩ : ∃ L, L = es.length := ⟨_, rfl⟩
  have hLh := PM.hid hL
  rw [← hL] at hcap ⊢
  have helh := PM.hid hel
  clear hel hL
  by_cases h8 : 8 < L
  · have hd : decide ((8 : Int) < (L : Int)) = true := by simp; omega
    have hT : Hid (PM.filE es = 50) := PM.hid (PM.filE_no (fun h => by have := h.1; rw [← hLh.out] at this; omega))
    go_enter Try.func43, Try.ntmps43
    go_wp2_with fail
    go_ret
    exact ⟨by rw [hT.out]; rfl, Below.refl _ _⟩
  have hd : decide ((8 : Int) < (L : Int)) = false := by simp; omega
  go_enter Try.func43, Try.ntmps43
  go_wp2_with fail
  go_loopw [11] (fun i wr => ∃ k : Nat, i = .int .i64 k ∧ k ≤ L ∧ (∀ (j : Nat) x, j < k → es[j]? = some x → PM.teOk x = true) ∧ Below w.heap.size w wr) (fun i _ => L - (intOf i).toNat)
  case atStart => exact ⟨0, rfl, by omega, fun j x hj => absurd hj (by omega), Below.refl _ _⟩
  case round =>
    obtain ⟨k, rfl, hk, hall, hB⟩ := hrel
    by_cases hlt : k < L
    · obtain ⟨z, hz⟩ : ∃ z, es[k]? = some z := ⟨es[k]'(by rw [← hLh.out]; exact hlt), List.getElem?_eq_getElem _⟩
      obtain ⟨b, off, rfl, hce⟩ := helh.out (by rw [← hLh.out]; omega)
      have hli := hce k z hz
      have d0 := PM.cellA hB (hli 0 _ rfl)
      have d1 := PM.cellA hB (hli 1 _ rfl)
      have d2 := PM.cellA hB (hli 2 _ rfl)
      have d3 := PM.cellA hB (hli 3 _ rfl)
      have d4 := PM.cellA hB (hli 4 _ rfl)
      rw [Nat.add_zero] at d0
      have hin := PM.hid (And.intro hz (And.intro hall hB))
      clear hz hce hli hall hB
      go_wp2_with fail
      obtain ⟨W0, hW0⟩ : ∃ W, W = wr.alloc (.cells #[.string z.name, .int .i64 z.op, .int .i64 z.k, .int .i64 z.n, .string z.s] 81) := ⟨_, rfl⟩
      have hB0 : Below wr.heap.size wr W0 := by rw [hW0]; exact (Below.refl _ _).alloc (Nat.le_refl _) _
      rw [← hW0]
      clear hW0 d0 d1 d2 d3 d4
      refine (one_any z W0).mono ?_
      rintro e w2 ⟨rfl, hB2⟩
      have hB3 := PM.hid (PM.chain hin.out.2.2 (PM.chain hB0 hB2))
      clear hB0 hB2
      by_cases hok : PM.teOk z = true
      · rw [PM.teE_yes hok]
        have hokh := PM.hid hok
        clear hok
        go_wp2_with fail
        refine ⟨⟨k + 1, by go_num, by omega, fun j x hj hx => ?_, hB3.out⟩, by simp only [intOf]; omega⟩
        by_cases hjk : j < k
        · exact hin.out.2.1 j x hjk hx
        · obtain rfl : j = k := by omega
          have := hin.out.1
          rw [hx] at this
          injection this with this
          subst this
          exact hokh.out
      · rw [PM.teE_no (by simpa using hok)]
        have hT : Hid (PM.filE es = 50) := PM.hid (PM.filE_no (fun h => hok (h.2 z (List.mem_of_getElem? hin.out.1))))
        clear hok
        go_wp2_with fail
        go_ret
        exact ⟨by rw [hT.out]; rfl, hB3.out⟩
    · have hkL : k = L := by omega
      subst hkL
      have hT : Hid (PM.filE es = 0) := PM.hid (PM.filE_yes ⟨by rw [← hLh.out]; omega, fun x hx => by
        obtain ⟨i, hi⟩ := List.mem_iff_getElem?.1 hx
        exact hall i x (by rw [hLh.out]; exact (List.getElem?_eq_some_iff.1 hi).1) hi⟩)
      have hBh := PM.hid hB
      clear hall hB
      go_wp2_with fail
      go_ret
      exact ⟨by rw [hT.out]; rfl, hBh.out⟩
namespace PM
/-- the boxes that the closures hold -/
def Boxes (w : World) (p a b : Nat) (o k n : Int) (s : ByteArray) (k' n' : Int) (s' : ByteArray) : Prop :=
  BK w p #[.int .i64 o] 3 ∧ BK w a #[.int .i64 k, .int .i64 n, .string s] 77 ∧ BK w b #[.int .i64 k', .int .i64 n', .string s'] 77
theorem Boxes.keep {W w : World} {p a b : Nat} {o k n : Int} {s : ByteArray} {k' n' : Int} {s' : ByteArray} (hb : Below W.heap.size W w) (h : Boxes W p a b o k n s k' n' s') : Boxes w p a b o k n s k' n' s' :=
  ⟨h.1.keep hb, h.2.1.keep hb, h.2.2.keep hb⟩
end PM
end Go.Proofs.Ytklgibkdbdhaiaa
