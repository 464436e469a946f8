/-
  THE WALK OF FrameTells.
-/
import Derived.Test.YtpilgbiedbhpeaaFx
import Derived.Test.YtpilgbiedbhpeaaFq
namespace Go.Proofs.Ytpilgbiedbhpeaa
open Go.RowKit
set_option linter.unusedVariables false
namespace PM
/-- what Wrap gives -/
def wbytes (l : List UInt8) : List UInt8 := if l.length = 0 ∨ 4000 < l.length then [] else wrapL l
def wcode (l : List UInt8) : Int := if l.length = 0 ∨ 4000 < l.length then 30 else 0
end PM
theorem Wrap_all (v : Value) (l : List UInt8) (w : World) (hv : PM.BS w v l) :
    Calls Try.prog 10 #[v] w fun e w' => ∃ o, e = .returned (.tuple #[o, .int .i64 (PM.wcode l)]) ∧ PM.BS w' o (PM.wbytes l) ∧ Below w.heap.size w w' := by
  by_cases h : l.length = 0 ∨ 4000 < l.length
  · rw [PM.wcode, PM.wbytes, if_pos h, if_pos h]
    refine (Wrap_bad v l w hv h).mono ?_
    rintro e w' ⟨rfl, rfl⟩
    exact ⟨_, rfl, PM.BS.nil _, Below.refl _ _⟩
  · rw [PM.wcode, PM.wbytes, if_neg h, if_neg h]
    refine (Wrap_any v l w hv (by omega) (by omega)).mono ?_
    rintro e w' ⟨o, rfl, ho, hB⟩
    exact ⟨_, rfl, ho.bs, hB⟩
theorem RWrap_all (v : Value) (l : List UInt8) (w : World) (hv : PM.BS w v l) :
    Calls Try.prog 11 #[v] w fun e w' => ∃ o, e = .returned (.tuple #[o, .int .i64 (PM.wcode l)]) ∧ PM.BS w' o (PM.wbytes l) ∧ Below w.heap.size w w' := by
  by_cases h : l.length = 0 ∨ 4000 < l.length
  · rw [PM.wcode, PM.wbytes, if_pos h, if_pos h]
    refine (RWrap_bad v l w hv h).mono ?_
    rintro e w' ⟨rfl, rfl⟩
    exact ⟨_, rfl, PM.BS.nil _, Below.refl _ _⟩
  · rw [PM.wcode, PM.wbytes, if_neg h, if_neg h]
    refine (RWrap_any v l w hv (by omega) (by omega)).mono ?_
    rintro e w' ⟨o, rfl, ho, hB⟩
    exact ⟨_, rfl, ho.bs, hB⟩
set_option maxHeartbeats 2000000 in
theorem frameTells_walk (v : Value) (l : List UInt8) (w : World) (h : PM.BS w v l) :
    Calls Try.prog 4 #[v] w fun e w' => e = .returned (.bool true) ∧ Below w.heap.size w w' := by
  obtain ⟨va, vc, rfl⟩ := h.len
  have hh := PM.hid h
  obtain ⟨L, hL⟩ : ∃ L, L = l.length := ⟨_, rfl⟩
  have hLh := PM.hid hL
  rw [← hL]
  clear hL h
  by_cases hbig : 5000 < L
  · have q1 : (5000 : Int) < (L : Int) := by omega
    go_enter Try.func4, Try.ntmps4
    go_wp2_with (go_at_call 9; refine (awake3 _).mono ?_; rintro e w1 ⟨rfl, hb⟩)
    go_ret
    exact ⟨rfl, hb⟩
  · have q1 : ¬ (5000 : Int) < (L : Int) := by omega
    have hk : ∀ W, Below w.heap.size w W → PM.BS W (.slice va L vc) l := fun W hW => by rw [hLh.out]; exact hh.out.keep hW
    have hkh := PM.hid hk
    obtain ⟨C, hC⟩ : ∃ C, C = PM.wcode l := ⟨_, rfl⟩
    obtain ⟨X, hX⟩ : ∃ X, X = PM.wbytes l := ⟨_, rfl⟩
    have hWa := fun W hW => Wrap_all _ l W (hk W hW)
    have hWr := fun W hW => RWrap_all _ l W (hk W hW)
    rw [← hC, ← hX] at hWa hWr
    obtain ⟨Z, hZ⟩ : ∃ Z, Z = PM.scanL l := ⟨_, rfl⟩
    have hSa := fun W hW => Scan_any _ l W (hk W hW) (by rw [← hLh.out]; omega)
    have hSr := fun W hW => RScan_any _ l W (hk W hW) (by rw [← hLh.out]; omega)
    rw [← hZ] at hSa hSr
    obtain ⟨n, hn⟩ : ∃ n, n = PM.sizeL Z := ⟨_, rfl⟩
    rw [← hn] at hSa hSr
    clear hC hX hZ hn hk
    go_enter Try.func4, Try.ntmps4
    go_wp2_with fail
    refine (awake3 _).mono ?_
    rintro e w1 ⟨rfl, hb1⟩
    have hc := hWa w1 hb1
    go_wp2_with fail
    refine hc.mono ?_
    rintro e w2 ⟨o2, rfl, ho2, hB2⟩
    have hb2 := PM.chain hb1 hB2
    have hc := hWr w2 hb2
    go_wp2_with fail
    refine hc.mono ?_
    rintro e w3 ⟨o3, rfl, ho3, hB3⟩
    have hb3 := PM.chain hb2 hB3
    have hc := hSa w3 hb3
    go_wp2_with fail
    refine hc.mono ?_
    rintro e w4 ⟨o4, rfl, ho4, hB4⟩
    have hb4 := PM.chain hb3 hB4
    have hc := hSr w4 hb4
    go_wp2_with fail
    refine hc.mono ?_
    rintro e w5 ⟨o5, rfl, ho5, hB5⟩
    have hb5 := PM.chain hb4 hB5
    have hc := RSame_any _ _ Z Z w5 (ho4.rbl.keep hB5) ho5.rbl
    go_wp2_with fail
    refine hc.mono ?_
    rintro e w6 ⟨rfl, hB6⟩
    rw [show decide True = true from rfl]
    have hb6 := PM.hid (PM.chain hb5 hB6)
    have k1 := PM.run_str bty Try.underlying9 ((((ho2.keep hB3).keep hB4).keep hB5).keep hB6)
    have k2 := PM.run_str bty Try.underlying9 (((ho3.keep hB4).keep hB5).keep hB6)
    have s1 := Sum_any _ l w6 (hkh.out _ hb6.out)
    have s2 := RSum_any _ l w6 (hkh.out _ hb6.out)
    clear hc hWa hWr hSa hSr hb1 hb2 hb3 hb4 hb5 hB2 hB3 hB4 hB5 hB6 ho2 ho3 ho4 ho5
    go_wp2_with (first
      | (go_at_call 15; refine s1.mono ?_; rintro e w7 ⟨rfl, rfl⟩)
      | (go_at_call 16; refine s2.mono ?_; rintro e w7 ⟨rfl, rfl⟩))
    go_ret
    exact ⟨PM.ret_b (by simp), hb6.out⟩
end Go.Proofs.Ytpilgbiedbhpeaa
