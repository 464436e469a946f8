/-
  THE WALKS OF LAYER 4's STATEMENTS: tells, decodes.
-/
import Derived.Test.YtfanfkocmdkllaaEz
import Derived.Test.YtfanfkocmdkllaaEw
import Derived.Test.YtfanfkocmdkllaaEm
import Derived.Test.YtfanfkocmdkllaaEo
import Derived.Test.YtfanfkocmdkllaaEh
namespace Go.Proofs.Ytfanfkocmdkllaa
open Go.RowKit
set_option linter.unusedVariables false
set_option maxHeartbeats 1000000 in
theorem eventDecodes_walk (u : Value) (lb : List UInt8) (w : World) (hu : PM.BS w u lb) :
    Calls Try.prog 5 #[u] w fun e w' => e = .returned (.bool true) ∧ Below w.heap.size w w' := by
  obtain ⟨ub, uc, hue⟩ := hu.len
  obtain ⟨N, hN⟩ : ∃ N, N = lb.length := ⟨_, rfl⟩
  have hNh := PM.hid hN
  subst hue
  rw [← hN] at hu ⊢
  clear hN
  go_enter Try.func5, Try.ntmps5
  go_wp2_with fail
  refine (awake4 _).mono ?_
  rintro e w1 ⟨rfl, hB1⟩
  replace hu := hu.keep hB1
  have hB := PM.hid hB1
  clear hB1
  by_cases h2000 : 2000 < N
  case pos =>
    have hd : decide ((2000 : Int) < (N : Int)) = true := by simp; omega
    clear hu
    go_wp2_with fail
    go_ret
    exact ⟨rfl, hB.out⟩
  have hd : decide ((2000 : Int) < (N : Int)) = false := by simp; omega
  go_wp2_with fail
  refine (decode_any _ lb w1 hu (by rw [← hNh.out]; omega)).mono ?_
  rintro e w2 ⟨o2, rfl, ho2, hn2, hB2⟩
  replace hu := hu.keep hB2
  have h2 : PM.EV w2 o2 ((PM.decE lb).getD []) := by
    cases h : PM.decE lb with
    | none => rw [hn2 h]; exact PM.EV.nil _
    | some es => exact (PM.OM.em PM.attL_len (ho2 es h)).ev
  replace hB := PM.hid (PM.chain hB.out hB2)
  clear ho2 hn2 hB2
  go_wp2_with fail
  refine (rdecode_any _ lb w2 hu (by rw [← hNh.out]; omega)).mono ?_
  rintro e w3 ⟨o3, rfl, ho3, hn3, hB3⟩
  have h3 : PM.EV w3 o3 ((PM.decE lb).getD []) := by
    cases h : PM.decE lb with
    | none => rw [hn3 h]; exact PM.EV.nil _
    | some es => exact (PM.OM.em PM.attL_len (ho3 es h)).ev
  replace h2 := h2.keep hB3
  replace hB := PM.hid (PM.chain hB.out hB3)
  clear ho3 hn3 hB3 hu
  generalize PM.decN lb = D
  go_wp2_with fail
  refine (esame_any _ _ _ _ w3 h2 h3).mono ?_
  rintro e w4 ⟨hsm, hB4⟩
  have hsm' : e = .returned (.bool true) := by
    rcases hsm with ⟨h, _⟩ | ⟨_, h⟩
    · exact h
    · exact absurd rfl h
  subst hsm'
  replace hB := PM.hid (PM.chain hB.out hB4)
  clear hsm h2 h3 hB4
  go_wp2_with fail
  go_ret
  exact ⟨by simp, hB.out⟩
theorem PM.FoundV.uniq {nm : ByteArray} {es : List PM.At} {k n k' n' : Int} {s s' : ByteArray} {f f' : Bool} (h : PM.FoundV nm es k n s f) (h' : PM.FoundV nm es k' n' s' f') : k = k' ∧ n = n' ∧ s = s' ∧ f = f' := by
  have hf := (PM.found_there h).1.trans (PM.found_there h').1.symm
  subst hf
  cases f with
  | false =>
    obtain ⟨a, b, c⟩ := (PM.found_there h).2 rfl
    obtain ⟨a', b', c'⟩ := (PM.found_there h').2 rfl
    exact ⟨a.trans a'.symm, b.trans b'.symm, c.trans c'.symm, rfl⟩
  | true =>
    rcases h with ⟨h, _⟩ | ⟨j, z, _, hk, hn, hs, hz, hF⟩
    · cases h
    rcases h' with ⟨h', _⟩ | ⟨j', z', _, hk', hn', hs', hz', hF'⟩
    · cases h'
    rcases hF with ⟨h0, _⟩ | ⟨i, y, hi, h1, h2, h3⟩
    · omega
    rcases hF' with ⟨h0, _⟩ | ⟨i', y', hi', h1', h2', h3'⟩
    · omega
    have hii : i = i' := by
      rcases Nat.lt_trichotomy i i' with h | h | h
      · have := h3' i y h h1
        rw [h2] at this
        cases this
      · exact h
      · have := h3 i' y' h h1'
        rw [h2'] at this
        cases this
    obtain rfl : j = j' := by omega
    rw [hz] at hz'
    injection hz' with hz'
    subst hz'
    exact ⟨hk.trans hk'.symm, hn.trans hn'.symm, hs.trans hs'.symm, rfl⟩
set_option maxHeartbeats 2000000 in
theorem eventTells_walk (v : Value) (es : List PM.At) (nm : ByteArray) (hnm : nm.size ≤ maxLen) (w : World) (hv : PM.EV w v es) (hw : ∀ x ∈ es, x.wf) :
    Calls Try.prog 4 #[v, .string nm] w fun e w' => e = .returned (.bool true) ∧ Below w.heap.size w w' := by
  have hnm' := hnm
  unfold maxLen at hnm
  have hwh := PM.hid hw
  clear hw
  go_enter Try.func4, Try.ntmps4
  go_wp2_with fail
  refine (awake4 _).mono ?_
  rintro e w1 ⟨rfl, hB1⟩
  replace hv := hv.keep hB1
  have hB := PM.hid hB1
  clear hB1
  go_wp2_with fail
  refine (few_any _ es w1 hv).mono ?_
  rintro e w2 ⟨hF, rfl⟩
  rcases hF with ⟨rfl, hF⟩ | ⟨rfl, hF⟩
  case inr =>
    clear hF hv
    go_wp2_with fail
    go_ret
    exact ⟨rfl, hB.out⟩
  clear hF
  by_cases h100 : 100 < nm.size
  case pos =>
    have hd : decide ((100 : Int) < (nm.size : Int)) = true := by simp; omega
    clear hv
    go_wp2_with fail
    go_ret
    exact ⟨rfl, hB.out⟩
  have hd : decide ((100 : Int) < (nm.size : Int)) = false := by simp; omega
  go_wp2_with fail
  refine (encode_any _ es w2 hv hwh.out).mono ?_
  rintro e w3 ⟨o3, rfl, ho3, hn3, hB3⟩
  replace hv := hv.keep hB3
  replace hB := PM.hid (PM.chain hB.out hB3)
  clear hB3
  go_wp2_with fail
  refine (rencode_any _ es w3 hv hwh.out).mono ?_
  rintro e w4 ⟨o4, rfl, ho4, hn4, hB4⟩
  replace hv := hv.keep hB4
  replace hB := PM.hid (PM.chain hB.out hB4)
  have hbs : ∃ l, PM.BS w4 o3 l ∧ PM.BS w4 o4 l := by
    by_cases hc : PM.chkP es
    · exact ⟨_, (ho3 hc).bs.keep hB4, (ho4 hc).bs⟩
    · rw [hn3 hc, hn4 hc]; exact ⟨[], PM.BS.nil _, PM.BS.nil _⟩
  clear ho3 hn3 ho4 hn4 hB4
  obtain ⟨l, b3, b4⟩ := hbs
  generalize hC : PM.chk es = C
  go_wp2_with fail
  refine (efind_any _ nm es w4 hv).mono ?_
  rintro e w5 ⟨k5, n5, s5, f5, rfl, hF5, hB5⟩
  go_upto_region 7 with fail
  obtain ⟨g6, hg6⟩ : ∃ g, g = w5.heap.size := ⟨_, rfl⟩
  obtain ⟨w6, hw6⟩ : ∃ W, W = w5.alloc (.cells #[.int .i64 k5, .int .i64 n5, .string s5] 31) := ⟨_, rfl⟩
  have hal : Below w5.heap.size w5 w6 := by rw [hw6]; exact (Below.refl _ _).alloc (Nat.le_refl _) _
  have hv6 : PM.BK w6 g6 #[.int .i64 k5, .int .i64 n5, .string s5] 31 := by rw [hw6, hg6]; exact PM.BK.new _ _ _
  have hBB := PM.chain hB5 hal
  replace hv := hv.keep hBB
  replace b3 := b3.keep hBB
  replace b4 := b4.keep hBB
  replace hB := PM.hid (PM.chain hB.out hBB)
  rw [← hw6, ← hg6]
  clear hw6 hg6 hal hBB hB5
  go_wp2_with fail
  refine (refind_any _ nm es w6 hv).mono ?_
  rintro e w7 ⟨k7, n7, s7, f7, rfl, hF7, hB7⟩
  obtain ⟨rfl, rfl, rfl, rfl⟩ := hF5.uniq hF7
  clear hF5 hF7
  go_upto_region 8 with fail
  obtain ⟨g8, hg8⟩ : ∃ g, g = w7.heap.size := ⟨_, rfl⟩
  obtain ⟨w8, hw8⟩ : ∃ W, W = w7.alloc (.cells #[.int .i64 k5, .int .i64 n5, .string s5] 31) := ⟨_, rfl⟩
  have hal : Below w7.heap.size w7 w8 := by rw [hw8]; exact (Below.refl _ _).alloc (Nat.le_refl _) _
  have hv8 : PM.BK w8 g8 #[.int .i64 k5, .int .i64 n5, .string s5] 31 := by rw [hw8, hg8]; exact PM.BK.new _ _ _
  have hBB := PM.chain hB7 hal
  replace hv6 := hv6.keep hBB
  replace hv := hv.keep hBB
  have kb3 := PM.run_str bty Try.underlying9 (b3.keep hBB)
  have kb4 := PM.run_str bty Try.underlying9 (b4.keep hBB)
  replace hB := PM.hid (PM.chain hB.out hBB)
  rw [← hw8, ← hg8]
  have q0 := hv6.cell 0
  have q1 := hv6.cell 1
  have q2 := hv6.cell 2
  replace q0 : w8.cell? ⟨g6, 0, none⟩ = some (.int .i64 k5) := q0
  replace q1 : w8.cell? ⟨g6, 1, none⟩ = some (.int .i64 n5) := q1
  replace q2 : w8.cell? ⟨g6, 2, none⟩ = some (.string s5) := q2
  have r0 := hv8.cell 0
  have r1 := hv8.cell 1
  have r2 := hv8.cell 2
  replace r0 : w8.cell? ⟨g8, 0, none⟩ = some (.int .i64 k5) := r0
  replace r1 : w8.cell? ⟨g8, 1, none⟩ = some (.int .i64 n5) := r1
  replace r2 : w8.cell? ⟨g8, 2, none⟩ = some (.string s5) := r2
  clear hw8 hg8 hal hBB hB7 hv6 hv8 b3 b4
  have hck := echeck_any _ es w8 hv
  have hrk := fun (W : World) (h : Below w8.heap.size w8 W) => recheck_any _ es W (hv.keep h) hwh.out
  rw [hC] at hck hrk
  clear hv hC
  go_wp2_with fail
  refine hck.mono ?_
  rintro e w9 ⟨rfl, hB9⟩
  have hr9 := hrk w9 hB9
  replace hB := PM.hid (PM.chain hB.out hB9)
  clear hck hrk hB9 q0 q1 q2 r0 r1 r2 kb3 kb4
  go_wp2_with fail
  refine hr9.mono ?_
  rintro e w10 ⟨rfl, hB10⟩
  replace hB := PM.hid (PM.chain hB.out hB10)
  clear hr9 hB10
  go_wp2_with fail
  refine (name_any nm w10).mono ?_
  rintro e w11 ⟨rfl, hB11⟩
  replace hB := PM.hid (PM.chain hB.out hB11)
  clear hB11
  go_wp2_with fail
  refine (rname_any nm w11 hnm').mono ?_
  rintro e w12 ⟨rfl, hB12⟩
  replace hB := PM.hid (PM.chain hB.out hB12)
  clear hB12
  go_wp2_with fail
  go_ret
  exact ⟨by simp, hB.out⟩
end Go.Proofs.Ytfanfkocmdkllaa
