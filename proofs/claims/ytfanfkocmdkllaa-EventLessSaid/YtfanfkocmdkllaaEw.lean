/-
  THE WALKS OF LAYER 4's STATEMENTS: names, finds.
-/
import Derived.Test.YtfanfkocmdkllaaEa
namespace Go.Proofs.Ytfanfkocmdkllaa
open Go.RowKit
set_option linter.unusedVariables false
theorem eventNames_walk (w : World) :
    Calls Try.prog 3 #[] w fun e w' => e = .returned (.bool true) ∧ Below w.heap.size w w' := by
  go_enter Try.func3, Try.ntmps3
  go_wp2_with (go_at_call 10; refine (awake4 _).mono ?_; rintro e w1 ⟨rfl, hb⟩)
  go_ret
  exact ⟨rfl, hb⟩
namespace PM
theorem lt_of {es : List At} (hc : chkP es) : ∀ (d i : Nat) (x y : At), es[i]? = some x → es[i + d + 1]? = some y → x.name.data.toList < y.name.data.toList
  | 0, i, x, y, hx, hy => by
    have h := (hc.2.2 (i + 1) (List.getElem?_eq_some_iff.1 hy).1 y hy).2 x (by omega) (by simpa using hx)
    exact h
  | d + 1, i, x, y, hx, hy => by
    have hlt := (List.getElem?_eq_some_iff.1 hy).1
    have hz : es[i + d + 1]? = some es[i + d + 1] := List.getElem?_eq_getElem (by omega)
    have h1 := lt_of hc d i x _ hx hz
    have h2 := (hc.2.2 (i + (d + 1) + 1) hlt y hy).2 es[i + d + 1] (by omega) (by rw [← hz]; congr 1)
    exact List.lt_trans h1 h2
theorem same_place {es : List At} (hc : chkP es) {i j : Nat} {x y : At} (hx : es[i]? = some x) (hy : es[j]? = some y) (hn : x.name = y.name) : i = j := by
  rcases Nat.lt_trichotomy i j with h | h | h
  · have := lt_of hc (j - i - 1) i x y hx (by rw [← hy]; congr 1; omega)
    rw [hn] at this
    exact absurd this (List.lt_irrefl _)
  · exact h
  · have := lt_of hc (i - j - 1) j y x hy (by rw [← hx]; congr 1; omega)
    rw [hn] at this
    exact absurd this (List.lt_irrefl _)
theorem found_self {es : List At} (hc : chkP es) {i : Nat} {x : At} (hx : es[i]? = some x) {k n : Int} {s : ByteArray} {f : Bool} (h : FoundV x.name es k n s f) : k = x.k ∧ n = x.n ∧ s = x.s ∧ f = true := by
  rcases h with ⟨_, _, _, _, h⟩ | ⟨j, z, hf, hk, hn, hs, hz, h⟩
  · exfalso
    rcases h with ⟨_, h⟩ | ⟨k, z, h, _⟩
    · have := h i x hx
      simp at this
    · omega
  · rcases h with ⟨h, _⟩ | ⟨j', z', h, h1, h2, _⟩
    · omega
    · obtain rfl : j = j' := by omega
      rw [hz] at h1
      injection h1 with h1
      subst h1
      have hnm : z.name = x.name := ba_ext (by simpa using h2)
      obtain rfl := same_place hc hz hx hnm
      rw [hz] at hx
      injection hx with hx
      subst hx
      exact ⟨hk, hn, hs, hf⟩
def there (nm : ByteArray) (es : List At) : Bool := es.any fun z => z.name.toList == nm.toList
theorem found_there {es : List At} {nm : ByteArray} {k n : Int} {s : ByteArray} {f : Bool} (h : FoundV nm es k n s f) : f = there nm es ∧ (f = false → k = 0 ∧ n = 0 ∧ s = ⟨#[]⟩) := by
  rcases h with ⟨rfl, hk, hn, hs, h⟩ | ⟨j, z, rfl, hk, hn, hs, hz, h⟩
  · refine ⟨?_, fun _ => ⟨hk, hn, hs⟩⟩
    rcases h with ⟨_, h⟩ | ⟨k, z, h, _⟩
    · unfold there
      symm
      rw [Bool.eq_false_iff]
      intro hany
      rw [List.any_eq_true] at hany
      obtain ⟨z, hz, he⟩ := hany
      obtain ⟨i, hi⟩ := List.mem_iff_getElem?.1 hz
      rw [h i z hi] at he
      cases he
    · omega
  · refine ⟨?_, fun h => by cases h⟩
    rcases h with ⟨h, _⟩ | ⟨j', z', h, h1, h2, _⟩
    · omega
    · unfold there
      symm
      rw [List.any_eq_true]
      exact ⟨z', List.mem_iff_getElem?.2 ⟨_, h1⟩, h2⟩
theorem there_take {es : List At} {nm : ByteArray} {k : Nat} {z : At} (hz : es[k]? = some z) : there nm (es.take (k + 1)) = (there nm (es.take k) || z.name.toList == nm.toList) := by
  unfold there
  rw [List.take_add_one, hz]
  simp
end PM
set_option maxHeartbeats 4000000 in
theorem eventFinds_walk (v : Value) (es : List PM.At) (nm : ByteArray) (hnm : nm.size ≤ maxLen) (w : World) (hv : PM.EV w v es) (hw : ∀ x ∈ es, x.wf) :
    Calls Try.prog 7 #[v, .string nm] w fun e w' => e = .returned (.bool true) ∧ Below w.heap.size w w' := by
  unfold maxLen at hnm
  have hvl : ∃ a c, v = .slice a es.length c := ⟨_, _, hv.choose_spec.choose_spec.1⟩
  have hv0 := hv
  obtain ⟨ad, cap, rfl, hcap, hmax, hel⟩ := hv
  unfold maxLen at hmax
  obtain ⟨L, hL⟩ : ∃ L, L = es.length := ⟨_, rfl⟩
  have hLh := PM.hid hL
  rw [← hL] at hcap hv0 ⊢
  have helh := PM.hid hel
  have hvh := PM.hid hv0
  clear hel hL hv0 hvl
  go_enter Try.func7, Try.ntmps7
  go_wp2_with fail
  refine (awake4 _).mono ?_
  rintro e w1 ⟨rfl, hB1⟩
  have hB1h := PM.hid hB1
  clear hB1
  go_wp2_with fail
  refine (few_any _ es w1 (hvh.out.keep hB1h.out)).mono ?_
  rintro e w2 ⟨hF, rfl⟩
  rcases hF with ⟨rfl, hF⟩ | ⟨rfl, hF⟩
  case inr =>
    clear hF
    go_wp2_with fail
    go_ret
    exact ⟨rfl, hB1h.out⟩
  have hFh := PM.hid hF
  clear hF
  go_wp2_with fail
  refine (echeck_any _ es w2 (hvh.out.keep hB1h.out)).mono ?_
  rintro e w3 ⟨rfl, hB3⟩
  have hB3h := PM.hid (PM.chain hB1h.out hB3)
  clear hB3 hB1h
  by_cases hc : PM.chkP es
  case neg =>
    rw [PM.chk_no hc]
    clear hc
    go_wp2_with fail
    go_ret
    exact ⟨rfl, hB3h.out⟩
  rw [PM.chk_yes hc]
  have hch := PM.hid hc
  clear hc
  by_cases h100 : 100 < nm.size
  case pos =>
    have hd : decide ((100 : Int) < (nm.size : Int)) = true := by simp; omega
    go_wp2_with fail
    go_ret
    exact ⟨rfl, hB3h.out⟩
  have hd : decide ((100 : Int) < (nm.size : Int)) = false := by simp; omega
  go_wp2_with fail
  go_loopw [6, 7] (fun t i wr => ∃ k : Nat, i = .int .i64 k ∧ k ≤ L ∧ t = .bool (PM.there nm (es.take k)) ∧ Below w.heap.size w wr) (fun _ i _ => L - (intOf i).toNat)
  case atStart => exact ⟨0, rfl, by omega, rfl, hB3h.out⟩
  case round =>
    obtain ⟨k, rfl, hk, rfl, hB⟩ := hrel
    have hS := PM.hid hB
    by_cases hlt : k < L
    · obtain ⟨z, hz⟩ : ∃ z, es[k]? = some z := ⟨es[k]'(by rw [← hLh.out]; exact hlt), List.getElem?_eq_getElem _⟩
      obtain ⟨b, off, rfl, hce⟩ := helh.out (by rw [← hLh.out]; omega)
      obtain ⟨d0, d1, d2, d3⟩ := hce k z hz
      replace d0 := PM.cellA hB d0
      replace d1 := PM.cellA hB d1
      replace d2 := PM.cellA hB d2
      replace d3 := PM.cellA hB d3
      have hzh := PM.hid hz
      clear hz hce hB
      go_wp2_with fail
      refine (efind_any _ z.name es wr (hvh.out.keep hS.out)).mono ?_
      rintro e w4 ⟨k4, n4, s4, f4, rfl, hF4, hB4⟩
      obtain ⟨rfl, rfl, rfl, rfl⟩ := PM.found_self hch.out hzh.out hF4
      replace d0 := PM.cellA hB4 d0
      replace d1 := PM.cellA hB4 d1
      replace d2 := PM.cellA hB4 d2
      replace d3 := PM.cellA hB4 d3
      have hS4 := PM.hid (PM.chain hS.out hB4)
      clear hF4 hB4 hS
      have hth := PM.hid (PM.there_take (nm := nm) hzh.out)
      generalize PM.there nm (es.take k) = th at *
      go_wp2_with fail
      obtain ⟨g5, hg5⟩ : ∃ g, g = w4.heap.size := ⟨_, rfl⟩
      obtain ⟨w5, hw5⟩ : ∃ W, W = w4.alloc (.cells #[.int .i64 z.k, .int .i64 z.n, .string z.s] 31) := ⟨_, rfl⟩
      have hal : Below w4.heap.size w4 w5 := by rw [hw5]; exact (Below.refl _ _).alloc (Nat.le_refl _) _
      have hv5 : PM.BK w5 g5 #[.int .i64 z.k, .int .i64 z.n, .string z.s] 31 := by rw [hw5, hg5]; exact PM.BK.new _ _ _
      replace d0 := PM.cellA hal d0
      replace d1 := PM.cellA hal d1
      replace d2 := PM.cellA hal d2
      replace d3 := PM.cellA hal d3
      have hS5 := PM.hid (PM.chain hS4.out hal)
      rw [← hw5, ← hg5]
      have q0 := hv5.cell 0
      have q1 := hv5.cell 1
      have q2 := hv5.cell 2
      replace q0 : w5.cell? ⟨g5, 0, none⟩ = some (.int .i64 z.k) := q0
      replace q1 : w5.cell? ⟨g5, 1, none⟩ = some (.int .i64 z.n) := q1
      replace q2 : w5.cell? ⟨g5, 2, none⟩ = some (.string z.s) := q2
      clear hw5 hg5 hal hv5 hS4
      go_quiet (fail)
      cases th
      · go_wp2_with fail
        refine ⟨⟨k + 1, by go_num, by omega, ?_, PM.dN' hS5.out _⟩, by simp only [intOf]; omega⟩
        rw [hth.out]
        simp
      · go_wp2_with fail
        refine ⟨⟨k + 1, by go_num, by omega, ?_, PM.dN' hS5.out _⟩, by simp only [intOf]; omega⟩
        rw [hth.out]
        simp
    · have hkL : k = L := by omega
      subst hkL
      clear hB
      go_wp2_with fail
      refine (efind_any _ nm es wr (hvh.out.keep hS.out)).mono ?_
      rintro e w4 ⟨k4, n4, s4, f4, rfl, hF4, hB4⟩
      have hS4 := PM.hid (PM.chain hS.out hB4)
      obtain ⟨hf, hz⟩ := PM.found_there hF4
      rw [List.take_of_length_le (by rw [← hLh.out]; omega)]
      clear hF4 hB4 hS
      have hfh := PM.hid hf
      cases f4
      · obtain ⟨rfl, rfl, rfl⟩ := hz rfl
        rw [← hf]
        clear hf hz
        go_wp2_with fail
        go_ret
        exact ⟨rfl, hS4.out.alloc (hS4.out.size) _⟩
      · rw [← hf]
        clear hf hz
        go_wp2_with fail
        go_ret
        exact ⟨rfl, hS4.out.alloc (hS4.out.size) _⟩
end Go.Proofs.Ytfanfkocmdkllaa
