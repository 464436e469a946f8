import Derived.Test.YtnpbfjkfbobgaaaGreatIB
import Derived.Test.YtnpbfjkfbobgaaaGreatIA
import Derived.Test.YtnpbfjkfbobgaaaGreatP1
import Derived.Test.YtnpbfjkfbobgaaaGreatR0
import Derived.Deep.RegionWith
import Derived.Deep.CutRange
import Derived.Test.YtnpbfjkfbobgaaaGreatG0
import Derived.Test.YtnpbfjkfbobgaaaGreatEA
import Derived.Deep.QuietTactic
import Derived.BigQuiet
/-
  CONTRACT OF filter.Encode.
-/
namespace Go.Proofs.YtnpbfjkfbobgaaaGreat
open Go.RowKit
set_option linter.unusedVariables false
theorem PM.tesB_is {z : PM.Te} (h : 1 ≤ z.op) (h' : z.op ≤ 8) (h8 : z.op = 8) : PM.tesB z = PM.bytesB z.name.data.toList ++ PM.numB z.op.toNat := by
  have hu : PM.u64 z.op = z.op.toNat := by unfold PM.u64; omega
  unfold PM.tesB
  rw [if_pos h8, List.append_nil, hu]
theorem PM.tesB_not {z : PM.Te} (h : 1 ≤ z.op) (h' : z.op ≤ 8) (h8 : ¬ z.op = 8) : PM.tesB z = PM.bytesB z.name.data.toList ++ PM.numB z.op.toNat ++ PM.valB z.k z.n z.s.data.toList := by
  have hu : PM.u64 z.op = z.op.toNat := by unfold PM.u64; omega
  unfold PM.tesB
  rw [if_neg h8, hu]
theorem PM.row_more {es : List PM.Te} {k : Nat} {z : PM.Te} {l5 X : List UInt8} {L : Nat} (hl : l5 = PM.numB L ++ ((es.take k).map PM.tesB).flatten) (hz : es[k]? = some z) (hX : PM.tesB z = X) : PM.numB L ++ ((es.take (k + 1)).map PM.tesB).flatten = l5 ++ X := by
  rw [hl, List.take_add_one, hz, ← hX]
  simp [List.append_assoc]
/-- what Encode answers: the bytes, and the number of the error -/
def RetFE (E : TypeId) (W : World) (es : List PM.Te) (e : Ending) (w' : World) : Prop :=
  ∃ o, e = .returned (.tuple #[o, .int .i64 (PM.filE es)]) ∧ (PM.filP es → PM.OW E W.heap.size w' o (PM.filB es)) ∧ (¬ PM.filP es → o = .slice none 0 0) ∧ Below W.heap.size W w'
end Go.Proofs.YtnpbfjkfbobgaaaGreat

/-
  CONTRACT OF filter.test: a reader's next test.
-/
namespace Go.Proofs.YtnpbfjkfbobgaaaGreat
open Go.RowKit
set_option linter.unusedVariables false
namespace PM
theorem te_nobyte (x y : ByteArray) (a b c : Int) : ∀ (i : Nat) (z : UInt8), (#[Value.string x, Value.int .i64 a, Value.int .i64 b, Value.int .i64 c, Value.string y] : Array Value)[i]? ≠ Option.some (bv z) := by
  intro i z he
  match i with
  | 0 => simp [bv] at he
  | 1 => simp [bv] at he
  | 2 => simp [bv] at he
  | 3 => simp [bv] at he
  | 4 => simp [bv] at he
  | i + 5 => simp at he
theorem Bx.set5 (r : Nat) (w : World) (x y z u v : Value) : Bx r w (((((w.setCell ⟨r, 0, Option.none⟩ x).setCell ⟨r, 1, Option.none⟩ y).setCell ⟨r, 2, Option.none⟩ z).setCell ⟨r, 3, Option.none⟩ u).setCell ⟨r, 4, Option.none⟩ v) :=
  ((Bx.set3 r w x y z).trans (Bx.set r 3 _ u)).trans (Bx.set r 4 _ v)
theorem BK.set5 {w : World} {r : Nat} {a b c d e : Value} {T : TypeId} (h : BK w r #[a, b, c, d, e] T) (x y z u v : Value) : BK (((((w.setCell ⟨r, 0, Option.none⟩ x).setCell ⟨r, 1, Option.none⟩ y).setCell ⟨r, 2, Option.none⟩ z).setCell ⟨r, 3, Option.none⟩ u).setCell ⟨r, 4, Option.none⟩ v) r #[x, y, z, u, v] T := by
  have := ((((h.set 0 x).set 1 y).set 2 z).set 3 u).set 4 v
  simpa using this
theorem BK.tail3 {w : World} {r : Nat} {a b c d e : Value} {T : TypeId} (h : BK w r #[a, b, c, d, e] T) (z u v : Value) : BK (((w.setCell ⟨r, 2, Option.none⟩ z).setCell ⟨r, 3, Option.none⟩ u).setCell ⟨r, 4, Option.none⟩ v) r #[a, b, z, u, v] T := by
  have := ((h.set 2 z).set 3 u).set 4 v
  simpa using this
theorem Bx.tail3 (r : Nat) (w : World) (z u v : Value) : Bx r w (((w.setCell ⟨r, 2, Option.none⟩ z).setCell ⟨r, 3, Option.none⟩ u).setCell ⟨r, 4, Option.none⟩ v) :=
  ((Bx.set r 2 w z).trans (Bx.set r 3 _ u)).trans (Bx.set r 4 _ v)
end PM
def RetT (T : TypeId) (W : World) (b : Nat) (z : PM.Te) (l : List UInt8) (wr : Bool) (e : Ending) (w' : World) : Prop :=
  e = .returned (.agg #[.string z.name, .int .i64 z.op, .int .i64 z.k, .int .i64 z.n, .string z.s]) ∧ PM.RD T w' b l wr ∧ PM.Bx b W w'
end Go.Proofs.YtnpbfjkfbobgaaaGreat

/-
  CONTRACT OF filter.Decode.
-/
namespace Go.Proofs.YtnpbfjkfbobgaaaGreat
open Go.RowKit
set_option linter.unusedVariables false
theorem PM.teL_nob (x : PM.Te) : ∀ u ∈ PM.teL x, PM.NoB u := by intro u hu y; simp [PM.teL] at hu; rcases hu with rfl | rfl | rfl | rfl | rfl <;> simp [PM.bv]
theorem teTy : PM.MTy Tryz.prog 28 50 5 56 := by
  refine ⟨Tryz.underlying28, by decide, ?_⟩
  obtain ⟨i, h1, h2, h3, h4⟩ := info_parts (P := Tryz.prog) (e := 50) (z := .agg #[.string ByteArray.empty, .int .i64 0, .int .i64 0, .int .i64 0, .string ByteArray.empty]) (size := 5) (bytes := 56) (by kernel_rfl)
  exact ⟨i, _, h1, h2, h3, h4, by kernel_rfl⟩
theorem teZ : ∀ i z, Tryz.prog.info? 50 = some i → i.zero = some z → ∀ x ∈ z.cells.toList, PM.NoB x := by
  intro i z hi hz x hx y
  have h0 : (Tryz.prog.info? 50).bind (·.zero) = some (.agg #[.string ByteArray.empty, .int .i64 0, .int .i64 0, .int .i64 0, .string ByteArray.empty]) := by kernel_rfl
  rw [hi] at h0
  simp only [Option.bind_some, hz, Option.some.injEq] at h0
  subst h0
  simp [Value.cells] at hx
  rcases hx with rfl | rfl | rfl | rfl | rfl <;> simp [PM.bv]
def RetFD (E : TypeId) (W : World) (l : List UInt8) (e : Ending) (w' : World) : Prop :=
  ∃ o, e = .returned (.tuple #[o, .int .i64 (PM.decTN l)]) ∧ (∀ es, PM.decT l = some es → PM.OM PM.teL 5 E W.heap.size w' o es) ∧ (PM.decT l = none → o = .slice none 0 0) ∧ Below W.heap.size W w'
end Go.Proofs.YtnpbfjkfbobgaaaGreat

/-
  CONTRACTS OF postilionlaw05.Few, postilionref05.Same.
-/
namespace Go.Proofs.YtnpbfjkfbobgaaaGreat
open Go.RowKit
set_option linter.unusedVariables false
namespace PM
def smallT (z : Te) : Prop := z.name.size ≤ 100 ∧ z.s.size ≤ 100
/-- few tests, of short texts -/
def FFew (es : List Te) : Prop := es.length ≤ 10 ∧ ∀ (j : Nat) (z : Te), es[j]? = Option.some z → smallT z
end PM
set_option maxHeartbeats 1000000 in
theorem ffew_any (v : Value) (es : List PM.Te) (w : World) (hv : PM.TV w v es) :
    Calls Tryz.prog 21 #[v] w fun e w' => (e = .returned (.bool true) ∧ PM.FFew es ∨ e = .returned (.bool false) ∧ ¬ PM.FFew es) ∧ w' = w := by
  obtain ⟨ad, cap, rfl, hcap, hmax, hel⟩ := hv
  unfold maxLen at hmax
  obtain ⟨L, hL⟩ : ∃ L, L = es.length := ⟨_, rfl⟩
  have hLh := PM.hid hL
  rw [← hL] at hcap ⊢
  have helh := PM.hid hel
  clear hel hL
  by_cases hbig : 10 < L
  · have hb : (10 : Int) < (L : Int) := by omega
    go_enter Tryz.func21, Tryz.ntmps21
    go_wp2
    go_ret
    exact ⟨.inr ⟨rfl, fun h => by have := h.1; rw [← hLh.out] at this; omega⟩, rfl⟩
  have hb : ¬ (10 : Int) < (L : Int) := by omega
  go_enter Tryz.func21, Tryz.ntmps21
  go_wp2
  go_loop [3] (fun i => ∃ k : Nat, i = .int .i64 k ∧ k ≤ L ∧ (∀ (j : Nat) (z : PM.Te), j < k → es[j]? = some z → PM.smallT z)) (fun i => L - (intOf i).toNat)
  case atStart => exact ⟨0, rfl, by omega, fun j y hj => absurd hj (by omega)⟩
  case round =>
    obtain ⟨k, rfl, hk, hall⟩ := hrel
    have hS := PM.hid hall
    clear hall
    by_cases hlt : k < L
    · obtain ⟨z, hz⟩ : ∃ z, es[k]? = some z := ⟨es[k]'(by rw [← hLh.out]; exact hlt), List.getElem?_eq_getElem _⟩
      obtain ⟨b, off, rfl, hce⟩ := helh.out (by rw [← hLh.out]; omega)
      have hli := hce k z hz
      have d0 := hli 0 _ rfl
      have d4 := hli 4 _ rfl
      rw [Nat.add_zero] at d0
      clear hli
      have hzh := PM.hid hz
      clear hz hce
      have hno : ¬ PM.smallT z → ¬ PM.FFew es := fun h h' => h (h'.2 k z hzh.out)
      have hnh := PM.hid hno
      clear hno
      by_cases g1 : 100 < z.name.size
      · have g1' : (100 : Int) < (z.name.size : Int) := by omega
        go_wp2_with fail
        go_ret
        exact ⟨.inr ⟨rfl, hnh.out fun h => by have := h.1; omega⟩, rfl⟩
      · have g1' : ¬ (100 : Int) < (z.name.size : Int) := by omega
        by_cases g2 : 100 < z.s.size
        · have g2' : (100 : Int) < (z.s.size : Int) := by omega
          go_wp2_with fail
          go_ret
          exact ⟨.inr ⟨rfl, hnh.out fun h => by have := h.2; omega⟩, rfl⟩
        · have g2' : ¬ (100 : Int) < (z.s.size : Int) := by omega
          go_wp2_with fail
          refine ⟨⟨k + 1, by go_num, by omega, fun j y hj hy => ?_⟩, by simp only [intOf]; omega⟩
          by_cases hjk : j < k
          · exact hS.out j y hjk hy
          · obtain rfl : j = k := by omega
            rw [hzh.out] at hy
            cases hy
            exact ⟨by omega, by omega⟩
    · have hkL : k = L := by omega
      subst hkL
      go_wp2_with fail
      go_ret
      refine ⟨.inl ⟨rfl, by rw [← hLh.out]; omega, fun j z hj => hS.out j z ?_ hj⟩, rfl⟩
      rw [hLh.out]
      exact (List.getElem?_eq_some_iff.1 hj).1
set_option maxHeartbeats 1000000 in
theorem fsame_any (v u : Value) (es fs : List PM.Te) (w : World) (hv : PM.TV w v es) (hu : PM.TV w u fs) :
    Calls Tryz.prog 31 #[v, u] w fun e w' => (e = .returned (.bool true) ∧ es = fs ∨ e = .returned (.bool false) ∧ es ≠ fs) ∧ Below w.heap.size w w' := by
  obtain ⟨ad, cap, rfl, hcap, hmax, hel⟩ := hv
  obtain ⟨bd, cbp, rfl, hcbp, hmbx, hem⟩ := hu
  unfold maxLen at hmax hmbx
  by_cases hl : es.length = fs.length
  case neg =>
    have hne : es ≠ fs := fun h => hl (by rw [h])
    have hneh := PM.hid hne
    have g1 : ((es.length : Int) != fs.length) = true := by simp; omega
    clear hel hem hne
    go_enter Tryz.func31, Tryz.ntmps31
    go_wp2
    go_ret
    exact ⟨.inr ⟨rfl, hneh.out⟩, Below.refl _ _⟩
  obtain ⟨L, hL⟩ : ∃ L, L = es.length := ⟨_, rfl⟩
  have hLh := PM.hid hL
  have hMh := PM.hid (hL.trans hl)
  rw [← hl, ← hL] at hcbp ⊢
  rw [← hL] at hcap
  have helh := PM.hid hel
  have hemh := PM.hid hem
  clear hel hL hem hl
  go_enter Tryz.func31, Tryz.ntmps31
  go_wp2
  go_loopw [5] (fun i wr => ∃ k : Nat, i = .int .i64 k ∧ k ≤ L ∧ (∀ (j : Nat), j < k → es[j]? = fs[j]?) ∧ Below w.heap.size w wr) (fun i _ => L - (intOf i).toNat)
  case atStart => exact ⟨0, rfl, by omega, fun j hj => absurd hj (by omega), Below.refl _ _⟩
  case round =>
    obtain ⟨k, rfl, hk, hall, hB⟩ := hrel
    have hS := PM.hid (And.intro hall hB)
    by_cases hlt : k < L
    · obtain ⟨z, hz⟩ : ∃ z, es[k]? = some z := ⟨es[k]'(by rw [← hLh.out]; exact hlt), List.getElem?_eq_getElem _⟩
      obtain ⟨y, hy⟩ : ∃ y, fs[k]? = some y := ⟨fs[k]'(by rw [← hMh.out]; exact hlt), List.getElem?_eq_getElem _⟩
      obtain ⟨b, off, rfl, hce⟩ := helh.out (by rw [← hLh.out]; omega)
      obtain ⟨b', off', rfl, hcf⟩ := hemh.out (by rw [← hMh.out]; omega)
      have d0 := PM.cellA hB (hce k z hz 0 _ rfl)
      have e0 := PM.cellA hB (hcf k y hy 0 _ rfl)
      have d1 := PM.cellA hB (hce k z hz 1 _ rfl)
      have e1 := PM.cellA hB (hcf k y hy 1 _ rfl)
      have d2 := PM.cellA hB (hce k z hz 2 _ rfl)
      have e2 := PM.cellA hB (hcf k y hy 2 _ rfl)
      have d3 := PM.cellA hB (hce k z hz 3 _ rfl)
      have e3 := PM.cellA hB (hcf k y hy 3 _ rfl)
      have d4 := PM.cellA hB (hce k z hz 4 _ rfl)
      have e4 := PM.cellA hB (hcf k y hy 4 _ rfl)
      rw [Nat.add_zero] at d0 e0
      have hzh := PM.hid (And.intro hz hy)
      clear hz hy hce hcf hall hB
      have hne0 : z ≠ y → es ≠ fs := fun h e => h (by have h1 := hzh.out.1; rw [e, hzh.out.2] at h1; exact (Option.some.inj h1).symm)
      have hne := PM.hid hne0
      clear hne0
      by_cases q1 : z.name.toList = y.name.toList
      case neg =>
        have qh := PM.hid q1
        go_wp2_with fail
        go_quiet (fail)
        go_wp2_with fail
        go_ret
        exact ⟨.inr ⟨rfl, hne.out fun e => qh.out (by rw [e])⟩, PM.dN' hS.out.2 _⟩
      by_cases q5 : z.op = y.op
      case neg =>
        have qh := PM.hid q5
        go_wp2_with fail
        go_quiet (fail)
        go_wp2_with fail
        go_ret
        exact ⟨.inr ⟨rfl, hne.out fun e => qh.out (by rw [e])⟩, PM.dN' hS.out.2 _⟩
      by_cases q2 : z.k = y.k
      case neg =>
        have qh := PM.hid q2
        go_wp2_with fail
        go_quiet (fail)
        go_wp2_with fail
        go_ret
        exact ⟨.inr ⟨rfl, hne.out fun e => qh.out (by rw [e])⟩, PM.dN' hS.out.2 _⟩
      by_cases q3 : z.n = y.n
      case neg =>
        have qh := PM.hid q3
        go_wp2_with fail
        go_quiet (fail)
        go_wp2_with fail
        go_ret
        exact ⟨.inr ⟨rfl, hne.out fun e => qh.out (by rw [e])⟩, PM.dN' hS.out.2 _⟩
      by_cases q4 : z.s.toList = y.s.toList
      case neg =>
        have qh := PM.hid q4
        go_wp2_with fail
        go_quiet (fail)
        go_wp2_with fail
        go_ret
        exact ⟨.inr ⟨rfl, hne.out fun e => qh.out (by rw [e])⟩, PM.dN' hS.out.2 _⟩
      have hzy : z = y := by
        cases z; cases y
        simp only at q1 q2 q3 q4 q5
        rw [PM.ba_ext q1, q5, q2, q3, PM.ba_ext q4]
      have hzyh := PM.hid hzy
      clear hzy
      go_wp2_with fail
      go_quiet (fail)
      go_wp2_with fail
      refine ⟨⟨k + 1, by go_num, by omega, fun j hj => ?_, PM.dN' hS.out.2 _⟩, by simp only [intOf]; omega⟩
      by_cases hjk : j < k
      · exact hS.out.1 j hjk
      · obtain rfl : j = k := by omega
        rw [hzh.out.1, hzh.out.2, hzyh.out]
    · have hkL : k = L := by omega
      subst hkL
      clear hall hB
      go_wp2_with fail
      go_ret
      refine ⟨.inl ⟨rfl, List.ext_getElem? fun j => ?_⟩, hS.out.2⟩
      by_cases hj : j < k
      · exact hS.out.1 j hj
      · rw [List.getElem?_eq_none (by rw [← hLh.out]; omega), List.getElem?_eq_none (by rw [← hMh.out]; omega)]
end Go.Proofs.YtnpbfjkfbobgaaaGreat
