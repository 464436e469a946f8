/-
  CONTRACTS OF package filter: Holds, Matches.
-/
import Derived.Test.YtnpbfjkfbobgaaaGreatId
import Derived.Test.YtnpbfjkfbobgaaaGreatEA
namespace Go.Proofs.YtnpbfjkfbobgaaaGreat
open Go.RowKit
set_option linter.unusedVariables false
namespace PM
/-- whether an event has an attribute that is as a test asks -/
def holdsB (z : Te) (es : List At) : Bool := match es.find? (fun x => x.name.toList == z.name.toList) with
  | some x => isB z x.k x.n x.s
  | none => false
/-- whether all tests hold -/
def matchB (l : List Te) (es : List At) : Bool := l.all fun z => holdsB z es
theorem find_first {p : At → Bool} : ∀ (es : List At) (j : Nat) (x : At), es[j]? = some x → p x = true → (∀ (i : Nat) (y : At), i < j → es[i]? = some y → p y = false) → es.find? p = some x
  | [], j, x, h, _, _ => by simp at h
  | y :: es, 0, x, h, hp, _ => by
    simp at h
    subst h
    simp [hp]
  | y :: es, j + 1, x, h, hp, hno => by
    have h0 := hno 0 y (by omega) rfl
    rw [List.find?_cons, h0]
    exact find_first es j x (by simpa using h) hp (fun i z hi hz => hno (i + 1) z (by omega) (by simpa using hz))
theorem found_holds {z : Te} {es : List At} {k n : Int} {s : ByteArray} {f : Bool} (h : FoundV z.name es k n s f) : (f = false ∧ holdsB z es = false) ∨ (f = true ∧ holdsB z es = isB z k n s) := by
  rcases h with ⟨hf, _, _, _, h⟩ | ⟨j, x, hf, rfl, rfl, rfl, hx, h⟩
  · refine .inl ⟨hf, ?_⟩
    rcases h with ⟨_, h⟩ | ⟨k, z, h, _⟩
    · have : es.find? (fun x => x.name.toList == z.name.toList) = none := by
        rw [List.find?_eq_none]
        intro x hx
        obtain ⟨i, hi⟩ := List.mem_iff_getElem?.1 hx
        rw [h i x hi]
        simp
      unfold holdsB
      rw [this]
    · omega
  · refine .inr ⟨hf, ?_⟩
    rcases h with ⟨h, _⟩ | ⟨j', x', h, h1, h2, h3⟩
    · omega
    · obtain rfl : j = j' := by omega
      rw [hx] at h1
      injection h1 with h1
      subst h1
      have := find_first es j x hx (p := fun x => x.name.toList == z.name.toList) h2 (fun i y hi hy => h3 i y hi hy)
      unfold holdsB
      rw [this]
end PM
set_option maxHeartbeats 2000000 in
theorem holds_any (z : PM.Te) (v : Value) (es : List PM.At) (w : World) (hv : PM.EV w v es) :
    Calls Tryz.prog 79 #[.agg #[.string z.name, .int .i64 z.op, .int .i64 z.k, .int .i64 z.n, .string z.s], v] w fun e w' => e = .returned (.bool (PM.holdsB z es)) ∧ Below w.heap.size w w' := by
  obtain ⟨g2, hg2⟩ : ∃ g, g = w.heap.size := ⟨_, rfl⟩
  obtain ⟨wa, hwa⟩ : ∃ W, W = w.alloc (.cells #[.string z.name, .int .i64 z.op, .int .i64 z.k, .int .i64 z.n, .string z.s] 50) := ⟨_, rfl⟩
  have hBa : Below w.heap.size w wa := by rw [hwa]; exact (Below.refl _ _).alloc (Nat.le_refl _) _
  have hk2 : PM.BK wa g2 #[.string z.name, .int .i64 z.op, .int .i64 z.k, .int .i64 z.n, .string z.s] 50 := by rw [hwa, hg2]; exact PM.BK.new _ _ _
  have hva := hv.keep hBa
  go_enter Tryz.func79, Tryz.ntmps79
  go_upto_region 1 with fail
  rw [← hwa, ← hg2]
  clear hwa hg2 hv
  have c0 : wa.cell? ⟨g2, 0, none⟩ = some (.string z.name) := hk2.cell 0
  go_wp2_with fail
  refine (efind_any v z.name es wa hva).mono ?_
  rintro e w1 ⟨k, n, s, f, rfl, hF, hB1⟩
  have hk1 := hk2.keep hB1
  have hBB := PM.chain hBa hB1
  have hH := PM.hid (PM.found_holds hF)
  clear hF hk2 hva c0 hBa hB1
  go_upto_region 2 with fail
  obtain ⟨g5, hg5⟩ : ∃ g, g = w1.heap.size := ⟨_, rfl⟩
  obtain ⟨w5, hw5⟩ : ∃ W, W = w1.alloc (.cells #[.int .i64 k, .int .i64 n, .string s] 48) := ⟨_, rfl⟩
  have hal : Below w1.heap.size w1 w5 := by rw [hw5]; exact (Below.refl _ _).alloc (Nat.le_refl _) _
  have hk5 : PM.BK w5 g5 #[.int .i64 k, .int .i64 n, .string s] 48 := by rw [hw5, hg5]; exact PM.BK.new _ _ _
  replace hk1 := hk1.keep hal
  have hBh := PM.hid (PM.chain hBB hal)
  rw [← hw5, ← hg5]
  clear hw5 hg5 hal hBB
  have c0 : w5.cell? ⟨g2, 0, none⟩ = some (.string z.name) := hk1.cell 0
  have c1 : w5.cell? ⟨g2, 1, none⟩ = some (.int .i64 z.op) := hk1.cell 1
  have c2 : w5.cell? ⟨g2, 2, none⟩ = some (.int .i64 z.k) := hk1.cell 2
  have c3 : w5.cell? ⟨g2, 3, none⟩ = some (.int .i64 z.n) := hk1.cell 3
  have c4 : w5.cell? ⟨g2, 4, none⟩ = some (.string z.s) := hk1.cell 4
  have d0 : w5.cell? ⟨g5, 0, none⟩ = some (.int .i64 k) := hk5.cell 0
  have d1 : w5.cell? ⟨g5, 1, none⟩ = some (.int .i64 n) := hk5.cell 1
  have d2 : w5.cell? ⟨g5, 2, none⟩ = some (.string s) := hk5.cell 2
  clear hk1 hk5
  cases f
  · have hf : Hid (PM.holdsB z es = false) := PM.hid (by rcases hH.out with ⟨_, h⟩ | ⟨h, _⟩; exact h; cases h)
    go_wp2_with fail
    go_ret
    exact ⟨by rw [hf.out]; rfl, hBh.out⟩
  · have hf : Hid (PM.holdsB z es = PM.isB z k n s) := PM.hid (by rcases hH.out with ⟨h, _⟩ | ⟨_, h⟩; cases h; exact h)
    go_wp2_with fail
    refine (is_any z k n s w5).mono ?_
    rintro e w6 ⟨rfl, hB6⟩
    have hB6h := PM.hid (PM.chain hBh.out hB6)
    clear hB6 c0 c1 c2 c3 c4 d0 d1 d2
    go_wp2_with fail
    go_ret
    exact ⟨by rw [hf.out]; rfl, hB6h.out⟩
set_option maxHeartbeats 2000000 in
theorem matches_any (u : Value) (l : List PM.Te) (v : Value) (es : List PM.At) (w : World) (hu : PM.TV w u l) (hv : PM.EV w v es) :
    Calls Tryz.prog 69 #[u, v] w fun e w' => e = .returned (.bool (PM.matchB l es)) ∧ Below w.heap.size w w' := by
  obtain ⟨ad, cap, rfl, hcap, hmax, hel⟩ := hu
  unfold maxLen at hmax
  obtain ⟨L, hL⟩ : ∃ L, L = l.length := ⟨_, rfl⟩
  have hLh := PM.hid hL
  rw [← hL] at hcap ⊢
  have helh := PM.hid hel
  have hvh := PM.hid hv
  clear hel hL hv
  go_enter Tryz.func69, Tryz.ntmps69
  go_wp2_with fail
  go_step3
  go_wp2_with fail
  go_step3
  go_wp2_with fail
  go_loopw [5, 10] (fun t i wr => ∃ k : Nat, i = .int .i64 k ∧ t = .bool true ∧ k ≤ L ∧ (∀ (j : Nat) z, j < k → l[j]? = some z → PM.holdsB z es = true) ∧ Below w.heap.size w wr) (fun _ i _ => L - (intOf i).toNat)
  case atStart => exact ⟨0, rfl, rfl, by omega, fun j z hj => absurd hj (by omega), Below.refl _ _⟩
  case round =>
    obtain ⟨k, rfl, rfl, hk, hall, hB⟩ := hrel
    by_cases hlt : k < L
    · obtain ⟨z, hz⟩ : ∃ z, l[k]? = some z := ⟨l[k]'(by rw [← hLh.out]; exact hlt), List.getElem?_eq_getElem _⟩
      obtain ⟨b, off, rfl, hce⟩ := helh.out (by rw [← hLh.out]; omega)
      have hli := hce k z hz
      have d0 := PM.cellA hB (hli 0 _ rfl)
      have d1 := PM.cellA hB (hli 1 _ rfl)
      have d2 := PM.cellA hB (hli 2 _ rfl)
      have d3 := PM.cellA hB (hli 3 _ rfl)
      have d4 := PM.cellA hB (hli 4 _ rfl)
      rw [Nat.add_zero] at d0
      have hin := PM.hid (And.intro hz (And.intro hall hB))
      clear hz hce hli hall hB
      go_wp2_with fail
      obtain ⟨W0, hW0⟩ : ∃ W, W = wr.alloc (.cells #[.string z.name, .int .i64 z.op, .int .i64 z.k, .int .i64 z.n, .string z.s] 50) := ⟨_, rfl⟩
      have hB0 : Below wr.heap.size wr W0 := by rw [hW0]; exact (Below.refl _ _).alloc (Nat.le_refl _) _
      rw [← hW0]
      clear hW0 d0 d1 d2 d3 d4
      have hB1 := PM.chain hin.out.2.2 hB0
      refine (holds_any z v es W0 (hvh.out.keep hB1)).mono ?_
      rintro e w2 ⟨rfl, hB2⟩
      have hB3 := PM.hid (PM.chain hB1 hB2)
      clear hB0 hB1 hB2
      cases hh : PM.holdsB z es
      · have hhh := PM.hid hh
        have hT : Hid (PM.matchB l es = false) := PM.hid (by
          unfold PM.matchB
          rw [List.all_eq_false]
          exact ⟨z, List.mem_of_getElem? hin.out.1, by rw [hh]; simp⟩)
        clear hh
        go_wp2_with fail
        rw [Exit.noGoto_ret]
        go_ret
        exact ⟨by rw [hT.out]; rfl, hB3.out⟩
      · have hhh := PM.hid hh
        clear hh
        go_wp2_with fail
        refine ⟨⟨k + 1, by go_num, rfl, by omega, fun j x hj hx => ?_, hB3.out⟩, by simp only [intOf]; omega⟩
        by_cases hjk : j < k
        · exact hin.out.2.1 j x hjk hx
        · obtain rfl : j = k := by omega
          have := hin.out.1
          rw [hx] at this
          injection this with this
          subst this
          exact hhh.out
    · have hkL : k = L := by omega
      subst hkL
      have hT : Hid (PM.matchB l es = true) := PM.hid (by
        unfold PM.matchB
        rw [List.all_eq_true]
        intro x hx
        obtain ⟨i, hi⟩ := List.mem_iff_getElem?.1 hx
        exact hall i x (by rw [hLh.out]; exact (List.getElem?_eq_some_iff.1 hi).1) hi)
      have hBh := PM.hid hB
      clear hall hB
      go_wp2_with fail
      rw [Exit.noGoto_ret]
      go_ret
      exact ⟨by rw [hT.out]; rfl, hBh.out⟩
end Go.Proofs.YtnpbfjkfbobgaaaGreat
