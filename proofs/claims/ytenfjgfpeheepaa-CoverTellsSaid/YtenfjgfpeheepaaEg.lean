/-
  CONTRACTS OF package event, postilionref04: Find.
-/
import Derived.Test.YtenfjgfpeheepaaEf
namespace Go.Proofs.Ytenfjgfpeheepaa
open Go.RowKit
set_option linter.unusedVariables false
namespace PM
/-- what Find gives -/
def FoundV (nm : ByteArray) (es : List At) (k n : Int) (s : ByteArray) (f : Bool) : Prop :=
  (f = false ∧ k = 0 ∧ n = 0 ∧ s = ⟨#[]⟩ ∧ Found nm es (-1)) ∨ ∃ (j : Nat) (z : At), f = true ∧ k = z.k ∧ n = z.n ∧ s = z.s ∧ es[j]? = Option.some z ∧ Found nm es (j : Int)
end PM
set_option maxHeartbeats 1000000 in
theorem efind_any (v : Value) (nm : ByteArray) (es : List PM.At) (w : World) (hv : PM.EV w v es) :
    Calls Try.prog 50 #[v, .string nm] w fun e w' => ∃ k n s f, e = .returned (.tuple #[.agg #[.int .i64 k, .int .i64 n, .string s], .bool f]) ∧ PM.FoundV nm es k n s f ∧ Below w.heap.size w w' := by
  obtain ⟨W, hW⟩ : ∃ W, W = ((w.alloc (.cells #[.string nm] 9)).alloc (.cells #[.int .i64 0, .int .i64 0, .string ⟨#[]⟩] 40)) := ⟨_, rfl⟩
  have hB0 : Below w.heap.size w W := by rw [hW]; exact ((Below.refl _ _).alloc (Nat.le_refl _) _).alloc (by rw [World.size_alloc]; omega) _
  have hb1 : PM.BK W w.heap.size #[.string nm] 9 := by
    have := PM.BK.new w #[.string nm] 9
    rw [hW]; exact PM.BK.keep ((Below.refl _ (w.alloc (.cells #[.string nm] 9))).alloc (Nat.le_refl _) _) this
  have hb2 : PM.BK W (w.heap.size + 1) #[.int .i64 0, .int .i64 0, .string ⟨#[]⟩] 40 := by
    have := PM.BK.new (w.alloc (.cells #[.string nm] 9)) #[.int .i64 0, .int .i64 0, .string ⟨#[]⟩] 40
    rw [World.size_alloc] at this
    rw [hW]; exact this
  have hc := idx_any v nm w.heap.size es W (hv.keep hB0) (hb1.cell 0)
  have hvh := PM.hid hv
  obtain ⟨ad, cap, rfl, hcap, hmax, hel⟩ := hv
  unfold maxLen at hmax
  obtain ⟨L, hL⟩ : ∃ L, L = es.length := ⟨_, rfl⟩
  have hLh := PM.hid hL
  rw [← hL] at hcap hc ⊢
  have helh := PM.hid hel
  have hWh := PM.hid (And.intro hB0 hb2)
  clear hel hL hB0 hb1 hb2
  go_enter Try.func50, Try.ntmps50
  go_wp2_with fail
  rw [← hW]
  clear hW
  refine hc.mono ?_
  rintro e w3 ⟨i, rfl, hF, hB3⟩
  have hb := hWh.out.2.keep hB3
  have hBs := PM.chain hWh.out.1 hB3
  have hBh := PM.hid hBs
  have c0 := hb.cell 0
  have c1 := hb.cell 1
  have c2 := hb.cell 2
  have f0 := hb.free 0
  have f1 := hb.free 1
  have f2 := hb.free 2
  simp only [List.getElem?_toArray, List.getElem?_cons_zero, List.getElem?_cons_succ] at c0 c1 c2
  have hbh := PM.hid hb
  clear hb hWh hc
  rcases hF with ⟨rfl, hF⟩ | ⟨k, z, rfl, hz, hzn, hall⟩
  · have hFh := PM.hid hF
    clear hF hBs
    go_wp2_with fail
    obtain ⟨W2, hW2⟩ : ∃ W2, W2 = ((w3.setCell ⟨w.heap.size + 1, 0, none⟩ (.int .i64 0)).setCell ⟨w.heap.size + 1, 1, none⟩ (.int .i64 0)).setCell ⟨w.heap.size + 1, 2, none⟩ (.string ⟨#[]⟩) := ⟨_, rfl⟩
    have hk2 := PM.BK.set3 hbh.out (.int .i64 0) (.int .i64 0) (.string ⟨#[]⟩)
    have hB2 : Below w.heap.size w W2 := by rw [hW2]; exact ((hBh.out.setCell (p := ⟨w.heap.size + 1, 0, none⟩) (by show w.heap.size ≤ w.heap.size + 1; omega) _).setCell (p := ⟨w.heap.size + 1, 1, none⟩) (by show w.heap.size ≤ w.heap.size + 1; omega) _).setCell (p := ⟨w.heap.size + 1, 2, none⟩) (by show w.heap.size ≤ w.heap.size + 1; omega) _
    rw [← hW2] at hk2 ⊢
    clear hW2
    have e0 := hk2.cell 0
    have e1 := hk2.cell 1
    have e2 := hk2.cell 2
    simp only [List.getElem?_toArray, List.getElem?_cons_zero, List.getElem?_cons_succ] at e0 e1 e2
    have hB2h := PM.hid hB2
    clear hk2 hB2
    refine bodyPost_ret (v := .tuple #[.agg #[.int .i64 0, .int .i64 0, .string ⟨#[]⟩], .bool false]) (by simp [results, Try.results50, go_sem, e0, e1, e2]; try rfl) rfl ?_
    exact ⟨_, _, _, _, rfl, .inl ⟨rfl, rfl, rfl, rfl, .inl ⟨rfl, hFh.out⟩⟩, hB2h.out⟩
  · obtain ⟨b, off, rfl, hce⟩ := helh.out (by have := (List.getElem?_eq_some_iff.1 hz).1; omega)
    obtain ⟨d0, d1, d2, d3⟩ := hce k z hz
    have hkL : k < L := by rw [hLh.out]; exact (List.getElem?_eq_some_iff.1 hz).1
    replace d1 := PM.cellA hBs d1
    replace d2 := PM.cellA hBs d2
    replace d3 := PM.cellA hBs d3
    have hFh := PM.hid (And.intro hz (And.intro hzn hall))
    clear hz hzn hall hBs hce d0
    go_wp2_with fail
    obtain ⟨W2, hW2⟩ : ∃ W2, W2 = ((w3.setCell ⟨w.heap.size + 1, 0, none⟩ (.int .i64 z.k)).setCell ⟨w.heap.size + 1, 1, none⟩ (.int .i64 z.n)).setCell ⟨w.heap.size + 1, 2, none⟩ (.string z.s) := ⟨_, rfl⟩
    have hk2 := PM.BK.set3 hbh.out (.int .i64 z.k) (.int .i64 z.n) (.string z.s)
    have hB2 : Below w.heap.size w W2 := by rw [hW2]; exact ((hBh.out.setCell (p := ⟨w.heap.size + 1, 0, none⟩) (by show w.heap.size ≤ w.heap.size + 1; omega) _).setCell (p := ⟨w.heap.size + 1, 1, none⟩) (by show w.heap.size ≤ w.heap.size + 1; omega) _).setCell (p := ⟨w.heap.size + 1, 2, none⟩) (by show w.heap.size ≤ w.heap.size + 1; omega) _
    rw [← hW2] at hk2 ⊢
    clear hW2
    have e0 := hk2.cell 0
    have e1 := hk2.cell 1
    have e2 := hk2.cell 2
    simp only [List.getElem?_toArray, List.getElem?_cons_zero, List.getElem?_cons_succ] at e0 e1 e2
    have hB2h := PM.hid hB2
    clear hk2 hB2
    refine bodyPost_ret (v := .tuple #[.agg #[.int .i64 z.k, .int .i64 z.n, .string z.s], .bool true]) (by simp [results, Try.results50, go_sem, e0, e1, e2]; try rfl) rfl ?_
    exact ⟨_, _, _, _, rfl, .inr ⟨k, z, rfl, rfl, rfl, rfl, hFh.out.1, .inr ⟨k, z, rfl, hFh.out⟩⟩, hB2h.out⟩
end Go.Proofs.Ytenfjgfpeheepaa
