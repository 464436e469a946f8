/-
  THE STABLE SORT OF TESTS: contracts of stableCmpFunc, SortStableFunc, of fewer than twenty.
-/
import Derived.Test.YtbpajgejfnjaeaaNh
import Derived.Test.YtbpajgejfnjaeaaNg
namespace Go.Proofs.Ytbpajgejfnjaeaa
open Go.RowKit
set_option linter.unusedVariables false
set_option linter.unusedSimpArgs false
namespace PM
open Go.Sort
/-- tests in order -/
def srt (l : List Te) : List Te := l.mergeSort fun x y => !tlt y x
theorem swoT : SWO tlt where
  irrefl x := tlt_no (by have := tord_self x; omega)
  trans x y z h1 h2 := by
    unfold tlt at *
    exact decide_eq_true (tord_trans (of_decide_eq_true h1) (of_decide_eq_true h2))
  ntrans x y z h1 h2 := by
    unfold tlt at *
    have h1 := of_decide_eq_false h1
    have h2 := of_decide_eq_false h2
    apply decide_eq_false
    intro h
    by_cases e : tord x y = 0
    · rw [tord_zero e] at h; exact h2 h
    · have a1 := tord_anti x y
      have := tord_trans (a := y) (b := x) (c := z) (by omega) h
      exact h2 this
theorem totT (x y : Te) (h1 : tlt x y = false) (h2 : tlt y x = false) : x = y := by
  unfold tlt at *
  have h1 := of_decide_eq_false h1
  have h2 := of_decide_eq_false h2
  have := tord_anti x y
  exact tord_zero (by omega)
theorem ins_srt (d : Array Te) : (insertionSort tlt d 0 d.size).toList = srt d.toList := by
  obtain ⟨h1, h2⟩ := insertionSort_holds swoT d 0 d.size (Nat.zero_le _) (Nat.le_refl _)
  exact sorted_unique_holds swoT totT d _ h1 h2
theorem srt_perm (l : List Te) : (srt l).Perm l := List.mergeSort_perm l _
theorem srt_len (l : List Te) : (srt l).length = l.length := (srt_perm l).length_eq
theorem OM.row {T : TypeId} {B : Nat} {w : World} {v : Value} {l : List Te} (h : OM teL 5 T B w v l) : (v = .slice none 0 0 ∧ l = []) ∨ ∃ g cap tl, v = .slice (some ⟨g, 0, none⟩) l.length cap ∧ B ≤ g ∧ SR T w g l.toArray tl ∧ l.length ≤ cap ∧ cap ≤ maxLen ∧ l.length * 5 + tl.length = cap * 5 := by
  rcases h.2 with ⟨hv, h0⟩ | ⟨g, cap, cur, hv, hB, hg, hn, hm, hs, ht⟩
  · exact .inl ⟨hv, List.length_eq_zero_iff.1 h0⟩
  · refine .inr ⟨g, cap, cur.toList.drop (l.length * 5), hv, hB, ?_, hn, hm, ?_⟩
    · unfold SR BK
      rw [hg]
      simp only [List.toList_toArray]
      rw [← ht, List.take_append_drop]
    · have e : cur.toList.length = cap * 5 := by rw [Array.length_toList]; exact hs
      rw [List.length_drop, e]; have := Nat.mul_le_mul_right 5 hn; omega
theorem SR.om {T : TypeId} {B : Nat} {w : World} {g cap : Nat} {d : Array Te} {tl : List Value} (h : SR T w g d tl) (hB : B ≤ g) (h1 : d.size ≤ cap) (h2 : cap ≤ maxLen) (h3 : d.size * 5 + tl.length = cap * 5) : OM teL 5 T B w (.slice (some ⟨g, 0, none⟩) d.size cap) d.toList := by
  refine ⟨by rw [flat_len teL_len], .inr ⟨g, cap, _, by simp, hB, h, by simpa using h1, h2, ?_, ?_⟩⟩
  · rw [← h3]; simp [flat_len teL_len]
  · simp only [List.toList_toArray]
    rw [List.take_left' (by rw [flat_len teL_len])]
end PM
open Go.Sort in
theorem ins_nil (w : World) : Calls Try.prog 59 #[.slice none 0 0, .int .i64 0, .int .i64 0, .func (.func 21) #[] #[]] w fun e w' => e = .returned (.tuple #[]) ∧ w' = w := by
  go_enter Try.func59, Try.ntmps59
  go_wp2_with fail
  go_loopg [8] 0 (fun g1 vi wr => vi = .int .i64 1 ∧ wr = w)
  case atStart => exact ⟨rfl, rfl⟩
  case round =>
    obtain ⟨rfl, rfl⟩ := hrel
    go_wp2_with fail
    go_end0
    exact ⟨rfl, rfl⟩
theorem stable_any (v : Value) (N : Nat) (hN : N < 20) (w : World) (R : World → Prop)
    (hin : Calls Try.prog 59 #[v, .int .i64 0, .int .i64 N, .func (.func 21) #[] #[]] w fun e w' => e = .returned (.tuple #[]) ∧ R w') :
    Calls Try.prog 55 #[v, .int .i64 N, .func (.func 21) #[] #[]] w fun e w' => e = .returned (.tuple #[]) ∧ R w' := by
  have hn : ¬ (20 : Int) ≤ (N : Int) := by omega
  have hn2 : ¬ (20 : Int) < (N : Int) := by omega
  go_enter Try.func55, Try.ntmps55
  go_wp2_with fail
  go_loopg [7, 8] 0 (fun g1 v7 v8 wr => v7 = .int .i64 0 ∧ v8 = .int .i64 20 ∧ wr = w)
  case atStart => exact ⟨rfl, rfl, rfl⟩
  case round =>
    obtain ⟨rfl, rfl, rfl⟩ := hrel
    go_wp2_with fail
    refine hin.mono ?_
    rintro e w1 ⟨rfl, hR⟩
    have hRh := PM.hid hR
    clear hR hin
    go_wp2_with fail
    go_loopg [6] 0 (fun g1 v6 wr => v6 = .int .i64 20 ∧ Hid (R wr))
    case atStart => exact ⟨rfl, hRh⟩
    case round =>
      obtain ⟨rfl, hR⟩ := hrel
      go_wp2_with fail
      go_end0
      exact ⟨rfl, hR.out⟩
theorem sort_any (B : Nat) (v : Value) (l : List PM.Te) (w : World) (hO : PM.OM PM.teL 5 25 B w v l) (hl : l.length < 20) (hB : B ≤ w.heap.size) :
    Calls Try.prog 30 #[v, .func (.func 21) #[] #[]] w fun e w' => e = .returned (.tuple #[]) ∧ PM.OM PM.teL 5 25 B w' v (PM.srt l) ∧ Below B w w' := by
  have key : Calls Try.prog 55 #[v, .int .i64 l.length, .func (.func 21) #[] #[]] w fun e w' => e = .returned (.tuple #[]) ∧ (PM.OM PM.teL 5 25 B w' v (PM.srt l) ∧ Below B w w') := by
    refine stable_any v l.length hl w (fun w' => PM.OM PM.teL 5 25 B w' v (PM.srt l) ∧ Below B w w') ?_
    rcases PM.OM.row hO with ⟨rfl, rfl⟩ | ⟨g, cap, tl, rfl, hg, hR, h1, h2, h3⟩
    · refine (ins_nil w).mono ?_
      rintro e w' ⟨rfl, rfl⟩
      exact ⟨rfl, by rw [show PM.srt [] = [] from List.length_eq_zero_iff.1 (by rw [PM.srt_len]; rfl)]; exact hO, Below.refl _ _⟩
    · refine (ins_any g l.length cap l.toArray tl w hR (by simp) (by omega)).mono ?_
      rintro e w' ⟨rfl, hR', hx⟩
      have e1 : (Sort.insertionSort PM.tlt l.toArray 0 l.length).toList = PM.srt l := by
        have := PM.ins_srt l.toArray
        simpa using this
      have e2 : (Sort.insertionSort PM.tlt l.toArray 0 l.length).size = l.length := by rw [← Array.length_toList, e1, PM.srt_len]
      have := PM.SR.om (B := B) (cap := cap) hR' hg (by rw [e2]; exact h1) h2 (by rw [e2]; exact h3)
      rw [e1, e2] at this
      exact ⟨rfl, this, PM.Bx.below (Below.refl _ _) hx hg hB⟩
  have hlen : ∃ ad cap, v = .slice ad l.length cap := PM.EM.len (PM.OM.em PM.teL_len hO)
  obtain ⟨ad, cap, rfl⟩ := hlen
  clear hO
  go_enter Try.func30, Try.ntmps30
  go_wp2_with fail
  refine key.mono ?_
  rintro e w1 ⟨rfl, h1, h2⟩
  have hh := PM.hid (And.intro h1 h2)
  clear h1 h2 key
  go_wp2_with fail
  go_end0
  exact ⟨rfl, hh.out⟩
end Go.Proofs.Ytbpajgejfnjaeaa
