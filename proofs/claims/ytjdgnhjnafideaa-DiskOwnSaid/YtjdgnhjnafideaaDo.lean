/-
  THE WALK OF LAYER 9's STATEMENT ON MEMORY THAT IS NOT SHARED.
-/
import Derived.Test.YtjdgnhjnafideaaDa
import Derived.Laws.OwnMore
namespace Go.Proofs.Ytjdgnhjnafideaa
open Go.RowKit
set_option linter.unusedVariables false
namespace PM
/-- a row stays as it is while other blocks turn -/
theorem OW.keepd {E : TypeId} {B C b : Nat} {w w' : World} {v : Value} {l : List UInt8} (h : OW E C w v l) (hd : Bd B b w w') (hB : w.heap.size ≤ B) (hb : b < C) : OW E C w' v l := by
  refine ⟨h.1, ?_⟩
  rcases h.2 with hn | ⟨g, cap, cur, hv, hC, hg, r⟩
  · exact .inl hn
  · have hlt : g < w.heap.size := (Array.getElem?_eq_some_iff.1 hg).1
    exact .inr ⟨g, cap, cur, hv, hC, (hd.block g (by omega) (by omega)).trans hg, r⟩
/-- a disk stays as it is while a block below its row turns -/
theorem DK.other {T E : TypeId} {B g i : Nat} {w : World} {b : Nat} {u : Value} {l : List UInt8} {last room : Int} (h : DK T E B w b l last room) (hg : g ≠ b) (hgB : g < B) : DK T E B (w.setCell ⟨g, i, Option.none⟩ u) b l last room := by
  obtain ⟨v, h1, h2⟩ := h
  refine ⟨v, (Below.heap_setCell _ _ _ _ (Ne.symm hg)).trans h1, h2.1, ?_⟩
  rcases h2.2 with hn | ⟨g', cap, cur, hv, hB, hg', r⟩
  · exact .inl hn
  · exact .inr ⟨g', cap, cur, hv, hB, (Below.heap_setCell _ _ _ _ (show g' ≠ g by omega)).trans hg', r⟩
theorem OW.one0 {E : TypeId} {B : Nat} (W : World) (hB : B ≤ W.heap.size) : OW E B (W.alloc (.cells #[] E)) (.slice (Option.some ⟨W.heap.size, 0, Option.none⟩) 0 0) [] :=
  World.ownsRow_lit W #[] 0 hB (by simp) (by simp)
theorem OW.cellAt {E : TypeId} {B g cap : Nat} {w : World} {l : List UInt8} (h : OW E B w (.slice (Option.some ⟨g, 0, Option.none⟩) l.length cap) l) (x : UInt8) (hx : l[0]? = Option.some x) : w.cell? ⟨g, 0, Option.none⟩ = Option.some (.int .u8 (x.toNat : Int)) := by
  have hl : 0 < l.length := (List.getElem?_eq_some_iff.1 hx).1
  have := World.ownsRow.cellAt h 0 (by omega)
  rw [this, List.getElem?_map, hx]; rfl
end PM
set_option maxHeartbeats 2000000 in
theorem diskOwn_walk (va : Value) (la : List UInt8) (w : World) (ha : PM.BS w va la) :
    Calls Try.prog 9 #[va] w fun e w' => e = .returned (.bool true) ∧ Below w.heap.size w w' := by
  obtain ⟨a0, cap0, rfl⟩ := ha.len
  go_enter Try.func9, Try.ntmps9
  go_wp2_with fail
  refine (awake9 _).mono ?_
  rintro e w0 ⟨rfl, hB0⟩
  by_cases g0 : la = []
  · subst g0
    go_wp2
    go_ret
    exact ⟨rfl, hB0⟩
  have hpos := List.length_pos_iff.2 g0
  have g0' : ((la.length : Int) == 0) = false := by rw [beq_eq_false_iff_ne]; omega
  by_cases ga : 300 < la.length
  · have ga' : (300 : Int) < (la.length : Int) := by omega
    go_wp2
    go_ret
    exact ⟨rfl, hB0⟩
  have ga' : ¬ ((300 : Int) < (la.length : Int)) := by omega
  go_wp2_with fail
  refine (dnew_any 1000 (by decide) _).mono ?_
  rintro e w1 ⟨b, rfl, hb, hD, hB1⟩
  have hbl : b < w1.heap.size := (hD 0).lt
  have hbw : w.heap.size ≤ b := Nat.le_trans hB0.size hb
  replace hB1 := PM.chain hB0 hB1
  have ha1 := ha.keep hB1
  go_wp2_with (at_builtin; refine PM.wpList_app bty w1.heap.size rfl _ _ rfl _ _ [] la rfl rfl (PM.OW.one0 _ (Nat.le_refl _)) (ha1.keep ((Below.refl _ _).alloc (Nat.le_refl _) _)) (by simp; omega) (by simp) ?_; intro vm wm hom hBm _)
  rw [List.nil_append] at hom
  have hBm' : Below w1.heap.size w1 wm := ((Below.refl w1.heap.size w1).alloc (Nat.le_refl _) _).trans hBm
  have Dm := (hD wm.heap.size).keep hBm'
  have hB2 := PM.chain hB1 hBm'
  clear hBm hD
  obtain ⟨gm, cm, rfl, hgm⟩ := hom.form g0
  refine (append_any wm.heap.size b [] la 0 1000 _ _ Dm hom.bs (by omega) (by simp) (Nat.le_refl _) (by decide)).mono ?_
  rintro e w3 ⟨rfl, D3, hb3⟩
  have hB3 := hB2.below' hb3 hbw hB2.size
  have hom3 := hom.keepd hb3 (Nat.le_refl _) hbl
  rw [show PM.appE [] la 1000 = 0 from if_pos (by simp; omega)]
  rw [show PM.appL [] la 1000 = la from if_pos (by simp; omega)] at D3
  have hgl : gm < wm.heap.size := (hom.lt gm rfl).2
  obtain ⟨x, hx⟩ : ∃ x, la[0]? = some x := ⟨la[0], by simp [hpos]⟩
  have cm0 := hom3.cellAt x hx
  have fm0 : w3.frozen? ⟨gm, 0, none⟩ = false := World.ownsRow.frozenAt hom3 0
  have HD := Lib.hid fun u => PM.DK.other (i := 0) (u := u) D3 (show gm ≠ b by omega) hgl
  have HB := Lib.hid fun u => hB3.setCell (p := ⟨gm, 0, none⟩) (show w.heap.size ≤ gm by have := hB1.size; omega) u
  clear hb3 hom hom3 Dm hB2
  have hp : (0 : Int) < (la.length : Int) := by omega
  go_wp2_with fail
  have D4 := HD.out (.int .u8 (bits .xor .u8 (x.toNat : Int) 1))
  have hB4 := HB.out (.int .u8 (bits .xor .u8 (x.toNat : Int) 1))
  clear HD HB cm0 fm0
  generalize w3.setCell ⟨gm, 0, none⟩ (.int .u8 (bits .xor .u8 (x.toNat : Int) 1)) = w4 at *
  refine (read_any wm.heap.size b la 0 1000 _ D4 (by omega)).mono ?_
  rintro e w5 ⟨v5, rfl, ho5, hB5⟩
  have hB5' := PM.chain hB4 hB5
  have k1 := PM.run_str bty Try.underlying9 ho5.bs
  have k2 := PM.run_str bty Try.underlying9 (ha.keep hB5')
  obtain ⟨g5, c5, rfl, hg5⟩ := ho5.form g0
  have c50 := ho5.cellAt x hx
  have f50 : w5.frozen? ⟨g5, 0, none⟩ = false := World.ownsRow.frozenAt ho5 0
  have HB := Lib.hid fun u => hB5.setCell (p := ⟨g5, 0, none⟩) hg5 u
  clear ho5 hB5' hB5
  go_wp2_with fail
  have hB6 := HB.out (.int .u8 (bits .xor .u8 (x.toNat : Int) 1))
  clear HB c50 f50 k1 k2
  generalize w5.setCell ⟨g5, 0, none⟩ (.int .u8 (bits .xor .u8 (x.toNat : Int) 1)) = w6 at *
  have D6 := D4.keep hB6
  replace hB6 := PM.chain hB4 hB6
  clear D4 hB4
  refine PM.wp_region_st [some 50, some 51, some 52, some 53, some 54, some 55, some 2] [fun x _ => x = .pointer (some ⟨b, 0, none⟩), fun x w' => PM.BS w' x (la), fun x _ => x = .string ⟨(la).toArray⟩, fun x _ => x = .slice a0 la.length cap0, fun x _ => x = .string ⟨(la).toArray⟩, fun x _ => x = .bool true, fun x _ => x = .bool true] (by kernel_rfl) (by kernel_rfl) (by kernel_rfl) ?_ ?_ ?_
  · simp only [List.forall_mem_cons]
    refine ⟨?_, ?_, ?_, ?_, ?_, ?_, ?_, by simp⟩
    all_goals (intro x W W' h hb; first | exact h | exact PM.BS.keep hb h | exact PM.OW.keep hb h)
  · refine ⟨?_, ?_, ?_, ?_, ?_, ?_, ?_, trivial⟩
    all_goals
      intro a W hB hF hd
      have k0 := hF 0 rfl
      have k4 := hF 4 rfl
      have ha' := ha.keep (PM.chain hB6 hB)
      have kb := PM.run_str bty Try.underlying9 ha'
      clear hF
      simp [PM.depsL, PM.spec, PM.sl, Region.binds] at hd k0 k4
      simp only [PM.wantL, PM.spec]
      try simp only [PM.sl]
      first | (have kc := PM.run_str bty Try.underlying9 hd) | (have kc := PM.run_str bty Try.underlying9 hd.1) | skip
      go_simp
    all_goals try exact Below.refl _ _
    · refine (read_any wm.heap.size b la 0 1000 W (D6.keep hB) (by omega)).mono ?_
      rintro e w' ⟨v', rfl, ho, hb⟩
      exact ⟨hb, v', rfl, ho.bs⟩
  · intro G W hB hF hS
    simp [PM.allSp, PM.spec] at hS
    have q2 : G 2 = .bool true := by simp [hS]
    rw [show ((List.range (Array.size _)).map G).toArray = #[G 0, G 1, G 2, G 3, G 4, G 5, G 6, G 7, G 8, G 9, G 10, G 11, G 12, G 13, G 14, G 15, G 16, G 17, G 18, G 19, G 20, G 21, G 22, G 23, G 24, G 25, G 26, G 27, G 28, G 29, G 30, G 31, G 32, G 33, G 34, G 35, G 36, G 37, G 38, G 39, G 40, G 41, G 42, G 43, G 44, G 45, G 46, G 47, G 48, G 49, G 50, G 51, G 52, G 53, G 54, G 55] from rfl, q2]
    clear hF hS q2
    go_wp2
    go_ret
    exact ⟨rfl, PM.chain hB6 hB⟩

end Go.Proofs.Ytjdgnhjnafideaa
