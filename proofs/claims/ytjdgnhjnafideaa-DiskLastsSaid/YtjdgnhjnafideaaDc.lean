/-
  CONTRACTS OF package disk.
-/
import Derived.Test.YtjdgnhjnafideaaDk
import Derived.Test.YtjdgnhjnafideaaVp
import Derived.Test.YtjdgnhjnafideaaRs
import Derived.Test.YtjdgnhjnafideaaRows
import Derived.Lib.Hide
namespace Go.Proofs.Ytjdgnhjnafideaa
open Go.RowKit
set_option linter.unusedVariables false
theorem bty : PM.ByteTy Try.prog 31 5 := by
  have h : (Try.prog.info? 5).map (fun i => (i.zero, i.size, i.bytes)) = some (some (.int .u8 0), 1, 1) := by kernel_rfl
  obtain ⟨i, hi, hz, hs, hb⟩ := info_parts h
  exact ⟨Try.underlying31, Try.underlying5, i, _, hi, hz, hs, hb, rfl⟩
theorem TE : (51 : TypeId) ≠ 5 := by decide
theorem flat_any (v : Value) (l : List UInt8) (w : World) (hv : PM.BS w v l) (hl : l.length ≤ 140737488355328) :
    Calls Try.prog 26 #[v] w (PM.RetB 5 w.heap.size w l) := by
  obtain ⟨a, cap, rfl⟩ := hv.len
  by_cases h0 : l = []
  · subst h0
    go_enter Try.func26, Try.ntmps26
    go_wp2
    go_ret
    exact ⟨_, rfl, PM.OW.nilrow _ _ _, Below.refl _ _⟩
  · have hn : ((l.length : Int) == 0) = false := by rw [beq_eq_false_iff_ne]; have := List.length_pos_iff.2 h0; omega
    go_enter Try.func26, Try.ntmps26
    go_wp2_with (first | (at_make; refine PM.wpList_mk0 bty w.heap.size rfl _ _ rfl .i64 .i64 _ l.length rfl rfl rfl hl (Nat.le_refl _) ?_; intro v1 w1 hown hB1 _; have hs1 := hv.keep hB1) | (at_builtin; refine PM.wpList_app bty w.heap.size rfl _ _ rfl _ _ [] l rfl rfl hown hs1 ?_ hB1.size ?_; (simp; omega); intro v2 w2 hown2 hB2 _; replace hB2 := hB1.trans hB2))
    go_ret
    exact ⟨v2, rfl, by simpa using hown2, hB2⟩
theorem dnew_any (room : Nat) (hr : room ≤ 1048576) (w : World) :
    Calls Try.prog 11 #[.int .i64 room] w fun e w' => ∃ b, e = .returned (.tuple #[.pointer (some ⟨b, 0, none⟩), .int .i64 0]) ∧ w.heap.size ≤ b ∧ (∀ B, PM.DK 51 5 B w' b [] 0 room) ∧ Below w.heap.size w w' := by
  go_enter Try.func11, Try.ntmps11
  go_wp2
  go_ret2
  exact ⟨w.heap.size, rfl, Nat.le_refl _, fun B => ⟨_, PM.BK.new _ _ _, PM.OW.nilrow _ _ _⟩, by go_grown⟩
theorem read_any (B b : Nat) (l : List UInt8) (last room : Int) (w : World) (h : PM.DK 51 5 B w b l last room) (hl : l.length ≤ 140737488355328) :
    Calls Try.prog 14 #[.pointer (some ⟨b, 0, none⟩)] w (PM.RetB 5 w.heap.size w l) := by
  obtain ⟨v, hk, ho⟩ := h
  have c0 := hk.cell 0
  go_enter Try.func14, Try.ntmps14
  go_wp2_with fail
  refine (flat_any v l _ ho.bs hl).mono ?_
  rintro e w1 ⟨v1, rfl, ho1, hB1⟩
  go_wp2_with fail
  go_ret
  exact ⟨v1, rfl, ho1, hB1⟩
theorem lasting_any (B b : Nat) (l : List UInt8) (last room : Int) (w : World) (h : PM.DK 51 5 B w b l last room) :
    Calls Try.prog 15 #[.pointer (some ⟨b, 0, none⟩)] w fun e w' => e = .returned (.int .i64 last) ∧ w = w' := by
  obtain ⟨v, hk, ho⟩ := h
  have c1 := hk.cell 1
  go_enter Try.func15, Try.ntmps15
  go_wp2
  go_ret
  exact ⟨rfl, rfl⟩
theorem sync_any (B b : Nat) (l : List UInt8) (last room : Int) (w : World) (h : PM.DK 51 5 B w b l last room) :
    Calls Try.prog 17 #[.pointer (some ⟨b, 0, none⟩)] w fun e w' => e = .returned (.int .i64 0) ∧ PM.DK 51 5 B w' b l l.length room ∧ PM.Bd B b w w' := by
  obtain ⟨v, hk, ho⟩ := h
  have c0 := hk.cell 0
  have f1 := hk.free 1
  have c1 := hk.cell 1
  have HK := Lib.hid (hk.set 1 (.int .i64 l.length))
  have HO := Lib.hid (PM.OW.set TE (i := 1) (u := .int .i64 l.length) hk ho)
  have hs := ho.bs
  obtain ⟨a, cap, rfl⟩ := hs.len
  go_enter Try.func17, Try.ntmps17
  go_wp2
  go_ret
  exact ⟨rfl, ⟨_, by simpa using HK.out, HO.out⟩, PM.Bd.set _ _ _ _ _⟩
theorem cut_anyC (C B b : Nat) (l : List UInt8) (last room : Int) (n : Int) (w : World) (h : PM.DK 51 5 B w b l last room) :
    Calls Try.prog 18 #[.pointer (some ⟨b, 0, none⟩), .int .i64 n] w fun e w' =>
      e = .returned (.int .i64 (PM.cutE n l)) ∧ PM.DK 51 5 B w' b (PM.cutL n l) (PM.cutT n l last) room ∧ PM.Bd C b w w' := by
  have hd := Lib.hid h
  obtain ⟨v, hk, ho⟩ := h
  have c0 := hk.cell 0
  have c1 := hk.cell 1
  have f0 := hk.free 0
  have f1 := hk.free 1
  by_cases hn : n < 0
  · obtain ⟨a, cap, rfl⟩ := ho.bs.len
    rw [show PM.cutE n l = 1 from if_neg (by omega), show PM.cutL n l = l from if_neg (by omega), show PM.cutT n l last = last from if_neg (by omega)]
    go_enter Try.func18, Try.ntmps18
    go_wp2
    go_ret
    exact ⟨rfl, hd.out, PM.Bd.refl _ _ _⟩
  obtain ⟨n, rfl⟩ := Int.eq_ofNat_of_zero_le (show 0 ≤ n by omega)
  by_cases hg : l.length < n
  · have hg' : (l.length : Int) < (n : Int) := by omega
    obtain ⟨a, cap, rfl⟩ := ho.bs.len
    rw [show PM.cutE n l = 1 from if_neg (by omega), show PM.cutL n l = l from if_neg (by omega), show PM.cutT n l last = last from if_neg (by omega)]
    go_enter Try.func18, Try.ntmps18
    go_wp2
    go_ret
    exact ⟨rfl, hd.out, PM.Bd.refl _ _ _⟩
  have hg' : ¬ ((l.length : Int) < (n : Int)) := by omega
  rw [show PM.cutE n l = 0 from if_pos (by omega), show PM.cutL n l = l.take n from if_pos (by omega), show PM.cutT n l last = n from if_pos (by omega)]
  rcases ho.form' with ⟨rfl, rfl⟩ | ⟨g, cap, rfl, hB, hcap, hm⟩
  · obtain rfl : n = 0 := by simpa using hg
    have HK := Lib.hid ((hk.set 0 (.slice none 0 0)).set 1 (.int .i64 0))
    go_enter Try.func18, Try.ntmps18
    go_wp2
    go_ret
    exact ⟨rfl, ⟨_, by simpa using HK.out, PM.OW.nilrow _ _ _⟩, (PM.Bd.set _ _ _ _ _).trans (PM.Bd.set _ _ _ _ _)⟩
  · have HO := Lib.hid (ho.cut (n := n) (by omega))
    have HK := Lib.hid ((hk.set 0 (.slice (some ⟨g, 0, none⟩) n cap)).set 1 (.int .i64 n))
    have HO2 := Lib.hid (PM.OW.set TE (i := 1) (u := .int .i64 n) (hk.set 0 (.slice (some ⟨g, 0, none⟩) n cap)) (PM.OW.set TE (i := 0) (u := .slice (some ⟨g, 0, none⟩) n cap) hk HO.out))
    unfold maxLen at hm
    go_enter Try.func18, Try.ntmps18
    go_wp2
    go_ret
    exact ⟨rfl, ⟨_, by simpa using HK.out, HO2.out⟩, (PM.Bd.set _ _ _ _ _).trans (PM.Bd.set _ _ _ _ _)⟩
theorem cut_any (B b : Nat) (l : List UInt8) (last room : Int) (n : Int) (w : World) (h : PM.DK 51 5 B w b l last room) :
    Calls Try.prog 18 #[.pointer (some ⟨b, 0, none⟩), .int .i64 n] w fun e w' =>
      e = .returned (.int .i64 (PM.cutE n l)) ∧ PM.DK 51 5 B w' b (PM.cutL n l) (PM.cutT n l last) room ∧ PM.Bd B b w w' := cut_anyC B B b l last room n w h
theorem swap_any (B b : Nat) (l m : List UInt8) (last : Int) (room : Nat) (xv : Value) (w : World) (h : PM.DK 51 5 B w b l last room) (hx : PM.BS w xv m) (hm : m.length ≤ 9223372036854775807) (hB : B ≤ w.heap.size) (hr : room ≤ 1048576) :
    Calls Try.prog 19 #[.pointer (some ⟨b, 0, none⟩), xv] w fun e w' =>
      e = .returned (.int .i64 (PM.swpE m room)) ∧ PM.DK 51 5 B w' b (PM.swpL l m room) (PM.swpT m room last) room ∧ PM.Bd B b w w' := by
  have hd := Lib.hid h
  obtain ⟨v, hk, ho⟩ := h
  have c2 := hk.cell 2
  obtain ⟨a, cap, rfl⟩ := hx.len
  by_cases hg : room < m.length
  · have hg' : (room : Int) < (m.length : Int) := by omega
    rw [show PM.swpE m room = 90 from if_neg (by omega), show PM.swpL l m room = l from if_neg (by omega), show PM.swpT m room last = last from if_neg (by omega)]
    go_enter Try.func19, Try.ntmps19
    go_wp2
    refine wp_scope_jumps 0 (fun a w' => w = w' ∧ a.defers = [] ∧ a.tmps.size = 24) (fun _ _ => 0) rfl ?_ ?_
    · go_wp2
      go_step3
      exact ⟨rfl, rfl, rfl, rfl⟩
    · rintro a w' ⟨rfl, hd', hsz⟩
      rw [PM.act_lit 24 hd' hsz]
      generalize PM.sl a = G at *
      rw [show ((List.range 24).map G).toArray = #[G 0, G 1, G 2, G 3, G 4, G 5, G 6, G 7, G 8, G 9, G 10, G 11, G 12, G 13, G 14, G 15, G 16, G 17, G 18, G 19, G 20, G 21, G 22, G 23] from rfl]
      go_wp2
      simp only [Exit.jump]
      go_ret
      exact ⟨rfl, hd.out, PM.Bd.refl _ _ _⟩
  have hg' : ¬ ((room : Int) < (m.length : Int)) := by omega
  rw [show PM.swpE m room = 0 from if_pos (by omega), show PM.swpL l m room = m from if_pos (by omega), show PM.swpT m room last = m.length from if_pos (by omega)]
  go_enter Try.func19, Try.ntmps19
  go_wp2_with fail
  refine wp_scope_jumps 0 (fun a w' => False) (fun _ _ => 0) rfl ?_ ?_
  · go_wp2_with fail
    refine (flat_any _ m _ hx (by omega)).mono ?_
    rintro e w1 ⟨v1, rfl, ho1, hB1⟩
    obtain ⟨a1, cap1, rfl⟩ := ho1.bs.len
    have hk1 := hk.keep hB1
    have c0 := hk1.cell 0
    have c1 := hk1.cell 1
    have f0 := hk1.free 0
    have f1 := hk1.free 1
    have HK := Lib.hid ((hk1.set 0 (.slice a1 m.length cap1)).set 1 (.int .i64 m.length))
    have HO2 := Lib.hid (PM.OW.set TE (i := 1) (u := .int .i64 m.length) (hk1.set 0 (.slice a1 m.length cap1)) (PM.OW.set TE (i := 0) (u := .slice a1 m.length cap1) hk1 ho1))
    go_wp2_with fail
    simp only [Exit.jump]
    go_ret
    exact ⟨rfl, ⟨_, by simpa using HK.out, HO2.out.mono hB⟩, ((PM.Bd.of (hB1.mono hB)).trans (PM.Bd.set _ _ _ _ _)).trans (PM.Bd.set _ _ _ _ _)⟩
  · rintro a w' hf
    exact hf.elim
end Go.Proofs.Ytjdgnhjnafideaa
