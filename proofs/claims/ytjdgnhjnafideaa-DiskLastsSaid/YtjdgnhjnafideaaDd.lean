/-
  CONTRACTS OF package disk: bytes that are laid behind; what a crash leaves; calls on none.
-/
import Derived.Test.YtjdgnhjnafideaaDc
namespace Go.Proofs.Ytjdgnhjnafideaa
open Go.RowKit
set_option linter.unusedVariables false
set_option maxHeartbeats 1000000 in
theorem append_any (B b : Nat) (l m : List UInt8) (last : Int) (room : Nat) (xv : Value) (w : World) (h : PM.DK 51 5 B w b l last room) (hx : PM.BS w xv m) (hm : m.length ≤ 9223372036854775807) (hl : l.length ≤ 1048576) (hBB : B ≤ w.heap.size) (hr : room ≤ 1048576) :
    Calls Try.prog 16 #[.pointer (some ⟨b, 0, none⟩), xv] w fun e w' =>
      e = .returned (.int .i64 (PM.appE l m room)) ∧ PM.DK 51 5 B w' b (PM.appL l m room) last room ∧ PM.Bd B b w w' := by
  have hd := Lib.hid h
  obtain ⟨v, hk, ho⟩ := h
  have c0 : w.cell? ⟨b, 0, none⟩ = some v := hk.cell 0
  have c2 : w.cell? ⟨b, 2, none⟩ = some (.int .i64 room) := hk.cell 2
  obtain ⟨xa, xcap, rfl⟩ := hx.len
  obtain ⟨va, vcap, rfl⟩ := ho.bs.len
  have hwr : IntKind.i64.wrap ((room : Int) - (l.length : Int)) = (room : Int) - (l.length : Int) := by rw [IntKind.wrap_i64]; omega
  by_cases hg : room < l.length + m.length
  · have hg' : (room : Int) - (l.length : Int) < (m.length : Int) := by omega
    rw [show PM.appE l m room = 90 from if_neg (by omega), show PM.appL l m room = l from if_neg (by omega)]
    go_enter Try.func16, Try.ntmps16
    go_wp2_with fail
    refine wp_scope_jumps 0 (fun a w' => Below w.heap.size w w' ∧ a.defers = [] ∧ a.tmps.size = 29) (fun _ _ => 0) rfl ?_ ?_
    · go_wp2_with fail
      refine PM.wp_region_st [some 7, some 8, some 9, some 10, some 11, some 12, some 13, some 14, some 15, some 16, some 17, some 18, some 19] [fun x _ => x = .slice xa m.length xcap, fun x _ => x = .int .i64 m.length, fun x _ => x = .pointer (some ⟨b, 0, none⟩), fun x _ => x = .pointer (some ⟨b, 0, none⟩), fun x _ => x = .pointer (some ⟨b, 2, none⟩), fun x _ => x = .int .i64 room, fun x _ => x = .pointer (some ⟨b, 0, none⟩), fun x _ => x = .pointer (some ⟨b, 0, none⟩), fun x _ => x = .pointer (some ⟨b, 0, none⟩), fun x _ => x = .slice va l.length vcap, fun x _ => x = .int .i64 l.length, fun x _ => x = .int .i64 ((room : Int) - (l.length : Int)), fun x _ => x = .bool true] (by kernel_rfl) (by kernel_rfl) (by kernel_rfl) ?_ ?_ ?_
      · simp only [List.forall_mem_cons]
        refine ⟨?_, ?_, ?_, ?_, ?_, ?_, ?_, ?_, ?_, ?_, ?_, ?_, ?_, by simp⟩
        all_goals (intro x W W' h hb; first | exact h | exact PM.BS.keep hb h | exact PM.OW.keep hb h)
      · refine ⟨?_, ?_, ?_, ?_, ?_, ?_, ?_, ?_, ?_, ?_, ?_, ?_, ?_, trivial⟩
        all_goals
          intro a W hB hF hd
          have k0 := hF 0 rfl
          have k1 := hF 1 rfl
          have c0' := PM.cellB hB c0
          have c2' := PM.cellB hB c2
          clear hF
          simp [PM.depsL, PM.spec, PM.sl, Region.binds] at hd k0 k1
          simp only [PM.wantL, PM.spec]
          try simp only [PM.sl]
          go_simp
        all_goals try exact Below.refl _ _
      · intro G W hB hF hS
        simp [PM.allSp, PM.spec] at hS
        have q0 := hF 0 rfl
        have q1 := hF 1 rfl
        have q4 := hF 4 rfl
        have q19 : G 19 = .bool true := by simp [hS]
        simp [PM.sl] at q0 q1 q4
        rw [show ((List.range (Array.size _)).map G).toArray = #[G 0, G 1, G 2, G 3, G 4, G 5, G 6, G 7, G 8, G 9, G 10, G 11, G 12, G 13, G 14, G 15, G 16, G 17, G 18, G 19, G 20, G 21, G 22, G 23, G 24, G 25, G 26, G 27, G 28] from rfl, q0, q1, q4, q19]
        clear hF hS q0 q1 q4 q19
        go_wp2
        go_step3
        exact ⟨rfl, hB, rfl, rfl⟩
    · rintro a w' ⟨hBw, hd', hsz⟩
      rw [PM.act_lit 29 hd' hsz]
      generalize PM.sl a = G at *
      rw [show ((List.range 29).map G).toArray = #[G 0, G 1, G 2, G 3, G 4, G 5, G 6, G 7, G 8, G 9, G 10, G 11, G 12, G 13, G 14, G 15, G 16, G 17, G 18, G 19, G 20, G 21, G 22, G 23, G 24, G 25, G 26, G 27, G 28] from rfl]
      go_wp2
      simp only [Exit.jump]
      go_ret
      exact ⟨rfl, hd.out.keep hBw, PM.Bd.of (hBw.mono hBB)⟩
  have hg' : ¬ ((room : Int) - (l.length : Int) < (m.length : Int)) := by omega
  rw [show PM.appE l m room = 0 from if_pos (by omega), show PM.appL l m room = l ++ m from if_pos (by omega)]
  go_enter Try.func16, Try.ntmps16
  go_wp2_with fail
  refine wp_scope_jumps 0 (fun a w' => False) (fun _ _ => 0) rfl ?_ ?_
  · go_wp2_with fail
    refine PM.wp_region_st [some 7, some 8, some 9, some 10, some 11, some 12, some 13, some 14, some 15, some 16, some 17, some 18, some 19] [fun x _ => x = .slice xa m.length xcap, fun x _ => x = .int .i64 m.length, fun x _ => x = .pointer (some ⟨b, 0, none⟩), fun x _ => x = .pointer (some ⟨b, 0, none⟩), fun x _ => x = .pointer (some ⟨b, 2, none⟩), fun x _ => x = .int .i64 room, fun x _ => x = .pointer (some ⟨b, 0, none⟩), fun x _ => x = .pointer (some ⟨b, 0, none⟩), fun x _ => x = .pointer (some ⟨b, 0, none⟩), fun x _ => x = .slice va l.length vcap, fun x _ => x = .int .i64 l.length, fun x _ => x = .int .i64 ((room : Int) - (l.length : Int)), fun x _ => x = .bool false] (by kernel_rfl) (by kernel_rfl) (by kernel_rfl) ?_ ?_ ?_
    · simp only [List.forall_mem_cons]
      refine ⟨?_, ?_, ?_, ?_, ?_, ?_, ?_, ?_, ?_, ?_, ?_, ?_, ?_, by simp⟩
      all_goals (intro x W W' h hb; first | exact h | exact PM.BS.keep hb h | exact PM.OW.keep hb h)
    · refine ⟨?_, ?_, ?_, ?_, ?_, ?_, ?_, ?_, ?_, ?_, ?_, ?_, ?_, trivial⟩
      all_goals
        intro a W hB hF hd
        have k0 := hF 0 rfl
        have k1 := hF 1 rfl
        have c0' := PM.cellB hB c0
        have c2' := PM.cellB hB c2
        clear hF
        simp [PM.depsL, PM.spec, PM.sl, Region.binds] at hd k0 k1
        simp only [PM.wantL, PM.spec]
        try simp only [PM.sl]
        go_simp
      all_goals try exact Below.refl _ _
      · exact ⟨Below.refl _ _, by rw [decide_eq_false (by omega)]⟩
    · intro G W hB hF hS
      simp [PM.allSp, PM.spec] at hS
      have q0 := hF 0 rfl
      have q1 := hF 1 rfl
      have q4 := hF 4 rfl
      have q19 : G 19 = .bool false := by simp [hS]
      simp [PM.sl] at q0 q1 q4
      rw [show ((List.range (Array.size _)).map G).toArray = #[G 0, G 1, G 2, G 3, G 4, G 5, G 6, G 7, G 8, G 9, G 10, G 11, G 12, G 13, G 14, G 15, G 16, G 17, G 18, G 19, G 20, G 21, G 22, G 23, G 24, G 25, G 26, G 27, G 28] from rfl, q0, q1, q4, q19]
      clear hF hS q0 q1 q4 q19
      have hkW := hk.keep hB
      have hoW := ho.keep hB
      have hxW := hx.keep hB
      have c0' := PM.cellB hB c0
      have hBs := Nat.le_trans hBB hB.size
      go_wp2_with (at_builtin; refine PM.wpList_app bty B rfl _ _ rfl _ _ l m rfl rfl hoW hxW (by omega) hBs ?_; intro v1 w1 ho1 hB1 hg1; have hk1 := PM.BK.grown TE hkW hoW hg1; obtain ⟨a1, cap1, e1⟩ := ho1.bs.len; subst e1; have d0 := hk1.cell 0; have e0 := hk1.free 0; have HK := Lib.hid (hk1.set 0 (.slice a1 (l ++ m).length cap1)); have HO2 := Lib.hid (PM.OW.set TE (i := 0) (u := .slice a1 (l ++ m).length cap1) hk1 ho1); clear hg1)
      simp only [Exit.jump]
      go_ret
      exact ⟨rfl, ⟨_, by simpa using HK.out, by simpa using HO2.out⟩, ((PM.Bd.of (hB.mono hBB)).trans (PM.Bd.of hB1)).trans (PM.Bd.set _ _ _ _ _)⟩
  · rintro a w' hf
    exact hf.elim
theorem crash_anyC (C B b : Nat) (l : List UInt8) (last keep : Int) (room : Nat) (w : World) (h : PM.DK 51 5 B w b l last room) (h0 : 0 ≤ last) (hll : last ≤ l.length) (hl : l.length ≤ 1048576) (hBB : C ≤ w.heap.size) (hk1 : -9223372036854775808 ≤ keep) (hk2 : keep ≤ 9223372036854775807) :
    Calls Try.prog 20 #[.pointer (some ⟨b, 0, none⟩), .int .i64 keep] w fun e w' =>
      e = .returned (.tuple #[]) ∧ PM.DK 51 5 B w' b (l.take (PM.left l last keep).toNat) (PM.left l last keep) room ∧ PM.Bd C b w w' := by
  have hd := Lib.hid h
  obtain ⟨v, hk, ho⟩ := h
  have c0 : w.cell? ⟨b, 0, none⟩ = some v := hk.cell 0
  have c1 : w.cell? ⟨b, 1, none⟩ = some (.int .i64 last) := hk.cell 1
  obtain ⟨va, vcap, rfl⟩ := ho.bs.len
  go_enter Try.func20, Try.ntmps20
  go_wp2_with fail
  go_region
  have eD : (if (l.length : Int) - last < if keep < 0 then 0 else keep then (l.length : Int) - last else if keep < 0 then 0 else keep) = min (max keep 0) ((l.length : Int) - last) := by split <;> split <;> omega
  rw [eD]
  have hD0 : 0 ≤ min (max keep 0) ((l.length : Int) - last) := by omega
  have hD1 : min (max keep 0) ((l.length : Int) - last) ≤ (l.length : Int) - last := by omega
  have HD : Hid (last + min (max keep 0) ((l.length : Int) - last) = PM.left l last keep) := Lib.hid rfl
  clear eD
  generalize min (max keep 0) ((l.length : Int) - last) = D at *
  generalize (if keep < 0 then (0 : Int) else keep) = KK
  have hB : Below w.heap.size w w.drew := (Below.refl _ _).drew
  generalize w.drew = W at *
  replace c0 := PM.cellB hB c0
  replace c1 := PM.cellB hB c1
  go_wp2_with fail
  rw [HD.out]
  have hL1 : 0 ≤ PM.left l last keep := by rw [← HD.out]; omega
  have hL2 : PM.left l last keep ≤ l.length := by rw [← HD.out]; omega
  refine (cut_anyC C B b l last room (PM.left l last keep) _ (hd.out.keep hB)).mono ?_
  rintro e w1 ⟨rfl, hd1, hb1⟩
  go_wp2_with fail
  go_end0
  rw [show PM.cutL (PM.left l last keep) l = l.take (PM.left l last keep).toNat from if_pos (by omega), show PM.cutT (PM.left l last keep) l last = PM.left l last keep from if_pos (by omega)] at hd1
  exact ⟨rfl, hd1, (PM.Bd.of (hB.mono hBB)).trans hb1⟩
theorem crash_any (B b : Nat) (l : List UInt8) (last keep : Int) (room : Nat) (w : World) (h : PM.DK 51 5 B w b l last room) (h0 : 0 ≤ last) (hll : last ≤ l.length) (hl : l.length ≤ 1048576) (hBB : B ≤ w.heap.size) (hk1 : -9223372036854775808 ≤ keep) (hk2 : keep ≤ 9223372036854775807) :
    Calls Try.prog 20 #[.pointer (some ⟨b, 0, none⟩), .int .i64 keep] w fun e w' =>
      e = .returned (.tuple #[]) ∧ PM.DK 51 5 B w' b (l.take (PM.left l last keep).toNat) (PM.left l last keep) room ∧ PM.Bd B b w w' := crash_anyC B B b l last keep room w h h0 hll hl hBB hk1 hk2
theorem append_nil (v : Value) (w : World) : Calls Try.prog 16 #[.pointer none, v] w fun e w' => e = .returned (.int .i64 1) ∧ w = w' := by
  go_enter Try.func16, Try.ntmps16
  go_wp2_with fail
  refine wp_scope_jumps 0 (fun a w' => False) (fun _ _ => 0) rfl ?_ ?_
  · go_wp2
    simp only [Exit.jump]
    go_ret
    exact ⟨rfl, rfl⟩
  · rintro a w' hf
    exact hf.elim
theorem swap_nil (v : Value) (w : World) : Calls Try.prog 19 #[.pointer none, v] w fun e w' => e = .returned (.int .i64 1) ∧ w = w' := by
  go_enter Try.func19, Try.ntmps19
  go_wp2_with fail
  refine wp_scope_jumps 0 (fun a w' => False) (fun _ _ => 0) rfl ?_ ?_
  · go_wp2
    simp only [Exit.jump]
    go_ret
    exact ⟨rfl, rfl⟩
  · rintro a w' hf
    exact hf.elim
theorem sync_nil (w : World) : Calls Try.prog 17 #[.pointer none] w fun e w' => e = .returned (.int .i64 1) ∧ w = w' := by
  go_enter Try.func17, Try.ntmps17
  go_wp2
  first | go_ret | (trace_state; fail)
  exact ⟨rfl, rfl⟩
theorem cut_nil (n : Int) (w : World) : Calls Try.prog 18 #[.pointer none, .int .i64 n] w fun e w' => e = .returned (.int .i64 1) ∧ w = w' := by
  go_enter Try.func18, Try.ntmps18
  go_wp2
  first | go_ret | (trace_state; fail)
  exact ⟨rfl, rfl⟩
theorem crash_nil (n : Int) (w : World) : Calls Try.prog 20 #[.pointer none, .int .i64 n] w fun e w' => e = .returned (.tuple #[]) ∧ w = w' := by
  go_enter Try.func20, Try.ntmps20
  go_wp2
  first | refine bodyPost_ret (results_none rfl _ _ _) rfl ?_ | (trace_state; fail)
  exact ⟨rfl, rfl⟩
theorem read_nil (w : World) : Calls Try.prog 14 #[.pointer none] w fun e w' => e = .returned (.slice none 0 0) ∧ w = w' := by
  go_enter Try.func14, Try.ntmps14
  go_wp2
  first | go_ret | (trace_state; fail)
  exact ⟨rfl, rfl⟩
theorem lasting_nil (w : World) : Calls Try.prog 15 #[.pointer none] w fun e w' => e = .returned (.int .i64 0) ∧ w = w' := by
  go_enter Try.func15, Try.ntmps15
  go_wp2
  first | go_ret | (trace_state; fail)
  exact ⟨rfl, rfl⟩

end Go.Proofs.Ytjdgnhjnafideaa
