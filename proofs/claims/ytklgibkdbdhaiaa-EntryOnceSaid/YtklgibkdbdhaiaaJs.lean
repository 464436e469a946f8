/-
  THE WALK OF EntryOnce.
-/
import Derived.Test.YtklgibkdbdhaiaaJQ
namespace Go.Proofs.Ytklgibkdbdhaiaa
open Go.RowKit
set_option linter.unusedVariables false
set_option linter.unusedSimpArgs false
set_option maxRecDepth 100000 in
set_option maxHeartbeats 8000000 in
theorem entryOnce_walk (v : Value) (l : List UInt8) (w : World) (hv : PM.BS w v l) :
    Calls Try.prog 5 #[v] w fun e w' => e = .returned (.bool true) ∧ Below w.heap.size w w' := by
  obtain ⟨va, vc, hve⟩ := hv.len
  subst hve
  obtain ⟨L, hL⟩ : ∃ L, L = l.length := ⟨_, rfl⟩
  rw [← hL] at hv ⊢
  have hLh := PM.hid hL
  clear hL
  by_cases hbig : 2000 < L
  · have hb : (2000 : Int) < (L : Int) := by omega
    go_enter Try.func5, Try.ntmps5
    go_wp2_with fail
    refine (awake11_any w).mono ?_
    rintro e w1 ⟨rfl, hB⟩
    replace hB := PM.hid hB
    go_wp2_with fail
    go_ret
    exact ⟨rfl, hB.out⟩
  have hb : ¬ (2000 : Int) < (L : Int) := by omega
  have hll : Hid (l.length ≤ 70368744177664) := PM.hid (by rw [← hLh.out]; omega)
  go_enter Try.func5, Try.ntmps5
  go_wp2_with fail
  refine (awake11_any w).mono ?_
  rintro e w1 ⟨rfl, hB1⟩
  replace hv := hv.keep hB1
  have hBB := PM.hid hB1
  clear hB1
  go_wp2_with fail
  refine (endecode_any _ l w1 hv hll.out).mono ?_
  rintro e w2 ⟨⟨kd, ⟨ib, il, is⟩, cl, sub, fil, evs⟩, fv, ev, n, rfl, hc, hO, hE, hBn⟩
  have hTx := hO.em PM.teL_len
  have hEx := hE.evl
  simp only at hO hE hTx hEx
  obtain ⟨fa, fc, h⟩ := hTx.len; subst h
  obtain ⟨ea, ec, h⟩ := hE.len; subst h
  have hd : n = 0 ∧ PM.decEn l = some ⟨kd, ⟨ib, il, is⟩, cl, sub, fil, evs⟩ ∨ n = 110 := by
    rcases hc with h | h
    · exact .inl h
    · exact .inr h.1
  clear hO hE hc
  replace hv := hv.keep hBn
  replace hBB := PM.hid (PM.chain hBB.out hBn)
  clear hBn
  simp only [PM.enC]
  go_upto_region 5 with fail
  obtain ⟨gx, hgx⟩ : ∃ g, g = w2.heap.size := ⟨_, rfl⟩
  obtain ⟨w3, hw3⟩ : ∃ W, W = w2.alloc (.cells #[.int .i64 kd, .int .i64 ib, .int .u64 (il : Int), .int .u64 (is : Int), .int .i64 cl, .int .u64 (sub : Int), .slice fa fil.length fc, .slice ea evs.length ec] 30) := ⟨_, rfl⟩
  have hBn : Below w2.heap.size w2 w3 := by rw [hw3]; exact (Below.refl _ _).alloc (Nat.le_refl _) _
  have kgx : PM.BK w3 gx #[.int .i64 kd, .int .i64 ib, .int .u64 (il : Int), .int .u64 (is : Int), .int .i64 cl, .int .u64 (sub : Int), .slice fa fil.length fc, .slice ea evs.length ec] 30 := by rw [hw3, hgx]; exact PM.BK.new _ _ _
  rw [← hw3, ← hgx]
  clear hw3 hgx
  replace hv := hv.keep hBn
  replace hTx := hTx.keep hBn
  replace hEx := hEx.keep hBn
  replace hBB := PM.hid (PM.chain hBB.out hBn)
  clear hBn
  go_wp2_with fail
  refine (unpack_any _ l w3 hv hll.out).mono ?_
  rintro e w4 ⟨⟨rk, rn, ⟨kd', ⟨ib', il', is'⟩, cl', sub', fil', evs'⟩, ⟨jb, jl, js⟩⟩, fv', ev', n', rfl, hc, hO, hE, hBn⟩
  have hTr := hO.em PM.teL_len
  have hEr := hE.evl
  simp only at hO hE hTr hEr
  obtain ⟨fa', fc', h⟩ := hTr.len; subst h
  obtain ⟨ea', ec', h⟩ := hE.len; subst h
  have hd2 : n' = 0 ∧ PM.decRc l = some ⟨rk, rn, ⟨kd', ⟨ib', il', is'⟩, cl', sub', fil', evs'⟩, ⟨jb, jl, js⟩⟩ ∨ n' = 110 := by
    rcases hc with h | h
    · exact .inl h
    · exact .inr h.1
  clear hO hE hc
  replace hv := hv.keep hBn
  replace kgx := kgx.keep hBn
  replace hTx := hTx.keep hBn
  replace hEx := hEx.keep hBn
  replace hBB := PM.hid (PM.chain hBB.out hBn)
  clear hBn
  simp only [PM.rcC, PM.enC, PM.idL, List.cons_append, List.nil_append]
  go_upto_region 6 with fail
  obtain ⟨gr, hgr⟩ : ∃ g, g = w4.heap.size := ⟨_, rfl⟩
  obtain ⟨w5, hw5⟩ : ∃ W, W = w4.alloc (.cells #[.int .i64 rk, .int .u64 (rn : Int), .int .i64 kd', .int .i64 ib', .int .u64 (il' : Int), .int .u64 (is' : Int), .int .i64 cl', .int .u64 (sub' : Int), .slice fa' fil'.length fc', .slice ea' evs'.length ec', .int .i64 jb, .int .u64 (jl : Int), .int .u64 (js : Int)] 32) := ⟨_, rfl⟩
  have hBn : Below w4.heap.size w4 w5 := by rw [hw5]; exact (Below.refl _ _).alloc (Nat.le_refl _) _
  have kgr : PM.BK w5 gr #[.int .i64 rk, .int .u64 (rn : Int), .int .i64 kd', .int .i64 ib', .int .u64 (il' : Int), .int .u64 (is' : Int), .int .i64 cl', .int .u64 (sub' : Int), .slice fa' fil'.length fc', .slice ea' evs'.length ec', .int .i64 jb, .int .u64 (jl : Int), .int .u64 (js : Int)] 32 := by rw [hw5, hgr]; exact PM.BK.new _ _ _
  rw [← hw5, ← hgr]
  clear hw5 hgr
  replace hv := hv.keep hBn
  replace kgx := kgx.keep hBn
  replace hTx := hTx.keep hBn
  replace hEx := hEx.keep hBn
  replace hTr := hTr.keep hBn
  replace hEr := hEr.keep hBn
  replace hBB := PM.hid (PM.chain hBB.out hBn)
  clear hBn
  rcases hd with ⟨rfl, hd⟩ | hd
  · rcases hd2 with ⟨rfl, hd2⟩ | hd2
    · have hxb := PM.hid (PM.decEn_back hd)
      have hrb := PM.hid (PM.decRc_back hd2)
      clear hd hd2
      have x0 : w5.cell? ⟨gx, 0, none⟩ = some (.int .i64 kd) := kgx.cell 0
      have x1 : w5.cell? ⟨gx, 1, none⟩ = some (.int .i64 ib) := kgx.cell 1
      have x2 : w5.cell? ⟨gx, 2, none⟩ = some (.int .u64 (il : Int)) := kgx.cell 2
      have x3 : w5.cell? ⟨gx, 3, none⟩ = some (.int .u64 (is : Int)) := kgx.cell 3
      have x4 : w5.cell? ⟨gx, 4, none⟩ = some (.int .i64 cl) := kgx.cell 4
      have x5 : w5.cell? ⟨gx, 5, none⟩ = some (.int .u64 (sub : Int)) := kgx.cell 5
      have x6 : w5.cell? ⟨gx, 6, none⟩ = some (.slice fa fil.length fc) := kgx.cell 6
      have x7 : w5.cell? ⟨gx, 7, none⟩ = some (.slice ea evs.length ec) := kgx.cell 7
      have hen := enencode_any ⟨kd, ⟨ib, il, is⟩, cl, sub, fil, evs⟩ (.slice fa fil.length fc) (.slice ea evs.length ec) w5 hxb.out.2.2 hTx hEx
      unfold PM.enC at hen
      simp only at hen
      go_wp2_with fail
      refine hen.mono ?_
      clear hen
      rintro e wy ⟨oy, rfl, hy, -, hBn⟩
      replace hy := hy hxb.out.2.1
      rw [PM.enE_yes hxb.out.2.1]
      clear x0 x1 x2 x3 x4 x5 x6 x7
      have kc1 := PM.run_str bty Try.underlying9 hy.bs
      have kc2 := PM.run_str bty Try.underlying9 (hv.keep hBn)
      rw [hxb.out.1] at kc1
      clear hy
      replace kgx := kgx.keep hBn
      replace hTx := hTx.keep hBn
      replace hEx := hEx.keep hBn
      replace hv := hv.keep hBn
      replace kgr := kgr.keep hBn
      replace hTr := hTr.keep hBn
      replace hEr := hEr.keep hBn
      replace hBB := PM.hid (PM.chain hBB.out hBn)
      clear hBn
      have x0 : wy.cell? ⟨gx, 0, none⟩ = some (.int .i64 kd) := kgx.cell 0
      have x1 : wy.cell? ⟨gx, 1, none⟩ = some (.int .i64 ib) := kgx.cell 1
      have x2 : wy.cell? ⟨gx, 2, none⟩ = some (.int .u64 (il : Int)) := kgx.cell 2
      have x3 : wy.cell? ⟨gx, 3, none⟩ = some (.int .u64 (is : Int)) := kgx.cell 3
      have x4 : wy.cell? ⟨gx, 4, none⟩ = some (.int .i64 cl) := kgx.cell 4
      have x5 : wy.cell? ⟨gx, 5, none⟩ = some (.int .u64 (sub : Int)) := kgx.cell 5
      have x6 : wy.cell? ⟨gx, 6, none⟩ = some (.slice fa fil.length fc) := kgx.cell 6
      have x7 : wy.cell? ⟨gx, 7, none⟩ = some (.slice ea evs.length ec) := kgx.cell 7
      have hck := encheck_any ⟨kd, ⟨ib, il, is⟩, cl, sub, fil, evs⟩ (.slice fa fil.length fc) (.slice ea evs.length ec) wy hxb.out.2.2 hTx hEx
      unfold PM.enC at hck
      simp only at hck
      rw [PM.enE_yes hxb.out.2.1] at hck
      go_wp2_with fail
      refine hck.mono ?_
      clear hck kc1 kc2
      rintro e wx ⟨rfl, hBn⟩
      clear x0 x1 x2 x3 x4 x5 x6 x7
      replace hv := hv.keep hBn
      replace kgr := kgr.keep hBn
      replace hTr := hTr.keep hBn
      replace hEr := hEr.keep hBn
      replace hBB := PM.hid (PM.chain hBB.out hBn)
      clear hBn
      have r0 : wx.cell? ⟨gr, 0, none⟩ = some (.int .i64 rk) := kgr.cell 0
      have r1 : wx.cell? ⟨gr, 1, none⟩ = some (.int .u64 (rn : Int)) := kgr.cell 1
      have r2 : wx.cell? ⟨gr, 2, none⟩ = some (.int .i64 kd') := kgr.cell 2
      have r3 : wx.cell? ⟨gr, 3, none⟩ = some (.int .i64 ib') := kgr.cell 3
      have r4 : wx.cell? ⟨gr, 4, none⟩ = some (.int .u64 (il' : Int)) := kgr.cell 4
      have r5 : wx.cell? ⟨gr, 5, none⟩ = some (.int .u64 (is' : Int)) := kgr.cell 5
      have r6 : wx.cell? ⟨gr, 6, none⟩ = some (.int .i64 cl') := kgr.cell 6
      have r7 : wx.cell? ⟨gr, 7, none⟩ = some (.int .u64 (sub' : Int)) := kgr.cell 7
      have r8 : wx.cell? ⟨gr, 8, none⟩ = some (.slice fa' fil'.length fc') := kgr.cell 8
      have r9 : wx.cell? ⟨gr, 9, none⟩ = some (.slice ea' evs'.length ec') := kgr.cell 9
      have r10 : wx.cell? ⟨gr, 10, none⟩ = some (.int .i64 jb) := kgr.cell 10
      have r11 : wx.cell? ⟨gr, 11, none⟩ = some (.int .u64 (jl : Int)) := kgr.cell 11
      have r12 : wx.cell? ⟨gr, 12, none⟩ = some (.int .u64 (js : Int)) := kgr.cell 12
      have hpk := pack_any ⟨rk, rn, ⟨kd', ⟨ib', il', is'⟩, cl', sub', fil', evs'⟩, ⟨jb, jl, js⟩⟩ (.slice fa' fil'.length fc') (.slice ea' evs'.length ec') wx hrb.out.2.2 hTr hEr
      unfold PM.rcC PM.enC PM.idL at hpk
      simp only [List.cons_append, List.nil_append] at hpk
      go_wp2_with fail
      refine hpk.mono ?_
      clear hpk
      rintro e wz ⟨oz, rfl, hz, -, hBn⟩
      replace hz := hz hrb.out.2.1
      rw [PM.rcE_yes hrb.out.2.1]
      clear r0 r1 r2 r3 r4 r5 r6 r7 r8 r9 r10 r11 r12
      have kc1 := PM.run_str bty Try.underlying9 hz.bs
      have kc2 := PM.run_str bty Try.underlying9 (hv.keep hBn)
      rw [hrb.out.1] at kc1
      replace hBB := PM.hid (PM.chain hBB.out hBn)
      clear hz hBn
      go_wp2_with fail
      go_ret
      exact ⟨rfl, hBB.out⟩
    · subst hd2
      have hxb := PM.hid (PM.decEn_back hd)
      clear hd
      clear kgr hTr hEr
      have x0 : w5.cell? ⟨gx, 0, none⟩ = some (.int .i64 kd) := kgx.cell 0
      have x1 : w5.cell? ⟨gx, 1, none⟩ = some (.int .i64 ib) := kgx.cell 1
      have x2 : w5.cell? ⟨gx, 2, none⟩ = some (.int .u64 (il : Int)) := kgx.cell 2
      have x3 : w5.cell? ⟨gx, 3, none⟩ = some (.int .u64 (is : Int)) := kgx.cell 3
      have x4 : w5.cell? ⟨gx, 4, none⟩ = some (.int .i64 cl) := kgx.cell 4
      have x5 : w5.cell? ⟨gx, 5, none⟩ = some (.int .u64 (sub : Int)) := kgx.cell 5
      have x6 : w5.cell? ⟨gx, 6, none⟩ = some (.slice fa fil.length fc) := kgx.cell 6
      have x7 : w5.cell? ⟨gx, 7, none⟩ = some (.slice ea evs.length ec) := kgx.cell 7
      have hen := enencode_any ⟨kd, ⟨ib, il, is⟩, cl, sub, fil, evs⟩ (.slice fa fil.length fc) (.slice ea evs.length ec) w5 hxb.out.2.2 hTx hEx
      unfold PM.enC at hen
      simp only at hen
      go_wp2_with fail
      refine hen.mono ?_
      clear hen
      rintro e wy ⟨oy, rfl, hy, -, hBn⟩
      replace hy := hy hxb.out.2.1
      rw [PM.enE_yes hxb.out.2.1]
      clear x0 x1 x2 x3 x4 x5 x6 x7
      have kc1 := PM.run_str bty Try.underlying9 hy.bs
      have kc2 := PM.run_str bty Try.underlying9 (hv.keep hBn)
      rw [hxb.out.1] at kc1
      clear hy
      replace kgx := kgx.keep hBn
      replace hTx := hTx.keep hBn
      replace hEx := hEx.keep hBn
      replace hv := hv.keep hBn
      replace hBB := PM.hid (PM.chain hBB.out hBn)
      clear hBn
      have x0 : wy.cell? ⟨gx, 0, none⟩ = some (.int .i64 kd) := kgx.cell 0
      have x1 : wy.cell? ⟨gx, 1, none⟩ = some (.int .i64 ib) := kgx.cell 1
      have x2 : wy.cell? ⟨gx, 2, none⟩ = some (.int .u64 (il : Int)) := kgx.cell 2
      have x3 : wy.cell? ⟨gx, 3, none⟩ = some (.int .u64 (is : Int)) := kgx.cell 3
      have x4 : wy.cell? ⟨gx, 4, none⟩ = some (.int .i64 cl) := kgx.cell 4
      have x5 : wy.cell? ⟨gx, 5, none⟩ = some (.int .u64 (sub : Int)) := kgx.cell 5
      have x6 : wy.cell? ⟨gx, 6, none⟩ = some (.slice fa fil.length fc) := kgx.cell 6
      have x7 : wy.cell? ⟨gx, 7, none⟩ = some (.slice ea evs.length ec) := kgx.cell 7
      have hck := encheck_any ⟨kd, ⟨ib, il, is⟩, cl, sub, fil, evs⟩ (.slice fa fil.length fc) (.slice ea evs.length ec) wy hxb.out.2.2 hTx hEx
      unfold PM.enC at hck
      simp only at hck
      rw [PM.enE_yes hxb.out.2.1] at hck
      go_wp2_with fail
      refine hck.mono ?_
      clear hck kc1 kc2
      rintro e wx ⟨rfl, hBn⟩
      clear x0 x1 x2 x3 x4 x5 x6 x7
      replace hv := hv.keep hBn
      replace hBB := PM.hid (PM.chain hBB.out hBn)
      clear hBn
      go_wp2_with fail
      go_ret
      exact ⟨rfl, hBB.out⟩
  · subst hd
    rcases hd2 with ⟨rfl, hd2⟩ | hd2
    · have hrb := PM.hid (PM.decRc_back hd2)
      clear hd2
      clear kgx hTx hEx
      have r0 : w5.cell? ⟨gr, 0, none⟩ = some (.int .i64 rk) := kgr.cell 0
      have r1 : w5.cell? ⟨gr, 1, none⟩ = some (.int .u64 (rn : Int)) := kgr.cell 1
      have r2 : w5.cell? ⟨gr, 2, none⟩ = some (.int .i64 kd') := kgr.cell 2
      have r3 : w5.cell? ⟨gr, 3, none⟩ = some (.int .i64 ib') := kgr.cell 3
      have r4 : w5.cell? ⟨gr, 4, none⟩ = some (.int .u64 (il' : Int)) := kgr.cell 4
      have r5 : w5.cell? ⟨gr, 5, none⟩ = some (.int .u64 (is' : Int)) := kgr.cell 5
      have r6 : w5.cell? ⟨gr, 6, none⟩ = some (.int .i64 cl') := kgr.cell 6
      have r7 : w5.cell? ⟨gr, 7, none⟩ = some (.int .u64 (sub' : Int)) := kgr.cell 7
      have r8 : w5.cell? ⟨gr, 8, none⟩ = some (.slice fa' fil'.length fc') := kgr.cell 8
      have r9 : w5.cell? ⟨gr, 9, none⟩ = some (.slice ea' evs'.length ec') := kgr.cell 9
      have r10 : w5.cell? ⟨gr, 10, none⟩ = some (.int .i64 jb) := kgr.cell 10
      have r11 : w5.cell? ⟨gr, 11, none⟩ = some (.int .u64 (jl : Int)) := kgr.cell 11
      have r12 : w5.cell? ⟨gr, 12, none⟩ = some (.int .u64 (js : Int)) := kgr.cell 12
      have hpk := pack_any ⟨rk, rn, ⟨kd', ⟨ib', il', is'⟩, cl', sub', fil', evs'⟩, ⟨jb, jl, js⟩⟩ (.slice fa' fil'.length fc') (.slice ea' evs'.length ec') w5 hrb.out.2.2 hTr hEr
      unfold PM.rcC PM.enC PM.idL at hpk
      simp only [List.cons_append, List.nil_append] at hpk
      go_wp2_with fail
      refine hpk.mono ?_
      clear hpk
      rintro e wz ⟨oz, rfl, hz, -, hBn⟩
      replace hz := hz hrb.out.2.1
      rw [PM.rcE_yes hrb.out.2.1]
      clear r0 r1 r2 r3 r4 r5 r6 r7 r8 r9 r10 r11 r12
      have kc1 := PM.run_str bty Try.underlying9 hz.bs
      have kc2 := PM.run_str bty Try.underlying9 (hv.keep hBn)
      rw [hrb.out.1] at kc1
      replace hBB := PM.hid (PM.chain hBB.out hBn)
      clear hz hBn
      go_wp2_with fail
      go_ret
      exact ⟨rfl, hBB.out⟩
    · subst hd2
      clear kgx hTx hEx
      clear kgr hTr hEr
      go_wp2_with fail
      go_ret
      exact ⟨rfl, hBB.out⟩
end Go.Proofs.Ytklgibkdbdhaiaa
