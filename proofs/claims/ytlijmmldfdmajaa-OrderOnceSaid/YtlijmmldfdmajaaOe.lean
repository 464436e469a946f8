/-
  CONTRACT of order.Decide.
-/
import Derived.Test.YtlijmmldfdmajaaOd
namespace Go.Proofs.Ytlijmmldfdmajaa
open Go.RowKit
set_option linter.unusedVariables false
set_option linter.unusedSimpArgs false
theorem zeroFnE (w : World) : (zeroValue 64).run Try.prog w = .ok .nilFunc w := rfl
namespace PM
def yesL (ks : List Ms) (l : List En) : List En := l.filter fun x => says ks x.id = 1
def noL (ks : List Ms) (l : List En) : List Id := (l.filter fun x => says ks x.id = 2).map (·.id)
def restL (ks : List Ms) (l : List En) : List En := l.filter fun x => says ks x.id = 0
theorem says_cases (ks : List Ms) (i : Id) : says ks i = 0 ∨ says ks i = 1 ∨ says ks i = 2 := by
  unfold says
  split
  · exact .inr (.inr rfl)
  · split
    · exact .inr (.inl rfl)
    · exact .inl rfl
theorem dec_snoc {ks : List Ms} {l : List En} {k : Nat} {x : En} (h : l[k]? = some x) :
    yesL ks (l.take (k + 1)) = yesL ks (l.take k) ++ (if says ks x.id = 1 then [x] else []) ∧ noL ks (l.take (k + 1)) = noL ks (l.take k) ++ (if says ks x.id = 2 then [x.id] else []) ∧ restL ks (l.take (k + 1)) = restL ks (l.take k) ++ (if says ks x.id = 0 then [x] else []) := by
  rw [take_at h]
  unfold yesL noL restL
  refine ⟨?_, ?_, ?_⟩
  · rw [List.filter_append]; by_cases g : says ks x.id = 1 <;> simp [g]
  · rw [List.filter_append]; by_cases g : says ks x.id = 2 <;> simp [g]
  · rw [List.filter_append]; by_cases g : says ks x.id = 0 <;> simp [g]
theorem dec_len (ks : List Ms) (l : List En) : (yesL ks l).length ≤ l.length ∧ (noL ks l).length ≤ l.length ∧ (restL ks l).length ≤ l.length := by
  unfold yesL noL restL
  refine ⟨List.length_filter_le _ _, ?_, List.length_filter_le _ _⟩
  rw [List.length_map]
  exact List.length_filter_le _ _
theorem DI.below {B g7 g8 g9 gm : Nat} {Y O : List En} {R : List Id} {w0 w : World} (h : DI B g7 g8 g9 gm Y O R w0 w) : Below B w0 w := by
  obtain ⟨y, o, r, h1, h2, h3, h4, h5, h6, h7, h8, h9⟩ := h
  exact h9
theorem DI.im {B g7 g8 g9 gm : Nat} {Y O : List En} {R : List Id} {w0 w : World} (h : DI B g7 g8 g9 gm Y O R w0 w) : IM w gm (dkvs g7 g8 g9) := by
  obtain ⟨y, o, r, h1, h2, h3, h4, h5, h6, h7, h8, h9⟩ := h
  exact h8
end PM
set_option maxRecDepth 100000 in
set_option maxHeartbeats 16000000 in
theorem decide_any (v0 v1 : Value) (l : List PM.En) (ks : List PM.Ms) (w : World) (hv0 : PM.EnL w v0 l) (hv1 : PM.MsL w v1 ks) (hls : PM.EnsS l) :
    Calls Try.prog 14 #[v0, v1] w fun e w' => ∃ a r o, e = .returned (.tuple #[a, r, o]) ∧ PM.OR (PM.enO 85 88 73 w.heap.size) 8 38 w.heap.size w' a (PM.yesL ks l) ∧ PM.OM PM.idL 3 33 w.heap.size w' r (PM.noL ks l) ∧ PM.OR (PM.enO 85 88 73 w.heap.size) 8 38 w.heap.size w' o (PM.restL ks l) ∧ Below w.heap.size w w' := by
  have hll := hls.1
  obtain ⟨b0, d0, rfl⟩ := hv0.len
  obtain ⟨b1, d1, rfl⟩ := hv1.len
  obtain ⟨N, hN⟩ : ∃ N, N = l.length := ⟨_, rfl⟩
  obtain ⟨M, hM⟩ : ∃ N, N = ks.length := ⟨_, rfl⟩
  have hNh := PM.hid hN
  rw [← hN] at hv0 hll ⊢
  rw [← hM] at hv1 ⊢
  replace hv0 := PM.hid hv0
  replace hv1 := PM.hid hv1
  replace hls := PM.hid hls
  clear hN hM
  obtain ⟨g7, hg7⟩ : ∃ g, g = w.heap.size := ⟨_, rfl⟩
  obtain ⟨w1, hw1⟩ : ∃ W, W = w.alloc (.cells #[.slice none 0 0] 24) := ⟨_, rfl⟩
  obtain ⟨g8, hg8⟩ : ∃ g, g = w1.heap.size := ⟨_, rfl⟩
  obtain ⟨w2, hw2⟩ : ∃ W, W = w1.alloc (.cells #[.slice none 0 0] 24) := ⟨_, rfl⟩
  obtain ⟨g9, hg9⟩ : ∃ g, g = w2.heap.size := ⟨_, rfl⟩
  obtain ⟨w4, hw4⟩ : ∃ W, W = w2.alloc (.cells #[.slice none 0 0] 25) := ⟨_, rfl⟩
  obtain ⟨gm, hgm⟩ : ∃ g, g = w4.heap.size := ⟨_, rfl⟩
  obtain ⟨m0, hm0⟩ : ∃ W, W = w4.alloc (.map #[] 0) := ⟨_, rfl⟩
  have hs1 : w1.heap.size = w.heap.size + 1 := by rw [hw1]; simp
  have hs2 : w2.heap.size = w1.heap.size + 1 := by rw [hw2]; simp
  have hs2' : w2.heap.size = w.heap.size + 1 + 1 := by rw [hs2, hs1]
  have bb1 : Below w.heap.size w w1 := by rw [hw1]; exact (Below.refl _ _).alloc (Nat.le_refl _) _
  have bb2 : Below w1.heap.size w1 w2 := by rw [hw2]; exact (Below.refl _ _).alloc (Nat.le_refl _) _
  have bb4 : Below w2.heap.size w2 w4 := by rw [hw4]; exact (Below.refl _ _).alloc (Nat.le_refl _) _
  have bm0 : Below w4.heap.size w4 m0 := by rw [hm0]; exact (Below.refl _ _).alloc (Nat.le_refl _) _
  have k7 : PM.BK w1 g7 #[.slice none 0 0] 24 := by rw [hw1, hg7]; exact PM.BK.new _ _ _
  have k8 : PM.BK w2 g8 #[.slice none 0 0] 24 := by rw [hw2, hg8]; exact PM.BK.new _ _ _
  have k9 : PM.BK w4 g9 #[.slice none 0 0] 25 := by rw [hw4, hg9]; exact PM.BK.new _ _ _
  have i0 : PM.IM m0 gm [] := by rw [hm0, hgm]; exact PM.IM.new w4
  obtain ⟨m1, r1, i1, x1⟩ := PM.run_insert_int (P := Try.prog) (T := 65) Try.underlying65 Try.underlying3 i0 0 (.func (.func 24) #[] #[.pointer (some ⟨g8, 0, none⟩)]) (by simp [PM.lookI])
  obtain ⟨m2, r2, i2, x2⟩ := PM.run_insert_int (P := Try.prog) (T := 65) Try.underlying65 Try.underlying3 i1 1 (.func (.func 25) #[] #[.pointer (some ⟨g7, 0, none⟩)]) (by simp [PM.lookI])
  obtain ⟨m3, r3, i3, x3⟩ := PM.run_insert_int (P := Try.prog) (T := 65) Try.underlying65 Try.underlying3 i2 2 (.func (.func 26) #[] #[.pointer (some ⟨g9, 0, none⟩)]) (by simp [PM.lookI])
  have r0 : (Instr.makeMap 65 none).run Try.prog w4 = .ok (.map (some gm)) m0 := by rw [hm0, hgm]; simp [Instr.makeMap, go_sem]
  have b3 : Below w4.heap.size w4 m3 := by
    have hxx : PM.Bx w4.heap.size m0 m3 := by rw [← hgm]; exact (x1.trans x2).trans x3
    exact hxx.below bm0 (Nat.le_refl _) bm0.size
  have n78 : Hid (g7 ≠ g8) := PM.hid (by omega)
  have b7 : Hid (w.heap.size ≤ g7) := PM.hid (by omega)
  have b8 : Hid (w.heap.size ≤ g8) := PM.hid (by omega)
  have b9 : Hid (w.heap.size ≤ g9) := PM.hid (by omega)
  have hD0 : Hid (PM.DI w.heap.size g7 g8 g9 gm [] [] [] w m3) := PM.hid ⟨_, _, _, ((k7.keep bb2).keep bb4).keep b3, (k8.keep bb4).keep b3, k9.keep b3, PM.OR.nilrow _, PM.OR.nilrow _, PM.OM.nilrow _, PM.Apart.nil _ _ _, i3, PM.chain (PM.chain (PM.chain bb1 bb2) bb4) b3⟩
  clear bb1 bb2 bb4 bm0 b3 k7 k8 k9 i0 i1 i2 i3 x1 x2 x3 hm0 hgm
  go_enter Try.func14, Try.ntmps14
  go_upto_region 2 with fail
  rw [← hs1, ← hg7, ← hw1, ← hw2, ← hg8]
  clear hw1 hw2 hg7 hg8
  go_upto_region 3 with fail
  rw [← hs2', ← hg9, ← hw4]
  clear hw4 hg9 hs1 hs2 hs2'
  go_wp2_with fail

  clear r0 r1 r2 r3
  go_loopw [20] (fun i wr => ∃ k : Nat, i = .int .i64 k ∧ k ≤ N ∧ Hid (PM.DI w.heap.size g7 g8 g9 gm (PM.yesL ks (l.take k)) (PM.restL ks (l.take k)) (PM.noL ks (l.take k)) w wr)) (fun i _ => N - (intOf i).toNat)
  case atStart => exact ⟨0, rfl, by omega, PM.hid hD0.out⟩
  case round =>
    obtain ⟨k, rfl, hk, hin⟩ := hrel
    have hB := hin.out.below
    by_cases hlt : k < N
    · obtain ⟨z, hz⟩ : ∃ z, l[k]? = some z := ⟨l[k]'(by rw [← hNh.out]; exact hlt), List.getElem?_eq_getElem _⟩
      obtain ⟨b, off, rfl, hce⟩ := PM.RR.opn hv0.out (by rw [← hNh.out]; omega)
      obtain ⟨cs, hl0, hR⟩ := hce k z hz
      have hzs := PM.hid (hls.out.2 z (List.mem_of_getElem? hz))
      obtain ⟨fa, fc, ea, ec, hcs, hzf, hze⟩ := PM.enR_open hR
      replace hl0 := hl0.keep hB
      rw [hcs] at hl0
      have d0 : wr.cell? ⟨b, off + k * 8, none⟩ = some (.int .i64 z.kind) := hl0 0 _ rfl
      have d1 : wr.cell? ⟨b, off + k * 8 + 1, none⟩ = some (.int .i64 z.id.br) := hl0 1 _ rfl
      have d2 : wr.cell? ⟨b, off + k * 8 + 2, none⟩ = some (.int .u64 (z.id.life : Int)) := hl0 2 _ rfl
      have d3 : wr.cell? ⟨b, off + k * 8 + 3, none⟩ = some (.int .u64 (z.id.ser : Int)) := hl0 3 _ rfl
      have d4 : wr.cell? ⟨b, off + k * 8 + 4, none⟩ = some (.int .i64 z.client) := hl0 4 _ rfl
      have d5 : wr.cell? ⟨b, off + k * 8 + 5, none⟩ = some (.int .u64 (z.sub : Int)) := hl0 5 _ rfl
      have d6 : wr.cell? ⟨b, off + k * 8 + 6, none⟩ = some (.slice fa z.fil.length fc) := hl0 6 _ rfl
      have d7 : wr.cell? ⟨b, off + k * 8 + 7, none⟩ = some (.slice ea z.evs.length ec) := hl0 7 _ rfl
      have hzh := PM.hid hz
      obtain ⟨zF, hzF⟩ : ∃ P, P = z.fil.length := ⟨_, rfl⟩
      obtain ⟨zE, hzE⟩ : ∃ P, P = z.evs.length := ⟨_, rfl⟩
      have hen : Hid (∀ W : World, Below w.heap.size w W → Calls Try.prog 20 #[.agg #[.int .i64 z.kind, .int .i64 z.id.br, .int .u64 (z.id.life : Int), .int .u64 (z.id.ser : Int), .int .i64 z.client, .int .u64 (z.sub : Int), .slice fa zF fc, .slice ea zE ec]] W fun e w' => ∃ ua uc ta tc, e = .returned (.agg #[.int .i64 z.kind, .int .i64 z.id.br, .int .u64 (z.id.life : Int), .int .u64 (z.id.ser : Int), .int .i64 z.client, .int .u64 (z.sub : Int), .slice ua zF uc, .slice ta zE tc]) ∧ PM.enO 85 88 73 W.heap.size w' [.int .i64 z.kind, .int .i64 z.id.br, .int .u64 (z.id.life : Int), .int .u64 (z.id.ser : Int), .int .i64 z.client, .int .u64 (z.sub : Int), .slice ua zF uc, .slice ta zE tc] z ∧ Below W.heap.size W w') := PM.hid fun W hb => by
        rw [hzF, hzE]
        exact ownEn_any z _ _ W (hzf.keep hb) (PM.EVL.keepO hb hze) hzs.out
      rw [← hzF] at d6
      rw [← hzE] at d7
      clear hz hce hl0 hR hcs cs hzf hze hzF hzE
      go_upto_region 7 with fail
      obtain ⟨gx, hgx⟩ : ∃ g, g = wr.heap.size := ⟨_, rfl⟩
      obtain ⟨w3, hw3⟩ : ∃ W, W = wr.alloc (.cells #[.int .i64 z.kind, .int .i64 z.id.br, .int .u64 (z.id.life : Int), .int .u64 (z.id.ser : Int), .int .i64 z.client, .int .u64 (z.sub : Int), .slice fa zF fc, .slice ea zE ec] 38) := ⟨_, rfl⟩
      have hBn : Below wr.heap.size wr w3 := by rw [hw3]; exact (Below.refl _ _).alloc (Nat.le_refl _) _
      have kx : PM.BK w3 gx #[.int .i64 z.kind, .int .i64 z.id.br, .int .u64 (z.id.life : Int), .int .u64 (z.id.ser : Int), .int .i64 z.client, .int .u64 (z.sub : Int), .slice fa zF fc, .slice ea zE ec] 38 := by rw [hw3, hgx]; exact PM.BK.new _ _ _
      rw [← hw3, ← hgx]
      clear hw3 hgx
      clear d0 d1 d2 d3 d4 d5 d6 d7
      have hd3 := PM.hid (hin.out.keep hBn hB.size)
      replace kx := PM.hid kx
      clear hBn hB hin
      rcases PM.says_cases ks z.id with hq | hq | hq
      · have hlk : Hid (∀ W : World, Below w3.heap.size w3 W → (Instr.lookup 65 (.map (some gm)) (.int .i64 0) false).run Try.prog W = .ok (.func (.func 24) #[] #[.pointer (some ⟨g8, 0, none⟩)]) W) := PM.hid fun W hb => by
          have := PM.run_lookup_int (P := Try.prog) (T := 65) Try.underlying65 Try.underlying3 (hd3.out.im.keep hb) 0 (zeroFnE W)
          simpa [PM.lookI, PM.dkvs] using this
        have hqh := PM.hid hq
        clear hq
        refine PM.wp_region_st2 7 [some 24, some 25, some 26, some 27, some 28, some 29, some 30, some 31] [fun x _ => x = .map (some gm), fun x _ => x = .slice b1 M d1, fun x _ => x = .pointer (some ⟨gx, 1, none⟩), fun x _ => x = .agg #[.int .i64 z.id.br, .int .u64 (z.id.life : Int), .int .u64 (z.id.ser : Int)], fun x _ => x = .int .i64 0, fun x _ => x = .func (.func 24) #[] #[.pointer (some ⟨g8, 0, none⟩)], fun x _ => x = .agg #[.int .i64 z.kind, .int .i64 z.id.br, .int .u64 (z.id.life : Int), .int .u64 (z.id.ser : Int), .int .i64 z.client, .int .u64 (z.sub : Int), .slice fa zF fc, .slice ea zE ec]] (by kernel_rfl) (by kernel_rfl) (by kernel_rfl) (by kernel_rfl) (by kernel_rfl) (of_decide_eq_true (by kernel_rfl)) (by kernel_rfl) ?_ ?_ ?_
        · simp only [List.forall_mem_cons]
          refine ⟨?_, ?_, ?_, ?_, ?_, ?_, ?_, by simp⟩
          all_goals (intro x W W' h hb; first | exact h | exact PM.BS.keep hb h | exact PM.OW.keep hb h)
        · refine ⟨?_, ?_, ?_, ?_, ?_, ?_, ?_, trivial⟩
          all_goals
            intro a W hB hF hd
            have k1 := hF 1 rfl
            have k10 := hF 10 rfl
            have k12 := hF 12 rfl
            have x0 : W.cell? ⟨gx, 0, none⟩ = some (.int .i64 z.kind) := (kx.out.keep hB).cell 0
            have x1 : W.cell? ⟨gx, 1, none⟩ = some (.int .i64 z.id.br) := (kx.out.keep hB).cell 1
            have x2 : W.cell? ⟨gx, 2, none⟩ = some (.int .u64 (z.id.life : Int)) := (kx.out.keep hB).cell 2
            have x3 : W.cell? ⟨gx, 3, none⟩ = some (.int .u64 (z.id.ser : Int)) := (kx.out.keep hB).cell 3
            have x4 : W.cell? ⟨gx, 4, none⟩ = some (.int .i64 z.client) := (kx.out.keep hB).cell 4
            have x5 : W.cell? ⟨gx, 5, none⟩ = some (.int .u64 (z.sub : Int)) := (kx.out.keep hB).cell 5
            have x6 : W.cell? ⟨gx, 6, none⟩ = some (.slice fa zF fc) := (kx.out.keep hB).cell 6
            have x7 : W.cell? ⟨gx, 7, none⟩ = some (.slice ea zE ec) := (kx.out.keep hB).cell 7
            have kl := hlk.out W hB
            clear hF
            simp [PM.depsL, PM.spec, PM.sl, Region.binds] at hd k1 k10 k12
            simp only [PM.wantL, PM.spec]
            try simp only [PM.sl]
            go_simp
          all_goals try exact Below.refl _ _
          · have hc := says_any (.slice b1 M d1) z.id ks W (PM.MsL.keep hv1.out (hd3.out.below.trans (hB.mono hd3.out.below.size)))
            rw [hqh.out] at hc
            refine hc.mono ?_
            rintro e w' ⟨rfl, hb⟩
            first | exact ⟨hb, rfl⟩ | exact ⟨hb, _, rfl, rfl⟩
        · intro G W hB hF hS
          simp [PM.allSp, PM.spec] at hS
          obtain ⟨h24, h25, h26, h27, h28, h29, h30⟩ := hS
          have k0 := hF 0 rfl
          have k1 := hF 1 rfl
          have k2 := hF 2 rfl
          have k3 := hF 3 rfl
          have k4 := hF 4 rfl
          have k5 := hF 5 rfl
          have k6 := hF 6 rfl
          have k7 := hF 7 rfl
          have k8 := hF 8 rfl
          have k9 := hF 9 rfl
          have k10 := hF 10 rfl
          have k11 := hF 11 rfl
          have k12 := hF 12 rfl
          have k13 := hF 13 rfl
          have k14 := hF 14 rfl
          have k15 := hF 15 rfl
          have k16 := hF 16 rfl
          have k17 := hF 17 rfl
          have k18 := hF 18 rfl
          have k19 := hF 19 rfl
          have k20 := hF 20 rfl
          have k21 := hF 21 rfl
          have k22 := hF 22 rfl
          have k23 := hF 23 rfl
          have k32 := hF 32 rfl
          have k33 := hF 33 rfl
          have k34 := hF 34 rfl
          have k35 := hF 35 rfl
          simp [PM.sl] at k0 k1 k2 k3 k4 k5 k6 k7 k8 k9 k10 k11 k12 k13 k14 k15 k16 k17 k18 k19 k20 k21 k22 k23 k32 k33 k34 k35
          rw [show ((List.range (Array.size _)).map G).toArray = #[G 0, G 1, G 2, G 3, G 4, G 5, G 6, G 7, G 8, G 9, G 10, G 11, G 12, G 13, G 14, G 15, G 16, G 17, G 18, G 19, G 20, G 21, G 22, G 23, G 24, G 25, G 26, G 27, G 28, G 29, G 30, G 31, G 32, G 33, G 34, G 35] from rfl]
          clear hF
          rw [h24, h25, h26, h27, h28, h29, h30, k0, k1, k2, k3, k4, k5, k6, k7, k8, k9, k10, k11, k12, k13, k14, k15, k16, k17, k18, k19, k20, k21, k22, k23, k32, k33, k34, k35]
          clear h24 h25 h26 h27 h28 h29 h30 k0 k1 k2 k3 k4 k5 k6 k7 k8 k9 k10 k11 k12 k13 k14 k15 k16 k17 k18 k19 k20 k21 k22 k23 k32 k33 k34 k35
          have hlen : Hid ((PM.restL ks (l.take k)).length ≤ 1001) := PM.hid (by have h9 := (PM.dec_len ks (l.take k)).2.2; rw [List.length_take] at h9; have h8 := hls.out.1; omega)
          have hcl := dec0_any z fa zF fc ea zE ec w.heap.size g7 g8 g9 gm _ _ _ w W hen (hd3.out.keep hB hd3.out.below.size) n78 b7 b8 b9 hlen
          have hdn := PM.hid (PM.dec_snoc (ks := ks) hzh.out)
          clear hB
          go_wp2_with fail
          refine hcl.mono ?_
          clear hcl
          rintro e w5 ⟨rfl, hdi⟩
          replace hdi := PM.hid hdi
          go_wp2_with fail
          refine ⟨⟨k + 1, by go_num, by omega, PM.hid ?_⟩, by simp only [intOf]; omega⟩
          rw [hdn.out.1, hdn.out.2.1, hdn.out.2.2, hqh.out]
          simpa using hdi.out
      · have hlk : Hid (∀ W : World, Below w3.heap.size w3 W → (Instr.lookup 65 (.map (some gm)) (.int .i64 1) false).run Try.prog W = .ok (.func (.func 25) #[] #[.pointer (some ⟨g7, 0, none⟩)]) W) := PM.hid fun W hb => by
          have := PM.run_lookup_int (P := Try.prog) (T := 65) Try.underlying65 Try.underlying3 (hd3.out.im.keep hb) 1 (zeroFnE W)
          simpa [PM.lookI, PM.dkvs] using this
        have hqh := PM.hid hq
        clear hq
        refine PM.wp_region_st2 7 [some 24, some 25, some 26, some 27, some 28, some 29, some 30, some 31] [fun x _ => x = .map (some gm), fun x _ => x = .slice b1 M d1, fun x _ => x = .pointer (some ⟨gx, 1, none⟩), fun x _ => x = .agg #[.int .i64 z.id.br, .int .u64 (z.id.life : Int), .int .u64 (z.id.ser : Int)], fun x _ => x = .int .i64 1, fun x _ => x = .func (.func 25) #[] #[.pointer (some ⟨g7, 0, none⟩)], fun x _ => x = .agg #[.int .i64 z.kind, .int .i64 z.id.br, .int .u64 (z.id.life : Int), .int .u64 (z.id.ser : Int), .int .i64 z.client, .int .u64 (z.sub : Int), .slice fa zF fc, .slice ea zE ec]] (by kernel_rfl) (by kernel_rfl) (by kernel_rfl) (by kernel_rfl) (by kernel_rfl) (of_decide_eq_true (by kernel_rfl)) (by kernel_rfl) ?_ ?_ ?_
        · simp only [List.forall_mem_cons]
          refine ⟨?_, ?_, ?_, ?_, ?_, ?_, ?_, by simp⟩
          all_goals (intro x W W' h hb; first | exact h | exact PM.BS.keep hb h | exact PM.OW.keep hb h)
        · refine ⟨?_, ?_, ?_, ?_, ?_, ?_, ?_, trivial⟩
          all_goals
            intro a W hB hF hd
            have k1 := hF 1 rfl
            have k10 := hF 10 rfl
            have k12 := hF 12 rfl
            have x0 : W.cell? ⟨gx, 0, none⟩ = some (.int .i64 z.kind) := (kx.out.keep hB).cell 0
            have x1 : W.cell? ⟨gx, 1, none⟩ = some (.int .i64 z.id.br) := (kx.out.keep hB).cell 1
            have x2 : W.cell? ⟨gx, 2, none⟩ = some (.int .u64 (z.id.life : Int)) := (kx.out.keep hB).cell 2
            have x3 : W.cell? ⟨gx, 3, none⟩ = some (.int .u64 (z.id.ser : Int)) := (kx.out.keep hB).cell 3
            have x4 : W.cell? ⟨gx, 4, none⟩ = some (.int .i64 z.client) := (kx.out.keep hB).cell 4
            have x5 : W.cell? ⟨gx, 5, none⟩ = some (.int .u64 (z.sub : Int)) := (kx.out.keep hB).cell 5
            have x6 : W.cell? ⟨gx, 6, none⟩ = some (.slice fa zF fc) := (kx.out.keep hB).cell 6
            have x7 : W.cell? ⟨gx, 7, none⟩ = some (.slice ea zE ec) := (kx.out.keep hB).cell 7
            have kl := hlk.out W hB
            clear hF
            simp [PM.depsL, PM.spec, PM.sl, Region.binds] at hd k1 k10 k12
            simp only [PM.wantL, PM.spec]
            try simp only [PM.sl]
            go_simp
          all_goals try exact Below.refl _ _
          · have hc := says_any (.slice b1 M d1) z.id ks W (PM.MsL.keep hv1.out (hd3.out.below.trans (hB.mono hd3.out.below.size)))
            rw [hqh.out] at hc
            refine hc.mono ?_
            rintro e w' ⟨rfl, hb⟩
            first | exact ⟨hb, rfl⟩ | exact ⟨hb, _, rfl, rfl⟩
        · intro G W hB hF hS
          simp [PM.allSp, PM.spec] at hS
          obtain ⟨h24, h25, h26, h27, h28, h29, h30⟩ := hS
          have k0 := hF 0 rfl
          have k1 := hF 1 rfl
          have k2 := hF 2 rfl
          have k3 := hF 3 rfl
          have k4 := hF 4 rfl
          have k5 := hF 5 rfl
          have k6 := hF 6 rfl
          have k7 := hF 7 rfl
          have k8 := hF 8 rfl
          have k9 := hF 9 rfl
          have k10 := hF 10 rfl
          have k11 := hF 11 rfl
          have k12 := hF 12 rfl
          have k13 := hF 13 rfl
          have k14 := hF 14 rfl
          have k15 := hF 15 rfl
          have k16 := hF 16 rfl
          have k17 := hF 17 rfl
          have k18 := hF 18 rfl
          have k19 := hF 19 rfl
          have k20 := hF 20 rfl
          have k21 := hF 21 rfl
          have k22 := hF 22 rfl
          have k23 := hF 23 rfl
          have k32 := hF 32 rfl
          have k33 := hF 33 rfl
          have k34 := hF 34 rfl
          have k35 := hF 35 rfl
          simp [PM.sl] at k0 k1 k2 k3 k4 k5 k6 k7 k8 k9 k10 k11 k12 k13 k14 k15 k16 k17 k18 k19 k20 k21 k22 k23 k32 k33 k34 k35
          rw [show ((List.range (Array.size _)).map G).toArray = #[G 0, G 1, G 2, G 3, G 4, G 5, G 6, G 7, G 8, G 9, G 10, G 11, G 12, G 13, G 14, G 15, G 16, G 17, G 18, G 19, G 20, G 21, G 22, G 23, G 24, G 25, G 26, G 27, G 28, G 29, G 30, G 31, G 32, G 33, G 34, G 35] from rfl]
          clear hF
          rw [h24, h25, h26, h27, h28, h29, h30, k0, k1, k2, k3, k4, k5, k6, k7, k8, k9, k10, k11, k12, k13, k14, k15, k16, k17, k18, k19, k20, k21, k22, k23, k32, k33, k34, k35]
          clear h24 h25 h26 h27 h28 h29 h30 k0 k1 k2 k3 k4 k5 k6 k7 k8 k9 k10 k11 k12 k13 k14 k15 k16 k17 k18 k19 k20 k21 k22 k23 k32 k33 k34 k35
          have hlen : Hid ((PM.yesL ks (l.take k)).length ≤ 1001) := PM.hid (by have h9 := (PM.dec_len ks (l.take k)).1; rw [List.length_take] at h9; have h8 := hls.out.1; omega)
          have hcl := dec1_any z fa zF fc ea zE ec w.heap.size g7 g8 g9 gm _ _ _ w W hen (hd3.out.keep hB hd3.out.below.size) n78 b7 b8 b9 hlen
          have hdn := PM.hid (PM.dec_snoc (ks := ks) hzh.out)
          clear hB
          go_wp2_with fail
          refine hcl.mono ?_
          clear hcl
          rintro e w5 ⟨rfl, hdi⟩
          replace hdi := PM.hid hdi
          go_wp2_with fail
          refine ⟨⟨k + 1, by go_num, by omega, PM.hid ?_⟩, by simp only [intOf]; omega⟩
          rw [hdn.out.1, hdn.out.2.1, hdn.out.2.2, hqh.out]
          simpa using hdi.out
      · have hlk : Hid (∀ W : World, Below w3.heap.size w3 W → (Instr.lookup 65 (.map (some gm)) (.int .i64 2) false).run Try.prog W = .ok (.func (.func 26) #[] #[.pointer (some ⟨g9, 0, none⟩)]) W) := PM.hid fun W hb => by
          have := PM.run_lookup_int (P := Try.prog) (T := 65) Try.underlying65 Try.underlying3 (hd3.out.im.keep hb) 2 (zeroFnE W)
          simpa [PM.lookI, PM.dkvs] using this
        have hqh := PM.hid hq
        clear hq
        refine PM.wp_region_st2 7 [some 24, some 25, some 26, some 27, some 28, some 29, some 30, some 31] [fun x _ => x = .map (some gm), fun x _ => x = .slice b1 M d1, fun x _ => x = .pointer (some ⟨gx, 1, none⟩), fun x _ => x = .agg #[.int .i64 z.id.br, .int .u64 (z.id.life : Int), .int .u64 (z.id.ser : Int)], fun x _ => x = .int .i64 2, fun x _ => x = .func (.func 26) #[] #[.pointer (some ⟨g9, 0, none⟩)], fun x _ => x = .agg #[.int .i64 z.kind, .int .i64 z.id.br, .int .u64 (z.id.life : Int), .int .u64 (z.id.ser : Int), .int .i64 z.client, .int .u64 (z.sub : Int), .slice fa zF fc, .slice ea zE ec]] (by kernel_rfl) (by kernel_rfl) (by kernel_rfl) (by kernel_rfl) (by kernel_rfl) (of_decide_eq_true (by kernel_rfl)) (by kernel_rfl) ?_ ?_ ?_
        · simp only [List.forall_mem_cons]
          refine ⟨?_, ?_, ?_, ?_, ?_, ?_, ?_, by simp⟩
          all_goals (intro x W W' h hb; first | exact h | exact PM.BS.keep hb h | exact PM.OW.keep hb h)
        · refine ⟨?_, ?_, ?_, ?_, ?_, ?_, ?_, trivial⟩
          all_goals
            intro a W hB hF hd
            have k1 := hF 1 rfl
            have k10 := hF 10 rfl
            have k12 := hF 12 rfl
            have x0 : W.cell? ⟨gx, 0, none⟩ = some (.int .i64 z.kind) := (kx.out.keep hB).cell 0
            have x1 : W.cell? ⟨gx, 1, none⟩ = some (.int .i64 z.id.br) := (kx.out.keep hB).cell 1
            have x2 : W.cell? ⟨gx, 2, none⟩ = some (.int .u64 (z.id.life : Int)) := (kx.out.keep hB).cell 2
            have x3 : W.cell? ⟨gx, 3, none⟩ = some (.int .u64 (z.id.ser : Int)) := (kx.out.keep hB).cell 3
            have x4 : W.cell? ⟨gx, 4, none⟩ = some (.int .i64 z.client) := (kx.out.keep hB).cell 4
            have x5 : W.cell? ⟨gx, 5, none⟩ = some (.int .u64 (z.sub : Int)) := (kx.out.keep hB).cell 5
            have x6 : W.cell? ⟨gx, 6, none⟩ = some (.slice fa zF fc) := (kx.out.keep hB).cell 6
            have x7 : W.cell? ⟨gx, 7, none⟩ = some (.slice ea zE ec) := (kx.out.keep hB).cell 7
            have kl := hlk.out W hB
            clear hF
            simp [PM.depsL, PM.spec, PM.sl, Region.binds] at hd k1 k10 k12
            simp only [PM.wantL, PM.spec]
            try simp only [PM.sl]
            go_simp
          all_goals try exact Below.refl _ _
          · have hc := says_any (.slice b1 M d1) z.id ks W (PM.MsL.keep hv1.out (hd3.out.below.trans (hB.mono hd3.out.below.size)))
            rw [hqh.out] at hc
            refine hc.mono ?_
            rintro e w' ⟨rfl, hb⟩
            first | exact ⟨hb, rfl⟩ | exact ⟨hb, _, rfl, rfl⟩
        · intro G W hB hF hS
          simp [PM.allSp, PM.spec] at hS
          obtain ⟨h24, h25, h26, h27, h28, h29, h30⟩ := hS
          have k0 := hF 0 rfl
          have k1 := hF 1 rfl
          have k2 := hF 2 rfl
          have k3 := hF 3 rfl
          have k4 := hF 4 rfl
          have k5 := hF 5 rfl
          have k6 := hF 6 rfl
          have k7 := hF 7 rfl
          have k8 := hF 8 rfl
          have k9 := hF 9 rfl
          have k10 := hF 10 rfl
          have k11 := hF 11 rfl
          have k12 := hF 12 rfl
          have k13 := hF 13 rfl
          have k14 := hF 14 rfl
          have k15 := hF 15 rfl
          have k16 := hF 16 rfl
          have k17 := hF 17 rfl
          have k18 := hF 18 rfl
          have k19 := hF 19 rfl
          have k20 := hF 20 rfl
          have k21 := hF 21 rfl
          have k22 := hF 22 rfl
          have k23 := hF 23 rfl
          have k32 := hF 32 rfl
          have k33 := hF 33 rfl
          have k34 := hF 34 rfl
          have k35 := hF 35 rfl
          simp [PM.sl] at k0 k1 k2 k3 k4 k5 k6 k7 k8 k9 k10 k11 k12 k13 k14 k15 k16 k17 k18 k19 k20 k21 k22 k23 k32 k33 k34 k35
          rw [show ((List.range (Array.size _)).map G).toArray = #[G 0, G 1, G 2, G 3, G 4, G 5, G 6, G 7, G 8, G 9, G 10, G 11, G 12, G 13, G 14, G 15, G 16, G 17, G 18, G 19, G 20, G 21, G 22, G 23, G 24, G 25, G 26, G 27, G 28, G 29, G 30, G 31, G 32, G 33, G 34, G 35] from rfl]
          clear hF
          rw [h24, h25, h26, h27, h28, h29, h30, k0, k1, k2, k3, k4, k5, k6, k7, k8, k9, k10, k11, k12, k13, k14, k15, k16, k17, k18, k19, k20, k21, k22, k23, k32, k33, k34, k35]
          clear h24 h25 h26 h27 h28 h29 h30 k0 k1 k2 k3 k4 k5 k6 k7 k8 k9 k10 k11 k12 k13 k14 k15 k16 k17 k18 k19 k20 k21 k22 k23 k32 k33 k34 k35
          have hlen : Hid ((PM.noL ks (l.take k)).length ≤ 1001) := PM.hid (by have h9 := (PM.dec_len ks (l.take k)).2.1; rw [List.length_take] at h9; have h8 := hls.out.1; omega)
          have hcl := dec2_any z fa zF fc ea zE ec w.heap.size g7 g8 g9 gm _ _ _ w W (hd3.out.keep hB hd3.out.below.size) n78 b7 b8 b9 hlen
          have hdn := PM.hid (PM.dec_snoc (ks := ks) hzh.out)
          clear hB
          go_wp2_with fail
          refine hcl.mono ?_
          clear hcl
          rintro e w5 ⟨rfl, hdi⟩
          replace hdi := PM.hid hdi
          go_wp2_with fail
          refine ⟨⟨k + 1, by go_num, by omega, PM.hid ?_⟩, by simp only [intOf]; omega⟩
          rw [hdn.out.1, hdn.out.2.1, hdn.out.2.2, hqh.out]
          simpa using hdi.out
    · obtain rfl : k = N := by omega
      have hfin : Hid (PM.DI w.heap.size g7 g8 g9 gm (PM.yesL ks l) (PM.restL ks l) (PM.noL ks l) w wr) := PM.hid (by
        have h9 : l.take k = l := (by rw [hNh.out]; exact List.take_length)
        have := hin.out
        rwa [h9] at this)
      clear hin hB
      obtain ⟨y, o, r, h1, h2, h3, h4, h5, h6, h7, h8, h9⟩ := hfin.out
      have c1 : wr.cell? ⟨g7, 0, none⟩ = some y := h1.cell 0
      have c2 : wr.cell? ⟨g8, 0, none⟩ = some o := h2.cell 0
      have c3 : wr.cell? ⟨g9, 0, none⟩ = some r := h3.cell 0
      have hdr : Below wr.heap.size wr wr.drew := (Below.refl _ _).drew
      have hres := PM.hid (And.intro (PM.OR.keep PM.enO_lasts hdr h4) (And.intro (h6.keep hdr) (And.intro (PM.OR.keep PM.enO_lasts hdr h5) h9.drew)))
      clear hdr
      clear h1 h2 h3 h4 h5 h6 h7 h8 h9
      go_wp2_with fail
      go_region
      all_goals (try go_wp2_with fail)
      all_goals go_ret3
      all_goals exact ⟨_, _, _, rfl, hres.out⟩
end Go.Proofs.Ytlijmmldfdmajaa
