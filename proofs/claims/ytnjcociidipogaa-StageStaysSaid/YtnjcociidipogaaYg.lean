/-
  CONTRACT of stage.Publish. (Written by tools/mk_xg.py.)
-/
import Derived.Test.YtnjcociidipogaaYf
namespace Go.Proofs.Ytnjcociidipogaa
open Go.RowKit
set_option linter.unusedVariables false
set_option linter.unusedSimpArgs false
namespace PM
theorem PI.mono {B B' g : Nat} {z : En} {e : List At} {zF : Nat} {W : World} (hb : B' ≤ B) (h : PI B g z e zF W) : PI B' g z e zF W := by
  obtain ⟨ua, uc, ta, zN, tc, h1, h2⟩ := h
  exact ⟨ua, uc, ta, zN, tc, h1, enO_mono hb h2⟩
theorem TxW.kt {B : Nat} {w w' : World} {v : Value} {l : List Tx} (h : TxW B w v l) (k1 : KT w w' 93) (k2 : KT w w' 64) (k3 : KT w w' 29) (k4 : KT w w' 39) : TxW B w' v l := OR.kt (txO_ktE k1 k2 k3) h k4
end PM
set_option maxRecDepth 100000 in
set_option maxHeartbeats 16000000 in
theorem publish_any (la : Option Addr) (ln lc : Nat) (i : PM.Id) (xa : Option Addr) (xn xc : Nat) (ev : List PM.At) (l : List PM.Tx) (w : World) (hv : PM.TxL w (.slice la ln lc) l) (hl : PM.TxsS l) (hev : PM.EM PM.attL 4 w (.slice xa xn xc) ev) (hel : ev.length ≤ 1000) (hew : ∀ y ∈ ev, y.wf) :
    Calls Try.prog 16 #[.slice la ln lc, .agg #[.int .i64 i.br, .int .u64 (i.life : Int), .int .u64 (i.ser : Int)], .slice xa xn xc] w fun e w' => ∃ u, e = .returned (.tuple #[u, .int .i64 (PM.pubT i l ev).2]) ∧ PM.TxW w.heap.size w' u (PM.pubT i l ev).1 ∧ Below w.heap.size w w' := by
  obtain ⟨g3, hg3⟩ : ∃ g, g = w.heap.size := ⟨_, rfl⟩
  obtain ⟨g4, hg4⟩ : ∃ g, g = w.heap.size + 1 := ⟨_, rfl⟩
  obtain ⟨g5, hg5⟩ : ∃ g, g = w.heap.size + 1 + 1 := ⟨_, rfl⟩
  obtain ⟨w1, hw1⟩ : ∃ W, W = w.alloc (.cells #[.slice la ln lc] 27) := ⟨_, rfl⟩
  obtain ⟨w2, hw2⟩ : ∃ W, W = w1.alloc (.cells #[.int .i64 i.br, .int .u64 (i.life : Int), .int .u64 (i.ser : Int)] 26) := ⟨_, rfl⟩
  obtain ⟨w3, hw3⟩ : ∃ W, W = w2.alloc (.cells #[.slice xa xn xc] 29) := ⟨_, rfl⟩
  have hs1 : w1.heap.size = w.heap.size + 1 := by rw [hw1]; simp
  have hs2 : w2.heap.size = w.heap.size + 1 + 1 := by rw [hw2]; simp [hs1]
  have hs3 : w3.heap.size = w.heap.size + 1 + 1 + 1 := by rw [hw3]; simp [hs2]
  have bb1 : Below w.heap.size w w1 := by rw [hw1]; exact (Below.refl _ _).alloc (Nat.le_refl _) _
  have bb2 : Below w1.heap.size w1 w2 := by rw [hw2]; exact (Below.refl _ _).alloc (Nat.le_refl _) _
  have bb3 : Below w2.heap.size w2 w3 := by rw [hw3]; exact (Below.refl _ _).alloc (Nat.le_refl _) _
  have k3 : PM.BK w1 g3 #[.slice la ln lc] 27 := by rw [hw1, hg3]; exact PM.BK.new _ _ _
  replace k3 := (k3.keep bb2).keep bb3
  have k4 : PM.BK w2 g4 #[.int .i64 i.br, .int .u64 (i.life : Int), .int .u64 (i.ser : Int)] 26 := by rw [hw2, hg4, ← hs1]; exact PM.BK.new _ _ _
  replace k4 := k4.keep bb3
  have k5 : PM.BK w3 g5 #[.slice xa xn xc] 29 := by rw [hw3, hg5, ← hs2]; exact PM.BK.new _ _ _
  have hBB := PM.hid (PM.chain (PM.chain bb1 bb2) bb3)
  have hg5w : Hid (g5 < w3.heap.size) := PM.hid (by omega)
  have ht := eachTx_any (.slice la ln lc) l w3 (PM.TxL.keep hBB.out hv) hl
  have hop := fun (W : World) (hb : Below w.heap.size w W) => open_any (.slice la ln lc) i l W (PM.TxL.keep hb hv)
  have hcs := PM.openT_cases i l
  obtain ⟨R, hR⟩ : ∃ R, R = PM.pubT i l ev := ⟨_, rfl⟩
  have hRR := PM.hid hR
  rw [← hR]
  obtain ⟨O, hO⟩ : ∃ O, O = PM.openT i l := ⟨_, rfl⟩
  rw [← hO] at hop hcs
  have hOh := PM.hid hO
  replace hop := PM.hid hop
  have hsz3 := hBB.out.size
  have hl1 := hl.1
  have hall := PM.hid (And.intro hv (And.intro hl (And.intro hev (And.intro hel hew))))
  clear hs1 hs2 hs3 bb1 bb2 bb3 hv hl hev hel hew hR hO
  obtain ⟨ib, il, ir⟩ := i
  simp only at k4 hw2 hop
  have x0 : w3.cell? ⟨g3, 0, none⟩ = some (.slice la ln lc) := k3.cell 0
  go_enter Try.func16, Try.ntmps16
  go_upto_region 1 with fail
  rw [← hw1, ← hw2, ← hw3, ← hg5, ← hg4, ← hg3]
  clear hw1 hw2 hw3 hg3 hg4 hg5
  go_wp2_with fail
  refine ht.mono ?_
  clear ht x0
  rintro e wa ⟨u, rfl, hu, hba⟩
  replace hu := PM.TxW.mono hsz3 hu
  obtain ⟨ua, uc, hue⟩ := hu.rr.len
  obtain ⟨un, hun⟩ : ∃ n, n = l.length := ⟨_, rfl⟩
  rw [← hun] at hue
  have hunh := PM.hid hun
  clear hun
  subst hue
  replace k3 := k3.keep hba
  replace k4 := k4.keep hba
  replace k5 := k5.keep hba
  replace hBB := PM.hid (PM.chain hBB.out hba)
  replace hg5w := PM.hid (Nat.lt_of_lt_of_le hg5w.out hba.size)
  have ho := hop.out wa hBB.out
  clear hba hop
  have x0 : wa.cell? ⟨g3, 0, none⟩ = some (.slice la ln lc) := k3.cell 0
  have y0 : wa.cell? ⟨g4, 0, none⟩ = some (.int .i64 ib) := k4.cell 0
  have y1 : wa.cell? ⟨g4, 1, none⟩ = some (.int .u64 (il : Int)) := k4.cell 1
  have y2 : wa.cell? ⟨g4, 2, none⟩ = some (.int .u64 (ir : Int)) := k4.cell 2
  go_wp2_with fail
  refine ho.mono ?_
  clear ho x0 y0 y1 y2
  rintro e wb ⟨rfl, hbb⟩
  replace hu := PM.TxW.keep hbb hu
  replace k3 := k3.keep hbb
  replace k5 := k5.keep hbb
  replace hBB := PM.hid (PM.chain hBB.out hbb)
  replace hg5w := PM.hid (Nat.lt_of_lt_of_le hg5w.out hbb.size)
  clear hbb k4
  go_upto_region 3 with fail
  obtain ⟨g9, hg9⟩ : ∃ g, g = wb.heap.size := ⟨_, rfl⟩
  obtain ⟨w4, hw4⟩ : ∃ W, W = wb.alloc (.cells #[.int .i64 O] 3) := ⟨_, rfl⟩
  have hbw4 : Below wb.heap.size wb w4 := by rw [hw4]; exact (Below.refl _ _).alloc (Nat.le_refl _) _
  have k9 : PM.BK w4 g9 #[.int .i64 O] 3 := by rw [hw4, hg9]; exact PM.BK.new _ _ _
  rw [← hw4, ← hg9]
  clear hw4 hg9
  go_upto_region 4 with fail
  obtain ⟨g10, hg10⟩ : ∃ g, g = w4.heap.size := ⟨_, rfl⟩
  obtain ⟨w5, hw5⟩ : ∃ W, W = w4.alloc (.cells #[.int .i64 0, .int .i64 0, .int .u64 0, .int .u64 0, .int .i64 0, .int .u64 0, .slice none 0 0, .slice none 0 0] 34) := ⟨_, rfl⟩
  have hbw5 : Below w4.heap.size w4 w5 := by rw [hw5]; exact (Below.refl _ _).alloc (Nat.le_refl _) _
  have k10 : PM.BK w5 g10 #[.int .i64 0, .int .i64 0, .int .u64 0, .int .u64 0, .int .i64 0, .int .u64 0, .slice none 0 0, .slice none 0 0] 34 := by rw [hw5, hg10]; exact PM.BK.new _ _ _
  have hg10s : Hid (w.heap.size ≤ g10 ∧ g5 ≠ g10) := PM.hid ⟨by rw [hg10]; exact Nat.le_trans hBB.out.size hbw4.size, by have := hg5w.out; have := hbw4.size; omega⟩
  rw [← hw5, ← hg10]
  clear hw5 hg10
  replace hu := PM.TxW.keep hbw5 (PM.TxW.keep hbw4 hu)
  replace k3 := (k3.keep hbw4).keep hbw5
  replace k5 := (k5.keep hbw4).keep hbw5
  replace k9 := k9.keep hbw5
  replace hBB := PM.hid (PM.chain (PM.chain hBB.out hbw4) hbw5)
  clear hbw4 hbw5
  obtain ⟨g8, hg8⟩ : ∃ g, g = w5.heap.size := ⟨_, rfl⟩
  obtain ⟨w6, hw6⟩ : ∃ W, W = w5.alloc (.cells #[.func (.func 40) #[] #[.pointer (some ⟨g9, 0, none⟩)], .func (.func 42) #[] #[.pointer (some ⟨g5, 0, none⟩)], .func (.func 43) #[] #[.pointer (some ⟨g3, 0, none⟩), .pointer (some ⟨g9, 0, none⟩)], .func (.func 44) #[] #[.pointer (some ⟨g3, 0, none⟩), .pointer (some ⟨g9, 0, none⟩), .pointer (some ⟨g10, 0, none⟩), .pointer (some ⟨g5, 0, none⟩)]] 83) := ⟨_, rfl⟩
  have hb6 : Below w5.heap.size w5 w6 := by rw [hw6]; exact (Below.refl _ _).alloc (Nat.le_refl _) _
  have k8 : PM.BK w6 g8 #[.func (.func 40) #[] #[.pointer (some ⟨g9, 0, none⟩)], .func (.func 42) #[] #[.pointer (some ⟨g5, 0, none⟩)], .func (.func 43) #[] #[.pointer (some ⟨g3, 0, none⟩), .pointer (some ⟨g9, 0, none⟩)], .func (.func 44) #[] #[.pointer (some ⟨g3, 0, none⟩), .pointer (some ⟨g9, 0, none⟩), .pointer (some ⟨g10, 0, none⟩), .pointer (some ⟨g5, 0, none⟩)]] 83 := by rw [hw6, hg8]; exact PM.BK.new _ _ _
  replace hu := PM.TxW.keep hb6 hu
  replace k3 := k3.keep hb6
  replace k5 := k5.keep hb6
  replace k9 := k9.keep hb6
  replace k10 := k10.keep hb6
  have hB6 := PM.hid (PM.chain hBB.out hb6)
  clear hb6
  obtain ⟨FIN, hFIN⟩ : ∃ F : World → Prop, ∀ W, F W ↔ Below w.heap.size w W ∧ PM.TxW w.heap.size W (.slice ua un uc) l ∧ PM.BK W g9 #[.int .i64 O] 3 ∧ ∃ (k : Nat) (z : PM.En) (q : Bool), O = (k : Int) ∧ l[k]? = some ⟨z, q⟩ ∧ (∃ zF, PM.PI w.heap.size g10 z ev zF W) ∧ ∀ j, j < 4 → PM.pubCd l O ev j = 0 := ⟨_, fun W => Iff.rfl⟩
  obtain ⟨KK, hKK⟩ : ∃ F : Int → World → Prop, ∀ c W, F c W ↔ Below w.heap.size w W ∧ PM.TxW w.heap.size W (.slice ua un uc) l ∧ ∃ k, k < 4 ∧ c = PM.pubCd l O ev k ∧ c ≠ 0 ∧ ∀ j, j < k → PM.pubCd l O ev j = 0 := ⟨_, fun c W => Iff.rfl⟩
  have hent : ∀ (k : Nat) (x : Nat × Array Value), ([(40, #[.pointer (some ⟨g9, 0, none⟩)]), (42, #[.pointer (some ⟨g5, 0, none⟩)]), (43, #[.pointer (some ⟨g3, 0, none⟩), .pointer (some ⟨g9, 0, none⟩)]), (44, #[.pointer (some ⟨g3, 0, none⟩), .pointer (some ⟨g9, 0, none⟩), .pointer (some ⟨g10, 0, none⟩), .pointer (some ⟨g5, 0, none⟩)])] : List (Nat × Array Value))[k]? = some x → ∀ W, (callFunc x.1 x.2).run Try.prog W = .ok (.enter x.1 x.2) W := fun k x hk W => by
    match k, hk with
    | 0, hk => simp at hk; subst hk; exact PM.enterF Try.func40 (by kernel_rfl) rfl _ _
    | 1, hk => simp at hk; subst hk; exact PM.enterF Try.func42 (by kernel_rfl) rfl _ _
    | 2, hk => simp at hk; subst hk; exact PM.enterF Try.func43 (by kernel_rfl) rfl _ _
    | 3, hk => simp at hk; subst hk; exact PM.enterF Try.func44 (by kernel_rfl) rfl _ _
    | k + 4, hk => simp at hk
  have hpure : ∀ (k : Nat) (W W' : World), k < 3 → (Below w6.heap.size w6 W ∧ ∀ i, i < k → PM.pubCd l O ev i = 0) → Below W.heap.size W W' → (PM.pubCd l O ev k = 0 → (fun (j : Nat) (W : World) => if j = 4 then FIN W else Below w6.heap.size w6 W ∧ ∀ i, i < j → PM.pubCd l O ev i = 0) (k + 1) W') ∧ (PM.pubCd l O ev k ≠ 0 → KK (PM.pubCd l O ev k) W') := fun k W W' hk hJ hb => by
    have hbW := PM.chain hJ.1 hb
    refine ⟨fun h => ?_, fun h => ?_⟩
    · show (if k + 1 = 4 then FIN W' else _)
      rw [if_neg (by omega)]
      refine ⟨hbW, fun j hj => ?_⟩
      by_cases hjk : j < k
      · exact hJ.2 j hjk
      · obtain rfl : j = k := by omega
        exact h
    · rw [hKK]
      exact ⟨PM.chain hB6.out hbW, PM.TxW.keep hbW hu, k, by omega, rfl, h, hJ.2⟩
  have hopn : PM.pubCd l O ev 0 = 0 → ∃ (k : Nat) (x : PM.Tx), O = (k : Int) ∧ l[k]? = some x := fun h => by
    rcases hcs with rfl | ⟨k, x, h1, h2, _, _⟩
    · exact absurd h (by simp [PM.pubCd, PM.unls])
    · exact ⟨k, x, h1, h2⟩
  have hcall : ∀ (k : Nat) (x : Nat × Array Value) (W : World), ([(40, #[.pointer (some ⟨g9, 0, none⟩)]), (42, #[.pointer (some ⟨g5, 0, none⟩)]), (43, #[.pointer (some ⟨g3, 0, none⟩), .pointer (some ⟨g9, 0, none⟩)]), (44, #[.pointer (some ⟨g3, 0, none⟩), .pointer (some ⟨g9, 0, none⟩), .pointer (some ⟨g10, 0, none⟩), .pointer (some ⟨g5, 0, none⟩)])] : List (Nat × Array Value))[k]? = some x → (fun (j : Nat) (W : World) => if j = 4 then FIN W else Below w6.heap.size w6 W ∧ ∀ i, i < j → PM.pubCd l O ev i = 0) k W → Calls Try.prog x.1 x.2 W fun e W' => ∃ c, e = .returned (.int .i64 c) ∧ (c = 0 → (fun (j : Nat) (W : World) => if j = 4 then FIN W else Below w6.heap.size w6 W ∧ ∀ i, i < j → PM.pubCd l O ev i = 0) (k + 1) W') ∧ (c ≠ 0 → KK c W') := fun k x W hk hJ0 => by
    have hk4 : k < 4 := by have := (List.getElem?_eq_some_iff.1 hk).1; simpa using this
    have hJ : Below w6.heap.size w6 W ∧ ∀ i, i < k → PM.pubCd l O ev i = 0 := by
      have : (if k = 4 then FIN W else Below w6.heap.size w6 W ∧ ∀ i, i < k → PM.pubCd l O ev i = 0) := hJ0
      rwa [if_neg (by omega)] at this
    have hbW := hJ.1
    match k, hk with
    | 0, hk =>
      simp at hk; subst hk
      refine (pub1_any g9 O W (k9.keep hbW)).mono ?_
      rintro e W' ⟨rfl, hb⟩
      exact ⟨PM.pubCd l O ev 0, rfl, hpure 0 W W' (by decide) hJ hb⟩
    | 1, hk =>
      simp at hk; subst hk
      refine (pub2_any g5 xa xn xc ev W (k5.keep hbW) (PM.EM.ev (hall.out.2.2.1.keep (PM.chain hB6.out hbW)))).mono ?_
      rintro e W' ⟨rfl, hb⟩
      exact ⟨PM.pubCd l O ev 1, rfl, hpure 1 W W' (by decide) hJ hb⟩
    | 2, hk =>
      simp at hk; subst hk
      obtain ⟨kk, y, hOk, hy⟩ := hopn (hJ.2 0 (by decide))
      refine (pub3_any g3 g9 kk la ln lc y l W (k3.keep hbW) (by rw [← hOk]; exact k9.keep hbW) (PM.TxL.keep (PM.chain hB6.out hbW) hall.out.1) hy hl1).mono ?_
      rintro e W' ⟨rfl, hb⟩
      have he2 : PM.pubCd l O ev 2 = PM.unls (decide (y.en.evs.length < 8)) 171 := by unfold PM.pubCd; rw [hOk]; simp [hy]
      rw [← he2]
      exact ⟨PM.pubCd l O ev 2, rfl, hpure 2 W W' (by decide) hJ hb⟩
    | 3, hk =>
      simp at hk; subst hk
      obtain ⟨kk, ⟨z, q⟩, hOk, hy⟩ := hopn (hJ.2 0 (by decide))
      have h8 : z.evs.length < 8 := by
        have h2 := hJ.2 2 (by decide)
        have he2 : PM.pubCd l O ev 2 = PM.unls (decide (z.evs.length < 8)) 171 := by unfold PM.pubCd; rw [hOk]; simp [hy]
        rw [he2] at h2
        unfold PM.unls at h2
        split at h2
        · rename_i hd; simpa using hd
        · exact absurd h2 (by decide)
      have hzs := hall.out.2.1.2 _ (List.mem_of_getElem? hy)
      have hbwW := PM.chain hB6.out hbW
      have k10W := k10.keep hbW
      refine (pub4_any g3 g9 g10 g5 kk la ln lc xa xn xc ev z q l w W (k3.keep hbW) (by rw [← hOk]; exact k9.keep hbW) k10W (k5.keep hbW) (PM.TxL.keep hbwW hall.out.1) hy hl1 hzs.1 hzs.2 hall.out.2.2.1 hall.out.2.2.2.1 hall.out.2.2.2.2 h8 hbwW hg10s.out.1 hg10s.out.2).mono ?_
      rintro e W' ⟨rfl, hbx, zF, hPI⟩
      have he3 : PM.pubCd l O ev 3 = PM.unls (PM.smlT (PM.growE z ev)) 172 := by unfold PM.pubCd; rw [hOk]; simp [hy]
      rw [← he3]
      have kt := fun (T : TypeId) (hT : 34 ≠ T) => PM.KT.ofx hbx k10W hT
      have hbe := hbx.below hbwW hg10s.out.1 hbwW.size
      have huW := PM.TxW.kt (PM.TxW.keep hbW hu) (kt _ (by decide)) (kt _ (by decide)) (kt _ (by decide)) (kt _ (by decide))
      refine ⟨PM.pubCd l O ev 3, rfl, fun h => ?_, fun h => ?_⟩
      · show (if 3 + 1 = 4 then FIN W' else _)
        rw [if_pos rfl, hFIN]
        refine ⟨hbe, huW, PM.BK.kt (k9.keep hbW) (kt _ (by decide)), kk, z, q, hOk, hy, ⟨zF, hPI.mono hbwW.size⟩, fun j hj => ?_⟩
        by_cases hj3 : j < 3
        · exact hJ.2 j hj3
        · obtain rfl : j = 3 := by omega
          exact h
      · rw [hKK]
        exact ⟨hbe, huW, 3, by decide, rfl, h, hJ.2⟩
    | k + 4, hk => simp at hk
  have ht := first_any [(40, #[.pointer (some ⟨g9, 0, none⟩)]), (42, #[.pointer (some ⟨g5, 0, none⟩)]), (43, #[.pointer (some ⟨g3, 0, none⟩), .pointer (some ⟨g9, 0, none⟩)]), (44, #[.pointer (some ⟨g3, 0, none⟩), .pointer (some ⟨g9, 0, none⟩), .pointer (some ⟨g10, 0, none⟩), .pointer (some ⟨g5, 0, none⟩)])] 4 g8 4 rfl (fun (j : Nat) (W : World) => if j = 4 then FIN W else Below w6.heap.size w6 W ∧ ∀ i, i < j → PM.pubCd l O ev i = 0) KK w6 (by decide) hent (fun k x W hk hJ0 => by
    have hk4 : k < 4 := by have := (List.getElem?_eq_some_iff.1 hk).1; simpa using this
    have hJ : Below w6.heap.size w6 W ∧ ∀ i, i < k → PM.pubCd l O ev i = 0 := by
      have : (if k = 4 then FIN W else Below w6.heap.size w6 W ∧ ∀ i, i < k → PM.pubCd l O ev i = 0) := hJ0
      rwa [if_neg (by omega)] at this
    match k, hk with
    | 0, hk => simp at hk; subst hk; exact (k8.keep hJ.1).cell 0
    | 1, hk => simp at hk; subst hk; exact (k8.keep hJ.1).cell 1
    | 2, hk => simp at hk; subst hk; exact (k8.keep hJ.1).cell 2
    | 3, hk => simp at hk; subst hk; exact (k8.keep hJ.1).cell 3
    | k + 4, hk => simp at hk) hcall (by show (if 0 = 4 then FIN w6 else _); rw [if_neg (by decide)]; exact ⟨Below.refl _ _, fun j hj => absurd hj (by omega)⟩)
  have ht2 : Calls Try.prog 39 #[.slice (some ⟨g8, 0, none⟩) 4 4] w6 fun e w' => ∃ c, e = .returned (.int .i64 c) ∧ (c = 0 ∧ FIN w' ∨ c ≠ 0 ∧ KK c w') := ht.mono (by rintro e w' ⟨c, h1, h2⟩; refine ⟨c, h1, ?_⟩; rcases h2 with ⟨h2, h3⟩ | h2; exact .inl ⟨h2, by have h4 : (if 4 = 4 then FIN w' else _) := h3; rwa [if_pos rfl] at h4⟩; exact .inr h2)
  rw [hw6, hg8] at ht2
  have hFh := PM.hid hFIN
  have hKh := PM.hid hKK
  clear ht hent hpure hopn hcall k8 k3 k5 k9 k10 hu hw6 hg8 hcs hFIN hKK hB6
  go_wp2_with fail
  refine ht2.mono ?_
  clear ht2
  rintro e w7 ⟨c, rfl, hc⟩
  rcases hc with ⟨rfl, hF⟩ | ⟨hc0, hK⟩
  · obtain ⟨hb7, hu7, k97, k, z, q, rfl, hy, ⟨zF, va, vc, ta, zN, tc, k107, hen⟩, hz0⟩ := (hFh.out w7).1 hF
    have hR2 : Hid (R = (l.set k ⟨PM.growE z ev, q⟩, 0)) := PM.hid (by
      have h4 := PM.Firsts.eq4 (cd := PM.pubCd l (k : Int) ev) (.inl ⟨rfl, hz0⟩)
      rw [hRR.out]
      unfold PM.pubT PM.pubE
      rw [← hOh.out, ← h4, if_pos rfl]
      simp [hy])
    obtain ⟨g2, cap, css, y, cur, hue, hBg, hnc, hbk, hom, hcl, hy2, hty, hcy, hall2⟩ := PM.TxW.opn hu7 hy
    have hkl : k < un := by rw [hunh.out]; exact (List.getElem?_eq_some_iff.1 hy).1
    rw [← hunh.out] at hl1 hue
    injection hue with e1 e2 e3
    subst e1 e3
    clear e2
    have h9 := y.2.1
    have hC : ∀ j, j < 9 → ∃ v, w7.cell? ⟨g2, k * 9 + j, none⟩ = some v := fun j hj => ⟨_, hcy j _ (List.getElem?_eq_getElem (by omega))⟩
    obtain ⟨v0, c0⟩ := hC 0 (by decide)
    have f0 : w7.frozen? ⟨g2, k * 9, none⟩ = false := hbk.free _
    obtain ⟨v1, c1⟩ := hC 1 (by decide)
    have f1 : w7.frozen? ⟨g2, k * 9 + 1, none⟩ = false := hbk.free _
    obtain ⟨v2, c2⟩ := hC 2 (by decide)
    have f2 : w7.frozen? ⟨g2, k * 9 + 2, none⟩ = false := hbk.free _
    obtain ⟨v3, c3⟩ := hC 3 (by decide)
    have f3 : w7.frozen? ⟨g2, k * 9 + 3, none⟩ = false := hbk.free _
    obtain ⟨v4, c4⟩ := hC 4 (by decide)
    have f4 : w7.frozen? ⟨g2, k * 9 + 4, none⟩ = false := hbk.free _
    obtain ⟨v5, c5⟩ := hC 5 (by decide)
    have f5 : w7.frozen? ⟨g2, k * 9 + 5, none⟩ = false := hbk.free _
    obtain ⟨v6, c6⟩ := hC 6 (by decide)
    have f6 : w7.frozen? ⟨g2, k * 9 + 6, none⟩ = false := hbk.free _
    obtain ⟨v7, c7⟩ := hC 7 (by decide)
    have f7 : w7.frozen? ⟨g2, k * 9 + 7, none⟩ = false := hbk.free _
    replace c0 : w7.cell? ⟨g2, k * 9, none⟩ = some v0 := c0
    have hxb : PM.Bx g2 w7 ((((((((w7.setCell ⟨g2, k * 9, none⟩ (.int .i64 z.kind)).setCell ⟨g2, k * 9 + 1, none⟩ (.int .i64 z.id.br)).setCell ⟨g2, k * 9 + 2, none⟩ (.int .u64 (z.id.life : Int))).setCell ⟨g2, k * 9 + 3, none⟩ (.int .u64 (z.id.ser : Int))).setCell ⟨g2, k * 9 + 4, none⟩ (.int .i64 z.client)).setCell ⟨g2, k * 9 + 5, none⟩ (.int .u64 (z.sub : Int))).setCell ⟨g2, k * 9 + 6, none⟩ (.slice va zF vc)).setCell ⟨g2, k * 9 + 7, none⟩ (.slice ta zN tc)) := PM.Bx.setCells g2 [.int .i64 z.kind, .int .i64 z.id.br, .int .u64 (z.id.life : Int), .int .u64 (z.id.ser : Int), .int .i64 z.client, .int .u64 (z.sub : Int), .slice va zF vc, .slice ta zN tc] (k * 9) w7
    obtain ⟨zc, hzc, hput⟩ := PM.OM.puts [.int .i64 z.kind, .int .i64 z.id.br, .int .u64 (z.id.life : Int), .int .u64 (z.id.ser : Int), .int .i64 z.client, .int .u64 (z.sub : Int), .slice va zF vc, .slice ta zN tc] 0 w7 css y (by intro u hu; simp only [List.mem_cons, List.not_mem_nil, or_false] at hu; rcases hu with rfl | rfl | rfl | rfl | rfl | rfl | rfl | rfl <;> rfl) (by simp) hom hy2
    replace hput : PM.OM PM.ceL 9 39 w.heap.size ((((((((w7.setCell ⟨g2, k * 9, none⟩ (.int .i64 z.kind)).setCell ⟨g2, k * 9 + 1, none⟩ (.int .i64 z.id.br)).setCell ⟨g2, k * 9 + 2, none⟩ (.int .u64 (z.id.life : Int))).setCell ⟨g2, k * 9 + 3, none⟩ (.int .u64 (z.id.ser : Int))).setCell ⟨g2, k * 9 + 4, none⟩ (.int .i64 z.client)).setCell ⟨g2, k * 9 + 5, none⟩ (.int .u64 (z.sub : Int))).setCell ⟨g2, k * 9 + 6, none⟩ (.slice va zF vc)).setCell ⟨g2, k * 9 + 7, none⟩ (.slice ta zN tc)) (.slice (some ⟨g2, 0, none⟩) un uc) (css.set k zc) := hput
    have kt := fun (T : TypeId) (hT : 39 ≠ T) => PM.KT.ofx hxb hbk hT
    have hz : PM.txO w.heap.size ((((((((w7.setCell ⟨g2, k * 9, none⟩ (.int .i64 z.kind)).setCell ⟨g2, k * 9 + 1, none⟩ (.int .i64 z.id.br)).setCell ⟨g2, k * 9 + 2, none⟩ (.int .u64 (z.id.life : Int))).setCell ⟨g2, k * 9 + 3, none⟩ (.int .u64 (z.id.ser : Int))).setCell ⟨g2, k * 9 + 4, none⟩ (.int .i64 z.client)).setCell ⟨g2, k * 9 + 5, none⟩ (.int .u64 (z.sub : Int))).setCell ⟨g2, k * 9 + 6, none⟩ (.slice va zF vc)).setCell ⟨g2, k * 9 + 7, none⟩ (.slice ta zN tc)) zc.1 ⟨PM.growE z ev, q⟩ := by
      have e4 : zc.1 = PM.txC ⟨PM.growE z ev, q⟩ (.slice va zF vc) (.slice ta zN tc) := by
        obtain ⟨fv, ev', e1, -, -⟩ := hty
        rw [hzc, e1]
        rfl
      rw [e4]
      exact PM.enO_txO q (show PM.enO 93 64 29 w.heap.size _ (PM.enC (PM.growE z ev) (.slice va zF vc) (.slice ta zN tc)) (PM.growE z ev) from PM.enO_kt (kt _ (by decide)) (kt _ (by decide)) (kt _ (by decide)) _ _ hen)
    have hend := PM.hid (And.intro (PM.TxW.shut hput hcl hall2 (PM.txO_ktE (kt _ (by decide)) (kt _ (by decide)) (kt _ (by decide))) hz) (hxb.below hb7 hBg hb7.size))
    have hk1 : (k : Int) < (un : Int) := by omega
    have z0 : w7.cell? ⟨g9, 0, none⟩ = some (.int .i64 (k : Int)) := k97.cell 0
    have y0 : w7.cell? ⟨g10, 0, none⟩ = some (.int .i64 z.kind) := k107.cell 0
    have y1 : w7.cell? ⟨g10, 1, none⟩ = some (.int .i64 z.id.br) := k107.cell 1
    have y2 : w7.cell? ⟨g10, 2, none⟩ = some (.int .u64 (z.id.life : Int)) := k107.cell 2
    have y3 : w7.cell? ⟨g10, 3, none⟩ = some (.int .u64 (z.id.ser : Int)) := k107.cell 3
    have y4 : w7.cell? ⟨g10, 4, none⟩ = some (.int .i64 z.client) := k107.cell 4
    have y5 : w7.cell? ⟨g10, 5, none⟩ = some (.int .u64 (z.sub : Int)) := k107.cell 5
    have y6 : w7.cell? ⟨g10, 6, none⟩ = some (.slice va zF vc) := k107.cell 6
    have y7 : w7.cell? ⟨g10, 7, none⟩ = some (.slice ta zN tc) := k107.cell 7
    clear hF hu7 k97 k107 hen hz0 hbk hom hcl hy2 hty hcy hall2 hC hxb hzc hput kt hz hBg hy h9 hb7 hFh hKh hRR hOh hall
    go_wp2_with fail
    go_ret2
    exact ⟨_, by rw [hR2.out]; rfl, by rw [hR2.out]; exact hend.out.1, hend.out.2⟩
  · obtain ⟨hb7, hu7, k, hk4, hck, hne, hz0⟩ := (hKh.out c w7).1 hK
    have hR2 : Hid (R = (l, c)) := PM.hid (by
      have h4 := PM.Firsts.eq4 (cd := PM.pubCd l O ev) (c := c) (.inr ⟨k, hk4, hck, hne, hz0⟩)
      rw [hRR.out]
      unfold PM.pubT PM.pubE
      rw [← hOh.out, ← h4, if_neg hne])
    have hend := PM.hid (And.intro hu7 hb7)
    have q1 : (c == 0) = false := by simp; exact hc0
    clear hK hu7 hb7 hck hz0 hFh hKh hRR hOh hall
    go_wp2_with fail
    go_ret2
    exact ⟨_, by rw [hR2.out]; rfl, by rw [hR2.out]; exact hend.out.1, hend.out.2⟩
end Go.Proofs.Ytnjcociidipogaa
