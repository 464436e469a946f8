/-
  MESSAGES IN MEMORY; CONTRACTS OF vote.Says.
-/
import Derived.Test.YtjninckmgkaliaaVs
namespace Go.Proofs.Ytjninckmgkaliaa
open Go.RowKit
set_option linter.unusedVariables false
set_option linter.unusedSimpArgs false
namespace PM
structure Ms where
  kind : Int
  hav : Nat
  votes : List Vo
  asks : List En
  entries : List En
  prepares : List En
  aborts : List Id
  ends : List Id
def msC (x : Ms) (v0 v1 v2 v3 v4 v5 : Value) : List Value := [.int .i64 x.kind, .int .u64 (x.hav : Int), v0, v1, v2, v3, v4, v5]
/-- what eight cells read as -/
def msR (w : World) (cs : List Value) (x : Ms) : Prop := ∃ v0 v1 v2 v3 v4 v5, cs = msC x v0 v1 v2 v3 v4 v5 ∧ EM voL 4 w v0 x.votes ∧ EnL w v1 x.asks ∧ EnL w v2 x.entries ∧ EnL w v3 x.prepares ∧ EM idL 3 w v4 x.aborts ∧ EM idL 3 w v5 x.ends
theorem EnL.keep {W w : World} {v : Value} {l : List En} (h : EnL W v l) (hb : Below W.heap.size W w) : EnL w v l := RR.keep enR_lasts hb h
theorem msR_lasts : Lasts msR := fun W w cs x hb ⟨v0, v1, v2, v3, v4, v5, h, h0, h1, h2, h3, h4, h5⟩ => ⟨v0, v1, v2, v3, v4, v5, h, h0.keep hb, EnL.keep h1 hb, EnL.keep h2 hb, EnL.keep h3 hb, h4.keep hb, h5.keep hb⟩
abbrev MsL (w : World) (v : Value) (ls : List Ms) : Prop := RR msR 8 w v ls
theorem MsL.keep {W w : World} {v : Value} {l : List Ms} (h : MsL W v l) (hb : Below W.heap.size W w) : MsL w v l := RR.keep msR_lasts hb h
theorem msR_open {w : World} {cs : List Value} {x : Ms} (h : msR w cs x) : ∃ a0 c0 a1 c1 a2 c2 a3 c3 a4 c4 a5 c5,
    cs = msC x (.slice a0 x.votes.length c0) (.slice a1 x.asks.length c1) (.slice a2 x.entries.length c2) (.slice a3 x.prepares.length c3) (.slice a4 x.aborts.length c4) (.slice a5 x.ends.length c5) ∧
    EM voL 4 w (.slice a0 x.votes.length c0) x.votes ∧ EnL w (.slice a1 x.asks.length c1) x.asks ∧ EnL w (.slice a2 x.entries.length c2) x.entries ∧ EnL w (.slice a3 x.prepares.length c3) x.prepares ∧ EM idL 3 w (.slice a4 x.aborts.length c4) x.aborts ∧ EM idL 3 w (.slice a5 x.ends.length c5) x.ends := by
  obtain ⟨v0, v1, v2, v3, v4, v5, h, h0, h1, h2, h3, h4, h5⟩ := h
  obtain ⟨a0, c0, rfl⟩ := h0.len
  obtain ⟨a1, c1, rfl⟩ := h1.len
  obtain ⟨a2, c2, rfl⟩ := h2.len
  obtain ⟨a3, c3, rfl⟩ := h3.len
  obtain ⟨a4, c4, rfl⟩ := h4.len
  obtain ⟨a5, c5, rfl⟩ := h5.len
  exact ⟨a0, c0, a1, c1, a2, c2, a3, c3, a4, c4, a5, c5, h, h0, h1, h2, h3, h4, h5⟩
/-- a vote is among a message's -/
def hasV (v : Vo) (m : Ms) : Bool := m.votes.any fun x => decide (v = x)
/-- what reports say of an ID -/
def sayK (ks : List Ms) (i : Id) (k : Nat) : Int := if (ks.take k).all (hasV ⟨i, true⟩) then 1 else 0
theorem take_at {α : Type} {l : List α} {k : Nat} {x : α} (h : l[k]? = some x) : l.take (k + 1) = l.take k ++ [x] := by
  rw [List.take_add_one, h]; rfl
theorem sayK_yes {ks : List Ms} {i : Id} {k : Nat} {m : Ms} (h : ks[k]? = some m) (hy : hasV ⟨i, true⟩ m = true) : sayK ks i (k + 1) = sayK ks i k := by
  unfold sayK
  rw [take_at h, List.all_append]
  simp [hy]
theorem sayK_no {ks : List Ms} {i : Id} {k : Nat} {m : Ms} (h : ks[k]? = some m) (hy : hasV ⟨i, true⟩ m = false) : sayK ks i (k + 1) = 0 := by
  unfold sayK
  rw [take_at h, List.all_append]
  simp [hy]
theorem anyV_no {ks : List Ms} {i : Id} {k : Nat} {m : Ms} (h : ks[k]? = some m) (h0 : (ks.take k).any (hasV ⟨i, false⟩) = false) (hy : hasV ⟨i, false⟩ m = false) : (ks.take (k + 1)).any (hasV ⟨i, false⟩) = false := by
  rw [take_at h, List.any_append, h0]
  simp [hy]
def says (ks : List Ms) (i : Id) : Int := if ks.any (hasV ⟨i, false⟩) then 2 else if ks.all (hasV ⟨i, true⟩) then 1 else 0
end PM
set_option maxHeartbeats 1000000 in
theorem says1_any (mk : Int) (mh : Nat) (ma0 : Option Addr) (mn0 mc0 : Nat) (ma1 : Option Addr) (mn1 mc1 : Nat) (ma2 : Option Addr) (mn2 mc2 : Nat) (ma3 : Option Addr) (mn3 mc3 : Nat) (ma4 : Option Addr) (mn4 mc4 : Nat) (ma5 : Option Addr) (mn5 mc5 : Nat) (y : Bool) (i : PM.Id) (l : List PM.Vo) (bf : Nat) (w : World) (hv : PM.EM PM.voL 4 w (.slice ma0 mn0 mc0) l)
    (h0 : w.cell? ⟨bf, 0, none⟩ = some (.int .i64 i.br)) (h1 : w.cell? ⟨bf, 1, none⟩ = some (.int .u64 (i.life : Int))) (h2 : w.cell? ⟨bf, 2, none⟩ = some (.int .u64 (i.ser : Int))) :
    Calls Try.prog 39 #[.agg #[.int .i64 mk, .int .u64 (mh : Int), .slice ma0 mn0 mc0, .slice ma1 mn1 mc1, .slice ma2 mn2 mc2, .slice ma3 mn3 mc3, .slice ma4 mn4 mc4, .slice ma5 mn5 mc5], .bool y, .pointer (some ⟨bf, 0, none⟩)] w fun e w' => e = .returned (.bool (l.any fun x => decide ((⟨i, y⟩ : PM.Vo) = x))) ∧ Below w.heap.size w w' := by
  have hal : ∀ o, Below w.heap.size w (w.alloc o) := fun o => (Below.refl _ _).alloc (Nat.le_refl _) o
  have a0 : ∀ o, (w.alloc o).cell? ⟨bf, 0, none⟩ = some (.int .i64 i.br) := fun o => PM.cellA (hal o) h0
  have a1 : ∀ o, (w.alloc o).cell? ⟨bf, 1, none⟩ = some (.int .u64 (i.life : Int)) := fun o => PM.cellA (hal o) h1
  have a2 : ∀ o, (w.alloc o).cell? ⟨bf, 2, none⟩ = some (.int .u64 (i.ser : Int)) := fun o => PM.cellA (hal o) h2
  have h := fun o => contV_any _ (⟨i, y⟩ : PM.Vo) l (w.alloc o) (hv.keep (hal o))
  replace hal := PM.hid hal
  clear hv h0 h1 h2
  obtain ⟨ib, il, ir⟩ := i
  simp only at h a0 a1 a2
  go_enter Try.func39, Try.ntmps39
  go_wp2_with fail
  refine (h _).mono ?_
  rintro e w2 ⟨rfl, hB⟩
  have hh := PM.hid (PM.chain (hal.out _) hB)
  clear h hB
  go_wp2_with fail
  go_ret
  exact ⟨rfl, hh.out⟩
set_option maxRecDepth 100000 in
set_option maxHeartbeats 4000000 in
theorem says_any (v : Value) (i : PM.Id) (ks : List PM.Ms) (w : World) (hv : PM.MsL w v ks) :
    Calls Try.prog 20 #[v, .agg #[.int .i64 i.br, .int .u64 (i.life : Int), .int .u64 (i.ser : Int)]] w fun e w' => e = .returned (.int .i64 (PM.says ks i)) ∧ Below w.heap.size w w' := by
  have hmax := hv.bound
  obtain ⟨ad, cap, rfl⟩ := hv.len
  unfold maxLen at hmax
  obtain ⟨L, hL⟩ : ∃ L, L = ks.length := ⟨_, rfl⟩
  have hLh := PM.hid hL
  rw [← hL] at hv hmax ⊢
  obtain ⟨g, hg⟩ : ∃ g, g = w.heap.size := ⟨_, rfl⟩
  obtain ⟨w1, hw1⟩ : ∃ W, W = w.alloc (.cells #[.int .i64 i.br, .int .u64 (i.life : Int), .int .u64 (i.ser : Int)] 30) := ⟨_, rfl⟩
  have hal : Below w.heap.size w w1 := by rw [hw1]; exact (Below.refl _ _).alloc (Nat.le_refl _) _
  have kg : PM.BK w1 g #[.int .i64 i.br, .int .u64 (i.life : Int), .int .u64 (i.ser : Int)] 30 := by rw [hw1, hg]; exact PM.BK.new _ _ _
  have hvh := PM.hid (PM.MsL.keep hv hal)
  have kgh := PM.hid kg
  have halh := PM.hid hal
  clear hL hv hal kg
  go_enter Try.func20, Try.ntmps20
  go_upto_region 1 with fail
  rw [← hw1, ← hg]
  clear hw1 hg
  go_wp2_with fail
  go_step3
  go_wp2_with fail
  go_step3
  go_wp2_with fail
  go_loopw [6, 12] (fun s i' wr => ∃ k : Nat, i' = .int .i64 k ∧ k ≤ L ∧ s = .int .i64 (PM.sayK ks i k) ∧ (ks.take k).any (PM.hasV ⟨i, false⟩) = false ∧ Below w1.heap.size w1 wr) (fun _ i _ => L - (intOf i).toNat)
  case atStart => exact ⟨0, rfl, by omega, rfl, rfl, Below.refl _ _⟩
  case round =>
    obtain ⟨k, rfl, hk, rfl, hno, hB⟩ := hrel
    have hS := PM.hid (And.intro hno hB)
    clear hno
    obtain ⟨sv, hsv⟩ : ∃ s, s = PM.sayK ks i k := ⟨_, rfl⟩
    have hsvh := PM.hid hsv
    rw [← hsv]
    clear hsv
    by_cases hlt : k < L
    · obtain ⟨m, hm⟩ : ∃ m, ks[k]? = some m := ⟨ks[k]'(by rw [← hLh.out]; exact hlt), List.getElem?_eq_getElem _⟩
      obtain ⟨b, off, rfl, hce⟩ := PM.RR.opn hvh.out (by rw [← hLh.out]; omega)
      obtain ⟨cs, hl0, hR⟩ := hce k m hm
      obtain ⟨a0, c0, a1, c1, a2, c2, a3, c3, a4, c4, a5, c5, hcs, hvo, -⟩ := PM.msR_open hR
      replace hl0 := hl0.keep hB
      rw [hcs] at hl0
      have d0 : wr.cell? ⟨b, off + k * 8, none⟩ = some (.int .i64 m.kind) := hl0 0 _ rfl
      have d1 : wr.cell? ⟨b, off + k * 8 + 1, none⟩ = some (.int .u64 (m.hav : Int)) := hl0 1 _ rfl
      have d2 : wr.cell? ⟨b, off + k * 8 + 2, none⟩ = some (.slice a0 m.votes.length c0) := hl0 2 _ rfl
      have d3 : wr.cell? ⟨b, off + k * 8 + 3, none⟩ = some (.slice a1 m.asks.length c1) := hl0 3 _ rfl
      have d4 : wr.cell? ⟨b, off + k * 8 + 4, none⟩ = some (.slice a2 m.entries.length c2) := hl0 4 _ rfl
      have d5 : wr.cell? ⟨b, off + k * 8 + 5, none⟩ = some (.slice a3 m.prepares.length c3) := hl0 5 _ rfl
      have d6 : wr.cell? ⟨b, off + k * 8 + 6, none⟩ = some (.slice a4 m.aborts.length c4) := hl0 6 _ rfl
      have d7 : wr.cell? ⟨b, off + k * 8 + 7, none⟩ = some (.slice a5 m.ends.length c5) := hl0 7 _ rfl
      have hmh := PM.hid hm
      have hvot := PM.hid (hvo.keep hB)
      have hV : ∀ y, Hid (PM.hasV ⟨i, y⟩ m = m.votes.any fun x => decide ((⟨i, y⟩ : PM.Vo) = x)) := fun y => PM.hid rfl
      clear hm hB hce hl0 hR hcs cs hvo
      have hmk := m.kind
      generalize m.votes.length = M0 at *
      generalize m.asks.length = M1 at *
      generalize m.entries.length = M2 at *
      generalize m.prepares.length = M3 at *
      generalize m.aborts.length = M4 at *
      generalize m.ends.length = M5 at *
      clear hmk
      go_upto_region 6 with fail
      obtain ⟨gm, hgm⟩ : ∃ g, g = wr.heap.size := ⟨_, rfl⟩
      obtain ⟨w2, hw2⟩ : ∃ W, W = wr.alloc (.cells #[.int .i64 m.kind, .int .u64 (m.hav : Int), .slice a0 M0 c0, .slice a1 M1 c1, .slice a2 M2 c2, .slice a3 M3 c3, .slice a4 M4 c4, .slice a5 M5 c5] 41) := ⟨_, rfl⟩
      have hB2 : Below wr.heap.size wr w2 := by rw [hw2]; exact (Below.refl _ _).alloc (Nat.le_refl _) _
      have km : PM.BK w2 gm #[.int .i64 m.kind, .int .u64 (m.hav : Int), .slice a0 M0 c0, .slice a1 M1 c1, .slice a2 M2 c2, .slice a3 M3 c3, .slice a4 M4 c4, .slice a5 M5 c5] 41 := by rw [hw2, hgm]; exact PM.BK.new _ _ _
      rw [← hw2, ← hgm]
      clear hw2 hgm d0 d1 d2 d3 d4 d5 d6 d7
      have hBw := PM.hid (PM.chain hS.out.2 hB2)
      have hc1 := says1_any m.kind m.hav a0 M0 c0 a1 M1 c1 a2 M2 c2 a3 M3 c3 a4 M4 c4 a5 M5 c5 false i m.votes g w2 (hvot.out.keep hB2) (PM.cellA hBw.out (kgh.out.cell 0)) (PM.cellA hBw.out (kgh.out.cell 1)) (PM.cellA hBw.out (kgh.out.cell 2))
      have hB2h := PM.hid hB2
      clear hB2
      have m0 : w2.cell? ⟨gm, 0, none⟩ = some (.int .i64 m.kind) := km.cell 0
      have m1 : w2.cell? ⟨gm, 1, none⟩ = some (.int .u64 (m.hav : Int)) := km.cell 1
      have m2 : w2.cell? ⟨gm, 2, none⟩ = some (.slice a0 M0 c0) := km.cell 2
      have m3 : w2.cell? ⟨gm, 3, none⟩ = some (.slice a1 M1 c1) := km.cell 3
      have m4 : w2.cell? ⟨gm, 4, none⟩ = some (.slice a2 M2 c2) := km.cell 4
      have m5 : w2.cell? ⟨gm, 5, none⟩ = some (.slice a3 M3 c3) := km.cell 5
      have m6 : w2.cell? ⟨gm, 6, none⟩ = some (.slice a4 M4 c4) := km.cell 6
      have m7 : w2.cell? ⟨gm, 7, none⟩ = some (.slice a5 M5 c5) := km.cell 7
      go_wp2_with fail
      refine hc1.mono ?_
      clear hc1 m0 m1 m2 m3 m4 m5 m6 m7
      rintro e w3 ⟨rfl, hB3⟩
      rw [← (hV false).out]
      replace km := km.keep hB3
      replace hBw := PM.hid (PM.chain hBw.out hB3)
      have hB3h := PM.hid hB3
      clear hB3
      cases hy : PM.hasV ⟨i, false⟩ m
      case true =>
        have hyh := PM.hid hy
        clear hy km
        go_wp2_with fail
        rw [Exit.noGoto_ret]
        go_ret
        refine ⟨?_, PM.chain halh.out hBw.out⟩
        unfold PM.says
        rw [if_pos (List.any_eq_true.2 ⟨m, List.mem_of_getElem? hmh.out, hyh.out⟩)]
        rfl
      have hyh := PM.hid hy
      clear hy
      have hvot2 := PM.hid ((hvot.out.keep hB2h.out).keep hB3h.out)
      have hc2 := says1_any m.kind m.hav a0 M0 c0 a1 M1 c1 a2 M2 c2 a3 M3 c3 a4 M4 c4 a5 M5 c5 true i m.votes g w3 hvot2.out (PM.cellA hBw.out (kgh.out.cell 0)) (PM.cellA hBw.out (kgh.out.cell 1)) (PM.cellA hBw.out (kgh.out.cell 2))
      have m0 : w3.cell? ⟨gm, 0, none⟩ = some (.int .i64 m.kind) := km.cell 0
      have m1 : w3.cell? ⟨gm, 1, none⟩ = some (.int .u64 (m.hav : Int)) := km.cell 1
      have m2 : w3.cell? ⟨gm, 2, none⟩ = some (.slice a0 M0 c0) := km.cell 2
      have m3 : w3.cell? ⟨gm, 3, none⟩ = some (.slice a1 M1 c1) := km.cell 3
      have m4 : w3.cell? ⟨gm, 4, none⟩ = some (.slice a2 M2 c2) := km.cell 4
      have m5 : w3.cell? ⟨gm, 5, none⟩ = some (.slice a3 M3 c3) := km.cell 5
      have m6 : w3.cell? ⟨gm, 6, none⟩ = some (.slice a4 M4 c4) := km.cell 6
      have m7 : w3.cell? ⟨gm, 7, none⟩ = some (.slice a5 M5 c5) := km.cell 7
      go_wp2_with fail
      refine hc2.mono ?_
      clear hc2 m0 m1 m2 m3 m4 m5 m6 m7 km
      rintro e w4 ⟨rfl, hB4⟩
      rw [← (hV true).out]
      replace hBw := PM.hid (PM.chain hBw.out hB4)
      clear hB4
      cases hy : PM.hasV ⟨i, true⟩ m
      · have hz := PM.hid hy
        clear hy
        go_wp2_with fail
        exact ⟨⟨k + 1, by go_num, by omega, by rw [PM.sayK_no hmh.out hz.out], PM.anyV_no hmh.out hS.out.1 hyh.out, hBw.out⟩, by simp only [intOf]; omega⟩
      · have hz := PM.hid hy
        clear hy
        go_wp2_with fail
        exact ⟨⟨k + 1, by go_num, by omega, by rw [PM.sayK_yes hmh.out hz.out, hsvh.out], PM.anyV_no hmh.out hS.out.1 hyh.out, hBw.out⟩, by simp only [intOf]; omega⟩
    · obtain rfl : k = L := by omega
      clear hB
      go_wp2_with fail
      rw [Exit.noGoto_ret]
      go_ret
      refine ⟨?_, PM.chain halh.out hS.out.2⟩
      have h1 := hS.out.1
      have h2 := hsvh.out
      unfold PM.sayK at h2
      rw [hLh.out, List.take_length] at h1 h2
      unfold PM.says
      rw [h1, h2]
      rfl
end Go.Proofs.Ytjninckmgkaliaa
