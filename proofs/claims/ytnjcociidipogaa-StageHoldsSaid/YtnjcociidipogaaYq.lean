/-
  StageHolds: plainly, and its walk. (Written by tools/mk_xq.py.)
-/
import Derived.Test.YtnjcociidipogaaYo
import Derived.Test.YtnjcociidipogaaYj
import Derived.Test.YtnjcociidipogaaJO
namespace Go.Proofs.Ytnjcociidipogaa
open Go.RowKit
set_option linter.unusedVariables false
set_option linter.unusedSimpArgs false
namespace PM
def hZ (i : Id) (cl : Int) (want : List (List At)) : En := ⟨1, i, cl, 0, [], want⟩
def TL (i : Id) (cl : Int) (want : List (List At)) : List Tx := [⟨hZ i cl want, false⟩]
theorem openTL (i : Id) (cl : Int) (want : List (List At)) : openT i (TL i cl want) = 0 := by
  have hp : posT i (TL i cl want) = 0 := by simp [posT, isT, TL, hZ]
  unfold openT
  rw [hp]
  simp [askAt, TL]
theorem findTL (i : Id) (cl : Int) (want : List (List At)) : findT i (TL i cl want) = some ⟨hZ i cl want, false⟩ := by
  have hp : posT i (TL i cl want) = 0 := by simp [posT, isT, TL, hZ]
  unfold findT
  rw [hp]
  simp [TL]
theorem hold_pub (i : Id) (cl : Int) (want : List (List At)) (e : List At) : pubT i (TL i cl want) e = (TL i cl (want ++ [e]), 0) ∨ ∃ c, pubT i (TL i cl want) e = (TL i cl want, c) ∧ (c = 40 ∧ chk e = 40 ∨ c = 171 ∧ ¬ want.length < 8 ∨ c = 172) := by
  have c0 : pubCd (TL i cl want) 0 e 0 = 0 := by simp [pubCd, unls]
  have c1 : pubCd (TL i cl want) 0 e 1 = chk e := by simp [pubCd]
  have c2 : pubCd (TL i cl want) 0 e 2 = if want.length < 8 then 0 else 171 := by simp [pubCd, unls, TL, hZ]
  have c3 : pubCd (TL i cl want) 0 e 3 = if smlT (growE (hZ i cl want) e) = true then 0 else 172 := by simp [pubCd, unls, TL]
  have hE : pubE i (TL i cl want) e = first4 (pubCd (TL i cl want) 0 e) := by unfold pubE; rw [openTL]
  unfold first4 at hE
  rw [c0, c1, c2, c3, if_neg (by simp)] at hE
  have hchk : chk e = 0 ∨ chk e = 40 := by unfold chk; split <;> simp
  by_cases h1 : chk e = 0
  · rw [if_neg (by simpa using h1)] at hE
    by_cases h2 : want.length < 8
    · rw [if_pos h2, if_neg (by simp)] at hE
      by_cases h3 : smlT (growE (hZ i cl want) e) = true
      · rw [if_pos h3] at hE
        left
        unfold pubT
        rw [if_pos hE, openTL]
        rfl
      · rw [if_neg h3] at hE
        right
        refine ⟨172, ?_, .inr (.inr rfl)⟩
        unfold pubT
        rw [hE, if_neg (by decide)]
    · rw [if_neg h2, if_pos (by decide)] at hE
      right
      refine ⟨171, ?_, .inr (.inl ⟨rfl, h2⟩)⟩
      unfold pubT
      rw [hE, if_neg (by decide)]
  · rw [if_pos h1] at hE
    have h4 : chk e = 40 := by rcases hchk with h | h; exact absurd h h1; exact h
    right
    refine ⟨40, ?_, .inl ⟨rfl, h4⟩⟩
    unfold pubT
    rw [hE, h4, if_neg (by decide)]
theorem hold_beg (i : Id) (cl : Int) (hi : i.wf) (hc : (Lit.int .i64 cl).wf = true) : begT [] i cl = (TL i cl [], 0) ∨ begT [] i cl = ([], 110) ∧ (i.br < 0 ∨ 15 < i.br ∨ cl < 0 ∨ 31 < cl) := by
  by_cases hok : enOk (hZ i cl [])
  · left
    refine add_of false hok (sml_of hok ?_)
    have hn : ∀ n, n < 2 ^ 64 → (numB n).length ≤ 9 := fun n h => by rw [numB_length]; have := wid_le n h; omega
    have a := hn (u64 1) (u64_lt _)
    have b := hn (u64 i.br) (u64_lt _)
    have c := hn i.life hi.2.1
    have d := hn i.ser hi.2.2
    have e := hn (u64 cl) (u64_lt _)
    have f := hn 0 (by decide)
    unfold enB
    simp only [if_true, List.length_append, idB, evsB, List.map_nil, List.flatten_nil, List.length_nil]
    omega
  · right
    have hne : ¬ ((0 ≤ i.br ∧ i.br < 16) ∧ (0 ≤ cl ∧ cl < 32)) := fun h => hok ⟨h.1, h.2, .inl ⟨rfl, rfl, rfl, by simp [hZ], by simp [hZ]⟩⟩
    refine ⟨?_, by omega⟩
    have hE : addE [] (hZ i cl []) = 110 := by
      unfold addE
      have h2 : enE (hZ i cl []) = 110 := by unfold enE; rw [if_neg hok]
      rw [if_neg (by simp [posT]), h2, if_pos (by decide)]
    show addT [] (hZ i cl []) false = _
    unfold addT
    rw [hE, if_neg (by decide)]
/-- an event, read in an elder world -/
def evK (w0 : World) (_ : World) (cs : List Value) (e : List At) : Prop := evR w0 cs e
theorem evK_lasts (w0 : World) : Lasts (evK w0) := fun _ _ _ _ _ h => h
theorem evK_stays (w0 : World) (E : TypeId) : Stays (evK w0) E := fun _ _ _ _ _ _ _ h => h
theorem OM.low {α : Type} {e : α → List Value} {c : Nat} {E : TypeId} {B : Nat} {w w' : World} {v : Value} {l : List α} {row : Option Nat} (h : OM e c E B w v l) (hg : w.grownBy w' row) (hr : ∀ j, row = some j → j < B) : OM e c E B w' v l := by
  refine World.ownsRow.kept h hg ?_
  by_cases hn : v.ownBlock = none
  · exact .inl hn
  · right
    intro he
    obtain ⟨k, hk⟩ := Option.ne_none_iff_exists'.1 hn
    have h1 := hr k (by rw [← hk]; first | exact he | exact he.symm)
    have h2 := (h.lt k hk).1
    omega
theorem TxW.low {B : Nat} {w w' : World} {v : Value} {l : List Tx} {row : Option Nat} (h : TxW B w v l) (hg : w.grownBy w' row) (hr : ∀ j, row = some j → j < B) : TxW B w' v l := by
  obtain ⟨css, h1, h2, h3⟩ := h
  refine ⟨css, h1.low hg hr, h2, fun i cs x a b => ?_⟩
  obtain ⟨fv, ev, q1, q2, es, p1, p2, p3⟩ := h3 i cs x a b
  exact ⟨fv, ev, q1, q2.low hg hr, es, p1.low hg hr, p2, fun j c y s t => by obtain ⟨u, m1, m2⟩ := p3 j c y s t; exact ⟨u, m1, m2.low hg hr⟩⟩
def PB2 (B : Nat) (T : List Tx) (c : Int) (x : Value) (W : World) : Prop := ∃ u, x = .tuple #[u, .int .i64 c] ∧ (∃ a k, u = .slice a 1 k) ∧ TxW B W u T
def PB3 (B : Nat) (T : List Tx) (x : Value) (W : World) : Prop := (∃ a k, x = .slice a 1 k) ∧ TxW B W x T
end PM
theorem PM.chain' {B C : Nat} {x y z : World} (h : Below B x y) (k : Below C y z) (hb : B ≤ C) : Below B x z := h.trans (k.mono hb)
set_option maxRecDepth 100000 in
set_option maxHeartbeats 16000000 in
theorem stageHolds_walkI (i : PM.Id) (hi : i.wf) (cl : Int) (hc : (Lit.int .i64 cl).wf = true) (v : Value) (l : List (List PM.At)) (w : World) (hv0 : PM.EVL w v l) (hw0 : ∀ e ∈ l, ∀ y ∈ e, y.wf) :
    Calls Try.prog 5 #[.agg #[.int .i64 i.br, .int .u64 (i.life : Int), .int .u64 (i.ser : Int)], .int .i64 cl, v] w fun e w' => e = .returned (.bool true) ∧ Below w.heap.size w w' := by
  have hmx := hv0.bound
  unfold maxLen at hmx
  obtain ⟨va, vc, rfl⟩ := hv0.len
  obtain ⟨N, hN0⟩ : ∃ n, n = l.length := ⟨_, rfl⟩
  rw [← hN0] at hv0 hmx ⊢
  have hN := PM.hid hN0
  have hv := PM.hid hv0
  have hws := PM.hid hw0
  clear hN0 hv0 hw0
  obtain ⟨g3, hg3⟩ : ∃ g, g = w.heap.size := ⟨_, rfl⟩
  obtain ⟨w1, hw1⟩ : ∃ W, W = w.alloc (.cells #[.int .i64 i.br, .int .u64 (i.life : Int), .int .u64 (i.ser : Int)] 26) := ⟨_, rfl⟩
  have hbw1 : Below w.heap.size w w1 := by rw [hw1]; exact (Below.refl _ _).alloc (Nat.le_refl _) _
  have k1 : PM.BK w1 g3 #[.int .i64 i.br, .int .u64 (i.life : Int), .int .u64 (i.ser : Int)] 26 := by rw [hw1, hg3]; exact PM.BK.new _ _ _
  have hbeg := PM.hold_beg i cl hi hc
  go_enter Try.func5, Try.ntmps5
  go_upto_region 1 with fail
  rw [← hw1, ← hg3]
  clear hw1 hg3
  go_wp2_with fail
  refine (awake17_any w1).mono ?_
  rintro e w2 ⟨rfl, hb2⟩
  have k2 := k1.keep hb2
  have hB2 := PM.hid (PM.chain hbw1 hb2)
  clear k1 hbw1 hb2
  by_cases h12 : (12 : Int) < (N : Int)
  · go_wp2_with fail
    go_ret
    exact ⟨rfl, hB2.out⟩
  have hN12 : N ≤ 12 := by omega
  have hd12 : decide ((12 : Int) < (N : Int)) = false := by simpa using h12
  have ht := begin_any none 0 0 i cl [] w2 (PM.RR.nil _) PM.s0 hi hc
  have x0 : w2.cell? ⟨g3, 0, none⟩ = some (.int .i64 i.br) := k2.cell 0
  have x1 : w2.cell? ⟨g3, 1, none⟩ = some (.int .u64 (i.life : Int)) := k2.cell 1
  have x2 : w2.cell? ⟨g3, 2, none⟩ = some (.int .u64 (i.ser : Int)) := k2.cell 2
  rcases hbeg with hbe | ⟨hbe, hcond⟩
  case inr =>
    rw [hbe] at ht
    simp only at ht
    clear hi hc hbe
    go_wp2_with fail
    refine ht.mono ?_
    clear ht x0 x1 x2
    rintro e w3 ⟨u, rfl, hu, hb3⟩
    have k3 := k2.keep hb3
    have x0 : w3.cell? ⟨g3, 0, none⟩ = some (.int .i64 i.br) := k3.cell 0
    have hB3 := PM.hid (PM.chain hB2.out hb3)
    obtain ⟨ua, uc, rfl⟩ := hu.rr.len
    clear hu hb3 k2 k3
    have h4 : (i.br < 0) ∨ (¬ i.br < 0 ∧ 15 < i.br) ∨ (¬ i.br < 0 ∧ ¬ 15 < i.br ∧ cl < 0) ∨ (¬ i.br < 0 ∧ ¬ 15 < i.br ∧ ¬ cl < 0 ∧ 31 < cl) := by omega
    clear hcond
    rcases h4 with p | ⟨p, q⟩ | ⟨p, q, r⟩ | ⟨p, q, r, s⟩
    all_goals
      go_wp2_with fail
      go_ret
      exact ⟨by first | rfl | simp, hB3.out⟩
  have hG0 : Hid (PM.Gz (PM.TL i cl [])) := PM.hid (by
    have := PM.Gz.nil.add (z := PM.hZ i cl []) false ⟨by simp [PM.hZ], by simp [PM.hZ], by simp [PM.hZ]⟩ ⟨show (Lit.int .i64 1).wf = true from by decide, hi, hc, show (0 : Nat) < 2 ^ 64 from by decide, by simp [PM.hZ], by simp [PM.hZ]⟩ (fun _ => rfl)
    rw [show PM.addT [] (PM.hZ i cl []) false = (PM.TL i cl [], 0) from hbe] at this
    exact this)
  rw [hbe] at ht
  simp only at ht
  clear hi hc hbe
  go_wp2_with fail
  refine ht.mono ?_
  clear ht x0 x1 x2
  rintro e wS ⟨u, rfl, hu, hb3⟩
  have hk3 := PM.hid (k2.keep hb3)
  have hwS := PM.hid (PM.chain hB2.out hb3)
  obtain ⟨t0, tc0, hue⟩ := hu.rr.len
  replace hue : u = .slice t0 1 tc0 := hue
  subst hue
  have hT0 := PM.hid hu.txl
  clear hu hb3 k2 hB2
  go_wp2_with fail
  go_loopw [8, 10, 11] (fun t wv ix wr => (∃ ta tc, t = .slice ta 1 tc) ∧ (∃ qa qn qc, wv = .slice qa qn qc) ∧ ∃ k : Nat, ix = .int .i64 k ∧ k ≤ N ∧ Hid (∃ want : List (List PM.At), want.length ≤ k ∧ PM.TxL wr t (PM.TL i cl want) ∧ PM.Gz (PM.TL i cl want) ∧ PM.OR (PM.evK w) 1 29 wS.heap.size wr wv want ∧ Below wS.heap.size wS wr)) (fun _ _ ix _ => N - (intOf ix).toNat)
  case atStart => exact ⟨⟨_, _, rfl⟩, ⟨_, _, _, rfl⟩, 0, rfl, by omega, PM.hid ⟨[], by simp, hT0.out, hG0.out, PM.OR.nilrow _, Below.refl _ _⟩⟩
  case round =>
    obtain ⟨⟨ta, tc, rfl⟩, ⟨qa, qn, qc, rfl⟩, k, rfl, hk, hI⟩ := hrel
    obtain ⟨want, hwl0, hTx, hG, hW0, hB⟩ := hI.out
    clear hI
    have hwl := PM.hid (show want.length ≤ 12 by omega)
    have hwk := PM.hid hwl0
    have hqn0 : qn = want.length := by obtain ⟨_, _, h⟩ := hW0.rr.len; injection h
    have hqn := PM.hid hqn0
    have hwr := PM.hid (PM.chain' hwS.out hB hwS.out.size)
    have hkr := PM.hid (hk3.out.keep hB)
    have hBh := PM.hid hB
    have hW := PM.hid hW0
    clear hwl0 hqn0 hW0 hB
    by_cases hlt : k < N
    · obtain ⟨y, hy⟩ : ∃ z, l[k]? = some z := ⟨l[k]'(by rw [← hN.out]; exact hlt), List.getElem?_eq_getElem _⟩
      have hyw := hws.out y (List.mem_of_getElem? hy)
      obtain ⟨b, off, rfl, hce⟩ := PM.RR.opn hv.out (by rw [← hN.out]; omega)
      obtain ⟨cs, hl0, xv, hcs, hev⟩ := hce k y hy
      obtain ⟨xa, xc, rfl⟩ := hev.em.len
      obtain ⟨xn, hxn⟩ : ∃ q, q = y.length := ⟨_, rfl⟩
      rw [← hxn] at hev hcs
      replace hl0 := hl0.keep hwr.out
      rw [hcs] at hl0
      have d0 : wr.cell? ⟨b, off + k, none⟩ = some (.slice xa xn xc) := by have := hl0 0 _ rfl; rwa [Nat.mul_one, Nat.add_zero] at this
      have hfew := few_any (.slice xa xn xc) y wr (hev.keep hwr.out)
      have hd0 := PM.hid d0
      have hyh := PM.hid (And.intro hev hyw)
      have hk1 : (k : Int) < (N : Int) := by omega
      clear hce hl0 hcs cs hy hxn hev hyw
      go_wp2_with fail
      refine hfew.mono ?_
      rintro d w4 ⟨hh, hwe⟩
      rw [hwe]
      clear hwe w4 hfew
      rcases hh with ⟨rfl, hfe⟩ | ⟨rfl, -⟩
      case inr =>
        go_wp2_with fail
        go_ret
        exact ⟨rfl, hwr.out⟩
      have hpub0 := fun (W : World) (hb : Below wr.heap.size wr W) => publish_any ta 1 tc i xa xn xc y (PM.TL i cl want) W (PM.TxL.keep hb hTx) hG.gw.txs ((hyh.out.1.keep (PM.chain hwr.out hb)).em) (by have h9 : y.length ≤ 20 := hfe.1; omega) hyh.out.2
      have hG2h := PM.hid (hG.pub i (show y.length ≤ 1000 by have h9 : y.length ≤ 20 := hfe.1; omega) hyh.out.2)
      have hcase0 := PM.hold_pub i cl want y
      have hcase : Hid (((PM.pubT i (PM.TL i cl want) y).2 = 0 ∧ (PM.pubT i (PM.TL i cl want) y).1 = PM.TL i cl (want ++ [y])) ∨ ((PM.pubT i (PM.TL i cl want) y).1 = PM.TL i cl want ∧ ((PM.pubT i (PM.TL i cl want) y).2 = 40 ∧ PM.chk y = 40 ∨ (PM.pubT i (PM.TL i cl want) y).2 = 171 ∧ ¬ want.length < 8 ∨ (PM.pubT i (PM.TL i cl want) y).2 = 172))) := PM.hid (by
        rcases hcase0 with h | ⟨c, h, hc⟩
        · exact .inl ⟨by rw [h], by rw [h]⟩
        · exact .inr ⟨by rw [h], by rw [h]; exact hc⟩)
      have hT2l : Hid ((PM.pubT i (PM.TL i cl want) y).1.length = 1) := PM.hid (by rcases hcase.out with ⟨_, h⟩ | ⟨h, _⟩ <;> rw [h] <;> rfl)
      have hpub := PM.hid hpub0
      clear hpub0 hcase0 hfe hTx hG
      obtain ⟨T2, hT2e⟩ : ∃ q, q = (PM.pubT i (PM.TL i cl want) y).1 := ⟨_, rfl⟩
      obtain ⟨c2, hc2e⟩ : ∃ q, q = (PM.pubT i (PM.TL i cl want) y).2 := ⟨_, rfl⟩
      rw [← hT2e] at hpub hG2h hcase hT2l
      rw [← hc2e] at hpub hcase
      clear hT2e hc2e
      go_upto_region 16 with fail
      clear d0
      refine PM.wp_region_stK (fun W W' => Below W.heap.size W W') (fun W W' => Below W.heap.size W W') (fun _ => True) (fun _ _ h => h) (fun h => h) (fun h k => PM.chain h k) [some 66, some 67, some 68, some 69, some 70, some 71, some 72, some 65, some 73, some 74, some 13, some 14] [some 66, some 67, some 68, some 69, some 70, some 71, some 72, some 65, some 73, some 74, some 13, some 14] [[], [], [], [], [2, 3], [2, 3, 4], [0, 1, 2, 3, 4, 5], [0, 1, 2, 3, 4, 5, 6], [0, 1, 2, 3, 4, 5, 6, 7], [0, 1, 2, 3, 4, 5, 6, 7], [0, 1, 2, 3, 4, 5, 6, 7, 8], [0, 1, 2, 3, 4, 5, 6, 7, 8, 9, 10]] [false, false, false, false, false, false, false, false, false, false, false, false] [] [([], false), ([], false), ([], false), ([], false), ([2, 3], false), ([4], false), ([0, 1, 5], false), ([6], false), ([7], false), ([7], false), ([8], false), ([9], false)] [10, 11] [fun x _ => x = .slice ta 1 tc, fun x _ => x = .agg #[.int .i64 i.br, .int .u64 (i.life : Int), .int .u64 (i.ser : Int)], fun x _ => x = .slice (some ⟨b, off, none⟩) N vc, fun x _ => x = .int .i64 (k : Int), fun x _ => x = .pointer (some ⟨b, off + k, none⟩), fun x _ => x = .slice xa xn xc, fun x W => PM.PB2 wr.heap.size T2 c2 x W, fun x W => PM.PB2 wr.heap.size T2 c2 x W, fun x W => PM.PB3 wr.heap.size T2 x W, fun x _ => x = .int .i64 c2, fun x W => PM.PB3 wr.heap.size T2 x W, fun x _ => x = .int .i64 c2] (by kernel_rfl) (by kernel_rfl) (by kernel_rfl) (by kernel_rfl) (by kernel_rfl) (by kernel_rfl) (by kernel_rfl) (by kernel_rfl) (by kernel_rfl) ?_ ?_ ?_ ?_ ?_ ?_
      · simp only [List.zip_cons_cons, List.zip_nil_right, List.forall_mem_cons]
        refine ⟨?_, ?_, ?_, ?_, ?_, ?_, ?_, ?_, ?_, ?_, ?_, ?_, by simp⟩
        all_goals (intro hk v W W' h hb; first | exact Bool.noConfusion hk | exact h | exact trivial | (obtain ⟨u, h1, h2, h3⟩ := h; exact ⟨u, h1, h2, PM.TxW.keep hb h3⟩) | exact ⟨h.1, PM.TxW.keep hb h.2⟩)
      · simp only [List.forall_mem_cons]
        refine ⟨?_, ?_, ?_, ?_, ?_, ?_, ?_, ?_, ?_, ?_, ?_, ?_, by simp⟩
        all_goals (intro v W W' h hb; first | exact h | exact trivial | (obtain ⟨u, h1, h2, h3⟩ := h; exact ⟨u, h1, h2, PM.TxW.keep hb h3⟩) | exact ⟨h.1, PM.TxW.keep hb h.2⟩)
      · exact fun _ _ _ _ => trivial
      · exact trivial
      · refine ⟨?_, ?_, ?_, ?_, ?_, ?_, ?_, ?_, ?_, ?_, ?_, ?_, trivial⟩
        all_goals
          intro a W hB hF hd hp
          have k2 := hF 2 rfl
          have k3 := hF 3 rfl
          have k8 := hF 8 rfl
          have k11 := hF 11 rfl
          have kt := hkr.out.keep hB
          have x0 : W.cell? ⟨g3, 0, none⟩ = some (.int .i64 i.br) := kt.cell 0
          have x1 : W.cell? ⟨g3, 1, none⟩ = some (.int .u64 (i.life : Int)) := kt.cell 1
          have x2 : W.cell? ⟨g3, 2, none⟩ = some (.int .u64 (i.ser : Int)) := kt.cell 2
          have d0 : W.cell? ⟨b, off + k, none⟩ = some (.slice xa xn xc) := PM.cellA hB hd0.out
          clear kt
          clear hF
          simp [PM.depsK, PM.spec, PM.sl] at hd hp k2 k3 k8 k11
          simp only [PM.wantL, PM.spec, PM.Spv]
          try simp only [PM.sl]
          go_simp
        all_goals try exact Below.refl _ _
        · refine (hpub.out W hB).mono ?_
          rintro e w' ⟨u, rfl, hu, hb⟩
          obtain ⟨ua, uc, hue⟩ := hu.rr.len
          exact ⟨hb, _, rfl, u, rfl, ⟨ua, uc, by rw [hue, hT2l.out]⟩, PM.TxW.mono hB.size hu⟩
        · first | exact hd | exact hd.1 | exact ⟨Below.refl _ _, hd⟩ | exact ⟨Below.refl _ _, _, rfl, hd⟩ | exact ⟨Below.refl _ _, _, rfl, hd.1⟩ | exact ⟨Below.refl _ _, hd.1⟩
        · obtain ⟨u, he, h2, h3⟩ := (hd : PM.PB2 _ _ _ _ _)
          simp only [he]
          go_simp
          first | exact ⟨Below.refl _ _, _, rfl, h2, h3⟩ | exact ⟨h2, h3⟩ | exact ⟨Below.refl _ _, h2, h3⟩
        · obtain ⟨u, he, h2, h3⟩ := (hd : PM.PB2 _ _ _ _ _)
          simp only [he]
          go_simp
          first | done | exact Below.refl _ _ | exact ⟨Below.refl _ _, rfl⟩ | exact ⟨Below.refl _ _, _, rfl, rfl⟩ | exact rfl
        · first | exact hd | exact hd.1 | exact ⟨Below.refl _ _, hd⟩ | exact ⟨Below.refl _ _, _, rfl, hd⟩ | exact ⟨Below.refl _ _, _, rfl, hd.1⟩ | exact ⟨Below.refl _ _, hd.1⟩
      · intro G W hB hF hS
        simp only [PM.allK, PM.spec] at hS
        simp at hS
        have h13 : PM.PB3 wr.heap.size T2 (G 13) W := hS.1
        have h14 : G 14 = .int .i64 c2 := hS.2
        have k0 := hF 0 rfl
        have k1 := hF 1 rfl
        have k2 := hF 2 rfl
        have k3 := hF 3 rfl
        have k4 := hF 4 rfl
        have k5 := hF 5 rfl
        have k6 := hF 6 rfl
        have k7 := hF 7 rfl
        have k8 := hF 8 rfl
        have k9 := hF 9 rfl
        have k10 := hF 10 rfl
        have k11 := hF 11 rfl
        have k12 := hF 12 rfl
        have k15 := hF 15 rfl
        have k16 := hF 16 rfl
        have k17 := hF 17 rfl
        have k18 := hF 18 rfl
        have k19 := hF 19 rfl
        have k20 := hF 20 rfl
        have k21 := hF 21 rfl
        have k22 := hF 22 rfl
        have k23 := hF 23 rfl
        have k24 := hF 24 rfl
        have k25 := hF 25 rfl
        have k26 := hF 26 rfl
        have k27 := hF 27 rfl
        have k28 := hF 28 rfl
        have k29 := hF 29 rfl
        have k30 := hF 30 rfl
        have k31 := hF 31 rfl
        have k32 := hF 32 rfl
        have k33 := hF 33 rfl
        have k34 := hF 34 rfl
        have k35 := hF 35 rfl
        have k36 := hF 36 rfl
        have k37 := hF 37 rfl
        have k38 := hF 38 rfl
        have k39 := hF 39 rfl
        have k40 := hF 40 rfl
        have k41 := hF 41 rfl
        have k42 := hF 42 rfl
        have k43 := hF 43 rfl
        have k44 := hF 44 rfl
        have k45 := hF 45 rfl
        have k46 := hF 46 rfl
        have k47 := hF 47 rfl
        have k48 := hF 48 rfl
        have k49 := hF 49 rfl
        have k50 := hF 50 rfl
        have k51 := hF 51 rfl
        have k52 := hF 52 rfl
        have k53 := hF 53 rfl
        have k54 := hF 54 rfl
        have k55 := hF 55 rfl
        have k56 := hF 56 rfl
        have k57 := hF 57 rfl
        have k58 := hF 58 rfl
        have k59 := hF 59 rfl
        have k60 := hF 60 rfl
        have k61 := hF 61 rfl
        have k62 := hF 62 rfl
        have k63 := hF 63 rfl
        have k64 := hF 64 rfl
        have k75 := hF 75 rfl
        have k76 := hF 76 rfl
        have k77 := hF 77 rfl
        have k78 := hF 78 rfl
        have k79 := hF 79 rfl
        have k80 := hF 80 rfl
        have k81 := hF 81 rfl
        have k82 := hF 82 rfl
        have k83 := hF 83 rfl
        have k84 := hF 84 rfl
        have k85 := hF 85 rfl
        have k86 := hF 86 rfl
        have k87 := hF 87 rfl
        have k88 := hF 88 rfl
        have k89 := hF 89 rfl
        have k90 := hF 90 rfl
        have k91 := hF 91 rfl
        have k92 := hF 92 rfl
        have k93 := hF 93 rfl
        have k94 := hF 94 rfl
        have k95 := hF 95 rfl
        have k96 := hF 96 rfl
        have k97 := hF 97 rfl
        have k98 := hF 98 rfl
        have k99 := hF 99 rfl
        have k100 := hF 100 rfl
        have k101 := hF 101 rfl
        have k102 := hF 102 rfl
        have k103 := hF 103 rfl
        have k104 := hF 104 rfl
        have k105 := hF 105 rfl
        have k106 := hF 106 rfl
        have k107 := hF 107 rfl
        have k108 := hF 108 rfl
        have k109 := hF 109 rfl
        have k110 := hF 110 rfl
        have k111 := hF 111 rfl
        have k112 := hF 112 rfl
        have k113 := hF 113 rfl
        have k114 := hF 114 rfl
        have k115 := hF 115 rfl
        have k116 := hF 116 rfl
        have k117 := hF 117 rfl
        have k118 := hF 118 rfl
        have k119 := hF 119 rfl
        have k120 := hF 120 rfl
        have k121 := hF 121 rfl
        have k122 := hF 122 rfl
        have k123 := hF 123 rfl
        have k124 := hF 124 rfl
        have k125 := hF 125 rfl
        simp [PM.sl] at k0 k1 k2 k3 k4 k5 k6 k7 k8 k9 k10 k11 k12 k15 k16 k17 k18 k19 k20 k21 k22 k23 k24 k25 k26 k27 k28 k29 k30 k31 k32 k33 k34 k35 k36 k37 k38 k39 k40 k41 k42 k43 k44 k45 k46 k47 k48 k49 k50 k51 k52 k53 k54 k55 k56 k57 k58 k59 k60 k61 k62 k63 k64 k75 k76 k77 k78 k79 k80 k81 k82 k83 k84 k85 k86 k87 k88 k89 k90 k91 k92 k93 k94 k95 k96 k97 k98 k99 k100 k101 k102 k103 k104 k105 k106 k107 k108 k109 k110 k111 k112 k113 k114 k115 k116 k117 k118 k119 k120 k121 k122 k123 k124 k125
        rw [show ((List.range (Array.size _)).map G).toArray = #[G 0, G 1, G 2, G 3, G 4, G 5, G 6, G 7, G 8, G 9, G 10, G 11, G 12, G 13, G 14, G 15, G 16, G 17, G 18, G 19, G 20, G 21, G 22, G 23, G 24, G 25, G 26, G 27, G 28, G 29, G 30, G 31, G 32, G 33, G 34, G 35, G 36, G 37, G 38, G 39, G 40, G 41, G 42, G 43, G 44, G 45, G 46, G 47, G 48, G 49, G 50, G 51, G 52, G 53, G 54, G 55, G 56, G 57, G 58, G 59, G 60, G 61, G 62, G 63, G 64, G 65, G 66, G 67, G 68, G 69, G 70, G 71, G 72, G 73, G 74, G 75, G 76, G 77, G 78, G 79, G 80, G 81, G 82, G 83, G 84, G 85, G 86, G 87, G 88, G 89, G 90, G 91, G 92, G 93, G 94, G 95, G 96, G 97, G 98, G 99, G 100, G 101, G 102, G 103, G 104, G 105, G 106, G 107, G 108, G 109, G 110, G 111, G 112, G 113, G 114, G 115, G 116, G 117, G 118, G 119, G 120, G 121, G 122, G 123, G 124, G 125] from rfl]
        clear hF hS
        obtain ⟨⟨pa, pc, h13e⟩, h13t⟩ := h13
        rw [h13e] at h13t
        rw [h13e, h14, k0, k1, k2, k3, k4, k5, k6, k7, k8, k9, k10, k11, k12, k15, k16, k17, k18, k19, k20, k21, k22, k23, k24, k25, k26, k27, k28, k29, k30, k31, k32, k33, k34, k35, k36, k37, k38, k39, k40, k41, k42, k43, k44, k45, k46, k47, k48, k49, k50, k51, k52, k53, k54, k55, k56, k57, k58, k59, k60, k61, k62, k63, k64, k75, k76, k77, k78, k79, k80, k81, k82, k83, k84, k85, k86, k87, k88, k89, k90, k91, k92, k93, k94, k95, k96, k97, k98, k99, k100, k101, k102, k103, k104, k105, k106, k107, k108, k109, k110, k111, k112, k113, k114, k115, k116, k117, k118, k119, k120, k121, k122, k123, k124, k125]
        clear h13e h14 k0 k1 k2 k3 k4 k5 k6 k7 k8 k9 k10 k11 k12 k15 k16 k17 k18 k19 k20 k21 k22 k23 k24 k25 k26 k27 k28 k29 k30 k31 k32 k33 k34 k35 k36 k37 k38 k39 k40 k41 k42 k43 k44 k45 k46 k47 k48 k49 k50 k51 k52 k53 k54 k55 k56 k57 k58 k59 k60 k61 k62 k63 k64 k75 k76 k77 k78 k79 k80 k81 k82 k83 k84 k85 k86 k87 k88 k89 k90 k91 k92 k93 k94 k95 k96 k97 k98 k99 k100 k101 k102 k103 k104 k105 k106 k107 k108 k109 k110 k111 k112 k113 k114 k115 k116 k117 k118 k119 k120 k121 k122 k123 k124 k125
        have hBn := PM.hid (PM.chain' hBh.out hB hBh.out.size)
        have hrw := PM.OR.keep (PM.evK_lasts w) hB hW.out
        have hG2 := hG2h.out
        have d0 : W.cell? ⟨b, off + k, none⟩ = some (.slice xa xn xc) := PM.cellA hB hd0.out
        rcases hcase.out with ⟨rfl, hT⟩ | ⟨hT, hcc⟩
        · rw [hT] at h13t hG2
          have hsz : wS.heap.size ≤ W.heap.size := hBn.out.size
          have hl16 : (want.length + 1) * 24 ≤ 140737488355328 := by have := hwl.out; omega
          have hl17 : want.length + 1 ≤ maxLen := by have := hwl.out; unfold maxLen; omega
          have hRy : PM.evK w W [.slice xa xn xc] y := ⟨_, rfl, hyh.out.1⟩
          have hlow : ∀ j, (Value.slice qa qn qc).ownBlock = some j → j < wr.heap.size := fun j hj => by obtain ⟨css, q, _⟩ := hW.out; exact (q.lt j hj).2
          have hTt := PM.hid (And.intro h13t (And.intro hG2 hlow))
          have hrwh := PM.hid hrw
          clear hB h13t hG2 hlow
          go_wp2_with (at_builtin; go_loud (refine PM.wpList_or1 tyEvO (PM.evK_stays w _) (PM.evK_lasts w) wS.heap.size W rfl _ _ rfl _ want y (PM.ce1 (.slice xa xn xc) rfl) _ rfl rfl rfl rfl hRy hrw hl16 hl17 hsz ?_); intro v' w' t1 t2 t3; have hE := PM.hid (And.intro t1 (And.intro t2 t3)); clear t1 t2 t3)
          have hnew : Hid (∃ want : List (List PM.At), want.length ≤ (k + 1) ∧ PM.TxL w' (.slice pa 1 pc) (PM.TL i cl want) ∧ PM.Gz (PM.TL i cl want) ∧ PM.OR (PM.evK w) 1 29 wS.heap.size w' v' want ∧ Below wS.heap.size wS w') := PM.hid ⟨want ++ [y], by have := hwk.out; rw [List.length_append, List.length_singleton]; omega, (PM.TxW.low hTt.out.1 hE.out.2.2 hTt.out.2.2).txl, hTt.out.2.1, hE.out.1, hBn.out.grown hE.out.2.2 hBn.out.size (fun j hj => by obtain ⟨css, q, _⟩ := hrwh.out; exact (q.lt j hj).1)⟩
          obtain ⟨ra2, rc2, hre2⟩ := hE.out.1.rr.len
          subst hre2
          exact ⟨⟨⟨_, _, rfl⟩, ⟨_, _, _, rfl⟩, k + 1, by go_num, by omega, hnew⟩, by simp only [intOf]; omega⟩
        · rw [hT] at h13t hG2
          have hnew : Hid (∃ want : List (List PM.At), want.length ≤ (k + 1) ∧ PM.TxL W (.slice pa 1 pc) (PM.TL i cl want) ∧ PM.Gz (PM.TL i cl want) ∧ PM.OR (PM.evK w) 1 29 wS.heap.size W (.slice qa qn qc) want ∧ Below wS.heap.size wS W) := PM.hid ⟨want, by have := hwk.out; omega, h13t.txl, hG2, hrw, hBn.out⟩
          clear h13t hG2 hrw
          rcases hcc with ⟨rfl, hck⟩ | ⟨rfl, hw8⟩ | rfl
          · have ht := echeck_any (.slice xa xn xc) y W (hyh.out.1.keep (PM.chain hwr.out hB))
            rw [hck] at ht
            clear hB
            go_wp2_with fail
            refine ht.mono ?_
            rintro d w5 ⟨rfl, hb5⟩
            replace hnew : Hid (∃ want : List (List PM.At), want.length ≤ (k + 1) ∧ PM.TxL w5 (.slice pa 1 pc) (PM.TL i cl want) ∧ PM.Gz (PM.TL i cl want) ∧ PM.OR (PM.evK w) 1 29 wS.heap.size w5 (.slice qa qn qc) want ∧ Below wS.heap.size wS w5) := PM.hid (by obtain ⟨want, a1, a2, a3, a4, a5⟩ := hnew.out; exact ⟨want, a1, PM.TxL.keep hb5 a2, a3, PM.OR.keep (PM.evK_lasts w) hb5 a4, PM.chain a5 hb5⟩)
            clear hb5 ht d0
            go_wp2_with fail
            exact ⟨⟨⟨_, _, rfl⟩, ⟨_, _, _, rfl⟩, k + 1, by go_num, by omega, hnew⟩, by simp only [intOf]; omega⟩
          · have q8 : ¬ (qn : Int) < 8 := by have := hqn.out; omega
            have q8' : decide ((qn : Int) < 8) = false := by simpa using q8
            clear hB d0
            go_wp2_with fail
            exact ⟨⟨⟨_, _, rfl⟩, ⟨_, _, _, rfl⟩, k + 1, by go_num, by omega, hnew⟩, by simp only [intOf]; omega⟩
          · clear hB d0
            go_wp2_with fail
            exact ⟨⟨⟨_, _, rfl⟩, ⟨_, _, _, rfl⟩, k + 1, by go_num, by omega, hnew⟩, by simp only [intOf]; omega⟩
    · obtain rfl : N = k := by omega
      have ht := find_any ta 1 tc i (PM.TL i cl want) wr hTx hG.gw.txs
      rw [PM.findTL] at ht
      simp only [Option.isSome, Option.getD] at ht
      have hzw := PM.hid ((hG.gw.2 ⟨PM.hZ i cl want, false⟩ (by simp [PM.TL])).2)
      have x0 : wr.cell? ⟨g3, 0, none⟩ = some (.int .i64 i.br) := hkr.out.cell 0
      have x1 : wr.cell? ⟨g3, 1, none⟩ = some (.int .u64 (i.life : Int)) := hkr.out.cell 1
      have x2 : wr.cell? ⟨g3, 2, none⟩ = some (.int .u64 (i.ser : Int)) := hkr.out.cell 2
      clear hTx hG
      go_wp2_with fail
      refine ht.mono ?_
      clear ht x0 x1 x2
      rintro e w5 ⟨cs, rfl, ⟨fv, ev', rfl, hf1, hf2⟩, hb5⟩
      have hT1 := hf1.em PM.teL_len
      have hT2 := PM.evOr_evl hf2
      obtain ⟨pa, pc, hpe⟩ := hT1.len
      obtain ⟨pe, pd, hqe⟩ := hT2.len
      replace hpe : fv = .slice pa 0 pc := hpe
      replace hqe : ev' = .slice pe qn pd := by rw [hqn.out]; exact hqe
      subst hpe hqe
      rw [show (PM.txC (⟨PM.hZ i cl want, false⟩ : PM.Tx) (.slice pa 0 pc) (.slice pe qn pd)).toArray = #[.int .i64 1, .int .i64 i.br, .int .u64 (i.life : Int), .int .u64 (i.ser : Int), .int .i64 cl, .int .u64 0, .slice pa 0 pc, .slice pe qn pd, .bool false] from rfl]
      have k5 := hkr.out.keep hb5
      have hB5 := PM.chain hwr.out hb5
      have hW5 := PM.OR.keep (PM.evK_lasts w) hb5 hW.out
      clear hf1 hf2 hb5
      go_upto_region 23 with fail
      obtain ⟨gf, hgf⟩ : ∃ g, g = w5.heap.size := ⟨_, rfl⟩
      obtain ⟨w6, hw6⟩ : ∃ W, W = w5.alloc (.cells #[.int .i64 1, .int .i64 i.br, .int .u64 (i.life : Int), .int .u64 (i.ser : Int), .int .i64 cl, .int .u64 0, .slice pa 0 pc, .slice pe qn pd, .bool false] 39) := ⟨_, rfl⟩
      have hbw6 : Below w5.heap.size w5 w6 := by rw [hw6]; exact (Below.refl _ _).alloc (Nat.le_refl _) _
      have kf : PM.BK w6 gf #[.int .i64 1, .int .i64 i.br, .int .u64 (i.life : Int), .int .u64 (i.ser : Int), .int .i64 cl, .int .u64 0, .slice pa 0 pc, .slice pe qn pd, .bool false] 39 := by rw [hw6, hgf]; exact PM.BK.new _ _ _
      rw [← hw6, ← hgf]
      clear hw6 hgf
      have hB6 := PM.chain hB5 hbw6
      have hW6 : PM.EVL w6 (.slice qa qn qc) want := PM.RR.imp (PM.OR.keep (PM.evK_lasts w) hbw6 hW5).rr fun cs x h => PM.evR_lasts _ _ _ _ hB6 h
      have ht2 := same11_any (PM.hZ i cl want) (PM.hZ i cl want) (.slice pa 0 pc) (.slice pe qn pd) (.slice none 0 0) (.slice qa qn qc) w6 hzw.out hzw.out (hT1.keep hbw6) (PM.EVL.keepO hbw6 hT2) (PM.EM.nil _) hW6
      change Calls _ _ #[.agg #[.int .i64 1, .int .i64 i.br, .int .u64 (i.life : Int), .int .u64 (i.ser : Int), .int .i64 cl, .int .u64 0, .slice pa 0 pc, .slice pe qn pd], .agg #[.int .i64 1, .int .i64 i.br, .int .u64 (i.life : Int), .int .u64 (i.ser : Int), .int .i64 cl, .int .u64 0, .slice none 0 0, .slice qa qn qc]] _ _ at ht2
      have k6 := k5.keep hbw6
      have x0 : w6.cell? ⟨g3, 0, none⟩ = some (.int .i64 i.br) := k6.cell 0
      have x1 : w6.cell? ⟨g3, 1, none⟩ = some (.int .u64 (i.life : Int)) := k6.cell 1
      have x2 : w6.cell? ⟨g3, 2, none⟩ = some (.int .u64 (i.ser : Int)) := k6.cell 2
      have f0 : w6.cell? ⟨gf, 0, none⟩ = some (.int .i64 1) := kf.cell 0
      have f1 : w6.cell? ⟨gf, 1, none⟩ = some (.int .i64 i.br) := kf.cell 1
      have f2 : w6.cell? ⟨gf, 2, none⟩ = some (.int .u64 (i.life : Int)) := kf.cell 2
      have f3 : w6.cell? ⟨gf, 3, none⟩ = some (.int .u64 (i.ser : Int)) := kf.cell 3
      have f4 : w6.cell? ⟨gf, 4, none⟩ = some (.int .i64 cl) := kf.cell 4
      have f5 : w6.cell? ⟨gf, 5, none⟩ = some (.int .u64 0) := kf.cell 5
      have f6 : w6.cell? ⟨gf, 6, none⟩ = some (.slice pa 0 pc) := kf.cell 6
      have f7 : w6.cell? ⟨gf, 7, none⟩ = some (.slice pe qn pd) := kf.cell 7
      have f8 : w6.cell? ⟨gf, 8, none⟩ = some (.bool false) := kf.cell 8
      have hB6h := PM.hid hB6
      clear hT1 hT2 hW5 hW6 hB5 hB6 hbw6 k5 k6
      go_wp2_with fail
      refine ht2.mono ?_
      clear ht2 x0 x1 x2 f0 f1 f2 f3 f4 f5 f6 f7 f8
      rintro e w7 ⟨hh, hb7⟩
      have f8 : w7.cell? ⟨gf, 8, none⟩ = some (.bool false) := (kf.keep hb7).cell 8
      have hend := PM.hid (PM.chain hB6h.out hb7)
      clear hb7 kf
      rcases hh with ⟨rfl, -⟩ | ⟨-, hno⟩
      case inr => first | exact (hno rfl).elim | exact (hno trivial).elim
      go_wp2_with fail
      go_ret
      exact ⟨by first | rfl | simp, hend.out⟩
theorem stageHolds_walk (a b s : Int) (cl : Int) (v : Value) (l : List (List PM.At)) (wa : (Lit.int .i64 a).wf = true) (xb : (Lit.int .u64 b).wf = true) (zs : (Lit.int .u64 s).wf = true) (hc : (Lit.int .i64 cl).wf = true) (w : World) (hv0 : PM.EVL w v l) (hw0 : ∀ e ∈ l, ∀ y ∈ e, y.wf) :
    Calls Try.prog 5 #[.agg #[.int .i64 a, .int .u64 b, .int .u64 s], .int .i64 cl, v] w fun e w' => e = .returned (.bool true) ∧ Below w.heap.size w w' := by
  obtain ⟨bn, rfl, hb⟩ := PM.nat_u64 xb
  obtain ⟨sn, rfl, hs⟩ := PM.nat_u64 zs
  exact stageHolds_walkI ⟨a, bn, sn⟩ ⟨wa, hb, hs⟩ cl hc v l w hv0 hw0
end Go.Proofs.Ytnjcociidipogaa
