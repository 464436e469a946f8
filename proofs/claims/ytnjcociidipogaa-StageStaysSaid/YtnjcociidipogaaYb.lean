/-
  CONTRACTS of stage.open, unless, first, small, add, Begin, Ask. (Written by tools/mk_xb.py.)
-/
import Derived.Test.YtnjcociidipogaaYa
import Derived.Test.YtnjcociidipogaaJB
namespace Go.Proofs.Ytnjcociidipogaa
open Go.RowKit
set_option linter.unusedVariables false
set_option linter.unusedSimpArgs false
namespace PM
/-- where the transaction of an ID stands that is open -/
def askAt (l : List Tx) (j : Int) : Bool := match l[j.toNat]? with | some x => x.ask | none => false
def openT (i : Id) (l : List Tx) : Int := if (decide (0 ≤ posT i l) && askAt l (posT i l)) = true then -1 else posT i l
def unls (q : Bool) (n : Int) : Int := if q = true then 0 else n
open Classical in
noncomputable def smlT (z : En) : Bool := decide ((if enOk z then enB z else []).length ≤ 3000)
def fnV (x : Nat × Array Value) : Value := .func (.func x.1) #[] x.2
/-- why an entry may not be added -/
noncomputable def addE (l : List Tx) (z : En) : Int := if ¬ posT z.id l < 0 then 170 else if ¬ enE z = 0 then enE z else if ¬ l.length < 8 then 171 else if ¬ smlT z = true then 172 else 0
noncomputable def addT (l : List Tx) (z : En) (q : Bool) : List Tx × Int := if addE l z = 0 then (l ++ [⟨z, q⟩], 0) else (l, addE l z)
noncomputable def begT (l : List Tx) (i : Id) (cl : Int) : List Tx × Int := addT l ⟨1, i, cl, 0, [], []⟩ false
theorem posT_cases (i : Id) (l : List Tx) : posT i l = -1 ∧ (∀ (j : Nat) (x : Tx), l[j]? = some x → isT i x = false) ∨ ∃ (k : Nat) (x : Tx), posT i l = (k : Int) ∧ l[k]? = some x ∧ isT i x = true ∧ ∀ (j : Nat) (y : Tx), j < k → l[j]? = some y → isT i y = false := posT_at i l
/-- what some checks, one behind the other, tell -/
def Firsts (n : Nat) (cd : Nat → Int) (c : Int) : Prop := (c = 0 ∧ ∀ j, j < n → cd j = 0) ∨ ∃ k, k < n ∧ c = cd k ∧ c ≠ 0 ∧ ∀ j, j < k → cd j = 0
end PM
theorem PM.enterF {P : Program} {f : FuncId} {fn : Func} {c : Code} (hf : P.funcs[f]? = some fn) (hname : (fn.name == "runtime.NumGoroutine") = false) (hb : fn.body = some c) (args : Array Value) (w : World) : (callFunc f args).run P w = .ok (.enter f args) w := by
  have h1 : fn.name ≠ "runtime.NumGoroutine" := by simpa using hname
  simp [callFunc, hf, h1, hb]
set_option maxHeartbeats 1000000 in
theorem first_any (cs : List (Nat × Array Value)) (N b cap : Nat) (hN : N = cs.length) (J : Nat → World → Prop) (K : Int → World → Prop) (w : World) (hn : N ≤ 4) (hin : ∀ (k : Nat) (x : Nat × Array Value), cs[k]? = some x → ∀ W, (callFunc x.1 x.2).run Try.prog W = .ok (.enter x.1 x.2) W)
    (hcell : ∀ k x W, cs[k]? = some x → J k W → W.cell? ⟨b, k, none⟩ = some (PM.fnV x))
    (hcall : ∀ k x W, cs[k]? = some x → J k W → Calls Try.prog x.1 x.2 W fun e W' => ∃ c, e = .returned (.int .i64 c) ∧ (c = 0 → J (k + 1) W') ∧ (c ≠ 0 → K c W')) (h0 : J 0 w) :
    Calls Try.prog 39 #[.slice (some ⟨b, 0, none⟩) N cap] w fun e w' => ∃ c, e = .returned (.int .i64 c) ∧ (c = 0 ∧ J N w' ∨ c ≠ 0 ∧ K c w') := by
  have hNh := PM.hid hN
  have hch := PM.hid hcall
  have hlh := PM.hid hcell
  have hJ0 := PM.hid h0
  have hih := PM.hid hin
  clear hN hcall hcell h0 hin
  go_enter Try.func39, Try.ntmps39
  go_wp2_with fail
  go_step3
  go_wp2_with fail
  go_step3
  go_wp2_with fail
  go_loopw [3, 8] (fun a i wr => a = .int .i64 0 ∧ ∃ k : Nat, i = .int .i64 k ∧ k ≤ N ∧ Hid (J k wr)) (fun _ i _ => N - (intOf i).toNat)
  case atStart => exact ⟨rfl, 0, rfl, by omega, hJ0⟩
  case round =>
    obtain ⟨rfl, k, rfl, hk, hJ⟩ := hrel
    by_cases hlt : k < N
    · obtain ⟨x, hx⟩ : ∃ z, cs[k]? = some z := ⟨cs[k]'(by rw [← hNh.out]; exact hlt), List.getElem?_eq_getElem _⟩
      have hc := hlh.out k x wr hx hJ.out
      have ht := hch.out k x wr hx hJ.out
      have hent := hih.out k x hx
      obtain ⟨f, cp⟩ := x
      simp only [PM.fnV] at hc ht hent
      have d0 : wr.cell? ⟨b, 0 + k, none⟩ = some (.func (.func f) #[] cp) := by rw [Nat.zero_add]; exact hc
      clear hx
      go_wp2_with fail
      refine ht.mono ?_
      rintro e w2 ⟨c, rfl, h1, h2⟩
      clear ht d0 hc hent
      by_cases h0 : c = 0
      · subst h0
        have hn2 := PM.hid (h1 rfl)
        clear h1 h2 hJ
        go_wp2_with fail
        exact ⟨⟨rfl, k + 1, by go_num, by omega, hn2⟩, by simp only [intOf]; omega⟩
      · have hn2 := PM.hid (h2 h0)
        have q1 : (c != 0) = true := by simp; exact h0
        have h0h := PM.hid h0
        clear h1 h2 hJ h0
        go_wp2_with fail
        try rw [Exit.noGoto_ret]
        go_ret
        exact ⟨c, rfl, .inr ⟨h0h.out, hn2.out⟩⟩
    · obtain rfl : N = k := by omega
      go_wp2_with fail
      try rw [Exit.noGoto_ret]
      go_ret
      exact ⟨0, rfl, .inl ⟨rfl, hJ.out⟩⟩
theorem first_pure (cs : List (Nat × Array Value)) (N b cap : Nat) (hN : N = cs.length) (cd : Nat → Int) (w : World) (hn : N ≤ 4) (hin : ∀ (k : Nat) (x : Nat × Array Value), cs[k]? = some x → ∀ W, (callFunc x.1 x.2).run Try.prog W = .ok (.enter x.1 x.2) W)
    (hcell : ∀ k x, cs[k]? = some x → w.cell? ⟨b, k, none⟩ = some (PM.fnV x))
    (hcall : ∀ k x W, cs[k]? = some x → Below w.heap.size w W → Calls Try.prog x.1 x.2 W fun e W' => e = .returned (.int .i64 (cd k)) ∧ Below W.heap.size W W') :
    Calls Try.prog 39 #[.slice (some ⟨b, 0, none⟩) N cap] w fun e w' => ∃ c, e = .returned (.int .i64 c) ∧ PM.Firsts N cd c ∧ Below w.heap.size w w' := by
  refine (first_any cs N b cap hN (fun k W => Below w.heap.size w W ∧ ∀ j, j < k → cd j = 0) (fun c W => Below w.heap.size w W ∧ ∃ k, k < N ∧ c = cd k ∧ c ≠ 0 ∧ ∀ j, j < k → cd j = 0) w hn hin (fun k x W hx hJ => PM.cellA hJ.1 (hcell k x hx)) (fun k x W hx hJ => ?_) ⟨Below.refl _ _, fun j hj => absurd hj (by omega)⟩).mono ?_
  · refine (hcall k x W hx hJ.1).mono ?_
    rintro e W' ⟨rfl, hb⟩
    have hk : k < N := by rw [hN]; exact (List.getElem?_eq_some_iff.1 hx).1
    refine ⟨cd k, rfl, fun h => ⟨PM.chain hJ.1 hb, fun j hj => ?_⟩, fun h => ⟨PM.chain hJ.1 hb, k, hk, rfl, h, hJ.2⟩⟩
    by_cases hjk : j < k
    · exact hJ.2 j hjk
    · obtain rfl : j = k := by omega
      exact h
  · rintro e W' ⟨c, rfl, h⟩
    rcases h with ⟨rfl, hb, h⟩ | ⟨hc, hb, h⟩
    · exact ⟨0, rfl, .inl ⟨rfl, h⟩, hb⟩
    · exact ⟨c, rfl, .inr h, hb⟩
theorem unless_any (q : Bool) (n : Int) (w : World) : Calls Try.prog 41 #[.bool q, .int .i64 n] w fun e w' => e = .returned (.int .i64 (PM.unls q n)) ∧ Below w.heap.size w w' := by
  cases q
  all_goals
    go_enter Try.func41, Try.ntmps41
    go_wp2_with fail
    go_ret
    exact ⟨rfl, Below.refl _ _⟩
set_option maxHeartbeats 1000000 in
theorem open_any (v : Value) (i : PM.Id) (l : List PM.Tx) (w : World) (hv : PM.TxL w v l) :
    Calls Try.prog 38 #[v, .agg #[.int .i64 i.br, .int .u64 (i.life : Int), .int .u64 (i.ser : Int)]] w fun e w' => e = .returned (.int .i64 (PM.openT i l)) ∧ Below w.heap.size w w' := by
  obtain ⟨g, hg⟩ : ∃ g, g = w.heap.size := ⟨_, rfl⟩
  obtain ⟨w1, hw1⟩ : ∃ W, W = w.alloc (.cells #[.int .i64 i.br, .int .u64 (i.life : Int), .int .u64 (i.ser : Int)] 26) := ⟨_, rfl⟩
  have hal : Below w.heap.size w w1 := by rw [hw1]; exact (Below.refl _ _).alloc (Nat.le_refl _) _
  have kg : PM.BK w1 g #[.int .i64 i.br, .int .u64 (i.life : Int), .int .u64 (i.ser : Int)] 26 := by rw [hw1, hg]; exact PM.BK.new _ _ _
  have ht := at_any v i l w1 (PM.TxL.keep hal hv)
  obtain ⟨va, vc, hve⟩ := hv.len
  obtain ⟨N, hN⟩ : ∃ N, N = l.length := ⟨_, rfl⟩
  rw [← hN] at hve
  have hNh := PM.hid hN
  have hO : Hid (PM.openT i l = if (decide (0 ≤ PM.posT i l) && PM.askAt l (PM.posT i l)) = true then -1 else PM.posT i l) := PM.hid rfl
  have hcs := PM.posT_cases i l
  have hvh := PM.hid hv
  have hbB := PM.hid hal
  obtain ⟨O, hOO⟩ : ∃ O, O = PM.openT i l := ⟨_, rfl⟩
  rw [← hOO] at hO ⊢
  obtain ⟨P, hP⟩ : ∃ P, P = PM.posT i l := ⟨_, rfl⟩
  rw [← hP] at hO hcs ht
  clear hOO hN hal hP hv
  subst hve
  obtain ⟨ib, il, ir⟩ := i
  simp only at kg hw1 ht
  have x0 : w1.cell? ⟨g, 0, none⟩ = some (.int .i64 ib) := kg.cell 0
  have x1 : w1.cell? ⟨g, 1, none⟩ = some (.int .u64 (il : Int)) := kg.cell 1
  have x2 : w1.cell? ⟨g, 2, none⟩ = some (.int .u64 (ir : Int)) := kg.cell 2
  clear kg
  go_enter Try.func38, Try.ntmps38
  go_upto_region 1 with fail
  rw [← hw1, ← hg]
  clear hw1 hg
  go_wp2_with fail
  refine ht.mono ?_
  rintro e w2 ⟨rfl, hB⟩
  replace hbB := PM.hid (PM.chain hbB.out hB)
  clear hB ht x0 x1 x2
  rcases hcs with ⟨rfl, -⟩ | ⟨k, y, rfl, hz, -, -⟩
  · have hO2 : Hid (O = -1) := PM.hid (by rw [hO.out]; simp)
    clear hO
    go_wp2_with fail
    go_ret
    exact ⟨by rw [hO2.out]; rfl, hbB.out⟩
  · obtain ⟨b, off, rfl, hce⟩ := PM.RR.opn hvh.out (by have := (List.getElem?_eq_some_iff.1 hz).1; omega)
    have hlt : k < N := by rw [hNh.out]; exact (List.getElem?_eq_some_iff.1 hz).1
    have hmx := hvh.out.bound
    unfold maxLen at hmx
    rw [← hNh.out] at hmx
    obtain ⟨cs, hl0, hR⟩ := hce k y hz
    obtain ⟨fa, fc, ea, ec, hcs, -, -⟩ := PM.txR_open hR
    replace hl0 := hl0.keep hbB.out
    rw [hcs] at hl0
    have d8 : w2.cell? ⟨b, off + k * 9 + 8, none⟩ = some (.bool y.ask) := hl0 8 _ rfl
    have hO2 : Hid (O = if y.ask = true then -1 else (k : Int)) := PM.hid (by rw [hO.out]; unfold PM.askAt; simp only [Int.toNat_natCast, hz]; cases y.ask <;> simp)
    have q0 : (k : Int) ≥ 0 := by omega
    have q0' : decide ((0 : Int) ≤ (k : Int)) = true := by simp
    clear hO hz hce hl0 hR hcs cs
    cases hq : y.ask
    · rw [hq] at d8 hO2
      go_wp2_with fail
      go_ret
      exact ⟨by rw [hO2.out]; rfl, hbB.out⟩
    · rw [hq] at d8 hO2
      go_wp2_with fail
      go_ret
      exact ⟨by rw [hO2.out]; rfl, hbB.out⟩
set_option maxHeartbeats 1000000 in
theorem small17_any (z : PM.En) (fa : Option Addr) (zF fc : Nat) (ea : Option Addr) (zE ec : Nat) (w : World) (hx : z.wf) (hzF : zF = z.fil.length) (hzE : zE = z.evs.length) (hf : PM.TV w (.slice fa zF fc) z.fil) (he : PM.EVL w (.slice ea zE ec) z.evs) :
    Calls Try.prog 47 #[.agg #[.int .i64 z.kind, .int .i64 z.id.br, .int .u64 (z.id.life : Int), .int .u64 (z.id.ser : Int), .int .i64 z.client, .int .u64 (z.sub : Int), .slice fa zF fc, .slice ea zE ec]] w fun e w' => e = .returned (.bool (PM.smlT z)) ∧ Below w.heap.size w w' := by
  obtain ⟨g, hg⟩ : ∃ g, g = w.heap.size := ⟨_, rfl⟩
  obtain ⟨w1, hw1⟩ : ∃ W, W = w.alloc (.cells #[.int .i64 z.kind, .int .i64 z.id.br, .int .u64 (z.id.life : Int), .int .u64 (z.id.ser : Int), .int .i64 z.client, .int .u64 (z.sub : Int), .slice fa zF fc, .slice ea zE ec] 34) := ⟨_, rfl⟩
  have hbw1 : Below w.heap.size w w1 := by rw [hw1]; exact (Below.refl _ _).alloc (Nat.le_refl _) _
  have k1 : PM.BK w1 g #[.int .i64 z.kind, .int .i64 z.id.br, .int .u64 (z.id.life : Int), .int .u64 (z.id.ser : Int), .int .i64 z.client, .int .u64 (z.sub : Int), .slice fa zF fc, .slice ea zE ec] 34 := by rw [hw1, hg]; exact PM.BK.new _ _ _
  have ht := enencode_any z (.slice fa z.fil.length fc) (.slice ea z.evs.length ec) w1 hx (by rw [hzF] at hf; exact hf.keep hbw1) (by rw [hzE] at he; exact PM.EVL.keepO hbw1 he)
  rw [← hzF, ← hzE] at ht
  unfold RetEN PM.enC at ht
  have hsm : Hid (∀ l : List UInt8, ((PM.enOk z → l = PM.enB z) ∧ (¬ PM.enOk z → l = [])) → PM.smlT z = decide ((l.length : Int) ≤ 3000)) := PM.hid fun l hl => by
    unfold PM.smlT
    by_cases hk : PM.enOk z
    · rw [if_pos hk, hl.1 hk, Bool.eq_iff_iff, decide_eq_true_iff, decide_eq_true_iff]; omega
    · rw [if_neg hk, hl.2 hk, Bool.eq_iff_iff, decide_eq_true_iff, decide_eq_true_iff]; simp
  obtain ⟨S, hS⟩ : ∃ S, S = PM.smlT z := ⟨_, rfl⟩
  rw [← hS] at hsm ⊢
  have hbB := PM.hid hbw1
  clear hS hx hf he hzF hzE hbw1
  have x0 : w1.cell? ⟨g, 0, none⟩ = some (.int .i64 z.kind) := k1.cell 0
  have x1 : w1.cell? ⟨g, 1, none⟩ = some (.int .i64 z.id.br) := k1.cell 1
  have x2 : w1.cell? ⟨g, 2, none⟩ = some (.int .u64 (z.id.life : Int)) := k1.cell 2
  have x3 : w1.cell? ⟨g, 3, none⟩ = some (.int .u64 (z.id.ser : Int)) := k1.cell 3
  have x4 : w1.cell? ⟨g, 4, none⟩ = some (.int .i64 z.client) := k1.cell 4
  have x5 : w1.cell? ⟨g, 5, none⟩ = some (.int .u64 (z.sub : Int)) := k1.cell 5
  have x6 : w1.cell? ⟨g, 6, none⟩ = some (.slice fa zF fc) := k1.cell 6
  have x7 : w1.cell? ⟨g, 7, none⟩ = some (.slice ea zE ec) := k1.cell 7
  clear k1
  generalize PM.enE z = E at ht
  go_enter Try.func47, Try.ntmps47
  go_upto_region 1 with fail
  rw [← hw1, ← hg]
  clear hw1 hg
  go_wp2_with fail
  refine ht.mono ?_
  clear ht x0 x1 x2 x3 x4 x5 x6 x7
  rintro e w2 ⟨o, rfl, h1, h2, hB⟩
  replace hbB := PM.hid (PM.chain hbB.out hB)
  obtain ⟨L, oa, oc, hoe, hL⟩ : ∃ (L : List UInt8) (oa : Option Addr) (oc : Nat), o = .slice oa L.length oc ∧ S = decide ((L.length : Int) ≤ 3000) := by
    by_cases hk : PM.enOk z
    · obtain ⟨a, c, h⟩ := (h1 hk).bs.len
      exact ⟨_, a, c, h, hsm.out _ ⟨fun _ => rfl, fun h => absurd hk h⟩⟩
    · exact ⟨[], none, 0, h2 hk, hsm.out _ ⟨fun h => absurd h hk, fun _ => rfl⟩⟩
  obtain ⟨M, hM⟩ : ∃ M, M = L.length := ⟨_, rfl⟩
  rw [← hM] at hoe hL
  clear hM h1 h2 hB hsm
  subst hoe
  have hLh := PM.hid hL
  clear hL
  by_cases hle : (M : Int) ≤ 3000
  · have hd : decide ((M : Int) ≤ 3000) = true := by simpa using hle
    go_wp2_with fail
    all_goals go_ret
    all_goals exact ⟨by rw [hLh.out]; first | rfl | (congr 2; simp; omega), hbB.out⟩
  · have hd : decide ((M : Int) ≤ 3000) = false := by simpa using hle
    go_wp2_with fail
    all_goals go_ret
    all_goals exact ⟨by rw [hLh.out]; first | rfl | (congr 2; simp; omega), hbB.out⟩
set_option maxHeartbeats 1000000 in
theorem add1_any (g3 g4 : Nat) (la : Option Addr) (ln lc : Nat) (z : PM.En) (fa : Option Addr) (zF fc : Nat) (ea : Option Addr) (zE ec : Nat) (l : List PM.Tx) (w : World) (k3 : PM.BK w g3 #[.slice la ln lc] 27) (k4 : PM.BK w g4 #[.int .i64 z.kind, .int .i64 z.id.br, .int .u64 (z.id.life : Int), .int .u64 (z.id.ser : Int), .int .i64 z.client, .int .u64 (z.sub : Int), .slice fa zF fc, .slice ea zE ec] 34) (hv : PM.TxL w (.slice la ln lc) l) :
    Calls Try.prog 61 #[.pointer (some ⟨g3, 0, none⟩), .pointer (some ⟨g4, 0, none⟩)] w fun e w' => e = .returned (.int .i64 (PM.unls (decide (PM.posT z.id l < 0)) 170)) ∧ Below w.heap.size w w' := by
  have ht := at_any (.slice la ln lc) z.id l w hv
  have x0 : w.cell? ⟨g3, 0, none⟩ = some (.slice la ln lc) := k3.cell 0
  have y0 : w.cell? ⟨g4, 0, none⟩ = some (.int .i64 z.kind) := k4.cell 0
  have y1 : w.cell? ⟨g4, 1, none⟩ = some (.int .i64 z.id.br) := k4.cell 1
  have y2 : w.cell? ⟨g4, 2, none⟩ = some (.int .u64 (z.id.life : Int)) := k4.cell 2
  have y3 : w.cell? ⟨g4, 3, none⟩ = some (.int .u64 (z.id.ser : Int)) := k4.cell 3
  have y4 : w.cell? ⟨g4, 4, none⟩ = some (.int .i64 z.client) := k4.cell 4
  have y5 : w.cell? ⟨g4, 5, none⟩ = some (.int .u64 (z.sub : Int)) := k4.cell 5
  have y6 : w.cell? ⟨g4, 6, none⟩ = some (.slice fa zF fc) := k4.cell 6
  have y7 : w.cell? ⟨g4, 7, none⟩ = some (.slice ea zE ec) := k4.cell 7
  generalize PM.posT z.id l = P at ht ⊢
  obtain ⟨zk, ⟨zb, zl, zr⟩, zc, zs, zf, ze⟩ := z
  simp only at ht y1 y2 y3
  clear k3 k4 hv y0 y4 y5 y6 y7
  go_enter Try.func61, Try.ntmps61
  go_wp2_with fail
  refine ht.mono ?_
  rintro e w2 ⟨rfl, hB⟩
  have hbB := PM.hid hB
  clear ht hB x0 y1 y2 y3
  go_wp2_with fail
  refine (unless_any _ _ _).mono ?_
  rintro e w3 ⟨rfl, hB2⟩
  replace hbB := PM.hid (PM.chain hbB.out hB2)
  clear hB2
  go_wp2_with fail
  go_ret
  exact ⟨by first | rfl | simp, hbB.out⟩
set_option maxHeartbeats 1000000 in
theorem add2_any (g4 : Nat) (z : PM.En) (fa : Option Addr) (zF fc : Nat) (ea : Option Addr) (zE ec : Nat) (w : World) (k4 : PM.BK w g4 #[.int .i64 z.kind, .int .i64 z.id.br, .int .u64 (z.id.life : Int), .int .u64 (z.id.ser : Int), .int .i64 z.client, .int .u64 (z.sub : Int), .slice fa zF fc, .slice ea zE ec] 34) (hx : z.wf) (hzF : zF = z.fil.length) (hzE : zE = z.evs.length) (hf : PM.TV w (.slice fa zF fc) z.fil) (he : PM.EVL w (.slice ea zE ec) z.evs) :
    Calls Try.prog 62 #[.pointer (some ⟨g4, 0, none⟩)] w fun e w' => e = .returned (.int .i64 (PM.enE z)) ∧ Below w.heap.size w w' := by
  have ht := encheck_any z (.slice fa z.fil.length fc) (.slice ea z.evs.length ec) w hx (by rw [hzF] at hf; exact hf) (by rw [hzE] at he; exact he)
  rw [← hzF, ← hzE] at ht
  unfold PM.enC at ht
  have y0 : w.cell? ⟨g4, 0, none⟩ = some (.int .i64 z.kind) := k4.cell 0
  have y1 : w.cell? ⟨g4, 1, none⟩ = some (.int .i64 z.id.br) := k4.cell 1
  have y2 : w.cell? ⟨g4, 2, none⟩ = some (.int .u64 (z.id.life : Int)) := k4.cell 2
  have y3 : w.cell? ⟨g4, 3, none⟩ = some (.int .u64 (z.id.ser : Int)) := k4.cell 3
  have y4 : w.cell? ⟨g4, 4, none⟩ = some (.int .i64 z.client) := k4.cell 4
  have y5 : w.cell? ⟨g4, 5, none⟩ = some (.int .u64 (z.sub : Int)) := k4.cell 5
  have y6 : w.cell? ⟨g4, 6, none⟩ = some (.slice fa zF fc) := k4.cell 6
  have y7 : w.cell? ⟨g4, 7, none⟩ = some (.slice ea zE ec) := k4.cell 7
  clear k4 hx hzF hzE hf he
  generalize PM.enE z = E at ht ⊢
  go_enter Try.func62, Try.ntmps62
  go_wp2_with fail
  refine ht.mono ?_
  rintro e w2 ⟨rfl, hB⟩
  have hbB := PM.hid hB
  clear ht hB y0 y1 y2 y3 y4 y5 y6 y7
  go_wp2_with fail
  go_ret
  exact ⟨rfl, hbB.out⟩
theorem add3_any (g3 : Nat) (la : Option Addr) (ln lc : Nat) (w : World) (k3 : PM.BK w g3 #[.slice la ln lc] 27) :
    Calls Try.prog 63 #[.pointer (some ⟨g3, 0, none⟩)] w fun e w' => e = .returned (.int .i64 (PM.unls (decide (ln < 8)) 171)) ∧ Below w.heap.size w w' := by
  have x0 : w.cell? ⟨g3, 0, none⟩ = some (.slice la ln lc) := k3.cell 0
  have hbB := PM.hid (Below.refl w.heap.size w)
  have hd : decide (ln < 8) = decide ((ln : Int) < 8) := by rw [Bool.eq_iff_iff, decide_eq_true_iff, decide_eq_true_iff]; omega
  rw [hd]
  clear k3 hd
  go_enter Try.func63, Try.ntmps63
  go_wp2_with fail
  refine (unless_any _ _ _).mono ?_
  rintro e w3 ⟨rfl, hB2⟩
  replace hbB := PM.hid (PM.chain hbB.out hB2)
  clear hB2
  go_wp2_with fail
  go_ret
  exact ⟨by first | rfl | simp, hbB.out⟩
set_option maxHeartbeats 1000000 in
theorem add4_any (g4 : Nat) (z : PM.En) (fa : Option Addr) (zF fc : Nat) (ea : Option Addr) (zE ec : Nat) (w : World) (k4 : PM.BK w g4 #[.int .i64 z.kind, .int .i64 z.id.br, .int .u64 (z.id.life : Int), .int .u64 (z.id.ser : Int), .int .i64 z.client, .int .u64 (z.sub : Int), .slice fa zF fc, .slice ea zE ec] 34) (hx : z.wf) (hzF : zF = z.fil.length) (hzE : zE = z.evs.length) (hf : PM.TV w (.slice fa zF fc) z.fil) (he : PM.EVL w (.slice ea zE ec) z.evs) :
    Calls Try.prog 64 #[.pointer (some ⟨g4, 0, none⟩)] w fun e w' => e = .returned (.int .i64 (PM.unls (PM.smlT z) 172)) ∧ Below w.heap.size w w' := by
  have ht := small17_any z fa zF fc ea zE ec w hx hzF hzE hf he
  have y0 : w.cell? ⟨g4, 0, none⟩ = some (.int .i64 z.kind) := k4.cell 0
  have y1 : w.cell? ⟨g4, 1, none⟩ = some (.int .i64 z.id.br) := k4.cell 1
  have y2 : w.cell? ⟨g4, 2, none⟩ = some (.int .u64 (z.id.life : Int)) := k4.cell 2
  have y3 : w.cell? ⟨g4, 3, none⟩ = some (.int .u64 (z.id.ser : Int)) := k4.cell 3
  have y4 : w.cell? ⟨g4, 4, none⟩ = some (.int .i64 z.client) := k4.cell 4
  have y5 : w.cell? ⟨g4, 5, none⟩ = some (.int .u64 (z.sub : Int)) := k4.cell 5
  have y6 : w.cell? ⟨g4, 6, none⟩ = some (.slice fa zF fc) := k4.cell 6
  have y7 : w.cell? ⟨g4, 7, none⟩ = some (.slice ea zE ec) := k4.cell 7
  clear k4 hx hzF hzE hf he
  generalize PM.smlT z = S at ht ⊢
  go_enter Try.func64, Try.ntmps64
  go_wp2_with fail
  refine ht.mono ?_
  rintro e w2 ⟨rfl, hB⟩
  have hbB := PM.hid hB
  clear ht hB y0 y1 y2 y3 y4 y5 y6 y7
  go_wp2_with fail
  refine (unless_any _ _ _).mono ?_
  rintro e w3 ⟨rfl, hB2⟩
  replace hbB := PM.hid (PM.chain hbB.out hB2)
  clear hB2
  go_wp2_with fail
  go_ret
  exact ⟨by first | rfl | simp, hbB.out⟩
namespace PM
/-- what add's checks tell, one by one -/
noncomputable def addCd (l : List Tx) (z : En) (k : Nat) : Int := if k = 0 then unls (decide (posT z.id l < 0)) 170 else if k = 1 then enE z else if k = 2 then unls (decide (l.length < 8)) 171 else unls (smlT z) 172
theorem addCd_eq {l : List Tx} {z : En} {c : Int} (h : Firsts 4 (addCd l z) c) : c = addE l z := by
  have e0 : addCd l z 0 = if posT z.id l < 0 then 0 else 170 := by unfold addCd unls; simp
  have e1 : addCd l z 1 = enE z := by unfold addCd; simp
  have e2 : addCd l z 2 = if l.length < 8 then 0 else 171 := by unfold addCd unls; simp
  have e3 : addCd l z 3 = if smlT z = true then 0 else 172 := by unfold addCd unls; simp
  have z0 : addCd l z 0 = 0 → posT z.id l < 0 := fun h => by
    rw [e0] at h
    by_cases a : posT z.id l < 0
    · exact a
    · rw [if_neg a] at h; exact absurd h (by decide)
  have z2 : addCd l z 2 = 0 → l.length < 8 := fun h => by
    rw [e2] at h
    by_cases a : l.length < 8
    · exact a
    · rw [if_neg a] at h; exact absurd h (by decide)
  have z3 : addCd l z 3 = 0 → smlT z = true := fun h => by
    rw [e3] at h
    by_cases a : smlT z = true
    · exact a
    · rw [if_neg a] at h; exact absurd h (by decide)
  unfold addE
  rcases h with ⟨rfl, h⟩ | ⟨k, hk, rfl, hne, h⟩
  · have h0 := z0 (h 0 (by decide))
    have h1 := h 1 (by decide)
    have h2 := z2 (h 2 (by decide))
    have h3 := z3 (h 3 (by decide))
    rw [e1] at h1
    rw [if_neg (fun k => k h0), if_neg (fun k => k h1), if_neg (fun k => k h2), if_neg (fun k => k h3)]
  · have hk4 : k = 0 ∨ k = 1 ∨ k = 2 ∨ k = 3 := by omega
    rcases hk4 with rfl | rfl | rfl | rfl
    · have a : ¬ posT z.id l < 0 := fun a => by rw [e0, if_pos a] at hne; exact hne rfl
      rw [e0, if_neg a, if_pos a]
    · have h0 := z0 (h 0 (by decide))
      rw [e1] at hne ⊢
      rw [if_neg (fun k => k h0), if_pos hne]
    · have h0 := z0 (h 0 (by decide))
      have h1 := h 1 (by decide)
      rw [e1] at h1
      have a : ¬ l.length < 8 := fun a => by rw [e2, if_pos a] at hne; exact hne rfl
      rw [e2, if_neg a, if_neg (fun k => k h0), if_neg (fun k => k h1), if_pos a]
    · have h0 := z0 (h 0 (by decide))
      have h1 := h 1 (by decide)
      have h2 := z2 (h 2 (by decide))
      rw [e1] at h1
      have a : ¬ smlT z = true := fun a => by rw [e3, if_pos a] at hne; exact hne rfl
      rw [e3, if_neg a, if_neg (fun k => k h0), if_neg (fun k => k h1), if_neg (fun k => k h2), if_pos a]
end PM
set_option maxRecDepth 100000 in
set_option maxHeartbeats 8000000 in
theorem add_any (la : Option Addr) (ln lc : Nat) (z : PM.En) (fa : Option Addr) (zF fc : Nat) (ea : Option Addr) (zE ec : Nat) (q : Bool) (l : List PM.Tx) (w : World) (hv : PM.TxL w (.slice la ln lc) l) (hl : PM.TxsS l) (hx : z.wf) (hzF : zF = z.fil.length) (hzE : zE = z.evs.length) (hf : PM.TV w (.slice fa zF fc) z.fil) (he : PM.EVL w (.slice ea zE ec) z.evs) (hs : PM.EnS z) :
    Calls Try.prog 36 #[.slice la ln lc, .agg #[.int .i64 z.kind, .int .i64 z.id.br, .int .u64 (z.id.life : Int), .int .u64 (z.id.ser : Int), .int .i64 z.client, .int .u64 (z.sub : Int), .slice fa zF fc, .slice ea zE ec], .bool q] w fun e w' => ∃ u, e = .returned (.tuple #[u, .int .i64 (PM.addT l z q).2]) ∧ PM.TxW w.heap.size w' u (PM.addT l z q).1 ∧ Below w.heap.size w w' := by
  have hln : ln = l.length := by obtain ⟨_, _, h⟩ := hv.len; injection h
  obtain ⟨g3, hg3⟩ : ∃ g, g = w.heap.size := ⟨_, rfl⟩
  obtain ⟨g4, hg4⟩ : ∃ g, g = w.heap.size + 1 := ⟨_, rfl⟩
  obtain ⟨w1, hw1⟩ : ∃ W, W = w.alloc (.cells #[.slice la ln lc] 27) := ⟨_, rfl⟩
  obtain ⟨w2, hw2⟩ : ∃ W, W = w1.alloc (.cells #[.int .i64 z.kind, .int .i64 z.id.br, .int .u64 (z.id.life : Int), .int .u64 (z.id.ser : Int), .int .i64 z.client, .int .u64 (z.sub : Int), .slice fa zF fc, .slice ea zE ec] 34) := ⟨_, rfl⟩
  have hs1 : w1.heap.size = w.heap.size + 1 := by rw [hw1]; simp
  have hal : Below w.heap.size w w1 := by rw [hw1]; exact (Below.refl _ _).alloc (Nat.le_refl _) _
  have hal2 : Below w1.heap.size w1 w2 := by rw [hw2]; exact (Below.refl _ _).alloc (Nat.le_refl _) _
  have k3 : PM.BK w1 g3 #[.slice la ln lc] 27 := by rw [hw1, hg3]; exact PM.BK.new _ _ _
  replace k3 := k3.keep hal2
  have k4 : PM.BK w2 g4 #[.int .i64 z.kind, .int .i64 z.id.br, .int .u64 (z.id.life : Int), .int .u64 (z.id.ser : Int), .int .i64 z.client, .int .u64 (z.sub : Int), .slice fa zF fc, .slice ea zE ec] 34 := by rw [hw2, hg4, ← hs1]; exact PM.BK.new _ _ _
  have hBB := PM.hid (PM.chain hal hal2)
  have ht := eachTx_any (.slice la ln lc) l w2 (PM.TxL.keep hBB.out hv) hl
  have hent4 : ∀ (k : Nat) (x : Nat × Array Value), ([(61, #[.pointer (some ⟨g3, 0, none⟩), .pointer (some ⟨g4, 0, none⟩)]), (62, #[.pointer (some ⟨g4, 0, none⟩)]), (63, #[.pointer (some ⟨g3, 0, none⟩)]), (64, #[.pointer (some ⟨g4, 0, none⟩)])] : List (Nat × Array Value))[k]? = some x → ∀ W, (callFunc x.1 x.2).run Try.prog W = .ok (.enter x.1 x.2) W := fun k x hk W => by
    match k, hk with
    | 0, hk => simp at hk; subst hk; exact PM.enterF Try.func61 (by kernel_rfl) rfl _ _
    | 1, hk => simp at hk; subst hk; exact PM.enterF Try.func62 (by kernel_rfl) rfl _ _
    | 2, hk => simp at hk; subst hk; exact PM.enterF Try.func63 (by kernel_rfl) rfl _ _
    | 3, hk => simp at hk; subst hk; exact PM.enterF Try.func64 (by kernel_rfl) rfl _ _
    | k + 4, hk => simp at hk
  have hcd := fun (b : Nat) (W : World) (hb : Below w2.heap.size w2 W) => first_pure [(61, #[.pointer (some ⟨g3, 0, none⟩), .pointer (some ⟨g4, 0, none⟩)]), (62, #[.pointer (some ⟨g4, 0, none⟩)]), (63, #[.pointer (some ⟨g3, 0, none⟩)]), (64, #[.pointer (some ⟨g4, 0, none⟩)])] 4 b 4 rfl (PM.addCd l z) W (by decide) hent4
  have hcall : ∀ (W0 : World), Below w2.heap.size w2 W0 → ∀ k x W, ([(61, #[.pointer (some ⟨g3, 0, none⟩), .pointer (some ⟨g4, 0, none⟩)]), (62, #[.pointer (some ⟨g4, 0, none⟩)]), (63, #[.pointer (some ⟨g3, 0, none⟩)]), (64, #[.pointer (some ⟨g4, 0, none⟩)])] : List (Nat × Array Value))[k]? = some x → Below W0.heap.size W0 W → Calls Try.prog x.1 x.2 W fun e W' => e = .returned (.int .i64 (PM.addCd l z k)) ∧ Below W.heap.size W W' := fun W0 hb0 k x W hk hb1 => by
    have hb := PM.chain hb0 hb1
    have hbw := PM.chain hBB.out hb
    match k, hk with
    | 0, hk => simp at hk; subst hk; exact add1_any g3 g4 la ln lc z fa zF fc ea zE ec l W (k3.keep hb) (k4.keep hb) (PM.TxL.keep hbw hv)
    | 1, hk => simp at hk; subst hk; exact add2_any g4 z fa zF fc ea zE ec W (k4.keep hb) hx hzF hzE (hf.keep hbw) (PM.EVL.keepO hbw he)
    | 2, hk => simp at hk; subst hk; have := add3_any g3 la ln lc W (k3.keep hb); rw [hln] at this; exact this
    | 3, hk => simp at hk; subst hk; exact add4_any g4 z fa zF fc ea zE ec W (k4.keep hb) hx hzF hzE (hf.keep hbw) (PM.EVL.keepO hbw he)
    | k + 4, hk => simp at hk
  replace hcd := PM.hid hcd
  replace hcall := PM.hid hcall
  have hen := fun (W : World) (hb : Below w.heap.size w W) => ownEn_any z (.slice fa zF fc) (.slice ea zE ec) W (hf.keep hb) (PM.EVL.keepO hb he) hs
  rw [← hzF, ← hzE] at hen
  unfold PM.enC at hen
  replace hen := PM.hid hen
  have hl1 : l.length ≤ 1000 := hl.1
  have hsz0 := hBB.out.size
  clear hal hal2 hs1 hv hl hx hf he hs hzF hzE hln hent4
  go_enter Try.func36, Try.ntmps36
  go_upto_region 1 with fail
  rw [← hw1, ← hw2, ← hg4, ← hg3]
  clear hw1 hw2 hg3 hg4
  have x0 : w2.cell? ⟨g3, 0, none⟩ = some (.slice la ln lc) := k3.cell 0
  go_wp2_with fail
  refine ht.mono ?_
  clear ht x0
  rintro e w3 ⟨u, rfl, hu, hb3⟩
  replace hu := PM.TxW.mono hsz0 hu
  obtain ⟨ua, uc, hue⟩ := hu.rr.len
  obtain ⟨un, hun⟩ : ∃ n, n = l.length := ⟨_, rfl⟩
  have hunh := PM.hid hun
  rw [← hun] at hue
  clear hun
  subst hue
  obtain ⟨g5, hg5⟩ : ∃ g, g = w3.heap.size := ⟨_, rfl⟩
  obtain ⟨w4, hw4⟩ : ∃ W, W = w3.alloc (.cells #[.func (.func 61) #[] #[.pointer (some ⟨g3, 0, none⟩), .pointer (some ⟨g4, 0, none⟩)], .func (.func 62) #[] #[.pointer (some ⟨g4, 0, none⟩)], .func (.func 63) #[] #[.pointer (some ⟨g3, 0, none⟩)], .func (.func 64) #[] #[.pointer (some ⟨g4, 0, none⟩)]] 83) := ⟨_, rfl⟩
  have hb4 : Below w3.heap.size w3 w4 := by rw [hw4]; exact (Below.refl _ _).alloc (Nat.le_refl _) _
  have k5 : PM.BK w4 g5 #[.func (.func 61) #[] #[.pointer (some ⟨g3, 0, none⟩), .pointer (some ⟨g4, 0, none⟩)], .func (.func 62) #[] #[.pointer (some ⟨g4, 0, none⟩)], .func (.func 63) #[] #[.pointer (some ⟨g3, 0, none⟩)], .func (.func 64) #[] #[.pointer (some ⟨g4, 0, none⟩)]] 83 := by rw [hw4, hg5]; exact PM.BK.new _ _ _
  have hb24 := PM.chain hb3 hb4
  have ht := hcd.out g5 w4 hb24 (fun k x hk => by
    match k, hk with
    | 0, hk => simp at hk; subst hk; exact k5.cell 0
    | 1, hk => simp at hk; subst hk; exact k5.cell 1
    | 2, hk => simp at hk; subst hk; exact k5.cell 2
    | 3, hk => simp at hk; subst hk; exact k5.cell 3
    | k + 4, hk => simp at hk) (hcall.out w4 hb24)
  have hu4 := PM.TxW.keep hb4 hu
  have k44 := k4.keep hb24
  replace hBB := PM.hid (PM.chain hBB.out hb24)
  rw [hw4, hg5] at ht
  have hw4h := PM.hid hw4
  clear hcd hcall hu hb3 hb4 hb24 k5 k3 k4 hw4 hg5
  go_wp2_with fail
  refine ht.mono ?_
  rintro e w5 ⟨c, rfl, hc, hb5⟩
  rw [← hw4h.out] at hb5
  have hce := PM.addCd_eq hc
  replace hu4 := PM.TxW.keep hb5 hu4
  have k45 := k44.keep hb5
  replace hBB := PM.hid (PM.chain hBB.out hb5)
  clear ht hc hb5 k44 hw4h
  by_cases hc0 : c = 0
  · subst hc0
    have hq : Hid ((PM.addT l z q).2 = 0 ∧ (PM.addT l z q).1 = l ++ [⟨z, q⟩]) := PM.hid (by unfold PM.addT; rw [if_pos hce.symm]; exact ⟨rfl, rfl⟩)
    clear hce
    have y0 : w5.cell? ⟨g4, 0, none⟩ = some (.int .i64 z.kind) := k45.cell 0
    have y1 : w5.cell? ⟨g4, 1, none⟩ = some (.int .i64 z.id.br) := k45.cell 1
    have y2 : w5.cell? ⟨g4, 2, none⟩ = some (.int .u64 (z.id.life : Int)) := k45.cell 2
    have y3 : w5.cell? ⟨g4, 3, none⟩ = some (.int .u64 (z.id.ser : Int)) := k45.cell 3
    have y4 : w5.cell? ⟨g4, 4, none⟩ = some (.int .i64 z.client) := k45.cell 4
    have y5 : w5.cell? ⟨g4, 5, none⟩ = some (.int .u64 (z.sub : Int)) := k45.cell 5
    have y6 : w5.cell? ⟨g4, 6, none⟩ = some (.slice fa zF fc) := k45.cell 6
    have y7 : w5.cell? ⟨g4, 7, none⟩ = some (.slice ea zE ec) := k45.cell 7
    clear k45
    have ht := hen.out w5 hBB.out
    clear hen
    go_wp2_with fail
    refine ht.mono ?_
    clear ht y0 y1 y2 y3 y4 y5 y6 y7
    rintro e w6 ⟨va, vc, ta, tc, rfl, hRy0, hb6⟩
    have hRy := PM.txO_mono hBB.out.size (PM.enO_txO q hRy0)
    have hu6 := PM.TxW.keep hb6 hu4
    replace hBB := PM.hid (PM.chain hBB.out hb6)
    have hsz := hBB.out.size
    have hl16 : (l.length + 1) * 104 ≤ 140737488355328 := by omega
    have hl17 : l.length + 1 ≤ maxLen := by unfold maxLen; omega
    clear hRy0 hb6 hu4
    go_wp2_with (at_builtin; go_loud (refine PM.wpList_or1 tyTxO (PM.txO_stays (by decide) (by decide) (by decide)) PM.txO_lasts w.heap.size w6 rfl _ _ rfl _ l ⟨z, q⟩ (PM.txCe ⟨z, q⟩ va zF vc ta zE tc) _ rfl rfl rfl rfl hRy hu6 hl16 hl17 hsz ?_); intro v' w' t1 t2 t3; have hend := PM.hid (And.intro t1 (hBB.out.trans t2)); clear t1 t2 t3 hu6 hRy hsz)
    go_ret2
    exact ⟨_, by rw [hq.out.1]; rfl, by rw [hq.out.2]; exact hend.out.1, hend.out.2⟩
  · have hq : Hid ((PM.addT l z q).2 = c ∧ (PM.addT l z q).1 = l) := PM.hid (by unfold PM.addT; rw [if_neg (by rw [← hce]; exact hc0)]; exact ⟨hce.symm, rfl⟩)
    have q1 : (c == 0) = false := by simp; exact hc0
    have hend := PM.hid (And.intro hu4 hBB.out)
    clear hce hu4 k45 hen
    go_wp2_with fail
    go_ret2
    exact ⟨_, by rw [hq.out.1]; rfl, by rw [hq.out.2]; exact hend.out.1, hend.out.2⟩
set_option maxHeartbeats 1000000 in
theorem begin_any (la : Option Addr) (ln lc : Nat) (i : PM.Id) (cl : Int) (l : List PM.Tx) (w : World) (hv : PM.TxL w (.slice la ln lc) l) (hl : PM.TxsS l) (hi : i.wf) (hc : (Lit.int .i64 cl).wf = true) :
    Calls Try.prog 14 #[.slice la ln lc, .agg #[.int .i64 i.br, .int .u64 (i.life : Int), .int .u64 (i.ser : Int)], .int .i64 cl] w fun e w' => ∃ u, e = .returned (.tuple #[u, .int .i64 (PM.begT l i cl).2]) ∧ PM.TxW w.heap.size w' u (PM.begT l i cl).1 ∧ Below w.heap.size w w' := by
  obtain ⟨g, hg⟩ : ∃ g, g = w.heap.size := ⟨_, rfl⟩
  obtain ⟨w1, hw1⟩ : ∃ W, W = w.alloc (.cells #[.int .i64 i.br, .int .u64 (i.life : Int), .int .u64 (i.ser : Int)] 26) := ⟨_, rfl⟩
  have hbw1 : Below w.heap.size w w1 := by rw [hw1]; exact (Below.refl _ _).alloc (Nat.le_refl _) _
  have k1 : PM.BK w1 g #[.int .i64 i.br, .int .u64 (i.life : Int), .int .u64 (i.ser : Int)] 26 := by rw [hw1, hg]; exact PM.BK.new _ _ _
  have ht := add_any la ln lc ⟨1, i, cl, 0, [], []⟩ none 0 0 none 0 0 false l w1 (PM.TxL.keep hbw1 hv) hl ⟨show (Lit.int .i64 1).wf = true from by decide, hi, hc, show (0 : Nat) < 2 ^ 64 from by decide, by simp, by simp⟩ rfl rfl (PM.EM.nil _) (PM.RR.nil _) ⟨by simp, by simp, by simp⟩
  change Calls _ _ #[_, .agg #[.int .i64 1, .int .i64 i.br, .int .u64 (i.life : Int), .int .u64 (i.ser : Int), .int .i64 cl, .int .u64 0, .slice none 0 0, .slice none 0 0], _] _ _ at ht
  rw [show PM.addT l ⟨1, i, cl, 0, [], []⟩ false = PM.begT l i cl from rfl] at ht
  obtain ⟨R, hR⟩ : ∃ R, R = PM.begT l i cl := ⟨_, rfl⟩
  rw [← hR] at ht ⊢
  have hBB := PM.hid hbw1
  obtain ⟨ib, il, ir⟩ := i
  simp only at k1 hw1 ht
  have x0 : w1.cell? ⟨g, 0, none⟩ = some (.int .i64 ib) := k1.cell 0
  have x1 : w1.cell? ⟨g, 1, none⟩ = some (.int .u64 (il : Int)) := k1.cell 1
  have x2 : w1.cell? ⟨g, 2, none⟩ = some (.int .u64 (ir : Int)) := k1.cell 2
  clear k1 hv hl hi hc hR hbw1
  go_enter Try.func14, Try.ntmps14
  go_upto_region 1 with fail
  rw [← hw1, ← hg]
  clear hw1 hg
  go_wp2_with fail
  refine ht.mono ?_
  clear ht x0 x1 x2
  rintro e w2 ⟨u, rfl, hu, hb⟩
  have hend := PM.hid (And.intro (PM.TxW.mono hBB.out.size hu) (PM.chain hBB.out hb))
  clear hu hb
  go_wp2_with fail
  go_ret2
  exact ⟨_, rfl, hend.out.1, hend.out.2⟩
set_option maxHeartbeats 1000000 in
theorem ask_any (la : Option Addr) (ln lc : Nat) (z : PM.En) (fa : Option Addr) (zF fc : Nat) (ea : Option Addr) (zE ec : Nat) (l : List PM.Tx) (w : World) (hv : PM.TxL w (.slice la ln lc) l) (hl : PM.TxsS l) (hx : z.wf) (hzF : zF = z.fil.length) (hzE : zE = z.evs.length) (hf : PM.TV w (.slice fa zF fc) z.fil) (he : PM.EVL w (.slice ea zE ec) z.evs) (hs : PM.EnS z) :
    Calls Try.prog 23 #[.slice la ln lc, .agg #[.int .i64 z.kind, .int .i64 z.id.br, .int .u64 (z.id.life : Int), .int .u64 (z.id.ser : Int), .int .i64 z.client, .int .u64 (z.sub : Int), .slice fa zF fc, .slice ea zE ec]] w fun e w' => ∃ u, e = .returned (.tuple #[u, .int .i64 (PM.addT l z true).2]) ∧ PM.TxW w.heap.size w' u (PM.addT l z true).1 ∧ Below w.heap.size w w' := by
  obtain ⟨g, hg⟩ : ∃ g, g = w.heap.size := ⟨_, rfl⟩
  obtain ⟨w1, hw1⟩ : ∃ W, W = w.alloc (.cells #[.int .i64 z.kind, .int .i64 z.id.br, .int .u64 (z.id.life : Int), .int .u64 (z.id.ser : Int), .int .i64 z.client, .int .u64 (z.sub : Int), .slice fa zF fc, .slice ea zE ec] 34) := ⟨_, rfl⟩
  have hbw1 : Below w.heap.size w w1 := by rw [hw1]; exact (Below.refl _ _).alloc (Nat.le_refl _) _
  have k1 : PM.BK w1 g #[.int .i64 z.kind, .int .i64 z.id.br, .int .u64 (z.id.life : Int), .int .u64 (z.id.ser : Int), .int .i64 z.client, .int .u64 (z.sub : Int), .slice fa zF fc, .slice ea zE ec] 34 := by rw [hw1, hg]; exact PM.BK.new _ _ _
  have ht := add_any la ln lc z fa zF fc ea zE ec true l w1 (PM.TxL.keep hbw1 hv) hl hx hzF hzE (hf.keep hbw1) (PM.EVL.keepO hbw1 he) hs
  obtain ⟨R, hR⟩ : ∃ R, R = PM.addT l z true := ⟨_, rfl⟩
  rw [← hR] at ht ⊢
  have hBB := PM.hid hbw1
  have x0 : w1.cell? ⟨g, 0, none⟩ = some (.int .i64 z.kind) := k1.cell 0
  have x1 : w1.cell? ⟨g, 1, none⟩ = some (.int .i64 z.id.br) := k1.cell 1
  have x2 : w1.cell? ⟨g, 2, none⟩ = some (.int .u64 (z.id.life : Int)) := k1.cell 2
  have x3 : w1.cell? ⟨g, 3, none⟩ = some (.int .u64 (z.id.ser : Int)) := k1.cell 3
  have x4 : w1.cell? ⟨g, 4, none⟩ = some (.int .i64 z.client) := k1.cell 4
  have x5 : w1.cell? ⟨g, 5, none⟩ = some (.int .u64 (z.sub : Int)) := k1.cell 5
  have x6 : w1.cell? ⟨g, 6, none⟩ = some (.slice fa zF fc) := k1.cell 6
  have x7 : w1.cell? ⟨g, 7, none⟩ = some (.slice ea zE ec) := k1.cell 7
  clear k1 hv hl hx hzF hzE hf he hs hR hbw1
  go_enter Try.func23, Try.ntmps23
  go_upto_region 1 with fail
  rw [← hw1, ← hg]
  clear hw1 hg
  go_wp2_with fail
  refine ht.mono ?_
  clear ht x0 x1 x2 x3 x4 x5 x6 x7
  rintro e w2 ⟨u, rfl, hu, hb⟩
  have hend := PM.hid (And.intro (PM.TxW.mono hBB.out.size hu) (PM.chain hBB.out hb))
  clear hu hb
  go_wp2_with fail
  go_ret2
  exact ⟨_, rfl, hend.out.1, hend.out.2⟩
end Go.Proofs.Ytnjcociidipogaa
