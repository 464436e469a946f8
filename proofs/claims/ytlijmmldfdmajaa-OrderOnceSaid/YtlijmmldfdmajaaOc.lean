/-
  CONTRACT of order.Admit.
-/
import Derived.Test.YtlijmmldfdmajaaOb
namespace Go.Proofs.Ytlijmmldfdmajaa
open Go.RowKit
set_option linter.unusedVariables false
set_option linter.unusedSimpArgs false
theorem PM.enOr_mono {T0 T1 T2 K : TypeId} {B B' : Nat} {w : World} {v : Value} {l : List PM.En} (hb : B' ≤ B) (h : PM.OR (PM.enO T0 T1 T2 B) 8 K B w v l) : PM.OR (PM.enO T0 T1 T2 B') 8 K B' w v l := by
  obtain ⟨css, h1, h2, h3⟩ := h
  exact ⟨css, h1.mono hb, h2, fun i cs x a b => PM.enO_mono hb (h3 i cs x a b)⟩
namespace PM
theorem BK.grownN {w w' : World} {b : Nat} {cs : Array Value} {T : TypeId} {row : Option Nat} (h : BK w b cs T) (hg : w.grownBy w' row) (hne : ∀ j, row = some j → j < b) : BK w' b cs T :=
  (hg.block b h.lt (fun e => absurd (hne b e.symm) (Nat.lt_irrefl _))).trans h
theorem adm1_seen {k : Id → Bool} {p q : List En} {x : En} (h : (hasE p x.id || hasE q x.id) = true) : adm1 k (p, q) x = (p, q) := by
  unfold adm1
  rw [if_pos (by simp only [h, Bool.true_or])]
theorem adm1_known {k : Id → Bool} {p q : List En} {x : En} (h : k x.id = true) : adm1 k (p, q) x = (p, q) := by
  unfold adm1
  rw [if_pos (by simp only [h, Bool.or_true])]
theorem adm1_list {k : Id → Bool} {p q : List En} {x : En} (h : (hasE p x.id || hasE q x.id) = false) (h1 : k x.id = false) (h2 : ¬ x.kind = 1) : adm1 k (p, q) x = (p, q ++ [x]) := by
  unfold adm1
  rw [if_neg (by simp only [h, h1, Bool.or_false]; decide), if_pos h2]
theorem adm1_wait {k : Id → Bool} {p q : List En} {x : En} (h : (hasE p x.id || hasE q x.id) = false) (h1 : k x.id = false) (h2 : x.kind = 1) (h3 : p.length < 4) : adm1 k (p, q) x = (p ++ [x], q) := by
  unfold adm1
  rw [if_neg (by simp only [h, h1, Bool.or_false]; decide), if_neg (fun h => h h2), if_pos h3]
theorem adm1_full {k : Id → Bool} {p q : List En} {x : En} (h : (hasE p x.id || hasE q x.id) = false) (h1 : k x.id = false) (h2 : x.kind = 1) (h3 : ¬ p.length < 4) : adm1 k (p, q) x = (p, q) := by
  unfold adm1
  rw [if_neg (by simp only [h, h1, Bool.or_false]; decide), if_neg (fun h => h h2), if_neg h3]
end PM
set_option maxRecDepth 100000 in
set_option maxHeartbeats 16000000 in
theorem admit_any (lf : Nat) (a0 : Option Addr) (n0 c0 : Nat) (a1 : Option Addr) (n1 c1 : Nat) (a2 : Option Addr) (n2 c2 : Nat) (u1 u2 : Value) (ls ps op l : List PM.En) (ab : List PM.Id) (w : World) (hs0 : PM.StR w (.slice a0 n0 c0) (.slice a1 n1 c1) (.slice a2 n2 c2) ls ps ab) (hv1 : PM.EnL w u1 op) (hv2 : PM.EnL w u2 l) (hos : PM.EnsS op) (hls : PM.EnsS l) :
    Calls Try.prog 10 #[.agg #[.int .u64 (lf : Int), .slice a0 n0 c0, .slice a1 n1 c1, .slice a2 n2 c2], u1, u2] w fun e w' => ∃ u r, e = .returned (.tuple #[u, r]) ∧ PM.OR (PM.enO 85 88 73 w.heap.size) 8 38 w.heap.size w' u (PM.adm (fun i => PM.hasE ls i || PM.hasI ab i) op l).1 ∧ PM.OR (PM.enO 85 88 73 w.heap.size) 8 38 w.heap.size w' r (PM.adm (fun i => PM.hasE ls i || PM.hasI ab i) op l).2 ∧ Below w.heap.size w w' := by
  have hol := hos.1
  have hll := hls.1
  obtain ⟨b1, d1, rfl⟩ := hv1.len
  obtain ⟨b2, d2, rfl⟩ := hv2.len
  obtain ⟨O, hO⟩ : ∃ N, N = op.length := ⟨_, rfl⟩
  obtain ⟨N, hN⟩ : ∃ N, N = l.length := ⟨_, rfl⟩
  have hNh := PM.hid hN
  have hOh := PM.hid hO
  rw [← hN] at hv2 hll ⊢
  rw [← hO] at hv1 hol ⊢
  replace hv1 := PM.hid hv1
  replace hv2 := PM.hid hv2
  replace hs0 := PM.hid hs0
  replace hos := PM.hid hos
  replace hls := PM.hid hls
  clear hN hO
  obtain ⟨g, hg⟩ : ∃ g, g = w.heap.size := ⟨_, rfl⟩
  obtain ⟨w1, hw1⟩ : ∃ W, W = w.alloc (.cells #[.int .u64 (lf : Int), .slice a0 n0 c0, .slice a1 n1 c1, .slice a2 n2 c2] 27) := ⟨_, rfl⟩
  have hal : Below w.heap.size w w1 := by rw [hw1]; exact (Below.refl _ _).alloc (Nat.le_refl _) _
  have hG : PM.BK w1 g #[.int .u64 (lf : Int), .slice a0 n0 c0, .slice a1 n1 c1, .slice a2 n2 c2] 27 := by rw [hw1, hg]; exact PM.BK.new _ _ _
  have hBB := PM.hid hal
  clear hal
  have hmm : ∀ W : World, (Instr.makeMap 57 none).run Try.prog W = .ok (.map (some W.heap.size)) (W.alloc (.map #[] 0)) := fun W => rfl
  go_enter Try.func10, Try.ntmps10
  go_upto_region 1 with fail
  rw [← hw1, ← hg]
  clear hw1 hg
  go_wp2_with fail
  go_step3
  go_wp2_with fail
  refine (entries_any _ op w1 (PM.EnL.keep hv1.out hBB.out) hos.out).mono ?_
  rintro e w2 ⟨u, rfl, hu, hBn⟩
  obtain ⟨wa, wc, hue⟩ := hu.rr.len
  rw [← hOh.out] at hue
  subst hue
  replace hu := PM.enOr_mono hBB.out.size hu
  replace hG := hG.keep hBn
  replace hBB := PM.hid (PM.chain hBB.out hBn)
  clear hBn
  obtain ⟨gs, hgs⟩ : ∃ g, g = w2.heap.size := ⟨_, rfl⟩
  obtain ⟨wm, hwm⟩ : ∃ W, W = w2.alloc (.map #[] 0) := ⟨_, rfl⟩
  have hBn : Below w2.heap.size w2 wm := by rw [hwm]; exact (Below.refl _ _).alloc (Nat.le_refl _) _
  have kd : PM.DS wm gs (fun _ => False) := by rw [hwm, hgs]; exact PM.DS.new _
  have hgw : Hid (w.heap.size ≤ gs) := PM.hid (by rw [hgs]; exact hBB.out.size)
  have hS1 := PM.hid (And.intro (PM.OR.keep PM.enO_lasts hBn hu) (And.intro kd (And.intro (hG.keep hBn) (PM.chain hBB.out hBn))))
  clear hBn kd hu hG hBB
  go_wp2_with fail
  rw [← hwm, ← hgs]
  clear hwm hgs hmm
  go_loopw [22] (fun i wr => ∃ k : Nat, i = .int .i64 k ∧ k ≤ O ∧ Hid (PM.OR (PM.enO 85 88 73 w.heap.size) 8 38 w.heap.size wr (.slice wa O wc) op ∧ PM.DS wr gs (fun i => PM.hasE (op.take k) i = true) ∧ PM.BK wr g #[.int .u64 (lf : Int), .slice a0 n0 c0, .slice a1 n1 c1, .slice a2 n2 c2] 27 ∧ Below w.heap.size w wr)) (fun i _ => O - (intOf i).toNat)
  case atStart => exact ⟨0, rfl, by omega, PM.hid ⟨hS1.out.1, hS1.out.2.1.imp fun i => by simp [PM.hasE], hS1.out.2.2.1, hS1.out.2.2.2⟩⟩
  case round =>
    obtain ⟨k, rfl, hk, hin⟩ := hrel
    obtain ⟨hO, hD, hG, hB⟩ := hin.out
    have hBB := PM.hid hB
    clear hin
    by_cases hlt : k < O
    · obtain ⟨z, hz⟩ : ∃ z, op[k]? = some z := ⟨op[k]'(by rw [← hOh.out]; exact hlt), List.getElem?_eq_getElem _⟩
      obtain ⟨b, off, rfl, hce⟩ := PM.RR.opn hv1.out (by rw [← hOh.out]; omega)
      obtain ⟨cs, hl0, hR⟩ := hce k z hz
      have hzs := PM.hid (hos.out.2 z (List.mem_of_getElem? hz))
      obtain ⟨fa, fc, ea, ec, hcs, hzf, hze⟩ := PM.enR_open hR
      replace hl0 := hl0.keep hB
      rw [hcs] at hl0
      have d0 : wr.cell? ⟨b, off + k * 8, none⟩ = some (.int .i64 z.kind) := hl0 0 _ rfl
      have d1 : wr.cell? ⟨b, off + k * 8 + 1, none⟩ = some (.int .i64 z.id.br) := hl0 1 _ rfl
      have d2 : wr.cell? ⟨b, off + k * 8 + 2, none⟩ = some (.int .u64 (z.id.life : Int)) := hl0 2 _ rfl
      have d3 : wr.cell? ⟨b, off + k * 8 + 3, none⟩ = some (.int .u64 (z.id.ser : Int)) := hl0 3 _ rfl
      have d4 : wr.cell? ⟨b, off + k * 8 + 4, none⟩ = some (.int .i64 z.client) := hl0 4 _ rfl
      have d5 : wr.cell? ⟨b, off + k * 8 + 5, none⟩ = some (.int .u64 (z.sub : Int)) := hl0 5 _ rfl
      have d6 : wr.cell? ⟨b, off + k * 8 + 6, none⟩ = some (.slice fa z.fil.length fc) := hl0 6 _ rfl
      have d7 : wr.cell? ⟨b, off + k * 8 + 7, none⟩ = some (.slice ea z.evs.length ec) := hl0 7 _ rfl
      have hzh := PM.hid hz
      obtain ⟨zF, hzF⟩ : ∃ P, P = z.fil.length := ⟨_, rfl⟩
      obtain ⟨zE, hzE⟩ : ∃ P, P = z.evs.length := ⟨_, rfl⟩
      have hen : Hid (∀ W : World, Below w.heap.size w W → Calls Try.prog 20 #[.agg #[.int .i64 z.kind, .int .i64 z.id.br, .int .u64 (z.id.life : Int), .int .u64 (z.id.ser : Int), .int .i64 z.client, .int .u64 (z.sub : Int), .slice fa zF fc, .slice ea zE ec]] W fun e w' => ∃ ua uc ta tc, e = .returned (.agg #[.int .i64 z.kind, .int .i64 z.id.br, .int .u64 (z.id.life : Int), .int .u64 (z.id.ser : Int), .int .i64 z.client, .int .u64 (z.sub : Int), .slice ua zF uc, .slice ta zE tc]) ∧ PM.enO 85 88 73 W.heap.size w' [.int .i64 z.kind, .int .i64 z.id.br, .int .u64 (z.id.life : Int), .int .u64 (z.id.ser : Int), .int .i64 z.client, .int .u64 (z.sub : Int), .slice ua zF uc, .slice ta zE tc] z ∧ Below W.heap.size W w') := PM.hid fun W hb => by
        rw [hzF, hzE]
        exact ownEn_any z _ _ W (hzf.keep hb) (PM.EVL.keepO hb hze) hzs.out
      rw [← hzF] at d6
      rw [← hzE] at d7
      clear hz hce hl0 hR hcs cs hzf hze hzF hzE
      clear hB hen
      go_upto_region 7 with fail
      obtain ⟨gx, hgx⟩ : ∃ g, g = wr.heap.size := ⟨_, rfl⟩
      obtain ⟨w3, hw3⟩ : ∃ W, W = wr.alloc (.cells #[.int .i64 z.kind, .int .i64 z.id.br, .int .u64 (z.id.life : Int), .int .u64 (z.id.ser : Int), .int .i64 z.client, .int .u64 (z.sub : Int), .slice fa zF fc, .slice ea zE ec] 38) := ⟨_, rfl⟩
      have hBn : Below wr.heap.size wr w3 := by rw [hw3]; exact (Below.refl _ _).alloc (Nat.le_refl _) _
      have kx : PM.BK w3 gx #[.int .i64 z.kind, .int .i64 z.id.br, .int .u64 (z.id.life : Int), .int .u64 (z.id.ser : Int), .int .i64 z.client, .int .u64 (z.sub : Int), .slice fa zF fc, .slice ea zE ec] 38 := by rw [hw3, hgx]; exact PM.BK.new _ _ _
      rw [← hw3, ← hgx]
      clear hw3 hgx
      clear d0 d1 d2 d3 d4 d5 d6 d7
      replace hO := PM.OR.keep PM.enO_lasts hBn hO
      replace hD := hD.keep hBn
      replace hG := hG.keep hBn
      replace hBB := PM.hid (PM.chain hBB.out hBn)
      clear hBn
      obtain ⟨w6, hup, hD6, hx6⟩ := PM.run_insD Try.underlying57 idKey hD z.id
      unfold PM.idv at hup
      have x0 : w3.cell? ⟨gx, 0, none⟩ = some (.int .i64 z.kind) := kx.cell 0
      have x1 : w3.cell? ⟨gx, 1, none⟩ = some (.int .i64 z.id.br) := kx.cell 1
      have x2 : w3.cell? ⟨gx, 2, none⟩ = some (.int .u64 (z.id.life : Int)) := kx.cell 2
      have x3 : w3.cell? ⟨gx, 3, none⟩ = some (.int .u64 (z.id.ser : Int)) := kx.cell 3
      have x4 : w3.cell? ⟨gx, 4, none⟩ = some (.int .i64 z.client) := kx.cell 4
      have x5 : w3.cell? ⟨gx, 5, none⟩ = some (.int .u64 (z.sub : Int)) := kx.cell 5
      have x6 : w3.cell? ⟨gx, 6, none⟩ = some (.slice fa zF fc) := kx.cell 6
      have x7 : w3.cell? ⟨gx, 7, none⟩ = some (.slice ea zE ec) := kx.cell 7
      have hG6 := hG.keepx hx6 (hD.neB hG)
      have hO6 := hO.keepD PM.enO_staysD hx6 hD
      replace hBB := PM.hid (PM.Bx.below hBB.out hx6 hgw.out hBB.out.size)
      have hin2 := PM.hid (And.intro hO6 (And.intro hD6 (And.intro hG6 hBB.out)))
      clear hO hD hG hx6 hD6 hG6 hO6 kx
      go_wp2_with fail
      refine ⟨⟨k + 1, by go_num, by omega, PM.hid ⟨hin2.out.1, hin2.out.2.1.imp fun i => ?_, hin2.out.2.2.1, hin2.out.2.2.2⟩⟩, by simp only [intOf]; omega⟩
      rw [PM.take_at hzh.out, PM.hasE_snoc, Bool.or_eq_true, decide_eq_true_eq]
      exact ⟨fun h => h.elim .inl fun h => .inr h.symm, fun h => h.elim .inl fun h => .inr h.symm⟩
    · obtain rfl : k = O := by omega
      have hS2 : Hid (PM.OR (PM.enO 85 88 73 w.heap.size) 8 38 w.heap.size wr (.slice wa k wc) op ∧ PM.DS wr gs (fun i => PM.hasE op i = true) ∧ PM.BK wr g #[.int .u64 (lf : Int), .slice a0 n0 c0, .slice a1 n1 c1, .slice a2 n2 c2] 27 ∧ Below w.heap.size w wr) := PM.hid ⟨hO, hD.imp fun i => by (have h9 : op.take k = op := (by rw [hOh.out]; exact List.take_length)); rw [h9], hG, hB⟩
      clear hO hD hG hB hBB
      obtain ⟨wr2, hwr2⟩ : ∃ W, W = wr := ⟨_, rfl⟩
      rw [← hwr2] at hS2 ⊢
      clear hwr2
      go_wp2_with fail
      go_step3
      go_wp2_with fail
      go_loopw [8, 9, 33] (fun sp sl i wr => ∃ k : Nat, i = .int .i64 k ∧ k ≤ N ∧ Hid (PM.OR (PM.enO 85 88 73 w.heap.size) 8 38 w.heap.size wr sp (PM.adm (fun i => PM.hasE ls i || PM.hasI ab i) op (l.take k)).1 ∧ PM.OR (PM.enO 85 88 73 w.heap.size) 8 38 w.heap.size wr sl (PM.adm (fun i => PM.hasE ls i || PM.hasI ab i) op (l.take k)).2 ∧ PM.Apart sp sl ∧ PM.DS wr gs (fun i => (PM.hasE (PM.adm (fun i => PM.hasE ls i || PM.hasI ab i) op (l.take k)).1 i || PM.hasE (PM.adm (fun i => PM.hasE ls i || PM.hasI ab i) op (l.take k)).2 i) = true) ∧ PM.BK wr g #[.int .u64 (lf : Int), .slice a0 n0 c0, .slice a1 n1 c1, .slice a2 n2 c2] 27 ∧ Below w.heap.size w wr)) (fun _ _ i _ => N - (intOf i).toNat)
      case atStart => exact ⟨0, rfl, by omega, PM.hid ⟨hS2.out.1, PM.OR.nilrow _, PM.Apart.nil _ _ _, hS2.out.2.1.imp fun i => by simp [PM.adm, PM.hasE], hS2.out.2.2.1, hS2.out.2.2.2⟩⟩
      case round =>
        obtain ⟨k, rfl, hk, hin⟩ := hrel
        obtain ⟨hO, hL, hap, hD, hG, hB⟩ := hin.out
        have hBB := PM.hid hB
        replace hap := PM.hid hap
        clear hin
        have hpl := PM.adm_len (fun i => PM.hasE ls i || PM.hasI ab i) op (l.take k)
        have hkl : (l.take k).length = k := by rw [List.length_take]; rw [← hNh.out]; omega
        rw [hkl, ← hOh.out] at hpl
        obtain ⟨st, hst⟩ : ∃ st, st = PM.adm (fun i => PM.hasE ls i || PM.hasI ab i) op (l.take k) := ⟨_, rfl⟩
        rw [← hst] at hO hL hD hpl
        have hph := PM.hid hst
        clear hst hkl
        obtain ⟨p, q⟩ := st
        simp only at hO hL hD hpl
        obtain ⟨pa, pc, hpe⟩ := hO.rr.len
        obtain ⟨qa, qc, hqe⟩ := hL.rr.len
        subst hpe hqe
        obtain ⟨P, hP⟩ : ∃ t, t = p.length := ⟨_, rfl⟩
        obtain ⟨Q, hQ⟩ : ∃ t, t = q.length := ⟨_, rfl⟩
        rw [← hP] at hO hpl hap ⊢
        rw [← hQ] at hL hpl hap ⊢
        have hPh := PM.hid hP
        have hQh := PM.hid hQ
        clear hP hQ
        by_cases hlt : k < N
        · obtain ⟨z, hz⟩ : ∃ z, l[k]? = some z := ⟨l[k]'(by rw [← hNh.out]; exact hlt), List.getElem?_eq_getElem _⟩
          obtain ⟨b, off, rfl, hce⟩ := PM.RR.opn hv2.out (by rw [← hNh.out]; omega)
          obtain ⟨cs, hl0, hR⟩ := hce k z hz
          have hzs := PM.hid (hls.out.2 z (List.mem_of_getElem? hz))
          obtain ⟨fa, fc, ea, ec, hcs, hzf, hze⟩ := PM.enR_open hR
          replace hl0 := hl0.keep hB
          rw [hcs] at hl0
          have d0 : wr.cell? ⟨b, off + k * 8, none⟩ = some (.int .i64 z.kind) := hl0 0 _ rfl
          have d1 : wr.cell? ⟨b, off + k * 8 + 1, none⟩ = some (.int .i64 z.id.br) := hl0 1 _ rfl
          have d2 : wr.cell? ⟨b, off + k * 8 + 2, none⟩ = some (.int .u64 (z.id.life : Int)) := hl0 2 _ rfl
          have d3 : wr.cell? ⟨b, off + k * 8 + 3, none⟩ = some (.int .u64 (z.id.ser : Int)) := hl0 3 _ rfl
          have d4 : wr.cell? ⟨b, off + k * 8 + 4, none⟩ = some (.int .i64 z.client) := hl0 4 _ rfl
          have d5 : wr.cell? ⟨b, off + k * 8 + 5, none⟩ = some (.int .u64 (z.sub : Int)) := hl0 5 _ rfl
          have d6 : wr.cell? ⟨b, off + k * 8 + 6, none⟩ = some (.slice fa z.fil.length fc) := hl0 6 _ rfl
          have d7 : wr.cell? ⟨b, off + k * 8 + 7, none⟩ = some (.slice ea z.evs.length ec) := hl0 7 _ rfl
          have hzh := PM.hid hz
          obtain ⟨zF, hzF⟩ : ∃ P, P = z.fil.length := ⟨_, rfl⟩
          obtain ⟨zE, hzE⟩ : ∃ P, P = z.evs.length := ⟨_, rfl⟩
          have hen : Hid (∀ W : World, Below w.heap.size w W → Calls Try.prog 20 #[.agg #[.int .i64 z.kind, .int .i64 z.id.br, .int .u64 (z.id.life : Int), .int .u64 (z.id.ser : Int), .int .i64 z.client, .int .u64 (z.sub : Int), .slice fa zF fc, .slice ea zE ec]] W fun e w' => ∃ ua uc ta tc, e = .returned (.agg #[.int .i64 z.kind, .int .i64 z.id.br, .int .u64 (z.id.life : Int), .int .u64 (z.id.ser : Int), .int .i64 z.client, .int .u64 (z.sub : Int), .slice ua zF uc, .slice ta zE tc]) ∧ PM.enO 85 88 73 W.heap.size w' [.int .i64 z.kind, .int .i64 z.id.br, .int .u64 (z.id.life : Int), .int .u64 (z.id.ser : Int), .int .i64 z.client, .int .u64 (z.sub : Int), .slice ua zF uc, .slice ta zE tc] z ∧ Below W.heap.size W w') := PM.hid fun W hb => by
            rw [hzF, hzE]
            exact ownEn_any z _ _ W (hzf.keep hb) (PM.EVL.keepO hb hze) hzs.out
          rw [← hzF] at d6
          rw [← hzE] at d7
          clear hz hce hl0 hR hcs cs hzf hze hzF hzE
          clear hB
          go_upto_region 12 with fail
          obtain ⟨gx, hgx⟩ : ∃ g, g = wr.heap.size := ⟨_, rfl⟩
          obtain ⟨w3, hw3⟩ : ∃ W, W = wr.alloc (.cells #[.int .i64 z.kind, .int .i64 z.id.br, .int .u64 (z.id.life : Int), .int .u64 (z.id.ser : Int), .int .i64 z.client, .int .u64 (z.sub : Int), .slice fa zF fc, .slice ea zE ec] 38) := ⟨_, rfl⟩
          have hBn : Below wr.heap.size wr w3 := by rw [hw3]; exact (Below.refl _ _).alloc (Nat.le_refl _) _
          have kx : PM.BK w3 gx #[.int .i64 z.kind, .int .i64 z.id.br, .int .u64 (z.id.life : Int), .int .u64 (z.id.ser : Int), .int .i64 z.client, .int .u64 (z.sub : Int), .slice fa zF fc, .slice ea zE ec] 38 := by rw [hw3, hgx]; exact PM.BK.new _ _ _
          rw [← hw3, ← hgx]
          have hgO := hO.lt
          have hgL := hL.lt
          rw [← hgx] at hgO hgL
          replace hgO := PM.hid hgO
          replace hgL := PM.hid hgL
          clear hw3 hgx
          clear d0 d1 d2 d3 d4 d5 d6 d7
          replace hO := PM.OR.keep PM.enO_lasts hBn hO
          replace hL := PM.OR.keep PM.enO_lasts hBn hL
          replace hD := hD.keep hBn
          replace hG := hG.keep hBn
          replace hBB := PM.hid (PM.chain hBB.out hBn)
          clear hBn
          obtain ⟨c, hc, hlk⟩ := PM.run_lookD Try.underlying57 idKey hD z.id unitZO
          unfold PM.idv at hlk
          have hch := PM.hid hc
          clear hc
          have x0 : w3.cell? ⟨gx, 0, none⟩ = some (.int .i64 z.kind) := kx.cell 0
          have x1 : w3.cell? ⟨gx, 1, none⟩ = some (.int .i64 z.id.br) := kx.cell 1
          have x2 : w3.cell? ⟨gx, 2, none⟩ = some (.int .u64 (z.id.life : Int)) := kx.cell 2
          have x3 : w3.cell? ⟨gx, 3, none⟩ = some (.int .u64 (z.id.ser : Int)) := kx.cell 3
          have x4 : w3.cell? ⟨gx, 4, none⟩ = some (.int .i64 z.client) := kx.cell 4
          have x5 : w3.cell? ⟨gx, 5, none⟩ = some (.int .u64 (z.sub : Int)) := kx.cell 5
          have x6 : w3.cell? ⟨gx, 6, none⟩ = some (.slice fa zF fc) := kx.cell 6
          have x7 : w3.cell? ⟨gx, 7, none⟩ = some (.slice ea zE ec) := kx.cell 7
          go_upto_region 13 with fail
          obtain ⟨w4, hw4⟩ : ∃ W, W = w3.alloc (.cells #[] 58) := ⟨_, rfl⟩
          have hBn : Below w3.heap.size w3 w4 := by rw [hw4]; exact (Below.refl _ _).alloc (Nat.le_refl _) _
          rw [← hw4]
          clear hw4 hlk x0 x1 x2 x3 x4 x5 x6 x7
          replace hO := PM.OR.keep PM.enO_lasts hBn hO
          replace hL := PM.OR.keep PM.enO_lasts hBn hL
          replace hD := hD.keep hBn
          replace hG := hG.keep hBn
          replace kx := kx.keep hBn
          replace hBB := PM.hid (PM.chain hBB.out hBn)
          clear hBn
          cases c
          case true =>
            have hin2 := PM.hid (And.intro hO (And.intro hL (And.intro hD hG)))
            clear hO hL hD hG kx
            go_wp2_with fail
            exact ⟨⟨k + 1, by go_num, by omega, PM.hid (by rw [PM.adm_snoc hzh.out, ← hph.out, PM.adm1_seen (hch.out.1 rfl)]; exact ⟨hin2.out.1, hin2.out.2.1, hap.out, hin2.out.2.2.1, hin2.out.2.2.2, hBB.out⟩)⟩, by simp only [intOf]; omega⟩
          have hnos : Hid ((PM.hasE p z.id || PM.hasE q z.id) = false) := PM.hid (by
            cases h : (PM.hasE p z.id || PM.hasE q z.id)
            · rfl
            · exact absurd (hch.out.2 h) (by simp))
          clear hch
          have f1 := hasS_any lf a0 n0 c0 a1 n1 c1 a2 n2 c2 z.id ls w4 (PM.EnL.keep hs0.out.1 hBB.out)
          have x0 : w4.cell? ⟨gx, 0, none⟩ = some (.int .i64 z.kind) := kx.cell 0
          have x1 : w4.cell? ⟨gx, 1, none⟩ = some (.int .i64 z.id.br) := kx.cell 1
          have x2 : w4.cell? ⟨gx, 2, none⟩ = some (.int .u64 (z.id.life : Int)) := kx.cell 2
          have x3 : w4.cell? ⟨gx, 3, none⟩ = some (.int .u64 (z.id.ser : Int)) := kx.cell 3
          have x4 : w4.cell? ⟨gx, 4, none⟩ = some (.int .i64 z.client) := kx.cell 4
          have x5 : w4.cell? ⟨gx, 5, none⟩ = some (.int .u64 (z.sub : Int)) := kx.cell 5
          have x6 : w4.cell? ⟨gx, 6, none⟩ = some (.slice fa zF fc) := kx.cell 6
          have x7 : w4.cell? ⟨gx, 7, none⟩ = some (.slice ea zE ec) := kx.cell 7
          have y0 : w4.cell? ⟨g, 0, none⟩ = some (.int .u64 (lf : Int)) := hG.cell 0
          have y1 : w4.cell? ⟨g, 1, none⟩ = some (.slice a0 n0 c0) := hG.cell 1
          have y2 : w4.cell? ⟨g, 2, none⟩ = some (.slice a1 n1 c1) := hG.cell 2
          have y3 : w4.cell? ⟨g, 3, none⟩ = some (.slice a2 n2 c2) := hG.cell 3
          go_wp2_with fail
          refine f1.mono ?_
          clear f1 x0 x1 x2 x3 x4 x5 x6 x7 y0 y1 y2 y3
          rintro e w5 ⟨rfl, hBn⟩
          replace hO := PM.OR.keep PM.enO_lasts hBn hO
          replace hL := PM.OR.keep PM.enO_lasts hBn hL
          replace hD := hD.keep hBn
          replace hG := hG.keep hBn
          replace kx := kx.keep hBn
          replace hBB := PM.hid (PM.chain hBB.out hBn)
          clear hBn
          cases e1 : PM.hasE ls z.id
          case true =>
            have e1h := PM.hid e1
            clear e1
            have hin2 := PM.hid (And.intro hO (And.intro hL (And.intro hD hG)))
            clear hO hL hD hG kx
            go_wp2_with fail
            exact ⟨⟨k + 1, by go_num, by omega, PM.hid (by rw [PM.adm_snoc hzh.out, ← hph.out, PM.adm1_known (by show (PM.hasE ls z.id || PM.hasI ab z.id) = _; rw [e1h.out]; rfl)]; exact ⟨hin2.out.1, hin2.out.2.1, hap.out, hin2.out.2.2.1, hin2.out.2.2.2, hBB.out⟩)⟩, by simp only [intOf]; omega⟩
          have e1h := PM.hid e1
          clear e1
          have f2 := abortS_any lf a0 n0 c0 a1 n1 c1 a2 n2 c2 z.id ab w5 (hs0.out.2.2.keep hBB.out)
          have x0 : w5.cell? ⟨gx, 0, none⟩ = some (.int .i64 z.kind) := kx.cell 0
          have x1 : w5.cell? ⟨gx, 1, none⟩ = some (.int .i64 z.id.br) := kx.cell 1
          have x2 : w5.cell? ⟨gx, 2, none⟩ = some (.int .u64 (z.id.life : Int)) := kx.cell 2
          have x3 : w5.cell? ⟨gx, 3, none⟩ = some (.int .u64 (z.id.ser : Int)) := kx.cell 3
          have x4 : w5.cell? ⟨gx, 4, none⟩ = some (.int .i64 z.client) := kx.cell 4
          have x5 : w5.cell? ⟨gx, 5, none⟩ = some (.int .u64 (z.sub : Int)) := kx.cell 5
          have x6 : w5.cell? ⟨gx, 6, none⟩ = some (.slice fa zF fc) := kx.cell 6
          have x7 : w5.cell? ⟨gx, 7, none⟩ = some (.slice ea zE ec) := kx.cell 7
          have y0 : w5.cell? ⟨g, 0, none⟩ = some (.int .u64 (lf : Int)) := hG.cell 0
          have y1 : w5.cell? ⟨g, 1, none⟩ = some (.slice a0 n0 c0) := hG.cell 1
          have y2 : w5.cell? ⟨g, 2, none⟩ = some (.slice a1 n1 c1) := hG.cell 2
          have y3 : w5.cell? ⟨g, 3, none⟩ = some (.slice a2 n2 c2) := hG.cell 3
          go_wp2_with fail
          refine f2.mono ?_
          clear f2 x0 x1 x2 x3 x4 x5 x6 x7 y0 y1 y2 y3
          rintro e w6 ⟨rfl, hBn⟩
          replace hO := PM.OR.keep PM.enO_lasts hBn hO
          replace hL := PM.OR.keep PM.enO_lasts hBn hL
          replace hD := hD.keep hBn
          replace hG := hG.keep hBn
          replace kx := kx.keep hBn
          replace hBB := PM.hid (PM.chain hBB.out hBn)
          clear hBn
          cases e2 : PM.hasI ab z.id
          case true =>
            have e2h := PM.hid e2
            clear e2
            have hin2 := PM.hid (And.intro hO (And.intro hL (And.intro hD hG)))
            clear hO hL hD hG kx
            go_wp2_with fail
            exact ⟨⟨k + 1, by go_num, by omega, PM.hid (by rw [PM.adm_snoc hzh.out, ← hph.out, PM.adm1_known (by show (PM.hasE ls z.id || PM.hasI ab z.id) = _; rw [e1h.out, e2h.out]; rfl)]; exact ⟨hin2.out.1, hin2.out.2.1, hap.out, hin2.out.2.2.1, hin2.out.2.2.2, hBB.out⟩)⟩, by simp only [intOf]; omega⟩
          have e2h := PM.hid e2
          clear e2
          have hkno : Hid ((fun i => PM.hasE ls i || PM.hasI ab i) z.id = false) := PM.hid (by show (PM.hasE ls z.id || PM.hasI ab z.id) = _; rw [e1h.out, e2h.out]; rfl)
          by_cases hk1 : z.kind = 1
          · have q1 : (z.kind == 1) = true := by simp [hk1]
            have hk1h := PM.hid hk1
            have xk : w6.cell? ⟨gx, 0, none⟩ = some (.int .i64 1) := by rw [← hk1]; exact kx.cell 0
            clear hk1 q1
            by_cases h4 : P < 4
            · have q2 : decide ((P : Int) < 4) = true := by simp; omega
              have q2' : (P : Int) < 4 := by omega
              go_upto_region 17 with fail
              clear xk
              have x0 : w6.cell? ⟨gx, 0, none⟩ = some (.int .i64 z.kind) := kx.cell 0
              have x1 : w6.cell? ⟨gx, 1, none⟩ = some (.int .i64 z.id.br) := kx.cell 1
              have x2 : w6.cell? ⟨gx, 2, none⟩ = some (.int .u64 (z.id.life : Int)) := kx.cell 2
              have x3 : w6.cell? ⟨gx, 3, none⟩ = some (.int .u64 (z.id.ser : Int)) := kx.cell 3
              have x4 : w6.cell? ⟨gx, 4, none⟩ = some (.int .i64 z.client) := kx.cell 4
              have x5 : w6.cell? ⟨gx, 5, none⟩ = some (.int .u64 (z.sub : Int)) := kx.cell 5
              have x6 : w6.cell? ⟨gx, 6, none⟩ = some (.slice fa zF fc) := kx.cell 6
              have x7 : w6.cell? ⟨gx, 7, none⟩ = some (.slice ea zE ec) := kx.cell 7
              go_wp2_with fail
              refine (hen.out w6 hBB.out).mono ?_
              rintro e w7 ⟨ua, uc, ta, tc, rfl, hRy, hBn⟩
              clear x0 x1 x2 x3 x4 x5 x6 x7
              replace hRy := PM.enO_mono hBB.out.size hRy
              replace hO := PM.OR.keep PM.enO_lasts hBn hO
              replace hL := PM.OR.keep PM.enO_lasts hBn hL
              replace hD := hD.keep hBn
              replace hG := hG.keep hBn
              replace kx := kx.keep hBn
              replace hBB := PM.hid (PM.chain hBB.out hBn)
              clear hBn
              have hl16 : (p.length + 1) * 96 ≤ 140737488355328 := by rw [← hPh.out]; omega
              have hl17 : p.length + 1 ≤ maxLen := by rw [← hPh.out]; unfold maxLen; omega
              have hsz := hBB.out.size
              have hrt := hO.rt
              have hEl := fun j h => (hL.lt j h).2
              rw [hPh.out] at hO
              have hfr := PM.hid (And.intro hL (And.intro hD (And.intro hG kx)))
              clear hL hD hG kx
              go_upto_region 18 with (at_builtin; rw [hPh.out]; go_loud (refine PM.wpList_or1s tyEnO (PM.enO_stays (by decide) (by decide) (by decide)) PM.enO_lasts w.heap.size w7 rfl _ _ rfl _ p z (PM.enCe z ua zF uc ta zE tc) _ rfl rfl rfl rfl hRy hO hl16 hl17 hsz ?_); intro v' w' t1 t2 t3 t4; rw [← hPh.out] at t3 t4; have hE := PM.hid (And.intro t1 (And.intro (hBB.out.trans t2) (And.intro t3 t4))); clear t1 t2 t3 t4 hRy hsz hO)
              have hot := PM.OR.kept (PM.enO_stays (by decide) (by decide) (by decide)) hfr.out.1 hE.out.2.2.1 hrt (hap.out)
              have hD := hfr.out.2.1.grownK hE.out.2.2.1 hrt
              have hG := hfr.out.2.2.1.grown hE.out.2.2.1 hrt (by decide)
              have kx := hfr.out.2.2.2.grownN hE.out.2.2.1 (fun j hj => (hgO.out j hj).2)
              have hapn := PM.hid (hap.out.sep hE.out.2.2.2 hEl)
              have hgr := hE.out.1
              obtain ⟨w8, hup, hD8, hx8⟩ := PM.run_insD Try.underlying57 idKey hD z.id
              unfold PM.idv at hup
              have x0 : w'.cell? ⟨gx, 0, none⟩ = some (.int .i64 z.kind) := kx.cell 0
              have x1 : w'.cell? ⟨gx, 1, none⟩ = some (.int .i64 z.id.br) := kx.cell 1
              have x2 : w'.cell? ⟨gx, 2, none⟩ = some (.int .u64 (z.id.life : Int)) := kx.cell 2
              have x3 : w'.cell? ⟨gx, 3, none⟩ = some (.int .u64 (z.id.ser : Int)) := kx.cell 3
              have x4 : w'.cell? ⟨gx, 4, none⟩ = some (.int .i64 z.client) := kx.cell 4
              have x5 : w'.cell? ⟨gx, 5, none⟩ = some (.int .u64 (z.sub : Int)) := kx.cell 5
              have x6 : w'.cell? ⟨gx, 6, none⟩ = some (.slice fa zF fc) := kx.cell 6
              have x7 : w'.cell? ⟨gx, 7, none⟩ = some (.slice ea zE ec) := kx.cell 7
              have hgr8 := hgr.keepD PM.enO_staysD hx8 hD
              have hot8 := hot.keepD PM.enO_staysD hx8 hD
              have hG8 := hG.keepx hx8 (hD.neB hG)
              have hB8 := PM.hid (PM.Bx.below hE.out.2.1 hx8 hgw.out hE.out.2.1.size)
              have hin3 := PM.hid (And.intro hgr8 (And.intro hot8 (And.intro hD8 hG8)))
              clear hgr hot hD hG kx hgr8 hot8 hD8 hG8 hx8
              go_wp2_with fail
              refine ⟨⟨k + 1, by go_num, by omega, PM.hid ?_⟩, by simp only [intOf]; omega⟩
              rw [PM.adm_snoc hzh.out, ← hph.out, PM.adm1_wait hnos.out hkno.out hk1h.out (by rw [← hPh.out]; exact h4)]
              refine ⟨hin3.out.1, hin3.out.2.1, hapn.out, hin3.out.2.2.1.imp fun i => ?_, hin3.out.2.2.2, hB8.out⟩
              simp only [PM.hasE_snoc, Bool.or_eq_true, decide_eq_true_eq]
              exact ⟨fun h => h.elim (fun h => h.elim (fun h => .inl (.inl h)) .inr) fun h => .inl (.inr h.symm), fun h => h.elim (fun h => h.elim (fun h => .inl (.inl h)) fun h => .inr h.symm) fun h => .inl (.inr h)⟩
            · have q2 : decide ((P : Int) < 4) = false := by simp; omega
              have q2' : ¬ (P : Int) < 4 := by omega
              have hin2 := PM.hid (And.intro hO (And.intro hL (And.intro hD hG)))
              clear hO hL hD hG kx
              go_wp2_with fail
              exact ⟨⟨k + 1, by go_num, by omega, PM.hid (by rw [PM.adm_snoc hzh.out, ← hph.out, PM.adm1_full hnos.out hkno.out hk1h.out (by rw [← hPh.out]; exact h4)]; exact ⟨hin2.out.1, hin2.out.2.1, hap.out, hin2.out.2.2.1, hin2.out.2.2.2, hBB.out⟩)⟩, by simp only [intOf]; omega⟩
          · have q1 : (z.kind == 1) = false := by simp [hk1]
            have hk1h := PM.hid hk1
            have xk : w6.cell? ⟨gx, 0, none⟩ = some (.int .i64 z.kind) := kx.cell 0
            go_upto_region 15 with fail
            clear xk q1 hk1
            have x0 : w6.cell? ⟨gx, 0, none⟩ = some (.int .i64 z.kind) := kx.cell 0
            have x1 : w6.cell? ⟨gx, 1, none⟩ = some (.int .i64 z.id.br) := kx.cell 1
            have x2 : w6.cell? ⟨gx, 2, none⟩ = some (.int .u64 (z.id.life : Int)) := kx.cell 2
            have x3 : w6.cell? ⟨gx, 3, none⟩ = some (.int .u64 (z.id.ser : Int)) := kx.cell 3
            have x4 : w6.cell? ⟨gx, 4, none⟩ = some (.int .i64 z.client) := kx.cell 4
            have x5 : w6.cell? ⟨gx, 5, none⟩ = some (.int .u64 (z.sub : Int)) := kx.cell 5
            have x6 : w6.cell? ⟨gx, 6, none⟩ = some (.slice fa zF fc) := kx.cell 6
            have x7 : w6.cell? ⟨gx, 7, none⟩ = some (.slice ea zE ec) := kx.cell 7
            go_wp2_with fail
            refine (hen.out w6 hBB.out).mono ?_
            rintro e w7 ⟨ua, uc, ta, tc, rfl, hRy, hBn⟩
            clear x0 x1 x2 x3 x4 x5 x6 x7
            replace hRy := PM.enO_mono hBB.out.size hRy
            replace hO := PM.OR.keep PM.enO_lasts hBn hO
            replace hL := PM.OR.keep PM.enO_lasts hBn hL
            replace hD := hD.keep hBn
            replace hG := hG.keep hBn
            replace kx := kx.keep hBn
            replace hBB := PM.hid (PM.chain hBB.out hBn)
            clear hBn
            have hl16 : (q.length + 1) * 96 ≤ 140737488355328 := by rw [← hQh.out]; omega
            have hl17 : q.length + 1 ≤ maxLen := by rw [← hQh.out]; unfold maxLen; omega
            have hsz := hBB.out.size
            have hrt := hL.rt
            have hEl := fun j h => (hO.lt j h).2
            rw [hQh.out] at hL
            have hfr := PM.hid (And.intro hO (And.intro hD (And.intro hG kx)))
            clear hO hD hG kx
            go_upto_region 18 with (at_builtin; rw [hQh.out]; go_loud (refine PM.wpList_or1s tyEnO (PM.enO_stays (by decide) (by decide) (by decide)) PM.enO_lasts w.heap.size w7 rfl _ _ rfl _ q z (PM.enCe z ua zF uc ta zE tc) _ rfl rfl rfl rfl hRy hL hl16 hl17 hsz ?_); intro v' w' t1 t2 t3 t4; rw [← hQh.out] at t3 t4; have hE := PM.hid (And.intro t1 (And.intro (hBB.out.trans t2) (And.intro t3 t4))); clear t1 t2 t3 t4 hRy hsz hL)
            have hot := PM.OR.kept (PM.enO_stays (by decide) (by decide) (by decide)) hfr.out.1 hE.out.2.2.1 hrt (hap.out.symm)
            have hD := hfr.out.2.1.grownK hE.out.2.2.1 hrt
            have hG := hfr.out.2.2.1.grown hE.out.2.2.1 hrt (by decide)
            have kx := hfr.out.2.2.2.grownN hE.out.2.2.1 (fun j hj => (hgL.out j hj).2)
            have hapn := PM.hid ((hap.out.symm.sep hE.out.2.2.2 hEl).symm)
            have hgr := hE.out.1
            obtain ⟨w8, hup, hD8, hx8⟩ := PM.run_insD Try.underlying57 idKey hD z.id
            unfold PM.idv at hup
            have x0 : w'.cell? ⟨gx, 0, none⟩ = some (.int .i64 z.kind) := kx.cell 0
            have x1 : w'.cell? ⟨gx, 1, none⟩ = some (.int .i64 z.id.br) := kx.cell 1
            have x2 : w'.cell? ⟨gx, 2, none⟩ = some (.int .u64 (z.id.life : Int)) := kx.cell 2
            have x3 : w'.cell? ⟨gx, 3, none⟩ = some (.int .u64 (z.id.ser : Int)) := kx.cell 3
            have x4 : w'.cell? ⟨gx, 4, none⟩ = some (.int .i64 z.client) := kx.cell 4
            have x5 : w'.cell? ⟨gx, 5, none⟩ = some (.int .u64 (z.sub : Int)) := kx.cell 5
            have x6 : w'.cell? ⟨gx, 6, none⟩ = some (.slice fa zF fc) := kx.cell 6
            have x7 : w'.cell? ⟨gx, 7, none⟩ = some (.slice ea zE ec) := kx.cell 7
            have hgr8 := hgr.keepD PM.enO_staysD hx8 hD
            have hot8 := hot.keepD PM.enO_staysD hx8 hD
            have hG8 := hG.keepx hx8 (hD.neB hG)
            have hB8 := PM.hid (PM.Bx.below hE.out.2.1 hx8 hgw.out hE.out.2.1.size)
            have hin3 := PM.hid (And.intro hgr8 (And.intro hot8 (And.intro hD8 hG8)))
            clear hgr hot hD hG kx hgr8 hot8 hD8 hG8 hx8
            go_wp2_with fail
            refine ⟨⟨k + 1, by go_num, by omega, PM.hid ?_⟩, by simp only [intOf]; omega⟩
            rw [PM.adm_snoc hzh.out, ← hph.out, PM.adm1_list hnos.out hkno.out hk1h.out]
            refine ⟨hin3.out.2.1, hin3.out.1, hapn.out, hin3.out.2.2.1.imp fun i => ?_, hin3.out.2.2.2, hB8.out⟩
            simp only [PM.hasE_snoc, Bool.or_eq_true, decide_eq_true_eq]
            exact ⟨fun h => h.elim (fun h => h.elim .inl fun h => .inr (.inl h)) fun h => .inr (.inr h.symm), fun h => h.elim (fun h => .inl (.inl h)) fun h => h.elim (fun h => .inl (.inr h)) fun h => .inr h.symm⟩
        · obtain rfl : k = N := by omega
          have htk : Hid (PM.adm (fun i => PM.hasE ls i || PM.hasI ab i) op l = (p, q)) := PM.hid (by
            have := hph.out
            rw [hNh.out, List.take_length] at this
            exact this.symm)
          have hfin := PM.hid (And.intro hO (And.intro hL hBB.out))
          clear hO hL hD hG hB
          go_wp2_with fail
          rw [Exit.noGoto_ret]
          go_ret2
          exact ⟨_, _, rfl, by rw [htk.out]; exact hfin.out.1, by rw [htk.out]; exact hfin.out.2.1, hfin.out.2.2⟩
end Go.Proofs.Ytlijmmldfdmajaa
