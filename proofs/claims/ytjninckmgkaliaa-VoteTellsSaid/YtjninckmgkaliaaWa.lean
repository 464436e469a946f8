/-
  CONTRACTS OF vote.knows, vote.Promise.
-/
import Derived.Test.YtjninckmgkaliaaVk
namespace Go.Proofs.Ytjninckmgkaliaa
open Go.RowKit
set_option linter.unusedVariables false
set_option linter.unusedSimpArgs false
namespace PM
/-- a state's lists, as its cells read -/
def StR (w : World) (v0 v1 v2 : Value) (ls ps : List En) (ab : List Id) : Prop := EnL w v0 ls ∧ EnL w v1 ps ∧ EM idL 3 w v2 ab
theorem StR.keep {W w : World} {v0 v1 v2 : Value} {ls ps : List En} {ab : List Id} (h : StR W v0 v1 v2 ls ps ab) (hb : Below W.heap.size W w) : StR w v0 v1 v2 ls ps ab := ⟨EnL.keep h.1 hb, EnL.keep h.2.1 hb, h.2.2.keep hb⟩
def kn (ls ps : List En) (ab : List Id) (i : Id) : Bool := hasE ls i || hasE ps i || hasI ab i
/-- one entry more, of those that may come: what is promised, what is refused -/
def prm1 (k : Id → Bool) (n : Nat) (st : List En × List Id) (x : En) : List En × List Id :=
  if (hasE st.1 x.id || hasI st.2 x.id) || k x.id then st else if n + st.1.length < 6 then (st.1 ++ [x], st.2) else (st.1, st.2 ++ [x.id])
def prm (k : Id → Bool) (n : Nat) (l : List En) : List En × List Id := l.foldl (prm1 k n) ([], [])
theorem prm1_len (k : Id → Bool) (n : Nat) (st : List En × List Id) (x : En) : (prm1 k n st x).1.length + (prm1 k n st x).2.length ≤ st.1.length + st.2.length + 1 := by
  unfold prm1
  split
  · omega
  · split
    · simp; omega
    · simp; omega
theorem prm_lenA (k : Id → Bool) (n : Nat) : ∀ (l : List En) (st : List En × List Id), (l.foldl (prm1 k n) st).1.length + (l.foldl (prm1 k n) st).2.length ≤ st.1.length + st.2.length + l.length
  | [], st => by simp
  | x :: l, st => by
    have h1 := prm_lenA k n l (prm1 k n st x)
    have h2 := prm1_len k n st x
    simp only [List.foldl_cons, List.length_cons]
    omega
theorem prm_len (k : Id → Bool) (n : Nat) (l : List En) : (prm k n l).1.length + (prm k n l).2.length ≤ l.length := by
  have := prm_lenA k n l ([], [])
  simpa [prm] using this
theorem hasE_snoc (p : List En) (x : En) (i : Id) : hasE (p ++ [x]) i = (hasE p i || decide (x.id = i)) := by simp [hasE, isId]
theorem hasI_snoc (r : List Id) (x i : Id) : hasI (r ++ [x]) i = (hasI r i || decide (i = x)) := by simp [hasI]
theorem prm_snoc {k : Id → Bool} {n : Nat} {l : List En} {j : Nat} {x : En} (h : l[j]? = some x) : prm k n (l.take (j + 1)) = prm1 k n (prm k n (l.take j)) x := by
  unfold prm
  rw [take_at h, List.foldl_append]
  rfl
end PM
set_option maxHeartbeats 4000000 in
theorem knows_any (lf : Nat) (a0 : Option Addr) (n0 c0 : Nat) (a1 : Option Addr) (n1 c1 : Nat) (a2 : Option Addr) (n2 c2 : Nat) (i : PM.Id) (ls ps : List PM.En) (ab : List PM.Id) (w : World) (hs : PM.StR w (.slice a0 n0 c0) (.slice a1 n1 c1) (.slice a2 n2 c2) ls ps ab) :
    Calls Try.prog 26 #[.agg #[.int .u64 (lf : Int), .slice a0 n0 c0, .slice a1 n1 c1, .slice a2 n2 c2], .agg #[.int .i64 i.br, .int .u64 (i.life : Int), .int .u64 (i.ser : Int)]] w fun e w' => e = .returned (.bool (PM.kn ls ps ab i)) ∧ Below w.heap.size w w' := by
  obtain ⟨g, hg⟩ : ∃ g, g = w.heap.size := ⟨_, rfl⟩
  obtain ⟨gi, hgi⟩ : ∃ g, g = w.heap.size + 1 := ⟨_, rfl⟩
  obtain ⟨w1, hw1⟩ : ∃ W, W = w.alloc (.cells #[.int .u64 (lf : Int), .slice a0 n0 c0, .slice a1 n1 c1, .slice a2 n2 c2] 27) := ⟨_, rfl⟩
  obtain ⟨w2, hw2⟩ : ∃ W, W = w1.alloc (.cells #[.int .i64 i.br, .int .u64 (i.life : Int), .int .u64 (i.ser : Int)] 30) := ⟨_, rfl⟩
  have hs1 : w1.heap.size = w.heap.size + 1 := by rw [hw1]; simp
  have hal : Below w.heap.size w w1 := by rw [hw1]; exact (Below.refl _ _).alloc (Nat.le_refl _) _
  have hal2 : Below w1.heap.size w1 w2 := by rw [hw2]; exact (Below.refl _ _).alloc (Nat.le_refl _) _
  have kg : PM.BK w1 g #[.int .u64 (lf : Int), .slice a0 n0 c0, .slice a1 n1 c1, .slice a2 n2 c2] 27 := by rw [hw1, hg]; exact PM.BK.new _ _ _
  replace kg := kg.keep hal2
  have ki : PM.BK w2 gi #[.int .i64 i.br, .int .u64 (i.life : Int), .int .u64 (i.ser : Int)] 30 := by rw [hw2, hgi, ← hs1]; exact PM.BK.new _ _ _
  have hBB := PM.hid (PM.chain hal hal2)
  have hsh := PM.hid hs
  have h1 := fun (W : World) (hb : Below w.heap.size w W) => hasS_any lf a0 n0 c0 a1 n1 c1 a2 n2 c2 i ls W (PM.EnL.keep hs.1 hb)
  have h2 := fun (W : World) (hb : Below w.heap.size w W) => promS_any lf a0 n0 c0 a1 n1 c1 a2 n2 c2 i ps W (PM.EnL.keep hs.2.1 hb)
  have h3 := fun (W : World) (hb : Below w.heap.size w W) => abortS_any lf a0 n0 c0 a1 n1 c1 a2 n2 c2 i ab W (hs.2.2.keep hb)
  have hkn : Hid (PM.kn ls ps ab i = (PM.hasE ls i || PM.hasE ps i || PM.hasI ab i)) := PM.hid rfl
  replace h1 := PM.hid h1
  replace h2 := PM.hid h2
  replace h3 := PM.hid h3
  clear hal hal2 hs1 hs hsh
  obtain ⟨ib, il, ir⟩ := i
  simp only at h1 h2 h3 hw2 ki
  go_enter Try.func26, Try.ntmps26
  go_upto_region 1 with fail
  rw [← hw1, ← hw2, ← hgi, ← hg]
  clear hw1 hw2 hg hgi
  have x0 : w2.cell? ⟨g, 0, none⟩ = some (.int .u64 (lf : Int)) := kg.cell 0
  have x1 : w2.cell? ⟨g, 1, none⟩ = some (.slice a0 n0 c0) := kg.cell 1
  have x2 : w2.cell? ⟨g, 2, none⟩ = some (.slice a1 n1 c1) := kg.cell 2
  have x3 : w2.cell? ⟨g, 3, none⟩ = some (.slice a2 n2 c2) := kg.cell 3
  have y0 : w2.cell? ⟨gi, 0, none⟩ = some (.int .i64 ib) := ki.cell 0
  have y1 : w2.cell? ⟨gi, 1, none⟩ = some (.int .u64 (il : Int)) := ki.cell 1
  have y2 : w2.cell? ⟨gi, 2, none⟩ = some (.int .u64 (ir : Int)) := ki.cell 2
  go_wp2_with fail
  refine (h1.out w2 hBB.out).mono ?_
  rintro e w3 ⟨rfl, hBn⟩
  clear x0 x1 x2 x3 y0 y1 y2
  replace kg := kg.keep hBn
  replace ki := ki.keep hBn
  replace hBB := PM.hid (PM.chain hBB.out hBn)
  clear hBn
  cases e1 : PM.hasE ls ⟨ib, il, ir⟩
  case true =>
    have e1h := PM.hid e1
    clear e1 kg ki
    go_wp2_with fail
    go_ret
    exact ⟨by rw [hkn.out, e1h.out]; rfl, hBB.out⟩
  have e1h := PM.hid e1
  clear e1
  have x0 : w3.cell? ⟨g, 0, none⟩ = some (.int .u64 (lf : Int)) := kg.cell 0
  have x1 : w3.cell? ⟨g, 1, none⟩ = some (.slice a0 n0 c0) := kg.cell 1
  have x2 : w3.cell? ⟨g, 2, none⟩ = some (.slice a1 n1 c1) := kg.cell 2
  have x3 : w3.cell? ⟨g, 3, none⟩ = some (.slice a2 n2 c2) := kg.cell 3
  have y0 : w3.cell? ⟨gi, 0, none⟩ = some (.int .i64 ib) := ki.cell 0
  have y1 : w3.cell? ⟨gi, 1, none⟩ = some (.int .u64 (il : Int)) := ki.cell 1
  have y2 : w3.cell? ⟨gi, 2, none⟩ = some (.int .u64 (ir : Int)) := ki.cell 2
  go_wp2_with fail
  refine (h2.out w3 hBB.out).mono ?_
  rintro e w4 ⟨rfl, hBn⟩
  clear x0 x1 x2 x3 y0 y1 y2
  replace kg := kg.keep hBn
  replace ki := ki.keep hBn
  replace hBB := PM.hid (PM.chain hBB.out hBn)
  clear hBn
  cases e2 : PM.hasE ps ⟨ib, il, ir⟩
  case true =>
    have e2h := PM.hid e2
    clear e2 kg ki
    go_wp2_with fail
    go_ret
    exact ⟨by rw [hkn.out, e1h.out, e2h.out]; rfl, hBB.out⟩
  have e2h := PM.hid e2
  clear e2
  have x0 : w4.cell? ⟨g, 0, none⟩ = some (.int .u64 (lf : Int)) := kg.cell 0
  have x1 : w4.cell? ⟨g, 1, none⟩ = some (.slice a0 n0 c0) := kg.cell 1
  have x2 : w4.cell? ⟨g, 2, none⟩ = some (.slice a1 n1 c1) := kg.cell 2
  have x3 : w4.cell? ⟨g, 3, none⟩ = some (.slice a2 n2 c2) := kg.cell 3
  have y0 : w4.cell? ⟨gi, 0, none⟩ = some (.int .i64 ib) := ki.cell 0
  have y1 : w4.cell? ⟨gi, 1, none⟩ = some (.int .u64 (il : Int)) := ki.cell 1
  have y2 : w4.cell? ⟨gi, 2, none⟩ = some (.int .u64 (ir : Int)) := ki.cell 2
  go_wp2_with fail
  refine (h3.out w4 hBB.out).mono ?_
  rintro e w5 ⟨rfl, hBn⟩
  clear x0 x1 x2 x3 y0 y1 y2 kg ki
  replace hBB := PM.hid (PM.chain hBB.out hBn)
  clear hBn
  go_wp2_with fail
  go_ret
  exact ⟨by rw [hkn.out, e1h.out, e2h.out]; rfl, hBB.out⟩
theorem unitZ : ∀ w : World, (zeroValue 58).run Try.prog w = .ok (.agg #[]) w := fun w => rfl
namespace PM
theorem prm1_seen {k : Id → Bool} {n : Nat} {p : List En} {r : List Id} {x : En} (h : (hasE p x.id || hasI r x.id) = true) : prm1 k n (p, r) x = (p, r) := by
  unfold prm1
  rw [if_pos (by simp only [h, Bool.true_or])]
theorem prm1_known {k : Id → Bool} {n : Nat} {p : List En} {r : List Id} {x : En} (h : k x.id = true) : prm1 k n (p, r) x = (p, r) := by
  unfold prm1
  rw [if_pos (by simp only [h, Bool.or_true])]
theorem prm1_in {k : Id → Bool} {n : Nat} {p : List En} {r : List Id} {x : En} (h : (hasE p x.id || hasI r x.id) = false) (h1 : k x.id = false) (h2 : n + p.length < 6) : prm1 k n (p, r) x = (p ++ [x], r) := by
  unfold prm1
  rw [if_neg (by simp only [h, h1, Bool.or_false]; decide), if_pos h2]
theorem prm1_out {k : Id → Bool} {n : Nat} {p : List En} {r : List Id} {x : En} (h : (hasE p x.id || hasI r x.id) = false) (h1 : k x.id = false) (h2 : ¬ n + p.length < 6) : prm1 k n (p, r) x = (p, r ++ [x.id]) := by
  unfold prm1
  rw [if_neg (by simp only [h, h1, Bool.or_false]; decide), if_neg h2]
end PM
set_option maxRecDepth 100000 in
set_option maxHeartbeats 8000000 in
theorem promise_any (lf : Nat) (a0 : Option Addr) (n0 c0 : Nat) (a1 : Option Addr) (n1 c1 : Nat) (a2 : Option Addr) (n2 c2 : Nat) (v : Value) (l ls ps : List PM.En) (ab : List PM.Id) (w : World) (hs : PM.StR w (.slice a0 n0 c0) (.slice a1 n1 c1) (.slice a2 n2 c2) ls ps ab) (hn1 : n1 ≤ 1000) (hv : PM.EnL w v l) (hl : PM.EnsS l) :
    Calls Try.prog 11 #[.agg #[.int .u64 (lf : Int), .slice a0 n0 c0, .slice a1 n1 c1, .slice a2 n2 c2], v] w fun e w' => ∃ u r, e = .returned (.tuple #[u, r]) ∧ PM.OR (PM.enO 87 90 76 w.heap.size) 8 50 w.heap.size w' u (PM.prm (PM.kn ls ps ab) n1 l).1 ∧ PM.OM PM.idL 3 30 w.heap.size w' r (PM.prm (PM.kn ls ps ab) n1 l).2 ∧ Below w.heap.size w w' := by
  have hlen := hl.1
  obtain ⟨va, vc, rfl⟩ := hv.len
  obtain ⟨N, hN⟩ : ∃ N, N = l.length := ⟨_, rfl⟩
  have hNh := PM.hid hN
  rw [← hN] at hv hlen ⊢
  obtain ⟨g, hg⟩ : ∃ g, g = w.heap.size := ⟨_, rfl⟩
  obtain ⟨gs, hgs⟩ : ∃ g, g = w.heap.size + 1 := ⟨_, rfl⟩
  obtain ⟨w1, hw1⟩ : ∃ W, W = w.alloc (.cells #[.int .u64 (lf : Int), .slice a0 n0 c0, .slice a1 n1 c1, .slice a2 n2 c2] 27) := ⟨_, rfl⟩
  obtain ⟨w2, hw2⟩ : ∃ W, W = w1.alloc (.map #[] 0) := ⟨_, rfl⟩
  have hs1 : w1.heap.size = w.heap.size + 1 := by rw [hw1]; simp
  have hal : Below w.heap.size w w1 := by rw [hw1]; exact (Below.refl _ _).alloc (Nat.le_refl _) _
  have hal2 : Below w1.heap.size w1 w2 := by rw [hw2]; exact (Below.refl _ _).alloc (Nat.le_refl _) _
  have kg : PM.BK w1 g #[.int .u64 (lf : Int), .slice a0 n0 c0, .slice a1 n1 c1, .slice a2 n2 c2] 27 := by rw [hw1, hg]; exact PM.BK.new _ _ _
  replace kg := kg.keep hal2
  have kd : PM.DS w2 gs (fun _ => False) := by rw [hw2, hgs, ← hs1]; exact PM.DS.new _
  have hgw : w.heap.size ≤ gs := by omega
  have hBB := PM.hid (PM.chain hal hal2)
  have hsh := PM.hid (And.intro hs (And.intro hv hl))
  have hdk := PM.hid (And.intro kg kd)
  clear hal hal2 hs1 hs hv hl hN kg kd
  have hmm : ∀ W : World, (Instr.makeMap 57 none).run Try.prog W = .ok (.map (some W.heap.size)) (W.alloc (.map #[] 0)) := fun W => rfl
  go_enter Try.func11, Try.ntmps11
  go_wp2_with fail
  rw [← hw1, ← hw2, ← hgs, ← hg]
  clear hw1 hw2 hg hgs hmm
  go_loopw [6, 7, 16] (fun sp sr i wr => ∃ k : Nat, i = .int .i64 k ∧ k ≤ N ∧ Hid (PM.OR (PM.enO 87 90 76 w.heap.size) 8 50 w.heap.size wr sp (PM.prm (PM.kn ls ps ab) n1 (l.take k)).1 ∧ PM.OM PM.idL 3 30 w.heap.size wr sr (PM.prm (PM.kn ls ps ab) n1 (l.take k)).2 ∧
    PM.DS wr gs (fun i => (PM.hasE (PM.prm (PM.kn ls ps ab) n1 (l.take k)).1 i || PM.hasI (PM.prm (PM.kn ls ps ab) n1 (l.take k)).2 i) = true) ∧ PM.BK wr g #[.int .u64 (lf : Int), .slice a0 n0 c0, .slice a1 n1 c1, .slice a2 n2 c2] 27 ∧ Below w.heap.size w wr)) (fun _ _ i _ => N - (intOf i).toNat)
  case atStart => exact ⟨0, rfl, by omega, PM.hid ⟨PM.OR.nilrow _, PM.OM.nilrow _, hdk.out.2.imp fun i => by simp [PM.prm, PM.hasE, PM.hasI], hdk.out.1, hBB.out⟩⟩
  case round =>
    obtain ⟨k, rfl, hk, hin⟩ := hrel
    obtain ⟨hO, hI, hD, hG, hB⟩ := hin.out
    clear hin
    have hpl := PM.prm_len (PM.kn ls ps ab) n1 (l.take k)
    have hkl : (l.take k).length = k := by rw [List.length_take]; rw [← hNh.out]; omega
    rw [hkl] at hpl
    obtain ⟨st, hst⟩ : ∃ st, st = PM.prm (PM.kn ls ps ab) n1 (l.take k) := ⟨_, rfl⟩
    rw [← hst] at hO hI hD hpl
    have hph := PM.hid hst
    clear hst hkl
    obtain ⟨p, r⟩ := st
    simp only at hO hI hD hpl
    obtain ⟨pa, pc, hpe⟩ := hO.rr.len
    obtain ⟨ra, rc, hre⟩ := (hI.em PM.idL_len).len
    subst hpe hre
    obtain ⟨P, hP⟩ : ∃ P, P = p.length := ⟨_, rfl⟩
    obtain ⟨Q, hQ⟩ : ∃ P, P = r.length := ⟨_, rfl⟩
    rw [← hP] at hO hpl ⊢
    rw [← hQ] at hI hpl ⊢
    have hPh := PM.hid hP
    have hQh := PM.hid hQ
    clear hP hQ hBB
    have hBB := PM.hid hB
    by_cases hlt : k < N
    · obtain ⟨z, hz⟩ : ∃ z, l[k]? = some z := ⟨l[k]'(by rw [← hNh.out]; exact hlt), List.getElem?_eq_getElem _⟩
      obtain ⟨b, off, rfl, hce⟩ := PM.RR.opn hsh.out.2.1 (by rw [← hNh.out]; omega)
      obtain ⟨cs, hl0, hR⟩ := hce k z hz
      have hzs := PM.hid (hsh.out.2.2.2 z (List.mem_of_getElem? hz))
      obtain ⟨fa, fc, ea, ec, hcs, hzf, hze⟩ := PM.enR_open hR
      replace hl0 := hl0.keep hB
      rw [hcs] at hl0
      have d0 : wr.cell? ⟨b, off + k * 8, none⟩ = some (.int .i64 z.kind) := hl0 0 _ rfl
      have d1 : wr.cell? ⟨b, off + k * 8 + 1, none⟩ = some (.int .i64 z.id.br) := hl0 1 _ rfl
      have d2 : wr.cell? ⟨b, off + k * 8 + 2, none⟩ = some (.int .u64 (z.id.life : Int)) := hl0 2 _ rfl
      have d3 : wr.cell? ⟨b, off + k * 8 + 3, none⟩ = some (.int .u64 (z.id.ser : Int)) := hl0 3 _ rfl
      have d4 : wr.cell? ⟨b, off + k * 8 + 4, none⟩ = some (.int .i64 z.client) := hl0 4 _ rfl
      have d5 : wr.cell? ⟨b, off + k * 8 + 5, none⟩ = some (.int .u64 (z.sub : Int)) := hl0 5 _ rfl
      have d6 : wr.cell? ⟨b, off + k * 8 + 6, none⟩ = some (.slice fa z.fil.length fc) := hl0 6 _ rfl
      have d7 : wr.cell? ⟨b, off + k * 8 + 7, none⟩ = some (.slice ea z.evs.length ec) := hl0 7 _ rfl
      have hzh := PM.hid hz
      obtain ⟨zF, hzF⟩ : ∃ P, P = z.fil.length := ⟨_, rfl⟩
      obtain ⟨zE, hzE⟩ : ∃ P, P = z.evs.length := ⟨_, rfl⟩
      have hen : Hid (∀ W : World, Below w.heap.size w W → Calls Try.prog 27 #[.agg #[.int .i64 z.kind, .int .i64 z.id.br, .int .u64 (z.id.life : Int), .int .u64 (z.id.ser : Int), .int .i64 z.client, .int .u64 (z.sub : Int), .slice fa zF fc, .slice ea zE ec]] W fun e w' => ∃ ua uc ta tc, e = .returned (.agg #[.int .i64 z.kind, .int .i64 z.id.br, .int .u64 (z.id.life : Int), .int .u64 (z.id.ser : Int), .int .i64 z.client, .int .u64 (z.sub : Int), .slice ua zF uc, .slice ta zE tc]) ∧ PM.enO 87 90 76 W.heap.size w' [.int .i64 z.kind, .int .i64 z.id.br, .int .u64 (z.id.life : Int), .int .u64 (z.id.ser : Int), .int .i64 z.client, .int .u64 (z.sub : Int), .slice ua zF uc, .slice ta zE tc] z ∧ Below W.heap.size W w') := PM.hid fun W hb => by
        rw [hzF, hzE]
        exact ownEn_any z _ _ W (hzf.keep hb) (PM.EVL.keepO hb hze) hzs.out
      rw [← hzF] at d6
      rw [← hzE] at d7
      clear hz hce hl0 hR hcs cs hB hzf hze hzF hzE
      go_upto_region 7 with fail
      obtain ⟨gx, hgx⟩ : ∃ g, g = wr.heap.size := ⟨_, rfl⟩
      obtain ⟨w3, hw3⟩ : ∃ W, W = wr.alloc (.cells #[.int .i64 z.kind, .int .i64 z.id.br, .int .u64 (z.id.life : Int), .int .u64 (z.id.ser : Int), .int .i64 z.client, .int .u64 (z.sub : Int), .slice fa zF fc, .slice ea zE ec] 50) := ⟨_, rfl⟩
      have hBn : Below wr.heap.size wr w3 := by rw [hw3]; exact (Below.refl _ _).alloc (Nat.le_refl _) _
      have kx : PM.BK w3 gx #[.int .i64 z.kind, .int .i64 z.id.br, .int .u64 (z.id.life : Int), .int .u64 (z.id.ser : Int), .int .i64 z.client, .int .u64 (z.sub : Int), .slice fa zF fc, .slice ea zE ec] 50 := by rw [hw3, hgx]; exact PM.BK.new _ _ _
      rw [← hw3, ← hgx]
      clear hw3 hgx d0 d1 d2 d3 d4 d5 d6 d7
      replace hO := PM.OR.keep PM.enO_lasts hBn hO
      replace hI := hI.keep hBn
      replace hD := hD.keep hBn
      replace hG := hG.keep hBn
      replace hBB := PM.hid (PM.chain hBB.out hBn)
      clear hBn
      obtain ⟨c, hc, hlk⟩ := PM.run_lookD Try.underlying57 idKey hD z.id unitZ
      unfold PM.idv at hlk
      have hch := PM.hid hc
      clear hc
      have x0 : w3.cell? ⟨gx, 0, none⟩ = some (.int .i64 z.kind) := kx.cell 0
      have x1 : w3.cell? ⟨gx, 1, none⟩ = some (.int .i64 z.id.br) := kx.cell 1
      have x2 : w3.cell? ⟨gx, 2, none⟩ = some (.int .u64 (z.id.life : Int)) := kx.cell 2
      have x3 : w3.cell? ⟨gx, 3, none⟩ = some (.int .u64 (z.id.ser : Int)) := kx.cell 3
      have x4 : w3.cell? ⟨gx, 4, none⟩ = some (.int .i64 z.client) := kx.cell 4
      have x5 : w3.cell? ⟨gx, 5, none⟩ = some (.int .u64 (z.sub : Int)) := kx.cell 5
      have x6 : w3.cell? ⟨gx, 6, none⟩ = some (.slice fa zF fc) := kx.cell 6
      have x7 : w3.cell? ⟨gx, 7, none⟩ = some (.slice ea zE ec) := kx.cell 7
      go_upto_region 8 with fail
      obtain ⟨w4, hw4⟩ : ∃ W, W = w3.alloc (.cells #[] 58) := ⟨_, rfl⟩
      have hBn : Below w3.heap.size w3 w4 := by rw [hw4]; exact (Below.refl _ _).alloc (Nat.le_refl _) _
      rw [← hw4]
      clear hw4 hlk x0 x1 x2 x3 x4 x5 x6 x7
      replace hO := PM.OR.keep PM.enO_lasts hBn hO
      replace hI := hI.keep hBn
      replace hD := hD.keep hBn
      replace hG := hG.keep hBn
      replace kx := kx.keep hBn
      replace hBB := PM.hid (PM.chain hBB.out hBn)
      clear hBn
      cases c
      case true =>
        have hin2 := PM.hid (And.intro hO (And.intro hI (And.intro hD hG)))
        clear hO hI hD hG kx
        go_wp2_with fail
        exact ⟨⟨k + 1, by go_num, by omega, PM.hid (by rw [PM.prm_snoc hzh.out, ← hph.out]; rw [PM.prm1_seen (hch.out.1 rfl)]; exact ⟨hin2.out.1, hin2.out.2.1, hin2.out.2.2.1, hin2.out.2.2.2, hBB.out⟩)⟩, by simp only [intOf]; omega⟩
      have hnos : Hid ((PM.hasE p z.id || PM.hasI r z.id) = false) := PM.hid (by
        cases h : (PM.hasE p z.id || PM.hasI r z.id)
        · rfl
        · exact absurd (hch.out.2 h) (by simp))
      clear hch
      have x0 : w4.cell? ⟨gx, 0, none⟩ = some (.int .i64 z.kind) := kx.cell 0
      have x1 : w4.cell? ⟨gx, 1, none⟩ = some (.int .i64 z.id.br) := kx.cell 1
      have x2 : w4.cell? ⟨gx, 2, none⟩ = some (.int .u64 (z.id.life : Int)) := kx.cell 2
      have x3 : w4.cell? ⟨gx, 3, none⟩ = some (.int .u64 (z.id.ser : Int)) := kx.cell 3
      have x4 : w4.cell? ⟨gx, 4, none⟩ = some (.int .i64 z.client) := kx.cell 4
      have x5 : w4.cell? ⟨gx, 5, none⟩ = some (.int .u64 (z.sub : Int)) := kx.cell 5
      have x6 : w4.cell? ⟨gx, 6, none⟩ = some (.slice fa zF fc) := kx.cell 6
      have x7 : w4.cell? ⟨gx, 7, none⟩ = some (.slice ea zE ec) := kx.cell 7
      have y0 : w4.cell? ⟨g, 0, none⟩ = some (.int .u64 (lf : Int)) := hG.cell 0
      have y1 : w4.cell? ⟨g, 1, none⟩ = some (.slice a0 n0 c0) := hG.cell 1
      have y2 : w4.cell? ⟨g, 2, none⟩ = some (.slice a1 n1 c1) := hG.cell 2
      have y3 : w4.cell? ⟨g, 3, none⟩ = some (.slice a2 n2 c2) := hG.cell 3
      go_wp2_with fail
      refine (knows_any lf a0 n0 c0 a1 n1 c1 a2 n2 c2 z.id ls ps ab w4 (hsh.out.1.keep hBB.out)).mono ?_
      rintro e w5 ⟨rfl, hBn⟩
      clear x0 x1 x2 x3 x4 x5 x6 x7 y0 y1 y2 y3
      replace hO := PM.OR.keep PM.enO_lasts hBn hO
      replace hI := hI.keep hBn
      replace hD := hD.keep hBn
      replace hG := hG.keep hBn
      replace kx := kx.keep hBn
      replace hBB := PM.hid (PM.chain hBB.out hBn)
      clear hBn
      cases hkn : PM.kn ls ps ab z.id
      case true =>
        have hin2 := PM.hid (And.intro hO (And.intro hI (And.intro hD hG)))
        have hknh := PM.hid hkn
        clear hO hI hD hG kx hkn
        go_wp2_with fail
        exact ⟨⟨k + 1, by go_num, by omega, PM.hid (by rw [PM.prm_snoc hzh.out, ← hph.out]; rw [PM.prm1_known hknh.out]; exact ⟨hin2.out.1, hin2.out.2.1, hin2.out.2.2.1, hin2.out.2.2.2, hBB.out⟩)⟩, by simp only [intOf]; omega⟩
      have hknh := PM.hid hkn
      clear hkn
      obtain ⟨w6, hup, hD6, hx6⟩ := PM.run_insD Try.underlying57 idKey hD z.id
      unfold PM.idv at hup
      have hne := hD.neB kx
      have hneg := hD.neB hG
      have x0 : w5.cell? ⟨gx, 0, none⟩ = some (.int .i64 z.kind) := kx.cell 0
      have x1 : w5.cell? ⟨gx, 1, none⟩ = some (.int .i64 z.id.br) := kx.cell 1
      have x2 : w5.cell? ⟨gx, 2, none⟩ = some (.int .u64 (z.id.life : Int)) := kx.cell 2
      have x3 : w5.cell? ⟨gx, 3, none⟩ = some (.int .u64 (z.id.ser : Int)) := kx.cell 3
      have x4 : w5.cell? ⟨gx, 4, none⟩ = some (.int .i64 z.client) := kx.cell 4
      have x5 : w5.cell? ⟨gx, 5, none⟩ = some (.int .u64 (z.sub : Int)) := kx.cell 5
      have x6 : w5.cell? ⟨gx, 6, none⟩ = some (.slice fa zF fc) := kx.cell 6
      have x7 : w5.cell? ⟨gx, 7, none⟩ = some (.slice ea zE ec) := kx.cell 7
      go_upto_region 10 with fail
      clear x0 x1 x2 x3 x4 x5 x6 x7 hup
      replace hO := hO.keepD PM.enO_staysD hx6 hD
      replace hI := hI.keepD hx6 hD
      replace hG := hG.keepx hx6 hneg
      replace kx := kx.keepx hx6 hne
      replace hBB := PM.hid (PM.Bx.below hBB.out hx6 hgw hBB.out.size)
      clear hD hx6 hne hneg
      have hD := hD6
      clear hD6
      have x0 : w6.cell? ⟨gx, 0, none⟩ = some (.int .i64 z.kind) := kx.cell 0
      have x1 : w6.cell? ⟨gx, 1, none⟩ = some (.int .i64 z.id.br) := kx.cell 1
      have x2 : w6.cell? ⟨gx, 2, none⟩ = some (.int .u64 (z.id.life : Int)) := kx.cell 2
      have x3 : w6.cell? ⟨gx, 3, none⟩ = some (.int .u64 (z.id.ser : Int)) := kx.cell 3
      have x4 : w6.cell? ⟨gx, 4, none⟩ = some (.int .i64 z.client) := kx.cell 4
      have x5 : w6.cell? ⟨gx, 5, none⟩ = some (.int .u64 (z.sub : Int)) := kx.cell 5
      have x6 : w6.cell? ⟨gx, 6, none⟩ = some (.slice fa zF fc) := kx.cell 6
      have x7 : w6.cell? ⟨gx, 7, none⟩ = some (.slice ea zE ec) := kx.cell 7
      have y0 : w6.cell? ⟨g, 0, none⟩ = some (.int .u64 (lf : Int)) := hG.cell 0
      have y1 : w6.cell? ⟨g, 1, none⟩ = some (.slice a0 n0 c0) := hG.cell 1
      have y2 : w6.cell? ⟨g, 2, none⟩ = some (.slice a1 n1 c1) := hG.cell 2
      have y3 : w6.cell? ⟨g, 3, none⟩ = some (.slice a2 n2 c2) := hG.cell 3
      by_cases h6 : n1 + P < 6
      · have h6' : decide ((n1 : Int) + (P : Int) < 6) = true := by simp; omega
        go_wp2_with fail
        refine (hen.out w6 hBB.out).mono ?_
        rintro e w7 ⟨ua, uc, ta, tc, rfl, hRy, hBn⟩
        clear x0 x1 x2 x3 x4 x5 x6 x7 y0 y1 y2 y3
        replace hRy := PM.enO_mono hBB.out.size hRy
        replace hO := PM.OR.keep PM.enO_lasts hBn hO
        replace hI := hI.keep hBn
        replace hD := hD.keep hBn
        replace hG := hG.keep hBn
        replace hBB := PM.hid (PM.chain hBB.out hBn)
        clear hBn kx
        have hl16 : (p.length + 1) * 96 ≤ 140737488355328 := by rw [← hPh.out]; omega
        have hl17 : p.length + 1 ≤ maxLen := by rw [← hPh.out]; unfold maxLen; omega
        have hsz := hBB.out.size
        have hrt := hO.rt
        rw [hPh.out] at hO
        go_wp2_with (at_builtin; rw [hPh.out]; go_loud (refine PM.wpList_or1 tyEnO (PM.enO_stays (by decide) (by decide) (by decide)) PM.enO_lasts w.heap.size w7 rfl _ _ rfl _ p z (PM.enCe z ua zF uc ta zE tc) _ rfl rfl rfl rfl hRy hO hl16 hl17 hsz ?_); intro v' w' t1 t2 t3; rw [← hPh.out] at t3; have hE := PM.hid (And.intro t1 (And.intro (hBB.out.trans t2) t3)); clear t1 t2 t3 hRy hsz hO)
        refine ⟨⟨k + 1, by go_num, by omega, PM.hid ?_⟩, by simp only [intOf]; omega⟩
        rw [PM.prm_snoc hzh.out, ← hph.out, PM.prm1_in hnos.out hknh.out (by rw [← hPh.out]; exact h6)]
        refine ⟨hE.out.1, PM.OM.stays (by decide) hI hE.out.2.2 hrt, (hD.grownK hE.out.2.2 hrt).imp fun i => ?_, hG.grown hE.out.2.2 hrt (by decide), hE.out.2.1⟩
        simp only [PM.hasE_snoc, Bool.or_eq_true, decide_eq_true_eq]
        exact ⟨fun h => h.elim (fun h => h.elim (fun h => .inl (.inl h)) .inr) fun h => .inl (.inr h.symm), fun h => h.elim (fun h => h.elim (fun h => .inl (.inl h)) fun h => .inr h.symm) fun h => .inl (.inr h)⟩
      · have h6' : decide ((n1 : Int) + (P : Int) < 6) = false := by simp; omega
        clear hen
        have hl16 : (r.length + 1) * 24 ≤ 140737488355328 := by rw [← hQh.out]; omega
        have hl17 : r.length + 1 ≤ maxLen := by rw [← hQh.out]; unfold maxLen; omega
        have hsz := hBB.out.size
        have hrt := hI.rt
        rw [hQh.out] at hI
        go_wp2_with (at_builtin; rw [hQh.out]; go_loud (refine PM.wpList_em1 (e := PM.idL) tyIdO PM.idL_len PM.idL_one w.heap.size w6 rfl _ _ rfl _ r z.id _ rfl rfl rfl rfl hI hl16 hl17 hsz ?_); intro v' w' t1 t2 t3 t4; rw [← hQh.out] at t3; have hE := PM.hid (And.intro t1 (And.intro (hBB.out.trans t2) t3)); clear t1 t2 t3 t4 hsz hI)
        refine ⟨⟨k + 1, by go_num, by omega, PM.hid ?_⟩, by simp only [intOf]; omega⟩
        rw [PM.prm_snoc hzh.out, ← hph.out, PM.prm1_out hnos.out hknh.out (by rw [← hPh.out]; exact h6)]
        refine ⟨hO.stays (PM.enO_stays (by decide) (by decide) (by decide)) (by decide) hE.out.2.2 hrt, hE.out.1, (hD.grownK hE.out.2.2 hrt).imp fun i => ?_, hG.grown hE.out.2.2 hrt (by decide), hE.out.2.1⟩
        simp only [PM.hasI_snoc, Bool.or_eq_true, decide_eq_true_eq]
        exact ⟨fun h => h.elim (fun h => h.elim .inl fun h => .inr (.inl h)) fun h => .inr (.inr h), fun h => h.elim (fun h => .inl (.inl h)) fun h => h.elim (fun h => .inl (.inr h)) .inr⟩
    · obtain rfl : k = N := by omega
      have hfin := PM.hid (And.intro hO (And.intro hI hBB.out))
      clear hO hI hD hG hBB hB
      have htk : Hid (PM.prm (PM.kn ls ps ab) n1 l = (p, r)) := PM.hid (by
        have := hph.out
        rw [hNh.out, List.take_length] at this
        exact this.symm)
      go_wp2_with fail
      go_ret2
      exact ⟨_, _, rfl, by rw [htk.out]; exact hfin.out.1, by rw [htk.out]; exact hfin.out.2.1, hfin.out.2.2⟩
end Go.Proofs.Ytjninckmgkaliaa
