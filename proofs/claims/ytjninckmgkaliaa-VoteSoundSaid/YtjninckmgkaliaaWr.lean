/-
  THE WALK OF VoteRoom.
-/
import Derived.Test.YtjninckmgkaliaaWe
import Derived.Test.YtjninckmgkaliaaWt
namespace Go.Proofs.Ytjninckmgkaliaa
open Go.RowKit
set_option linter.unusedVariables false
set_option linter.unusedSimpArgs false
namespace PM
def cntE (p : List En) (i : Id) : Nat := p.countP (isId i)
def cntI (r : List Id) (i : Id) : Nat := r.countP fun x => decide (x = i)
theorem countP_snoc {α : Type} {f : α → Bool} {l : List α} {k : Nat} {x : α} (h : l[k]? = some x) : (l.take (k + 1)).countP f = (l.take k).countP f + if f x then 1 else 0 := by
  rw [take_at h, List.countP_append, List.countP_cons, List.countP_nil, Nat.zero_add]
theorem cntE_has {p : List En} {i : Id} : hasE p i = false ↔ cntE p i = 0 := by
  unfold hasE cntE
  rw [List.countP_eq_zero, List.any_eq_false]
theorem cntI_has {r : List Id} {i : Id} : hasI r i = false ↔ cntI r i = 0 := by
  unfold hasI cntI
  rw [List.countP_eq_zero, List.any_eq_false]
  constructor
  · intro h x hx hd
    exact h x hx (by simpa using (of_decide_eq_true hd).symm)
  · intro h x hx hd
    exact h x hx (by simpa using (of_decide_eq_true hd).symm)
/-- what goes on while entries are promised and refused -/
structure PrmOk (k : Id → Bool) (n : Nat) (l : List En) (p : List En) (r : List Id) : Prop where
  cnt : ∀ i, cntE p i + cntI r i = if k i = false ∧ hasE l i = true then 1 else 0
  room : 0 < p.length → n + p.length ≤ 6
  full : 0 < r.length → 6 ≤ n + p.length
theorem prm1_ok {k : Id → Bool} {n : Nat} {l p : List En} {r : List Id} {x : En} (h : PrmOk k n l p r) : PrmOk k n (l ++ [x]) (prm1 k n (p, r) x).1 (prm1 k n (p, r) x).2 := by
  have hx := h.cnt x.id
  have hhas : ∀ i, hasE (l ++ [x]) i = (hasE l i || decide (x.id = i)) := hasE_snoc l x
  by_cases h1 : (hasE p x.id || hasI r x.id) = true
  · rw [prm1_seen h1]
    refine ⟨fun i => ?_, h.room, h.full⟩
    rw [h.cnt i, hhas i]
    by_cases hi : x.id = i
    · subst hi
      have hpos : cntE p x.id + cntI r x.id ≠ 0 := by
        intro h0
        have e1 : cntE p x.id = 0 := by omega
        have e2 : cntI r x.id = 0 := by omega
        rw [cntE_has.2 e1, cntI_has.2 e2] at h1
        cases h1
      rw [hx] at hpos
      by_cases hc : k x.id = false ∧ hasE l x.id = true
      · rw [if_pos hc, if_pos ⟨hc.1, by simp⟩]
      · rw [if_neg hc] at hpos
        exact absurd rfl hpos
    · simp [hi]
  have h1' : (hasE p x.id || hasI r x.id) = false := by simpa using h1
  by_cases h2 : k x.id = true
  · rw [prm1_known h2]
    refine ⟨fun i => ?_, h.room, h.full⟩
    rw [h.cnt i, hhas i]
    by_cases hi : x.id = i
    · subst hi
      rw [if_neg (by simp [h2]), if_neg (by simp [h2])]
    · simp [hi]
  have h2' : k x.id = false := by simpa using h2
  rw [Bool.or_eq_false_iff] at h1'
  have hp0 := cntE_has.1 h1'.1
  have hr0 := cntI_has.1 h1'.2
  have hl0 : ¬ (k x.id = false ∧ hasE l x.id = true) := by
    intro hc
    rw [if_pos hc] at hx
    omega
  by_cases h3 : n + p.length < 6
  · rw [prm1_in (by rw [h1'.1, h1'.2]; rfl) h2' h3]
    refine ⟨fun i => ?_, fun _ => by simp only [List.length_append, List.length_cons, List.length_nil]; omega, fun hr => by have := h.full hr; omega⟩
    have := h.cnt i
    rw [hhas i]
    simp only [cntE, List.countP_append, List.countP_cons, List.countP_nil, Nat.zero_add] at this ⊢
    by_cases hi : x.id = i
    · subst hi
      rw [if_neg hl0] at this
      simp only [isId, decide_true, if_true, h2', Bool.or_true, and_self]
      omega
    · simp only [isId, hi, decide_false, Bool.or_false] at this ⊢
      simp only [Bool.false_eq_true, if_false]
      omega
  · rw [prm1_out (by rw [h1'.1, h1'.2]; rfl) h2' h3]
    refine ⟨fun i => ?_, h.room, fun _ => by show 6 ≤ n + p.length; omega⟩
    have := h.cnt i
    rw [hhas i]
    simp only [cntI, List.countP_append, List.countP_cons, List.countP_nil, Nat.zero_add] at this ⊢
    by_cases hi : x.id = i
    · subst hi
      rw [if_neg hl0] at this
      simp only [decide_true, if_true, h2', Bool.or_true, and_self]
      omega
    · simp only [hi, decide_false, Bool.or_false] at this ⊢
      simp only [Bool.false_eq_true, if_false]
      omega
theorem prm_okA (k : Id → Bool) (n : Nat) : ∀ (l l0 p : List En) (r : List Id), PrmOk k n l0 p r → PrmOk k n (l0 ++ l) (l.foldl (prm1 k n) (p, r)).1 (l.foldl (prm1 k n) (p, r)).2
  | [], l0, p, r, h => by simpa using h
  | x :: l, l0, p, r, h => by
    have := prm_okA k n l (l0 ++ [x]) _ _ (prm1_ok (x := x) h)
    rw [List.append_assoc] at this
    exact this
theorem prm_ok (k : Id → Bool) (n : Nat) (l : List En) : PrmOk k n l (prm k n l).1 (prm k n l).2 := by
  have := prm_okA k n l [] [] [] ⟨fun i => by simp [cntE, cntI, hasE], fun h => by simp at h, fun h => by simp at h⟩
  simpa [prm] using this
end PM
set_option maxRecDepth 100000 in
set_option maxHeartbeats 16000000 in
theorem voteRoom_walkA (lf : Nat) (a0 : Option Addr) (n0 c0 : Nat) (a1 : Option Addr) (n1 c1 : Nat) (a2 : Option Addr) (n2 c2 : Nat) (va : Option Addr) (N vc : Nat) (ls ps l : List PM.En) (ab : List PM.Id) (w : World) (hs : PM.StR w (.slice a0 n0 c0) (.slice a1 n1 c1) (.slice a2 n2 c2) ls ps ab) (hv : PM.EnL w (.slice va N vc) l) :
    Calls Try.prog 6 #[.agg #[.int .u64 (lf : Int), .slice a0 n0 c0, .slice a1 n1 c1, .slice a2 n2 c2], .slice va N vc] w fun e w' => e = .returned (.bool true) ∧ Below w.heap.size w w' := by
  have hn1 : n1 = ps.length := by
    obtain ⟨a, c, h⟩ := hs.2.1.len
    injection h
  have hN : N = l.length := by
    obtain ⟨a, c, h⟩ := hv.len
    injection h
  have hNh := PM.hid hN
  have hn1h := PM.hid hn1
  clear hN hn1
  have hsh := PM.hid hs
  have hvh := PM.hid hv
  clear hs hv
  obtain ⟨g, hg⟩ : ∃ g, g = w.heap.size := ⟨_, rfl⟩
  obtain ⟨w1, hw1⟩ : ∃ W, W = w.alloc (.cells #[.int .u64 (lf : Int), .slice a0 n0 c0, .slice a1 n1 c1, .slice a2 n2 c2] 27) := ⟨_, rfl⟩
  have hal : Below w.heap.size w w1 := by rw [hw1]; exact (Below.refl _ _).alloc (Nat.le_refl _) _
  have kg : PM.BK w1 g #[.int .u64 (lf : Int), .slice a0 n0 c0, .slice a1 n1 c1, .slice a2 n2 c2] 27 := by rw [hw1, hg]; exact PM.BK.new _ _ _
  have hBB := PM.hid hal
  clear hal
  go_enter Try.func6, Try.ntmps6
  go_upto_region 1 with fail
  rw [← hw1, ← hg]
  clear hw1 hg
  go_wp2_with fail
  refine (awake18_any w1).mono ?_
  rintro e w2 ⟨rfl, hBn⟩
  replace kg := kg.keep hBn
  replace hBB := PM.hid (PM.chain hBB.out hBn)
  clear hBn
  have s0 : w2.cell? ⟨g, 0, none⟩ = some (.int .u64 (lf : Int)) := kg.cell 0
  have s1 : w2.cell? ⟨g, 1, none⟩ = some (.slice a0 n0 c0) := kg.cell 1
  have s2 : w2.cell? ⟨g, 2, none⟩ = some (.slice a1 n1 c1) := kg.cell 2
  have s3 : w2.cell? ⟨g, 3, none⟩ = some (.slice a2 n2 c2) := kg.cell 3
  go_wp2_with fail
  refine (few18_any lf a0 n0 c0 a1 n1 c1 a2 n2 c2 (.slice none 0 0) ls ps [] w2 (PM.EnL.keep hsh.out.1 hBB.out) (PM.EnL.keep hsh.out.2.1 hBB.out) (PM.RR.nil _)).mono ?_
  rintro e w3 ⟨hF, hBn⟩
  clear s0 s1 s2 s3
  replace kg := kg.keep hBn
  replace hBB := PM.hid (PM.chain hBB.out hBn)
  clear hBn
  rcases hF with ⟨rfl, hF1, hF2, hF3, -⟩ | rfl
  case inr =>
    go_wp2_with fail
    go_ret
    exact ⟨by first | rfl | simp, hBB.out⟩
  replace hF1 := PM.hid hF1
  replace hF2 := PM.hid hF2
  go_wp2_with fail
  refine (few18_any 0 va N vc none 0 0 none 0 0 (.slice none 0 0) l [] [] w3 (PM.EnL.keep hvh.out hBB.out) (PM.RR.nil _) (PM.RR.nil _)).mono ?_
  rintro e w4 ⟨hF, hBn⟩
  replace kg := kg.keep hBn
  replace hBB := PM.hid (PM.chain hBB.out hBn)
  clear hBn
  rcases hF with ⟨rfl, hF4, -⟩ | rfl
  case inr =>
    go_wp2_with fail
    go_ret
    exact ⟨by first | rfl | simp, hBB.out⟩
  replace hF4 := PM.hid hF4
  have hp := promise_any lf a0 n0 c0 a1 n1 c1 a2 n2 c2 (.slice va N vc) l ls ps ab w4 (hsh.out.keep hBB.out) (by rw [hn1h.out]; have := hF2.out.1; omega) (PM.EnL.keep hvh.out hBB.out) hF4.out.ensS
  have s0 : w4.cell? ⟨g, 0, none⟩ = some (.int .u64 (lf : Int)) := kg.cell 0
  have s1 : w4.cell? ⟨g, 1, none⟩ = some (.slice a0 n0 c0) := kg.cell 1
  have s2 : w4.cell? ⟨g, 2, none⟩ = some (.slice a1 n1 c1) := kg.cell 2
  have s3 : w4.cell? ⟨g, 3, none⟩ = some (.slice a2 n2 c2) := kg.cell 3
  go_wp2_with fail
  refine hp.mono ?_
  clear hp s0 s1 s2 s3
  rintro e w5 ⟨u, r, rfl, hu, hr, hBn⟩
  replace kg := kg.keep hBn
  replace hBB := PM.hid (PM.chain hBB.out hBn)
  clear hBn
  have hok := PM.prm_ok (PM.kn ls ps ab) n1 l
  have hle := PM.prm_len (PM.kn ls ps ab) n1 l
  obtain ⟨pr, hpr⟩ : ∃ x, x = PM.prm (PM.kn ls ps ab) n1 l := ⟨_, rfl⟩
  rw [← hpr] at hok hle hu hr
  clear hpr
  obtain ⟨p, q⟩ := pr
  simp only at hok hle hu hr
  replace hu := hu.rr.imp fun cs x h => PM.enO_enR h
  replace hr := hr.em PM.idL_len
  obtain ⟨pa, pc, hpe⟩ := hu.len
  obtain ⟨ra, rc, hre⟩ := hr.len
  subst hpe hre
  obtain ⟨P, hP⟩ : ∃ x, x = p.length := ⟨_, rfl⟩
  obtain ⟨Q, hQ⟩ : ∃ x, x = q.length := ⟨_, rfl⟩
  have hroom := hok.room
  have hfull := hok.full
  rw [← hP] at hu hroom hfull hle ⊢
  rw [← hQ] at hr hfull hle ⊢
  have hPh := PM.hid hP
  have hQh := PM.hid hQ
  clear hP hQ
  rw [← hNh.out] at hle
  have hN20 : N ≤ 20 := by rw [hNh.out]; exact hF4.out.1
  have hn20 : n1 ≤ 20 := by rw [hn1h.out]; exact hF2.out.1
  have huh := PM.hid hu
  have hrh := PM.hid hr
  have hcnt := PM.hid hok.cnt
  clear hu hr hok
  have s0 : w5.cell? ⟨g, 0, none⟩ = some (.int .u64 (lf : Int)) := kg.cell 0
  have s1 : w5.cell? ⟨g, 1, none⟩ = some (.slice a0 n0 c0) := kg.cell 1
  have s2 : w5.cell? ⟨g, 2, none⟩ = some (.slice a1 n1 c1) := kg.cell 2
  have s3 : w5.cell? ⟨g, 3, none⟩ = some (.slice a2 n2 c2) := kg.cell 3
  have hwn : IntKind.i64.wrap ((n1 : Int) + (P : Int)) = (n1 : Int) + (P : Int) := by rw [IntKind.wrap_i64]; omega
  go_upto_region 5 with fail
  go_cut [42] from 31 to 42 (fun s wx => w5 = wx ∧ s = .bool false)
  case first =>
    by_cases hP0 : P = 0
    · subst hP0
      go_wp2_with fail
      all_goals
        go_meet
        exact ⟨rfl, rfl⟩
    · have e1 : decide ((0 : Int) < (P : Int)) = true := by simp; omega
      have e1' : (0 : Int) < (P : Int) := by omega
      have hr6 := hroom (by omega)
      have e2 : decide ((6 : Int) < (n1 : Int) + (P : Int)) = false := by simp; omega
      have e2' : ¬ ((6 : Int) < (n1 : Int) + (P : Int)) := by omega
      go_wp2_with fail
      all_goals
        go_meet
        exact ⟨rfl, rfl⟩
  case rest =>
  obtain ⟨rfl, rfl⟩ := hcut
  clear s0 s1 s2 s3 hwn
  have kgh := PM.hid kg
  clear kg
  go_wp2_with fail
  go_loopw [8] (fun i wr => ∃ k : Nat, i = .int .i64 k ∧ k ≤ N ∧ Below w5.heap.size w5 wr) (fun i _ => N - (intOf i).toNat)
  case atStart => exact ⟨0, rfl, by omega, Below.refl _ _⟩
  case round =>
    obtain ⟨k, rfl, hk, hB⟩ := hrel
    by_cases hlt : k < N
    · have hBw := PM.hid (PM.chain hBB.out hB)
      have hB5 := PM.hid hB
      clear hB
      obtain ⟨z, zz⟩ : ∃ z, l[k]? = some z := ⟨l[k]'(by rw [← hNh.out]; first | exact hlt | omega), List.getElem?_eq_getElem _⟩
      obtain ⟨zb, zo, ze, zc⟩ := PM.RR.opn hvh.out (by rw [← hNh.out]; first | exact hlt | omega)
      subst ze
      obtain ⟨zcs, zl, zR⟩ := zc k z zz
      obtain ⟨_, _, _, _, zh, -, -⟩ := PM.enR_open zR
      rw [zh] at zl
      replace zl := zl.keep hBw.out
      have z0 : wr.cell? ⟨zb, zo + k * 8 + 1, none⟩ = some (.int .i64 z.id.br) := zl 1 _ rfl
      have z1 : wr.cell? ⟨zb, zo + k * 8 + 2, none⟩ = some (.int .u64 (z.id.life : Int)) := zl 2 _ rfl
      have z2 : wr.cell? ⟨zb, zo + k * 8 + 3, none⟩ = some (.int .u64 (z.id.ser : Int)) := zl 3 _ rfl
      clear zc zl zR zh zcs
      have hzh := PM.hid zz
      clear zz
      obtain ⟨wr0, hwr0⟩ : ∃ W, W = wr := ⟨_, rfl⟩
      rw [← hwr0] at hB5 hBw z0 z1 z2 ⊢
      clear hwr0
      go_upto_region 11 with fail
      obtain ⟨gx, hgx⟩ : ∃ g, g = wr0.heap.size := ⟨_, rfl⟩
      obtain ⟨w6, hw6⟩ : ∃ W, W = wr0.alloc (.cells #[.int .i64 z.id.br, .int .u64 (z.id.life : Int), .int .u64 (z.id.ser : Int)] 30) := ⟨_, rfl⟩
      have hBn : Below wr0.heap.size wr0 w6 := by rw [hw6]; exact (Below.refl _ _).alloc (Nat.le_refl _) _
      have kx : PM.BK w6 gx #[.int .i64 z.id.br, .int .u64 (z.id.life : Int), .int .u64 (z.id.ser : Int)] 30 := by rw [hw6, hgx]; exact PM.BK.new _ _ _
      rw [← hw6, ← hgx]
      clear hw6 hgx
      clear z0 z1 z2
      have hB6 := PM.hid (PM.chain hB5.out hBn)
      have hBw6 := PM.hid (PM.chain hBw.out hBn)
      clear hBn
      have kg6 := kgh.out.keep hB6.out
      go_upto_region 11 with fail
      go_cut [10] from 54 to 66 (fun s wx => s = .bool (PM.kn ls ps ab z.id) ∧ Below w6.heap.size w6 wx)
      case first =>
        have f1 := hasS_any lf a0 n0 c0 a1 n1 c1 a2 n2 c2 z.id ls w6 (PM.EnL.keep hsh.out.1 hBw6.out)
        have hkn : Hid (PM.kn ls ps ab z.id = (PM.hasE ls z.id || PM.hasE ps z.id || PM.hasI ab z.id)) := PM.hid rfl
        have x0 : w6.cell? ⟨gx, 0, none⟩ = some (.int .i64 z.id.br) := kx.cell 0
        have x1 : w6.cell? ⟨gx, 1, none⟩ = some (.int .u64 (z.id.life : Int)) := kx.cell 1
        have x2 : w6.cell? ⟨gx, 2, none⟩ = some (.int .u64 (z.id.ser : Int)) := kx.cell 2
        have s0 : w6.cell? ⟨g, 0, none⟩ = some (.int .u64 (lf : Int)) := kg6.cell 0
        have s1 : w6.cell? ⟨g, 1, none⟩ = some (.slice a0 n0 c0) := kg6.cell 1
        have s2 : w6.cell? ⟨g, 2, none⟩ = some (.slice a1 n1 c1) := kg6.cell 2
        have s3 : w6.cell? ⟨g, 3, none⟩ = some (.slice a2 n2 c2) := kg6.cell 3
        go_wp2_with fail
        refine f1.mono ?_
        clear f1 x0 x1 x2 s0 s1 s2 s3
        rintro e wa ⟨rfl, hBn⟩
        replace kx := kx.keep hBn
        replace kg6 := kg6.keep hBn
        have hba := PM.hid hBn
        clear hBn
        cases e1 : PM.hasE ls z.id
        case true =>
          have e1h := PM.hid e1
          clear e1 kx kg6
          go_wp2_with fail
          all_goals
            go_meet
            exact ⟨by rw [hkn.out, e1h.out]; rfl, hba.out⟩
        have e1h := PM.hid e1
        clear e1
        have f2 := promS_any lf a0 n0 c0 a1 n1 c1 a2 n2 c2 z.id ps wa (PM.EnL.keep hsh.out.2.1 (PM.chain hBw6.out hba.out))
        have x0 : wa.cell? ⟨gx, 0, none⟩ = some (.int .i64 z.id.br) := kx.cell 0
        have x1 : wa.cell? ⟨gx, 1, none⟩ = some (.int .u64 (z.id.life : Int)) := kx.cell 1
        have x2 : wa.cell? ⟨gx, 2, none⟩ = some (.int .u64 (z.id.ser : Int)) := kx.cell 2
        have s0 : wa.cell? ⟨g, 0, none⟩ = some (.int .u64 (lf : Int)) := kg6.cell 0
        have s1 : wa.cell? ⟨g, 1, none⟩ = some (.slice a0 n0 c0) := kg6.cell 1
        have s2 : wa.cell? ⟨g, 2, none⟩ = some (.slice a1 n1 c1) := kg6.cell 2
        have s3 : wa.cell? ⟨g, 3, none⟩ = some (.slice a2 n2 c2) := kg6.cell 3
        go_wp2_with fail
        refine f2.mono ?_
        clear f2 x0 x1 x2 s0 s1 s2 s3
        rintro e wb ⟨rfl, hBn⟩
        replace kx := kx.keep hBn
        replace kg6 := kg6.keep hBn
        have hbb := PM.hid (PM.chain hba.out hBn)
        clear hBn
        cases e2 : PM.hasE ps z.id
        case true =>
          have e2h := PM.hid e2
          clear e2 kx kg6
          go_wp2_with fail
          all_goals
            go_meet
            exact ⟨by rw [hkn.out, e1h.out, e2h.out]; rfl, hbb.out⟩
        have e2h := PM.hid e2
        clear e2
        have f3 := abortS_any lf a0 n0 c0 a1 n1 c1 a2 n2 c2 z.id ab wb (hsh.out.2.2.keep (PM.chain hBw6.out hbb.out))
        have x0 : wb.cell? ⟨gx, 0, none⟩ = some (.int .i64 z.id.br) := kx.cell 0
        have x1 : wb.cell? ⟨gx, 1, none⟩ = some (.int .u64 (z.id.life : Int)) := kx.cell 1
        have x2 : wb.cell? ⟨gx, 2, none⟩ = some (.int .u64 (z.id.ser : Int)) := kx.cell 2
        have s0 : wb.cell? ⟨g, 0, none⟩ = some (.int .u64 (lf : Int)) := kg6.cell 0
        have s1 : wb.cell? ⟨g, 1, none⟩ = some (.slice a0 n0 c0) := kg6.cell 1
        have s2 : wb.cell? ⟨g, 2, none⟩ = some (.slice a1 n1 c1) := kg6.cell 2
        have s3 : wb.cell? ⟨g, 3, none⟩ = some (.slice a2 n2 c2) := kg6.cell 3
        go_wp2_with fail
        refine f3.mono ?_
        clear f3 x0 x1 x2 s0 s1 s2 s3
        rintro e wd ⟨rfl, hBn⟩
        have hbd := PM.hid (PM.chain hbb.out hBn)
        clear hBn kx kg6
        go_wp2_with fail
        all_goals
          go_meet
          exact ⟨by rw [hkn.out, e1h.out, e2h.out]; rfl, hbd.out⟩
      case rest =>
      obtain ⟨rfl, hB7⟩ := hcut
      have hz7 := PM.hid hB7
      have kx7 := PM.hid (kx.keep hB7)
      obtain ⟨w7, hw7⟩ : ∃ W, W = wc := ⟨_, rfl⟩
      rw [← hw7] at hz7 kx7 ⊢
      clear hw7 hB7 kx kg6
      obtain ⟨KN, hKN⟩ : ∃ b, b = PM.kn ls ps ab z.id := ⟨_, rfl⟩
      rw [← hKN]
      have hKNh := PM.hid hKN
      clear hKN
      have hb57 := PM.hid (PM.chain hB6.out hz7.out)
      have hbw7 := PM.hid (PM.chain hBw6.out hz7.out)
      go_wp2_with fail
      go_loopw [11, 12] (fun n j wr => ∃ J : Nat, j = .int .i64 J ∧ J ≤ P ∧ n = .int .i64 (PM.cntE (p.take J) z.id : Nat) ∧ Below w7.heap.size w7 wr) (fun _ j _ => P - (intOf j).toNat)
      case atStart => exact ⟨0, rfl, by omega, rfl, Below.refl _ _⟩
      case round =>
        obtain ⟨J, rfl, hJ, rfl, hB⟩ := hrel
        have hBh := PM.hid hB
        have hcl : PM.cntE (p.take J) z.id ≤ J := Nat.le_trans List.countP_le_length (by rw [List.length_take]; omega)
        obtain ⟨C, hC⟩ : ∃ c, c = PM.cntE (p.take J) z.id := ⟨_, rfl⟩
        rw [← hC] at hcl ⊢
        have hCh := PM.hid hC
        clear hC hB
        obtain ⟨wr2, hwr2⟩ : ∃ W, W = wr := ⟨_, rfl⟩
        rw [← hwr2] at hBh ⊢
        clear hwr2
        by_cases hltJ : J < P
        · obtain ⟨y, yz⟩ : ∃ z, p[J]? = some z := ⟨p[J]'(by rw [← hPh.out]; first | exact hltJ | omega), List.getElem?_eq_getElem _⟩
          obtain ⟨yb, yo, ye, yc⟩ := PM.RR.opn huh.out (by rw [← hPh.out]; first | exact hltJ | omega)
          subst ye
          obtain ⟨ycs, yl, yR⟩ := yc J y yz
          obtain ⟨_, _, _, _, yh, -, -⟩ := PM.enR_open yR
          rw [yh] at yl
          replace yl := yl.keep (PM.chain hb57.out hBh.out)
          have y0 : wr2.cell? ⟨yb, yo + J * 8 + 1, none⟩ = some (.int .i64 y.id.br) := yl 1 _ rfl
          have y1 : wr2.cell? ⟨yb, yo + J * 8 + 2, none⟩ = some (.int .u64 (y.id.life : Int)) := yl 2 _ rfl
          have y2 : wr2.cell? ⟨yb, yo + J * 8 + 3, none⟩ = some (.int .u64 (y.id.ser : Int)) := yl 3 _ rfl
          clear yc yl yR yh ycs
          have x0 : wr2.cell? ⟨gx, 0, none⟩ = some (.int .i64 z.id.br) := PM.cellA hBh.out (kx7.out.cell 0)
          have x1 : wr2.cell? ⟨gx, 1, none⟩ = some (.int .u64 (z.id.life : Int)) := PM.cellA hBh.out (kx7.out.cell 1)
          have x2 : wr2.cell? ⟨gx, 2, none⟩ = some (.int .u64 (z.id.ser : Int)) := PM.cellA hBh.out (kx7.out.cell 2)
          have hq := ideq_run y.id z.id
          have hyh := PM.hid yz
          clear yz
          have hsn : Hid (PM.cntE (p.take (J + 1)) z.id = C + if decide (y.id = z.id) then 1 else 0) := PM.hid (by rw [hCh.out]; exact PM.countP_snoc hyh.out)
          cases heq : decide (y.id = z.id)
          · rw [heq] at hq
            have heqh := PM.hid heq
            clear heq
            go_upto_region 16 with fail
            go_region
            clear hq y0 y1 y2 x0 x1 x2
            go_wp2_with fail
            exact ⟨⟨J + 1, by go_num, by omega, by rw [hsn.out, heqh.out]; rfl, hBh.out.drew⟩, by simp only [intOf]; omega⟩
          · rw [heq] at hq
            have heqh := PM.hid heq
            clear heq
            go_upto_region 16 with fail
            go_region
            clear hq y0 y1 y2 x0 x1 x2
            go_wp2_with fail
            exact ⟨⟨J + 1, by go_num, by omega, by rw [hsn.out, heqh.out]; simp, hBh.out.drew⟩, by simp only [intOf]; omega⟩
        · obtain rfl : J = P := by omega
          have hCe : Hid (C = PM.cntE p z.id) := PM.hid (by have h9 : p.take J = p := (by rw [hPh.out]; exact List.take_length); rw [hCh.out, h9])
          clear hCh
          go_wp2_with fail
          go_loopw [11, 13] (fun n j wr => ∃ I : Nat, j = .int .i64 I ∧ I ≤ Q ∧ n = .int .i64 (C + PM.cntI (q.take I) z.id : Nat) ∧ Below w7.heap.size w7 wr) (fun _ j _ => Q - (intOf j).toNat)
          case atStart => exact ⟨0, rfl, by omega, by simp [PM.cntI], hBh.out⟩
          case round =>
            obtain ⟨I, rfl, hI, rfl, hB⟩ := hrel
            have hBi := PM.hid hB
            have hdl : PM.cntI (q.take I) z.id ≤ I := Nat.le_trans List.countP_le_length (by rw [List.length_take]; omega)
            obtain ⟨D, hD⟩ : ∃ c, c = C + PM.cntI (q.take I) z.id := ⟨_, rfl⟩
            rw [← hD]
            have hDl : D ≤ 60 := by omega
            have hDh := PM.hid hD
            clear hD hB
            obtain ⟨wr3, hwr3⟩ : ∃ W, W = wr := ⟨_, rfl⟩
            rw [← hwr3] at hBi ⊢
            clear hwr3
            by_cases hltI : I < Q
            · obtain ⟨t, ht⟩ : ∃ t, q[I]? = some t := ⟨q[I]'(by rw [← hQh.out]; exact hltI), List.getElem?_eq_getElem _⟩
              obtain ⟨tb, to_, tc', te, -, -, tce⟩ := PM.EM.open1 hrh.out (by rw [← hQh.out]; omega)
              injection te with te1 te2 te3
              subst te1
              have hl0 := (tce I t ht).keep (PM.chain hb57.out hBi.out)
              have t0 : wr3.cell? ⟨tb, to_ + I * 3, none⟩ = some (.int .i64 t.br) := hl0 0 _ rfl
              have t1 : wr3.cell? ⟨tb, to_ + I * 3 + 1, none⟩ = some (.int .u64 (t.life : Int)) := hl0 1 _ rfl
              have t2 : wr3.cell? ⟨tb, to_ + I * 3 + 2, none⟩ = some (.int .u64 (t.ser : Int)) := hl0 2 _ rfl
              have x0 : wr3.cell? ⟨gx, 0, none⟩ = some (.int .i64 z.id.br) := PM.cellA hBi.out (kx7.out.cell 0)
              have x1 : wr3.cell? ⟨gx, 1, none⟩ = some (.int .u64 (z.id.life : Int)) := PM.cellA hBi.out (kx7.out.cell 1)
              have x2 : wr3.cell? ⟨gx, 2, none⟩ = some (.int .u64 (z.id.ser : Int)) := PM.cellA hBi.out (kx7.out.cell 2)
              have hq := ideq_run t z.id
              have hth := PM.hid ht
              clear ht tce hl0 te2 te3
              have hsn : Hid (C + PM.cntI (q.take (I + 1)) z.id = D + if decide (t = z.id) then 1 else 0) := PM.hid (by rw [hDh.out]; unfold PM.cntI; rw [PM.countP_snoc hth.out, Nat.add_assoc])
              cases heq : decide (t = z.id)
              · rw [heq] at hq
                have heqh := PM.hid heq
                clear heq
                go_upto_region 21 with fail
                go_region
                clear hq t0 t1 t2 x0 x1 x2
                go_wp2_with fail
                exact ⟨⟨I + 1, by go_num, by omega, by rw [hsn.out, heqh.out]; rfl, hBi.out.drew⟩, by simp only [intOf]; omega⟩
              · rw [heq] at hq
                have heqh := PM.hid heq
                clear heq
                go_upto_region 21 with fail
                go_region
                clear hq t0 t1 t2 x0 x1 x2
                go_wp2_with fail
                exact ⟨⟨I + 1, by go_num, by omega, by rw [hsn.out, heqh.out]; simp, hBi.out.drew⟩, by simp only [intOf]; omega⟩
            · obtain rfl : I = Q := by omega
              have hDe : D = PM.cntE p z.id + PM.cntI q z.id := by
                have h9 : q.take I = q := (by rw [hQh.out]; exact List.take_length)
                rw [hDh.out, h9, hCe.out]
              have hmem : PM.hasE l z.id = true := PM.hasE_iff.2 ⟨z, List.mem_of_getElem? hzh.out, rfl⟩
              have hcz := hcnt.out z.id
              rw [← hDe, ← hKNh.out, hmem] at hcz
              have hin := PM.hid (PM.chain hb57.out hBi.out)
              clear hDe hmem hDh hdl hDl
              cases KN
              · have hD1 : D = 1 := by simpa using hcz
                subst hD1
                clear hcz hKNh
                go_wp2_with fail
                exact ⟨⟨k + 1, by go_num, by omega, hin.out⟩, by simp only [intOf]; omega⟩
              · have hD1 : D = 0 := by simpa using hcz
                subst hD1
                clear hcz hKNh
                go_wp2_with fail
                exact ⟨⟨k + 1, by go_num, by omega, hin.out⟩, by simp only [intOf]; omega⟩
    · obtain rfl : k = N := by omega
      have hBf := PM.hid (PM.chain hBB.out hB)
      have kgr := kgh.out.keep hB
      have s0 : wr.cell? ⟨g, 0, none⟩ = some (.int .u64 (lf : Int)) := kgr.cell 0
      have s1 : wr.cell? ⟨g, 1, none⟩ = some (.slice a0 n0 c0) := kgr.cell 1
      have s2 : wr.cell? ⟨g, 2, none⟩ = some (.slice a1 n1 c1) := kgr.cell 2
      have s3 : wr.cell? ⟨g, 3, none⟩ = some (.slice a2 n2 c2) := kgr.cell 3
      have hwn : IntKind.i64.wrap ((n1 : Int) + (P : Int)) = (n1 : Int) + (P : Int) := by rw [IntKind.wrap_i64]; omega
      have hwm : IntKind.i64.wrap ((P : Int) + (Q : Int)) = (P : Int) + (Q : Int) := by rw [IntKind.wrap_i64]; omega
      have e1 : decide ((P : Int) + (Q : Int) ≤ (k : Int)) = true := by simp; omega
      have e1' : (P : Int) + (Q : Int) ≤ (k : Int) := by omega
      clear kgr hB
      by_cases hQ0 : Q = 0
      · have e2 : ((Q : Int) == 0) = true := by simp; omega
        subst hQ0
        go_wp2_with fail
        go_ret
        exact ⟨by first | rfl | simp, hBf.out⟩
      · have e2 : ((Q : Int) == 0) = false := by simp; omega
        have hf6 := hfull (by omega)
        have e3 : decide ((6 : Int) ≤ (n1 : Int) + (P : Int)) = true := by simp; omega
        have e3' : (6 : Int) ≤ (n1 : Int) + (P : Int) := by omega
        go_wp2_with fail
        go_ret
        exact ⟨by first | rfl | simp, hBf.out⟩
theorem voteRoom_walk (lf : Nat) (v0 v1 v2 : Value) (ls ps : List PM.En) (ab : List PM.Id) (v : Value) (l : List PM.En) (w : World) (hs : PM.StR w v0 v1 v2 ls ps ab) (hv : PM.EnL w v l) :
    Calls Try.prog 6 #[.agg #[.int .u64 (lf : Int), v0, v1, v2], v] w fun e w' => e = .returned (.bool true) ∧ Below w.heap.size w w' := by
  obtain ⟨a0, c0, rfl⟩ := hs.1.len
  obtain ⟨a1, c1, rfl⟩ := hs.2.1.len
  obtain ⟨a2, c2, rfl⟩ := hs.2.2.len
  obtain ⟨va, vc, rfl⟩ := hv.len
  exact voteRoom_walkA lf a0 _ c0 a1 _ c1 a2 _ c2 va _ vc ls ps l ab w hs hv
end Go.Proofs.Ytjninckmgkaliaa
