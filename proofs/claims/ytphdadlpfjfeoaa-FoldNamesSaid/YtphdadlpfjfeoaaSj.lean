/-
  CONTRACT of fold.Records. (Written by tools/mk_sj.py.)
-/
import Derived.Test.YtphdadlpfjfeoaaSg
import Derived.Test.YtphdadlpfjfeoaaJB
namespace Go.Proofs.Ytphdadlpfjfeoaa
open Go.RowKit
set_option linter.unusedVariables false
set_option linter.unusedSimpArgs false
theorem tyRcO : PM.MTy Try.prog 23 46 13 136 := by
  refine ⟨Try.underlying23, by decide, ?_⟩
  obtain ⟨i, h1, h2, h3, h4⟩ := info_parts (P := Try.prog) (e := 46) (z := .agg #[.int .i64 0, .int .u64 0, .int .i64 0, .int .i64 0, .int .u64 0, .int .u64 0, .int .i64 0, .int .u64 0, .slice none 0 0, .slice none 0 0, .int .i64 0, .int .u64 0, .int .u64 0]) (size := 13) (bytes := 136) (by kernel_rfl)
  exact ⟨i, _, h1, h2, h3, h4, by kernel_rfl⟩
theorem tyBbO : PM.MTy Try.prog 30 54 1 24 := by
  refine ⟨Try.underlying30, by decide, ?_⟩
  obtain ⟨i, h1, h2, h3, h4⟩ := info_parts (P := Try.prog) (e := 54) (z := .slice none 0 0) (size := 1) (bytes := 24) (by kernel_rfl)
  exact ⟨i, _, h1, h2, h3, h4, by kernel_rfl⟩
namespace PM
/-- a record, read in an elder world -/
def rcK (w0 : World) (_ : World) (cs : List Value) (x : Rc) : Prop := rcR w0 cs x
theorem rcK_lasts (w0 : World) : Lasts (rcK w0) := fun _ _ _ _ _ h => h
theorem rcK_stays (w0 : World) (E : TypeId) : Stays (rcK w0) E := fun _ _ _ _ _ _ _ h => h
def rcCe (x : Rc) (a : Option Addr) (n c : Nat) (b : Option Addr) (m d : Nat) : Ce 13 := ⟨rcC x (.slice a n c) (.slice b m d), rfl, by
  intro u hu
  simp only [rcC, enC, idL, List.cons_append, List.nil_append, List.mem_cons, List.not_mem_nil, or_false] at hu
  rcases hu with rfl | rfl | rfl | rfl | rfl | rfl | rfl | rfl | rfl | rfl | rfl | rfl | rfl <;> rfl⟩
/-- bytes of the call's own, as one member -/
def bbO (B : Nat) (w : World) (cs : List Value) (l : List UInt8) : Prop := ∃ v, cs = [v] ∧ OW 5 B w v l
theorem bbO_lasts {B : Nat} : Lasts (bbO B) := fun W w cs x hb ⟨v, h1, h2⟩ => ⟨v, h1, h2.keep hb⟩
theorem bbO_stays {B : Nat} {K : TypeId} (hne : 5 ≠ K) : Stays (bbO B) K := fun w w' cs x row hg ht ⟨v, h1, h2⟩ => ⟨v, h1, by
  refine ⟨h2.1, ?_⟩
  rcases h2.2 with hn | ⟨g, cap, cur, hv, hB, hgg, r⟩
  · exact .inl hn
  · refine .inr ⟨g, cap, cur, hv, hB, (hg.block g (Array.getElem?_eq_some_iff.1 hgg).1 fun he => ?_).trans hgg, r⟩
    obtain ⟨cur', m', hc⟩ := ht g he.symm
    rw [hgg] at hc
    injection hc with hc
    injection hc with _ hc _
    exact hne hc⟩
def En9 : En := ⟨0, ⟨0, 0, 0⟩, 0, 0, [], []⟩
def rL (n : Nat) : List En → List Rc
  | [] => []
  | x :: l => ⟨2, n, x, Id0⟩ :: rL (n + 1) l
theorem rL_snoc (x : En) : ∀ (l : List En) (n : Nat), rL n (l ++ [x]) = rL n l ++ [⟨2, n + l.length, x, Id0⟩]
  | [], n => by simp [rL]
  | y :: l, n => by
    simp only [List.cons_append, rL, rL_snoc x l, List.length_cons]
    rw [show n + 1 + l.length = n + (l.length + 1) by omega]
theorem rL_len : ∀ (l : List En) (n : Nat), (rL n l).length = l.length
  | [], _ => rfl
  | y :: l, n => by simp only [rL, List.length_cons, rL_len l]
def r0 (lf : Nat) : List Rc := if lf = 0 then [] else [⟨1, lf, En9, Id0⟩]
def rP (x : En) : Rc := ⟨3, 0, x, Id0⟩
def rA (i : Id) : Rc := ⟨4, 0, En9, i⟩
/-- the fewest records that make a state -/
def recL (s : Fs) : List Rc := r0 s.lf ++ rL 0 s.ls ++ s.ps.map rP ++ s.ab.map rA
theorem r0_len (lf : Nat) : (r0 lf).length ≤ 1 := by unfold r0; split <;> simp
/-- while the records are laid -/
def RI (w : World) (g1 : Nat) (st : Array Value) (l : List Rc) (v : Value) (wr : World) : Prop := OR (rcK w) 13 46 w.heap.size wr v l ∧ BK wr g1 st 28 ∧ Below w.heap.size w wr
theorem rcR0 (w : World) (k : Int) (n : Nat) (i : Id) : rcR w (rcC ⟨k, n, En9, i⟩ (.slice none 0 0) (.slice none 0 0)) ⟨k, n, En9, i⟩ := ⟨_, _, rfl, EM.nil _, RR.nil _⟩
end PM
namespace PM
theorem OR.monoB {α : Type} {R : World → List Value → α → Prop} {c : Nat} {E : TypeId} {B B' : Nat} {w : World} {v : Value} {l : List α} (hb : B' ≤ B) (h : OR R c E B w v l) : OR R c E B' w v l := by
  obtain ⟨css, h1, h2, h3⟩ := h
  exact ⟨css, h1.mono hb, h2, h3⟩
theorem EM.open2 {α : Type} {e : α → List Value} {c : Nat} {w : World} {ad : Option Addr} {n cap : Nat} {l : List α} (h : EM e c w (.slice ad n cap) l) (hl : 0 < l.length) : ∃ b off, ad = some ⟨b, off, none⟩ ∧ ∀ (i : Nat) (x : α), l[i]? = some x → ∀ (j : Nat) (u : Value), (e x)[j]? = some u → w.cell? ⟨b, off + i * c + j, none⟩ = some u := by
  obtain ⟨ad', cap', hv, h1, h2, h3⟩ := h
  obtain ⟨b, off, rfl, h4⟩ := h3 hl
  injection hv with e1 e2 e3
  exact ⟨b, off, e1, h4⟩
end PM
set_option maxRecDepth 100000 in
set_option maxHeartbeats 16000000 in
theorem records_any (s : PM.Fs) (a0 : Option Addr) (n0 c0 : Nat) (a1 : Option Addr) (n1 c1 : Nat) (a2 : Option Addr) (n2 c2 : Nat) (w : World)
    (h0 : PM.EnL w (.slice a0 n0 c0) s.ls) (h1 : PM.EnL w (.slice a1 n1 c1) s.ps) (h2 : PM.EM PM.idL 3 w (.slice a2 n2 c2) s.ab) (e0 : n0 = s.ls.length) (e1 : n1 = s.ps.length) (e2 : n2 = s.ab.length)
    (hl0 : s.ls.length ≤ 1000) (hl1 : s.ps.length ≤ 1000) (hl2 : s.ab.length ≤ 1000) (hwf : ∀ r ∈ PM.recL s, r.wf) :
    Calls Try.prog 9 #[.agg #[.int .u64 (s.lf : Int), .slice a0 n0 c0, .slice a1 n1 c1, .slice a2 n2 c2]] w fun e w' => ∃ o c, e = .returned (.tuple #[o, .int .i64 c]) ∧ (c = 0 ∧ (∀ r ∈ PM.recL s, PM.rcP r) ∧ PM.OR (PM.bbO w.heap.size) 1 54 w.heap.size w' o ((PM.recL s).map PM.rcB) ∨ c = 110 ∧ (∃ r ∈ PM.recL s, ¬ PM.rcP r) ∧ o = .slice none 0 0) ∧ Below w.heap.size w w' := by
  have hb0 : n0 ≤ 1000 := by omega
  have hb1 : n1 ≤ 1000 := by omega
  have hb2 : n2 ≤ 1000 := by omega
  have hNn0 := PM.hid e0
  have hNn1 := PM.hid e1
  have hNn2 := PM.hid e2
  have hv0 := PM.hid h0
  have hv1 := PM.hid h1
  have hv2 := PM.hid h2
  replace hwf := PM.hid hwf
  obtain ⟨g1, hg1⟩ : ∃ g, g = w.heap.size := ⟨_, rfl⟩
  obtain ⟨w1, hw1⟩ : ∃ W, W = w.alloc (.cells #[.int .u64 (s.lf : Int), .slice a0 n0 c0, .slice a1 n1 c1, .slice a2 n2 c2] 28) := ⟨_, rfl⟩
  have hB1 : Below w.heap.size w w1 := by rw [hw1]; exact (Below.refl _ _).alloc (Nat.le_refl _) _
  have k1 : PM.BK w1 g1 #[.int .u64 (s.lf : Int), .slice a0 n0 c0, .slice a1 n1 c1, .slice a2 n2 c2] 28 := by rw [hw1, hg1]; exact PM.BK.new _ _ _
  obtain ⟨ST, hST⟩ : ∃ q : Array Value, q = #[.int .u64 (s.lf : Int), .slice a0 n0 c0, .slice a1 n1 c1, .slice a2 n2 c2] := ⟨_, rfl⟩
  replace hST := PM.hid hST
  have hks := k1
  rw [← hST.out] at k1
  have hK1 := PM.hid (And.intro k1 hB1)
  clear h0 h1 h2 e0 e1 e2 k1
  go_enter Try.func9, Try.ntmps9
  go_upto_region 1 with fail
  rw [← hw1, ← hg1]
  clear hw1 hg1
  have v0 : w1.cell? ⟨g1, 0, none⟩ = some (.int .u64 (s.lf : Int)) := hks.cell 0
  have v1 : w1.cell? ⟨g1, 1, none⟩ = some (.slice a0 n0 c0) := hks.cell 1
  have v2 : w1.cell? ⟨g1, 2, none⟩ = some (.slice a1 n1 c1) := hks.cell 2
  have v3 : w1.cell? ⟨g1, 3, none⟩ = some (.slice a2 n2 c2) := hks.cell 3
  clear hks
  go_upto_if 18 with fail
  go_cut [4] from 16 to 24 (fun a wx => (∃ ra rn rc, a = .slice ra rn rc) ∧ Hid (PM.RI w g1 ST (PM.r0 s.lf) a wx))
  case first =>
    by_cases hz : s.lf = 0
    · have hr : PM.r0 s.lf = [] := by unfold PM.r0; rw [if_pos hz]
      have q1 : (((s.lf : Nat) : Int) != 0) = false := by rw [hz]; rfl
      have hI0 : Hid (PM.RI w g1 ST (PM.r0 s.lf) (.slice none 0 0) w1) := PM.hid ⟨by rw [hr]; exact PM.OR.nilrow _, hK1.out.1, hK1.out.2⟩
      clear hr
      go_wp2_with fail
      go_meet
      exact ⟨⟨_, _, _, rfl⟩, hI0⟩
    · have hr : PM.r0 s.lf = [⟨1, s.lf, PM.En9, PM.Id0⟩] := by unfold PM.r0; rw [if_neg hz]
      have q1 : (((s.lf : Nat) : Int) != 0) = true := by simp; exact hz
      have hl16 : (([] : List PM.Rc).length + 1) * 136 ≤ 140737488355328 := by decide
      have hl17 : ([] : List PM.Rc).length + 1 ≤ maxLen := by decide
      have hsz := hK1.out.2.size
      have hrow : PM.OR (PM.rcK w) 13 46 w.heap.size w1 (.slice none 0 0) [] := PM.OR.nilrow _
      have hRy : PM.rcK w w1 (PM.rcC ⟨1, s.lf, PM.En9, PM.Id0⟩ (.slice none 0 0) (.slice none 0 0)) ⟨1, s.lf, PM.En9, PM.Id0⟩ := PM.rcR0 w _ _ _
      go_wp2_with (at_builtin; go_loud (refine PM.wpList_or1 tyRcO (PM.rcK_stays w _) (PM.rcK_lasts w) w.heap.size w1 rfl _ _ rfl _ [] ⟨1, s.lf, PM.En9, PM.Id0⟩ (PM.rcCe ⟨1, s.lf, PM.En9, PM.Id0⟩ none 0 0 none 0 0) _ rfl rfl rfl rfl hRy hrow hl16 hl17 hsz ?_); intro v' w' t1 t2 t3; have hE := PM.hid (And.intro t1 (And.intro t2 t3)); clear t1 t2 t3)
      go_meet
      obtain ⟨ra2, rc2, hre2⟩ := hE.out.1.rr.len
      subst hre2
      exact ⟨⟨_, _, _, rfl⟩, PM.hid ⟨by rw [hr]; exact hE.out.1, PM.BK.kt hK1.out.1 (PM.KT.ofg hE.out.2.2 hrow.rt (by decide)), hK1.out.2.trans hE.out.2.1⟩⟩
  case rest =>
    obtain ⟨⟨ra, rn, rc, rfl⟩, hI⟩ := hcut
    have hI0 : Hid (PM.RI w g1 ST (PM.r0 s.lf ++ PM.rL 0 (s.ls.take 0)) (.slice ra rn rc) wc) := PM.hid (by have := hI.out; simpa [PM.rL] using this)
    have hks : PM.BK wc g1 #[.int .u64 (s.lf : Int), .slice a0 n0 c0, .slice a1 n1 c1, .slice a2 n2 c2] 28 := by have := hI.out.2.1; rw [hST.out] at this; exact this
    have v0 : wc.cell? ⟨g1, 0, none⟩ = some (.int .u64 (s.lf : Int)) := hks.cell 0
    have v1 : wc.cell? ⟨g1, 1, none⟩ = some (.slice a0 n0 c0) := hks.cell 1
    have v2 : wc.cell? ⟨g1, 2, none⟩ = some (.slice a1 n1 c1) := hks.cell 2
    have v3 : wc.cell? ⟨g1, 3, none⟩ = some (.slice a2 n2 c2) := hks.cell 3
    clear hks hI
    go_wp2_with fail
    clear v0 v1 v2 v3
    go_loopw [4, 28] (fun a i wr => ∃ k : Nat, i = .int .i64 k ∧ k ≤ n0 ∧ (∃ ra rn rc, a = .slice ra rn rc) ∧ Hid (PM.RI w g1 ST (PM.r0 s.lf ++ PM.rL 0 (s.ls.take k)) a wr)) (fun _ i _ => n0 - (intOf i).toNat)
    case atStart => exact ⟨0, rfl, by omega, ⟨_, _, _, rfl⟩, hI0⟩
    case round =>
      obtain ⟨k, rfl, hk, ⟨ra, rn, rc, rfl⟩, hI⟩ := hrel
      by_cases hlt : k < n0
      · obtain ⟨z, hz⟩ : ∃ z, s.ls[k]? = some z := ⟨s.ls[k]'(by rw [← hNn0.out]; exact hlt), List.getElem?_eq_getElem _⟩
        obtain ⟨b, off, rfl, hce⟩ := PM.RR.opn hv0.out (by rw [← hNn0.out]; omega)
        have hB := hI.out.2.2
        obtain ⟨cs, hl0, hR⟩ := hce k z hz
        obtain ⟨fa, fc, ea, ec, hcs, hzf, hze⟩ := PM.enR_open hR
        replace hl0 := hl0.keep hB
        rw [hcs] at hl0
        obtain ⟨zF, hzF⟩ : ∃ P, P = z.fil.length := ⟨_, rfl⟩
        obtain ⟨zE, hzE⟩ : ∃ P, P = z.evs.length := ⟨_, rfl⟩
        rw [← hzF, ← hzE] at hl0
        rw [← hzF] at hzf
        rw [← hzE] at hze
        have d0 : wr.cell? ⟨b, off + k * 8, none⟩ = some (.int .i64 z.kind) := hl0 0 _ rfl
        have d1 : wr.cell? ⟨b, off + k * 8 + 1, none⟩ = some (.int .i64 z.id.br) := hl0 1 _ rfl
        have d2 : wr.cell? ⟨b, off + k * 8 + 2, none⟩ = some (.int .u64 (z.id.life : Int)) := hl0 2 _ rfl
        have d3 : wr.cell? ⟨b, off + k * 8 + 3, none⟩ = some (.int .u64 (z.id.ser : Int)) := hl0 3 _ rfl
        have d4 : wr.cell? ⟨b, off + k * 8 + 4, none⟩ = some (.int .i64 z.client) := hl0 4 _ rfl
        have d5 : wr.cell? ⟨b, off + k * 8 + 5, none⟩ = some (.int .u64 (z.sub : Int)) := hl0 5 _ rfl
        have d6 : wr.cell? ⟨b, off + k * 8 + 6, none⟩ = some (.slice fa zF fc) := hl0 6 _ rfl
        have d7 : wr.cell? ⟨b, off + k * 8 + 7, none⟩ = some (.slice ea zE ec) := hl0 7 _ rfl
        have hRy : PM.rcK w wr (PM.rcC ⟨2, k, z, PM.Id0⟩ (.slice fa zF fc) (.slice ea zE ec)) ⟨2, k, z, PM.Id0⟩ := ⟨_, _, rfl, hzf, hze⟩
        have hzh := PM.hid hz
        clear hz hce hl0 hR hcs cs hzf hze hzF hzE
        go_upto_region 7 with fail
        obtain ⟨gx, hgx⟩ : ∃ g, g = wr.heap.size := ⟨_, rfl⟩
        obtain ⟨w3, hw3⟩ : ∃ W, W = wr.alloc (.cells #[.int .i64 z.kind, .int .i64 z.id.br, .int .u64 (z.id.life : Int), .int .u64 (z.id.ser : Int), .int .i64 z.client, .int .u64 (z.sub : Int), .slice fa zF fc, .slice ea zE ec] 44) := ⟨_, rfl⟩
        have hBn : Below wr.heap.size wr w3 := by rw [hw3]; exact (Below.refl _ _).alloc (Nat.le_refl _) _
        have kx : PM.BK w3 gx #[.int .i64 z.kind, .int .i64 z.id.br, .int .u64 (z.id.life : Int), .int .u64 (z.id.ser : Int), .int .i64 z.client, .int .u64 (z.sub : Int), .slice fa zF fc, .slice ea zE ec] 44 := by rw [hw3, hgx]; exact PM.BK.new _ _ _
        rw [← hw3, ← hgx]
        clear hw3 hgx
        clear d0 d1 d2 d3 d4 d5 d6 d7
        have hBw := PM.chain hB hBn
        have hr3 := PM.OR.keep (PM.rcK_lasts w) hBn hI.out.1
        have hks := PM.hid (hI.out.2.1.keep hBn)
        have hsz := hBw.size
        have hlen := hI.out.1.rr.len
        have hl16 : ((PM.r0 s.lf ++ PM.rL 0 (s.ls.take k)).length + 1) * 136 ≤ 140737488355328 := by have := PM.r0_len s.lf; simp only [List.length_append, PM.rL_len, List.length_map, List.length_take]; omega
        have hl17 : (PM.r0 s.lf ++ PM.rL 0 (s.ls.take k)).length + 1 ≤ maxLen := by unfold maxLen; have := PM.r0_len s.lf; simp only [List.length_append, PM.rL_len, List.length_map, List.length_take]; omega
        replace hBw := PM.hid hBw
        clear hBn hB hlen hI
        have x0 : w3.cell? ⟨gx, 0, none⟩ = some (.int .i64 z.kind) := kx.cell 0
        have x1 : w3.cell? ⟨gx, 1, none⟩ = some (.int .i64 z.id.br) := kx.cell 1
        have x2 : w3.cell? ⟨gx, 2, none⟩ = some (.int .u64 (z.id.life : Int)) := kx.cell 2
        have x3 : w3.cell? ⟨gx, 3, none⟩ = some (.int .u64 (z.id.ser : Int)) := kx.cell 3
        have x4 : w3.cell? ⟨gx, 4, none⟩ = some (.int .i64 z.client) := kx.cell 4
        have x5 : w3.cell? ⟨gx, 5, none⟩ = some (.int .u64 (z.sub : Int)) := kx.cell 5
        have x6 : w3.cell? ⟨gx, 6, none⟩ = some (.slice fa zF fc) := kx.cell 6
        have x7 : w3.cell? ⟨gx, 7, none⟩ = some (.slice ea zE ec) := kx.cell 7
        have wl : IntKind.u64.wrap (k : Int) = (k : Int) := by have := hNn0.out; rw [IntKind.wrap_u64]; omega
        clear kx
        go_wp2_with (at_builtin; go_loud (refine PM.wpList_or1 tyRcO (PM.rcK_stays w _) (PM.rcK_lasts w) w.heap.size w3 rfl _ _ rfl _ (PM.r0 s.lf ++ PM.rL 0 (s.ls.take k)) ⟨2, k, z, PM.Id0⟩ (PM.rcCe ⟨2, k, z, PM.Id0⟩ fa zF fc ea zE ec) _ rfl rfl rfl rfl hRy hr3 hl16 hl17 hsz ?_); intro v' w' t1 t2 t3; have hE := PM.hid (And.intro t1 (And.intro t2 t3)); clear t1 t2 t3)
        obtain ⟨ra2, rc2, hre2⟩ := hE.out.1.rr.len
        have hsn : PM.r0 s.lf ++ PM.rL 0 (s.ls.take (k + 1)) = PM.r0 s.lf ++ PM.rL 0 (s.ls.take k) ++ [⟨2, k, z, PM.Id0⟩] := by rw [PM.take_at hzh.out, PM.rL_snoc, ← List.append_assoc, List.length_take, ← hNn0.out, Nat.min_eq_left (by omega), Nat.zero_add]
        have hnx : Hid (PM.RI w g1 ST (PM.r0 s.lf ++ PM.rL 0 (s.ls.take (k + 1))) v' w') := PM.hid ⟨by rw [hsn]; exact hE.out.1, PM.BK.kt hks.out (PM.KT.ofg hE.out.2.2 hr3.rt (by decide)), hBw.out.trans hE.out.2.1⟩
        subst hre2
        refine ⟨⟨k + 1, by go_num, by omega, ⟨_, _, _, rfl⟩, hnx⟩, by simp only [intOf]; omega⟩
      · obtain rfl : n0 = k := by omega
        have hfull : PM.r0 s.lf ++ PM.rL 0 (s.ls.take n0) = PM.r0 s.lf ++ PM.rL 0 s.ls ++ (s.ps.take 0).map PM.rP := by rw [hNn0.out, List.take_length]; simp
        rw [hfull] at hI
        have hI0 := PM.hid hI.out
        have hks : PM.BK wr g1 #[.int .u64 (s.lf : Int), .slice a0 n0 c0, .slice a1 n1 c1, .slice a2 n2 c2] 28 := by have := hI.out.2.1; rw [hST.out] at this; exact this
        have v0 : wr.cell? ⟨g1, 0, none⟩ = some (.int .u64 (s.lf : Int)) := hks.cell 0
        have v1 : wr.cell? ⟨g1, 1, none⟩ = some (.slice a0 n0 c0) := hks.cell 1
        have v2 : wr.cell? ⟨g1, 2, none⟩ = some (.slice a1 n1 c1) := hks.cell 2
        have v3 : wr.cell? ⟨g1, 3, none⟩ = some (.slice a2 n2 c2) := hks.cell 3
        clear hks hfull hI
        go_wp2_with fail
        clear v0 v1 v2 v3
        go_loopw [4, 44] (fun a i wr => ∃ k : Nat, i = .int .i64 k ∧ k ≤ n1 ∧ (∃ ra rn rc, a = .slice ra rn rc) ∧ Hid (PM.RI w g1 ST (PM.r0 s.lf ++ PM.rL 0 s.ls ++ (s.ps.take k).map PM.rP) a wr)) (fun _ i _ => n1 - (intOf i).toNat)
        case atStart => exact ⟨0, rfl, by omega, ⟨_, _, _, rfl⟩, hI0⟩
        case round =>
          obtain ⟨k, rfl, hk, ⟨ra, rn, rc, rfl⟩, hI⟩ := hrel
          by_cases hlt : k < n1
          · obtain ⟨z, hz⟩ : ∃ z, s.ps[k]? = some z := ⟨s.ps[k]'(by rw [← hNn1.out]; exact hlt), List.getElem?_eq_getElem _⟩
            obtain ⟨b, off, rfl, hce⟩ := PM.RR.opn hv1.out (by rw [← hNn1.out]; omega)
            have hB := hI.out.2.2
            obtain ⟨cs, hl0, hR⟩ := hce k z hz
            obtain ⟨fa, fc, ea, ec, hcs, hzf, hze⟩ := PM.enR_open hR
            replace hl0 := hl0.keep hB
            rw [hcs] at hl0
            obtain ⟨zF, hzF⟩ : ∃ P, P = z.fil.length := ⟨_, rfl⟩
            obtain ⟨zE, hzE⟩ : ∃ P, P = z.evs.length := ⟨_, rfl⟩
            rw [← hzF, ← hzE] at hl0
            rw [← hzF] at hzf
            rw [← hzE] at hze
            have d0 : wr.cell? ⟨b, off + k * 8, none⟩ = some (.int .i64 z.kind) := hl0 0 _ rfl
            have d1 : wr.cell? ⟨b, off + k * 8 + 1, none⟩ = some (.int .i64 z.id.br) := hl0 1 _ rfl
            have d2 : wr.cell? ⟨b, off + k * 8 + 2, none⟩ = some (.int .u64 (z.id.life : Int)) := hl0 2 _ rfl
            have d3 : wr.cell? ⟨b, off + k * 8 + 3, none⟩ = some (.int .u64 (z.id.ser : Int)) := hl0 3 _ rfl
            have d4 : wr.cell? ⟨b, off + k * 8 + 4, none⟩ = some (.int .i64 z.client) := hl0 4 _ rfl
            have d5 : wr.cell? ⟨b, off + k * 8 + 5, none⟩ = some (.int .u64 (z.sub : Int)) := hl0 5 _ rfl
            have d6 : wr.cell? ⟨b, off + k * 8 + 6, none⟩ = some (.slice fa zF fc) := hl0 6 _ rfl
            have d7 : wr.cell? ⟨b, off + k * 8 + 7, none⟩ = some (.slice ea zE ec) := hl0 7 _ rfl
            have hRy : PM.rcK w wr (PM.rcC (PM.rP z) (.slice fa zF fc) (.slice ea zE ec)) (PM.rP z) := ⟨_, _, rfl, hzf, hze⟩
            have hzh := PM.hid hz
            clear hz hce hl0 hR hcs cs hzf hze hzF hzE
            go_upto_region 12 with fail
            obtain ⟨gx, hgx⟩ : ∃ g, g = wr.heap.size := ⟨_, rfl⟩
            obtain ⟨w3, hw3⟩ : ∃ W, W = wr.alloc (.cells #[.int .i64 z.kind, .int .i64 z.id.br, .int .u64 (z.id.life : Int), .int .u64 (z.id.ser : Int), .int .i64 z.client, .int .u64 (z.sub : Int), .slice fa zF fc, .slice ea zE ec] 44) := ⟨_, rfl⟩
            have hBn : Below wr.heap.size wr w3 := by rw [hw3]; exact (Below.refl _ _).alloc (Nat.le_refl _) _
            have kx : PM.BK w3 gx #[.int .i64 z.kind, .int .i64 z.id.br, .int .u64 (z.id.life : Int), .int .u64 (z.id.ser : Int), .int .i64 z.client, .int .u64 (z.sub : Int), .slice fa zF fc, .slice ea zE ec] 44 := by rw [hw3, hgx]; exact PM.BK.new _ _ _
            rw [← hw3, ← hgx]
            clear hw3 hgx
            clear d0 d1 d2 d3 d4 d5 d6 d7
            have hBw := PM.chain hB hBn
            have hr3 := PM.OR.keep (PM.rcK_lasts w) hBn hI.out.1
            have hks := PM.hid (hI.out.2.1.keep hBn)
            have hsz := hBw.size
            have hlen := hI.out.1.rr.len
            have hl16 : ((PM.r0 s.lf ++ PM.rL 0 s.ls ++ (s.ps.take k).map PM.rP).length + 1) * 136 ≤ 140737488355328 := by have := PM.r0_len s.lf; simp only [List.length_append, PM.rL_len, List.length_map, List.length_take]; omega
            have hl17 : (PM.r0 s.lf ++ PM.rL 0 s.ls ++ (s.ps.take k).map PM.rP).length + 1 ≤ maxLen := by unfold maxLen; have := PM.r0_len s.lf; simp only [List.length_append, PM.rL_len, List.length_map, List.length_take]; omega
            replace hBw := PM.hid hBw
            clear hBn hB hlen hI
            have x0 : w3.cell? ⟨gx, 0, none⟩ = some (.int .i64 z.kind) := kx.cell 0
            have x1 : w3.cell? ⟨gx, 1, none⟩ = some (.int .i64 z.id.br) := kx.cell 1
            have x2 : w3.cell? ⟨gx, 2, none⟩ = some (.int .u64 (z.id.life : Int)) := kx.cell 2
            have x3 : w3.cell? ⟨gx, 3, none⟩ = some (.int .u64 (z.id.ser : Int)) := kx.cell 3
            have x4 : w3.cell? ⟨gx, 4, none⟩ = some (.int .i64 z.client) := kx.cell 4
            have x5 : w3.cell? ⟨gx, 5, none⟩ = some (.int .u64 (z.sub : Int)) := kx.cell 5
            have x6 : w3.cell? ⟨gx, 6, none⟩ = some (.slice fa zF fc) := kx.cell 6
            have x7 : w3.cell? ⟨gx, 7, none⟩ = some (.slice ea zE ec) := kx.cell 7
            clear kx
            go_wp2_with (at_builtin; go_loud (refine PM.wpList_or1 tyRcO (PM.rcK_stays w _) (PM.rcK_lasts w) w.heap.size w3 rfl _ _ rfl _ (PM.r0 s.lf ++ PM.rL 0 s.ls ++ (s.ps.take k).map PM.rP) (PM.rP z) (PM.rcCe (PM.rP z) fa zF fc ea zE ec) _ rfl rfl rfl rfl hRy hr3 hl16 hl17 hsz ?_); intro v' w' t1 t2 t3; have hE := PM.hid (And.intro t1 (And.intro t2 t3)); clear t1 t2 t3)
            obtain ⟨ra2, rc2, hre2⟩ := hE.out.1.rr.len
            have hsn : PM.r0 s.lf ++ PM.rL 0 s.ls ++ (s.ps.take (k + 1)).map PM.rP = PM.r0 s.lf ++ PM.rL 0 s.ls ++ (s.ps.take k).map PM.rP ++ [PM.rP z] := by rw [PM.take_at hzh.out, List.map_append, ← List.append_assoc]; rfl
            have hnx : Hid (PM.RI w g1 ST (PM.r0 s.lf ++ PM.rL 0 s.ls ++ (s.ps.take (k + 1)).map PM.rP) v' w') := PM.hid ⟨by rw [hsn]; exact hE.out.1, PM.BK.kt hks.out (PM.KT.ofg hE.out.2.2 hr3.rt (by decide)), hBw.out.trans hE.out.2.1⟩
            subst hre2
            refine ⟨⟨k + 1, by go_num, by omega, ⟨_, _, _, rfl⟩, hnx⟩, by simp only [intOf]; omega⟩
          · obtain rfl : n1 = k := by omega
            have hfull : PM.r0 s.lf ++ PM.rL 0 s.ls ++ (s.ps.take n1).map PM.rP = PM.r0 s.lf ++ PM.rL 0 s.ls ++ s.ps.map PM.rP ++ (s.ab.take 0).map PM.rA := by rw [hNn1.out, List.take_length]; simp
            rw [hfull] at hI
            have hI0 := PM.hid hI.out
            have hks : PM.BK wr g1 #[.int .u64 (s.lf : Int), .slice a0 n0 c0, .slice a1 n1 c1, .slice a2 n2 c2] 28 := by have := hI.out.2.1; rw [hST.out] at this; exact this
            have v0 : wr.cell? ⟨g1, 0, none⟩ = some (.int .u64 (s.lf : Int)) := hks.cell 0
            have v1 : wr.cell? ⟨g1, 1, none⟩ = some (.slice a0 n0 c0) := hks.cell 1
            have v2 : wr.cell? ⟨g1, 2, none⟩ = some (.slice a1 n1 c1) := hks.cell 2
            have v3 : wr.cell? ⟨g1, 3, none⟩ = some (.slice a2 n2 c2) := hks.cell 3
            clear hks hfull hI
            go_wp2_with fail
            clear v0 v1 v2 v3
            go_loopw [4, 57] (fun a i wr => ∃ k : Nat, i = .int .i64 k ∧ k ≤ n2 ∧ (∃ ra rn rc, a = .slice ra rn rc) ∧ Hid (PM.RI w g1 ST (PM.r0 s.lf ++ PM.rL 0 s.ls ++ s.ps.map PM.rP ++ (s.ab.take k).map PM.rA) a wr)) (fun _ i _ => n2 - (intOf i).toNat)
            case atStart => exact ⟨0, rfl, by omega, ⟨_, _, _, rfl⟩, hI0⟩
            case round =>
              obtain ⟨k, rfl, hk, ⟨ra, rn, rc, rfl⟩, hI⟩ := hrel
              by_cases hlt : k < n2
              · obtain ⟨z, hz⟩ : ∃ z, s.ab[k]? = some z := ⟨s.ab[k]'(by rw [← hNn2.out]; exact hlt), List.getElem?_eq_getElem _⟩
                obtain ⟨b, off, rfl, hce⟩ := (PM.EM.open2 hv2.out (by rw [← hNn2.out]; omega))
                have hB := hI.out.2.2
                have hl0 := fun j u (hu : (PM.idL z)[j]? = some u) => hce k z hz j u hu
                have d0 : wr.cell? ⟨b, off + k * 3, none⟩ = some (.int .i64 z.br) := PM.cellA hB (hl0 0 _ rfl)
                have d1 : wr.cell? ⟨b, off + k * 3 + 1, none⟩ = some (.int .u64 (z.life : Int)) := PM.cellA hB (hl0 1 _ rfl)
                have d2 : wr.cell? ⟨b, off + k * 3 + 2, none⟩ = some (.int .u64 (z.ser : Int)) := PM.cellA hB (hl0 2 _ rfl)
                have hRy : PM.rcK w wr (PM.rcC (PM.rA z) (.slice none 0 0) (.slice none 0 0)) (PM.rA z) := PM.rcR0 w _ _ _
                have hzh := PM.hid hz
                clear hz hce hl0 
                go_upto_region 17 with fail
                obtain ⟨gx, hgx⟩ : ∃ g, g = wr.heap.size := ⟨_, rfl⟩
                obtain ⟨w3, hw3⟩ : ∃ W, W = wr.alloc (.cells #[.int .i64 z.br, .int .u64 (z.life : Int), .int .u64 (z.ser : Int)] 39) := ⟨_, rfl⟩
                have hBn : Below wr.heap.size wr w3 := by rw [hw3]; exact (Below.refl _ _).alloc (Nat.le_refl _) _
                have kx : PM.BK w3 gx #[.int .i64 z.br, .int .u64 (z.life : Int), .int .u64 (z.ser : Int)] 39 := by rw [hw3, hgx]; exact PM.BK.new _ _ _
                rw [← hw3, ← hgx]
                clear hw3 hgx
                clear d0 d1 d2
                have hBw := PM.chain hB hBn
                have hr3 := PM.OR.keep (PM.rcK_lasts w) hBn hI.out.1
                have hks := PM.hid (hI.out.2.1.keep hBn)
                have hsz := hBw.size
                have hlen := hI.out.1.rr.len
                have hl16 : ((PM.r0 s.lf ++ PM.rL 0 s.ls ++ s.ps.map PM.rP ++ (s.ab.take k).map PM.rA).length + 1) * 136 ≤ 140737488355328 := by have := PM.r0_len s.lf; simp only [List.length_append, PM.rL_len, List.length_map, List.length_take]; omega
                have hl17 : (PM.r0 s.lf ++ PM.rL 0 s.ls ++ s.ps.map PM.rP ++ (s.ab.take k).map PM.rA).length + 1 ≤ maxLen := by unfold maxLen; have := PM.r0_len s.lf; simp only [List.length_append, PM.rL_len, List.length_map, List.length_take]; omega
                replace hBw := PM.hid hBw
                clear hBn hB hlen hI
                have x0 : w3.cell? ⟨gx, 0, none⟩ = some (.int .i64 z.br) := kx.cell 0
                have x1 : w3.cell? ⟨gx, 1, none⟩ = some (.int .u64 (z.life : Int)) := kx.cell 1
                have x2 : w3.cell? ⟨gx, 2, none⟩ = some (.int .u64 (z.ser : Int)) := kx.cell 2
                clear kx
                go_wp2_with (at_builtin; go_loud (refine PM.wpList_or1 tyRcO (PM.rcK_stays w _) (PM.rcK_lasts w) w.heap.size w3 rfl _ _ rfl _ (PM.r0 s.lf ++ PM.rL 0 s.ls ++ s.ps.map PM.rP ++ (s.ab.take k).map PM.rA) (PM.rA z) (PM.rcCe (PM.rA z) none 0 0 none 0 0) _ rfl rfl rfl rfl hRy hr3 hl16 hl17 hsz ?_); intro v' w' t1 t2 t3; have hE := PM.hid (And.intro t1 (And.intro t2 t3)); clear t1 t2 t3)
                obtain ⟨ra2, rc2, hre2⟩ := hE.out.1.rr.len
                have hsn : PM.r0 s.lf ++ PM.rL 0 s.ls ++ s.ps.map PM.rP ++ (s.ab.take (k + 1)).map PM.rA = PM.r0 s.lf ++ PM.rL 0 s.ls ++ s.ps.map PM.rP ++ (s.ab.take k).map PM.rA ++ [PM.rA z] := by rw [PM.take_at hzh.out, List.map_append, ← List.append_assoc]; rfl
                have hnx : Hid (PM.RI w g1 ST (PM.r0 s.lf ++ PM.rL 0 s.ls ++ s.ps.map PM.rP ++ (s.ab.take (k + 1)).map PM.rA) v' w') := PM.hid ⟨by rw [hsn]; exact hE.out.1, PM.BK.kt hks.out (PM.KT.ofg hE.out.2.2 hr3.rt (by decide)), hBw.out.trans hE.out.2.1⟩
                subst hre2
                refine ⟨⟨k + 1, by go_num, by omega, ⟨_, _, _, rfl⟩, hnx⟩, by simp only [intOf]; omega⟩
              · obtain rfl : n2 = k := by omega
                have hfull : PM.r0 s.lf ++ PM.rL 0 s.ls ++ s.ps.map PM.rP ++ (s.ab.take n2).map PM.rA = PM.recL s := by rw [hNn2.out, List.take_length]; rfl
                rw [hfull] at hI
                have hI0 := PM.hid hI.out
                have hks : PM.BK wr g1 #[.int .u64 (s.lf : Int), .slice a0 n0 c0, .slice a1 n1 c1, .slice a2 n2 c2] 28 := by have := hI.out.2.1; rw [hST.out] at this; exact this
                have v0 : wr.cell? ⟨g1, 0, none⟩ = some (.int .u64 (s.lf : Int)) := hks.cell 0
                have v1 : wr.cell? ⟨g1, 1, none⟩ = some (.slice a0 n0 c0) := hks.cell 1
                have v2 : wr.cell? ⟨g1, 2, none⟩ = some (.slice a1 n1 c1) := hks.cell 2
                have v3 : wr.cell? ⟨g1, 3, none⟩ = some (.slice a2 n2 c2) := hks.cell 3
                clear hks hfull hI
                go_wp2_with fail
                clear v0 v1 v2 v3
                obtain ⟨wD, rfl⟩ : ∃ q, q = wr := ⟨wr, rfl⟩
                have hrr := PM.hid hI0.out.1.rr
                have hbw0 := PM.hid hI0.out.2.2
                obtain ⟨_, _, hre⟩ := hI0.out.1.rr.len
                injection hre with q1 q2 q3
                have hrl : (PM.recL s).length ≤ 3001 := by have := PM.r0_len s.lf; unfold PM.recL; simp only [List.length_append, PM.rL_len, List.length_map]; omega
                have hrn : rn ≤ 3001 := by omega
                have hrnh := PM.hid q2
                have hD0 : Hid (PM.OR (PM.bbO w.heap.size) 1 54 wD.heap.size wD (.slice none 0 0) (((PM.recL s).take 0).map PM.rcB) ∧ (∀ r ∈ (PM.recL s).take 0, PM.rcP r) ∧ Below wD.heap.size wD wD) := PM.hid ⟨PM.OR.nilrow _, fun r hr => by simp at hr, Below.refl _ _⟩
                clear hI0 q1 q2 q3 hrl
                go_loopw [11, 69] (fun a i wr => ∃ k : Nat, i = .int .i64 k ∧ k ≤ rn ∧ (∃ qa qn qc, a = .slice qa qn qc) ∧ Hid (PM.OR (PM.bbO w.heap.size) 1 54 wD.heap.size wr a (((PM.recL s).take k).map PM.rcB) ∧ (∀ r ∈ (PM.recL s).take k, PM.rcP r) ∧ Below wD.heap.size wD wr)) (fun _ i _ => rn - (intOf i).toNat)
                case atStart => exact ⟨0, rfl, by omega, ⟨_, _, _, rfl⟩, hD0⟩
                case round =>
                  obtain ⟨k, rfl, hk, ⟨qa, qn, qc, rfl⟩, hI⟩ := hrel
                  by_cases hlt : k < rn
                  · obtain ⟨y, hy⟩ : ∃ z, (PM.recL s)[k]? = some z := ⟨(PM.recL s)[k]'(by rw [← hrnh.out]; exact hlt), List.getElem?_eq_getElem _⟩
                    have hyw := hwf.out y (List.mem_of_getElem? hy)
                    obtain ⟨b, off, rfl, hce⟩ := PM.RR.opn hrr.out (by rw [← hrnh.out]; omega)
                    have hB := hI.out.2.2
                    obtain ⟨cs, hl0, fv, ev, hcs, hzf, hze⟩ := hce k y hy
                    obtain ⟨fa, fc, rfl⟩ := hzf.len
                    obtain ⟨ea, ec, rfl⟩ := hze.len
                    have hpk : ∀ W : World, Below w.heap.size w W → Calls Try.prog 19 #[.agg (PM.rcC y (.slice fa y.en.fil.length fc) (.slice ea y.en.evs.length ec)).toArray] W (RetPK W y) := fun W hb => pack_any y _ _ W hyw (hzf.keep hb) (PM.EVL.keepO hb hze)
                    unfold RetPK at hpk
                    obtain ⟨RE, hRE⟩ : ∃ r, r = PM.rcE y := ⟨_, rfl⟩
                    rw [← hRE] at hpk
                    obtain ⟨yl, hyl⟩ : ∃ q, q = PM.rcB y := ⟨_, rfl⟩
                    obtain ⟨PP, hPP⟩ : ∃ q, q = PM.rcP y := ⟨_, rfl⟩
                    rw [← hyl, ← hPP] at hpk
                    have hyh := PM.hid (And.intro hy (And.intro hRE (And.intro hyl hPP)))
                    clear hRE hyl hPP
                    have hdest : ∃ kd nn z i, y = ⟨kd, nn, z, i⟩ := ⟨y.kind, y.n, y.en, y.id, rfl⟩
                    obtain ⟨kd, nn, z, i, hyy⟩ := hdest
                    rw [hyy] at hcs hpk
                    simp only at hcs hpk
                    unfold PM.rcC PM.enC PM.idL at hcs hpk
                    simp only [List.cons_append, List.nil_append] at hcs hpk
                    generalize z.fil.length = zF at hcs hpk
                    generalize z.evs.length = zE at hcs hpk
                    replace hl0 := hl0.keep hB
                    rw [hcs] at hl0
                    replace hpk := PM.hid hpk
                    have d0 : wr.cell? ⟨b, off + k * 13, none⟩ = some (.int .i64 kd) := hl0 0 _ rfl
                    have d1 : wr.cell? ⟨b, off + k * 13 + 1, none⟩ = some (.int .u64 (nn : Int)) := hl0 1 _ rfl
                    have d2 : wr.cell? ⟨b, off + k * 13 + 2, none⟩ = some (.int .i64 z.kind) := hl0 2 _ rfl
                    have d3 : wr.cell? ⟨b, off + k * 13 + 3, none⟩ = some (.int .i64 z.id.br) := hl0 3 _ rfl
                    have d4 : wr.cell? ⟨b, off + k * 13 + 4, none⟩ = some (.int .u64 (z.id.life : Int)) := hl0 4 _ rfl
                    have d5 : wr.cell? ⟨b, off + k * 13 + 5, none⟩ = some (.int .u64 (z.id.ser : Int)) := hl0 5 _ rfl
                    have d6 : wr.cell? ⟨b, off + k * 13 + 6, none⟩ = some (.int .i64 z.client) := hl0 6 _ rfl
                    have d7 : wr.cell? ⟨b, off + k * 13 + 7, none⟩ = some (.int .u64 (z.sub : Int)) := hl0 7 _ rfl
                    have d8 : wr.cell? ⟨b, off + k * 13 + 8, none⟩ = some (.slice fa zF fc) := hl0 8 _ rfl
                    have d9 : wr.cell? ⟨b, off + k * 13 + 9, none⟩ = some (.slice ea zE ec) := hl0 9 _ rfl
                    have d10 : wr.cell? ⟨b, off + k * 13 + 10, none⟩ = some (.int .i64 i.br) := hl0 10 _ rfl
                    have d11 : wr.cell? ⟨b, off + k * 13 + 11, none⟩ = some (.int .u64 (i.life : Int)) := hl0 11 _ rfl
                    have d12 : wr.cell? ⟨b, off + k * 13 + 12, none⟩ = some (.int .u64 (i.ser : Int)) := hl0 12 _ rfl
                    clear hy hce hl0 hcs hzf hze hyw hyy cs
                    go_upto_region 23 with fail
                    obtain ⟨gx, hgx⟩ : ∃ g, g = wr.heap.size := ⟨_, rfl⟩
                    obtain ⟨w3, hw3⟩ : ∃ W, W = wr.alloc (.cells #[.int .i64 kd, .int .u64 (nn : Int), .int .i64 z.kind, .int .i64 z.id.br, .int .u64 (z.id.life : Int), .int .u64 (z.id.ser : Int), .int .i64 z.client, .int .u64 (z.sub : Int), .slice fa zF fc, .slice ea zE ec, .int .i64 i.br, .int .u64 (i.life : Int), .int .u64 (i.ser : Int)] 46) := ⟨_, rfl⟩
                    have hBn : Below wr.heap.size wr w3 := by rw [hw3]; exact (Below.refl _ _).alloc (Nat.le_refl _) _
                    have kx : PM.BK w3 gx #[.int .i64 kd, .int .u64 (nn : Int), .int .i64 z.kind, .int .i64 z.id.br, .int .u64 (z.id.life : Int), .int .u64 (z.id.ser : Int), .int .i64 z.client, .int .u64 (z.sub : Int), .slice fa zF fc, .slice ea zE ec, .int .i64 i.br, .int .u64 (i.life : Int), .int .u64 (i.ser : Int)] 46 := by rw [hw3, hgx]; exact PM.BK.new _ _ _
                    rw [← hw3, ← hgx]
                    clear hw3 hgx
                    clear d0 d1 d2 d3 d4 d5 d6 d7 d8 d9 d10 d11 d12
                    have hBw := PM.chain hB hBn
                    have hr3 := PM.OR.keep PM.bbO_lasts hBn hI.out.1
                    have hall := PM.hid hI.out.2.1
                    have hpw := hpk.out w3 (PM.chain hbw0.out hBw)
                    have x0 : w3.cell? ⟨gx, 0, none⟩ = some (.int .i64 kd) := kx.cell 0
                    have x1 : w3.cell? ⟨gx, 1, none⟩ = some (.int .u64 (nn : Int)) := kx.cell 1
                    have x2 : w3.cell? ⟨gx, 2, none⟩ = some (.int .i64 z.kind) := kx.cell 2
                    have x3 : w3.cell? ⟨gx, 3, none⟩ = some (.int .i64 z.id.br) := kx.cell 3
                    have x4 : w3.cell? ⟨gx, 4, none⟩ = some (.int .u64 (z.id.life : Int)) := kx.cell 4
                    have x5 : w3.cell? ⟨gx, 5, none⟩ = some (.int .u64 (z.id.ser : Int)) := kx.cell 5
                    have x6 : w3.cell? ⟨gx, 6, none⟩ = some (.int .i64 z.client) := kx.cell 6
                    have x7 : w3.cell? ⟨gx, 7, none⟩ = some (.int .u64 (z.sub : Int)) := kx.cell 7
                    have x8 : w3.cell? ⟨gx, 8, none⟩ = some (.slice fa zF fc) := kx.cell 8
                    have x9 : w3.cell? ⟨gx, 9, none⟩ = some (.slice ea zE ec) := kx.cell 9
                    have x10 : w3.cell? ⟨gx, 10, none⟩ = some (.int .i64 i.br) := kx.cell 10
                    have x11 : w3.cell? ⟨gx, 11, none⟩ = some (.int .u64 (i.life : Int)) := kx.cell 11
                    have x12 : w3.cell? ⟨gx, 12, none⟩ = some (.int .u64 (i.ser : Int)) := kx.cell 12
                    clear kx hBn hB hI hpk
                    go_wp2_with fail
                    refine hpw.mono ?_
                    rintro e w5 ⟨o, rfl, hyes, hno, hBp⟩
                    clear hpw x0 x1 x2 x3 x4 x5 x6 x7 x8 x9 x10 x11 x12
                    have hB5 := PM.chain hBw hBp
                    have hr5 := PM.OR.keep PM.bbO_lasts hBp hr3
                    have hsw : w.heap.size ≤ w3.heap.size := Nat.le_trans hbw0.out.size hBw.size
                    by_cases hP : PP
                    · obtain rfl : RE = 0 := by rw [hyh.out.2.1]; exact PM.rcE_yes (by rw [← hyh.out.2.2.2]; exact hP)
                      have ho := (hyes hP).mono hsw
                      obtain ⟨oa, oc, hoe⟩ := ho.bs.len
                      have hRy : PM.bbO w.heap.size w5 [o] yl := ⟨o, rfl, ho⟩
                      obtain ⟨on, hon⟩ : ∃ q, q = yl.length := ⟨_, rfl⟩
                      rw [← hon] at hoe
                      subst hoe
                      have hsz := hB5.size
                      have hl16 : ((((PM.recL s).take k).map PM.rcB).length + 1) * 24 ≤ 140737488355328 := by have := hrnh.out; simp only [List.length_map, List.length_take]; omega
                      have hl17 : (((PM.recL s).take k).map PM.rcB).length + 1 ≤ maxLen := by have := hrnh.out; unfold maxLen; simp only [List.length_map, List.length_take]; omega
                      have hall2 : ∀ r ∈ (PM.recL s).take (k + 1), PM.rcP r := fun r hr => by
                        rw [PM.take_at hyh.out.1] at hr
                        rcases List.mem_append.1 hr with hr | hr
                        · exact hall.out r hr
                        · simp at hr; subst hr; rw [← hyh.out.2.2.2]; exact hP
                      replace hall2 := PM.hid hall2
                      have hsn : (((PM.recL s).take (k + 1)).map PM.rcB) = (((PM.recL s).take k).map PM.rcB) ++ [yl] := by rw [PM.take_at hyh.out.1, List.map_append, hyh.out.2.2.1]; rfl
                      replace hsn := PM.hid hsn
                      replace hB5 := PM.hid hB5
                      clear hyes hno hBp hP hr3 hsw ho hon hall hBw
                      go_wp2_with (at_builtin; go_loud (refine PM.wpList_or1 tyBbO (PM.bbO_stays (by decide)) PM.bbO_lasts wD.heap.size w5 rfl _ _ rfl _ (((PM.recL s).take k).map PM.rcB) yl (PM.ce1 (.slice oa on oc) rfl) _ rfl rfl rfl rfl hRy hr5 hl16 hl17 hsz ?_); intro v' w' t1 t2 t3; have hE := PM.hid (And.intro t1 (And.intro t2 t3)); clear t1 t2 t3)
                      obtain ⟨ra2, rc2, hre2⟩ := hE.out.1.rr.len
                      have hnx : Hid (PM.OR (PM.bbO w.heap.size) 1 54 wD.heap.size w' v' (((PM.recL s).take (k + 1)).map PM.rcB) ∧ (∀ r ∈ (PM.recL s).take (k + 1), PM.rcP r) ∧ Below wD.heap.size wD w') := PM.hid ⟨by rw [hsn.out]; exact hE.out.1, hall2.out, hB5.out.trans hE.out.2.1⟩
                      subst hre2
                      refine ⟨⟨k + 1, by go_num, by omega, ⟨_, _, _, rfl⟩, hnx⟩, by simp only [intOf]; omega⟩
                    · obtain rfl : RE = 110 := by rw [hyh.out.2.1]; exact PM.rcE_no (by rw [← hyh.out.2.2.2]; exact hP)
                      have hfin := PM.hid (And.intro (⟨y, List.mem_of_getElem? hyh.out.1, by rw [← hyh.out.2.2.2]; exact hP⟩ : ∃ r ∈ PM.recL s, ¬ PM.rcP r) (PM.chain' hbw0.out hB5 hbw0.out.size))
                      clear hyes hno hBp hP hr3 hr5 hsw hall hBw hB5
                      go_wp2_with fail
                      go_ret2
                      exact ⟨_, _, rfl, .inr ⟨rfl, hfin.out.1, rfl⟩, hfin.out.2⟩
                  · obtain rfl : rn = k := by omega
                    have hfull : (PM.recL s).take rn = PM.recL s := by rw [hrnh.out, List.take_length]
                    rw [hfull] at hI
                    have hfin := PM.hid (And.intro hI.out.2.1 (And.intro (PM.OR.monoB hbw0.out.size hI.out.1) (PM.chain' hbw0.out hI.out.2.2 hbw0.out.size)))
                    clear hI hfull
                    go_wp2_with fail
                    go_ret2
                    exact ⟨_, _, rfl, .inl ⟨rfl, hfin.out.1, hfin.out.2.1⟩, hfin.out.2.2⟩
end Go.Proofs.Ytphdadlpfjfeoaa
