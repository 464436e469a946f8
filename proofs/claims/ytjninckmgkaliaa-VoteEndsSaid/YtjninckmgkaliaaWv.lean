/-
  THE WALK OF VoteEnds.
-/
import Derived.Test.YtjninckmgkaliaaWr
namespace Go.Proofs.Ytjninckmgkaliaa
open Go.RowKit
set_option linter.unusedVariables false
set_option linter.unusedSimpArgs false
namespace PM
/-- what is ended: of at most sixteen votes -/
structure EndsOk (k : Id → Bool) (vs : List Vo) (out : List Id) : Prop where
  mem : ∀ x ∈ out, (∃ v ∈ vs, v.id = x) ∧ k x = false
  nodup : out.Nodup
  all : ∀ v ∈ vs, (out.any fun i => decide (i = v.id)) = !(k v.id)
  len : out.length ≤ vs.length
theorem any_id {out : List Id} {i : Id} : (out.any fun j => decide (j = i)) = true ↔ i ∈ out := by
  rw [List.any_eq_true]
  constructor
  · rintro ⟨x, hx, h⟩
    rw [← of_decide_eq_true h]
    exact hx
  · intro h
    exact ⟨i, h, by simp⟩
theorem en1_ok {k : Id → Bool} {vs : List Vo} {out : List Id} {v : Vo} (h : EndsOk k vs out) (h16 : vs.length < 16) : EndsOk k (vs ++ [v]) (en1 k out v) := by
  have hl : ¬ out.length = 16 := by have := h.len; omega
  by_cases hc : (k v.id || hasI out v.id) = true
  · rw [en1_skip hc]
    refine ⟨fun x hx => ?_, h.nodup, fun u hu => ?_, by have := h.len; simp; omega⟩
    · obtain ⟨⟨u, hu, he⟩, hk⟩ := h.mem x hx
      exact ⟨⟨u, by simp [hu], he⟩, hk⟩
    · rw [List.mem_append, List.mem_singleton] at hu
      rcases hu with hu | rfl
      · exact h.all u hu
      · rw [Bool.or_eq_true] at hc
        rcases hc with hc | hc
        · rw [hc]
          cases ha : (out.any fun i => decide (i = u.id))
          · rfl
          · have := (h.mem _ (any_id.1 ha)).2
            rw [hc] at this
            cases this
        · have hm := hasI_iff.1 hc
          rw [any_id.2 hm, (h.mem _ hm).2]
          rfl
  · have hc' : (k v.id || hasI out v.id) = false := by simpa using hc
    rw [en1_add hl hc']
    rw [Bool.or_eq_false_iff] at hc'
    have hni : v.id ∉ out := fun hm => by rw [hasI_iff.2 hm] at hc'; cases hc'.2
    refine ⟨fun x hx => ?_, ?_, fun u hu => ?_, by have := h.len; simp; omega⟩
    · rw [List.mem_append, List.mem_singleton] at hx
      rcases hx with hx | rfl
      · obtain ⟨⟨u, hu, he⟩, hk⟩ := h.mem x hx
        exact ⟨⟨u, by simp [hu], he⟩, hk⟩
      · exact ⟨⟨v, by simp, rfl⟩, hc'.1⟩
    · refine List.nodup_append.2 ⟨h.nodup, by simp, fun x hx y hy => ?_⟩
      simp at hy
      subst hy
      exact fun he => hni (he ▸ hx)
    · rw [List.mem_append, List.mem_singleton] at hu
      rw [List.any_append]
      rcases hu with hu | rfl
      · rw [h.all u hu]
        by_cases he : v.id = u.id
        · rw [← he, hc'.1]
          simp
        · simp [he]
      · rw [hc'.1]
        simp
theorem ends_okA (k : Id → Bool) : ∀ (vs v0 : List Vo) (out : List Id), EndsOk k v0 out → v0.length + vs.length ≤ 16 → EndsOk k (v0 ++ vs) (vs.foldl (en1 k) out)
  | [], v0, out, h, _ => by simpa using h
  | v :: vs, v0, out, h, hl => by
    simp only [List.length_cons] at hl
    have := ends_okA k vs (v0 ++ [v]) _ (en1_ok (v := v) h (by omega)) (by simp; omega)
    rw [List.append_assoc] at this
    exact this
theorem ends_ok (k : Id → Bool) (vs : List Vo) (h : vs.length ≤ 16) : EndsOk k vs (endsL k vs) := by
  have := ends_okA k vs [] [] ⟨fun x hx => by simp at hx, List.nodup_nil, fun v hv => by simp at hv, by simp⟩ (by simpa using h)
  simpa [endsL] using this
theorem nodup_ne {q : List Id} (h : q.Nodup) {i j : Nat} {x y : Id} (hi : q[i]? = some x) (hj : q[j]? = some y) (hne : i ≠ j) : ¬ x = y := by
  intro he
  subst he
  obtain ⟨h1, e1⟩ := List.getElem?_eq_some_iff.1 hi
  obtain ⟨h2, e2⟩ := List.getElem?_eq_some_iff.1 hj
  exact hne ((List.getElem_inj h).1 (e1.trans e2.symm))
end PM
theorem idne_run (a b : PM.Id) : ∀ w : World, Sem.run Try.prog (binOp .neq 30 (.agg #[.int .i64 a.br, .int .u64 (a.life : Int), .int .u64 (a.ser : Int)]) (.agg #[.int .i64 b.br, .int .u64 (b.life : Int), .int .u64 (b.ser : Int)])) w = .ok (.bool (!decide (a = b))) w := by
  intro w
  have h : (Op.equalIn 10000 30 (PM.idv a) (PM.idv b)).run Try.prog w = .ok (decide (a = b)) w := idKey.eq a b w
  unfold PM.idv at h
  rw [run_neq_struct, h]
  rfl
set_option maxRecDepth 100000 in
set_option maxHeartbeats 16000000 in
theorem voteEnds_walkA (lf : Nat) (a0 : Option Addr) (n0 c0 : Nat) (a1 : Option Addr) (n1 c1 : Nat) (a2 : Option Addr) (n2 c2 : Nat) (ao : Option Addr) (no co : Nat) (ma0 : Option Addr) (mn0 mc0 : Nat) (ma1 : Option Addr) (mn1 mc1 : Nat) (ma2 : Option Addr) (mn2 mc2 : Nat) (ma3 : Option Addr) (mn3 mc3 : Nat) (ma4 : Option Addr) (mn4 mc4 : Nat) (ma5 : Option Addr) (mn5 mc5 : Nat) (ls ps op : List PM.En) (ab : List PM.Id) (m : PM.Ms) (w : World) (hs : PM.StR w (.slice a0 n0 c0) (.slice a1 n1 c1) (.slice a2 n2 c2) ls ps ab) (hv : PM.EnL w (.slice ao no co) op) (hm0 : PM.EM PM.voL 4 w (.slice ma0 mn0 mc0) m.votes)
    (hmR : PM.msR w (PM.msC m (.slice ma0 mn0 mc0) (.slice ma1 mn1 mc1) (.slice ma2 mn2 mc2) (.slice ma3 mn3 mc3) (.slice ma4 mn4 mc4) (.slice ma5 mn5 mc5)) m) :
    Calls Try.prog 8 #[.agg #[.int .u64 (lf : Int), .slice a0 n0 c0, .slice a1 n1 c1, .slice a2 n2 c2], .slice ao no co, .agg #[.int .i64 m.kind, .int .u64 (m.hav : Int), .slice ma0 mn0 mc0, .slice ma1 mn1 mc1, .slice ma2 mn2 mc2, .slice ma3 mn3 mc3, .slice ma4 mn4 mc4, .slice ma5 mn5 mc5]] w fun e w' => e = .returned (.bool true) ∧ Below w.heap.size w w' := by
  have hn1 : n0 = n0 := rfl
  clear hn1
  have hON : no = op.length := by
    obtain ⟨a, c, h⟩ := hv.len
    injection h
  have hMN : mn0 = m.votes.length := by
    obtain ⟨a, c, h⟩ := hm0.len
    injection h
  have hONh := PM.hid hON
  have hMNh := PM.hid hMN
  clear hON hMN
  have hbm := hm0.bound
  unfold maxLen at hbm
  rw [← hMNh.out] at hbm
  have hbo := hv.bound
  unfold maxLen at hbo
  rw [← hONh.out] at hbo
  have hsh := PM.hid hs
  have hvh := PM.hid hv
  have hmh := PM.hid (And.intro hm0 hmR)
  clear hs hv hm0 hmR
  obtain ⟨g, hg⟩ : ∃ g, g = w.heap.size := ⟨_, rfl⟩
  obtain ⟨gm, hgm⟩ : ∃ g, g = w.heap.size + 1 := ⟨_, rfl⟩
  obtain ⟨w1, hw1⟩ : ∃ W, W = w.alloc (.cells #[.int .u64 (lf : Int), .slice a0 n0 c0, .slice a1 n1 c1, .slice a2 n2 c2] 27) := ⟨_, rfl⟩
  obtain ⟨w2, hw2⟩ : ∃ W, W = w1.alloc (.cells #[.int .i64 m.kind, .int .u64 (m.hav : Int), .slice ma0 mn0 mc0, .slice ma1 mn1 mc1, .slice ma2 mn2 mc2, .slice ma3 mn3 mc3, .slice ma4 mn4 mc4, .slice ma5 mn5 mc5] 41) := ⟨_, rfl⟩
  have s1 : w1.heap.size = w.heap.size + 1 := by rw [hw1]; simp
  have hal : Below w.heap.size w w1 := by rw [hw1]; exact (Below.refl _ _).alloc (Nat.le_refl _) _
  have hal2 : Below w1.heap.size w1 w2 := by rw [hw2]; exact (Below.refl _ _).alloc (Nat.le_refl _) _
  have kg : PM.BK w1 g #[.int .u64 (lf : Int), .slice a0 n0 c0, .slice a1 n1 c1, .slice a2 n2 c2] 27 := by rw [hw1, hg]; exact PM.BK.new _ _ _
  replace kg := kg.keep hal2
  have km : PM.BK w2 gm #[.int .i64 m.kind, .int .u64 (m.hav : Int), .slice ma0 mn0 mc0, .slice ma1 mn1 mc1, .slice ma2 mn2 mc2, .slice ma3 mn3 mc3, .slice ma4 mn4 mc4, .slice ma5 mn5 mc5] 41 := by rw [hw2, hgm, ← s1]; exact PM.BK.new _ _ _
  have hBB := PM.hid (PM.chain hal hal2)
  clear hal hal2 s1
  go_enter Try.func8, Try.ntmps8
  go_upto_region 1 with fail
  rw [← hw1, ← hw2, ← hgm, ← hg]
  clear hw1 hw2 hg hgm
  go_wp2_with fail
  refine (awake18_any w2).mono ?_
  rintro e w3 ⟨rfl, hBn⟩
  replace kg := kg.keep hBn
  replace km := km.keep hBn
  replace hBB := PM.hid (PM.chain hBB.out hBn)
  clear hBn
  have s0 : w3.cell? ⟨g, 0, none⟩ = some (.int .u64 (lf : Int)) := kg.cell 0
  have s1 : w3.cell? ⟨g, 1, none⟩ = some (.slice a0 n0 c0) := kg.cell 1
  have s2 : w3.cell? ⟨g, 2, none⟩ = some (.slice a1 n1 c1) := kg.cell 2
  have s3 : w3.cell? ⟨g, 3, none⟩ = some (.slice a2 n2 c2) := kg.cell 3
  have m0 : w3.cell? ⟨gm, 0, none⟩ = some (.int .i64 m.kind) := km.cell 0
  have m1 : w3.cell? ⟨gm, 1, none⟩ = some (.int .u64 (m.hav : Int)) := km.cell 1
  have m2 : w3.cell? ⟨gm, 2, none⟩ = some (.slice ma0 mn0 mc0) := km.cell 2
  have m3 : w3.cell? ⟨gm, 3, none⟩ = some (.slice ma1 mn1 mc1) := km.cell 3
  have m4 : w3.cell? ⟨gm, 4, none⟩ = some (.slice ma2 mn2 mc2) := km.cell 4
  have m5 : w3.cell? ⟨gm, 5, none⟩ = some (.slice ma3 mn3 mc3) := km.cell 5
  have m6 : w3.cell? ⟨gm, 6, none⟩ = some (.slice ma4 mn4 mc4) := km.cell 6
  have m7 : w3.cell? ⟨gm, 7, none⟩ = some (.slice ma5 mn5 mc5) := km.cell 7
  obtain ⟨g4, hg4⟩ : ∃ g, g = w3.heap.size := ⟨_, rfl⟩
  obtain ⟨w4, hw4⟩ : ∃ W, W = w3.alloc (.cells #[.int .i64 m.kind, .int .u64 (m.hav : Int), .slice ma0 mn0 mc0, .slice ma1 mn1 mc1, .slice ma2 mn2 mc2, .slice ma3 mn3 mc3, .slice ma4 mn4 mc4, .slice ma5 mn5 mc5] 41) := ⟨_, rfl⟩
  have hb4 : Below w3.heap.size w3 w4 := by rw [hw4]; exact (Below.refl _ _).alloc (Nat.le_refl _) _
  have e4 : PM.MsL w4 (.slice (some ⟨g4, 0, none⟩) 1 1) [m] := by
    rw [hw4, hg4]
    exact PM.MsL.lit1 w3 _ m _ _ _ _ _ _ _ _ _ _ _ _ _ _ _ _ _ _ (PM.msR_lasts _ _ _ _ hBB.out hmh.out.2)
  have hf1 := few18_any lf a0 n0 c0 a1 n1 c1 a2 n2 c2 (.slice (some ⟨g4, 0, none⟩) 1 1) ls ps [m] w4 (PM.EnL.keep hsh.out.1 (PM.chain hBB.out hb4)) (PM.EnL.keep hsh.out.2.1 (PM.chain hBB.out hb4)) e4
  rw [hg4, hw4] at hf1
  go_wp2_with fail
  refine hf1.mono ?_
  rw [← hw4]
  clear hf1
  rintro e w5 ⟨hF, hBn⟩
  clear s0 s1 s2 s3 m0 m1 m2 m3 m4 m5 m6 m7 e4
  replace kg := (kg.keep hb4).keep hBn
  replace km := (km.keep hb4).keep hBn
  replace hBB := PM.hid (PM.chain (PM.chain hBB.out hb4) hBn)
  clear hBn hb4 hg4 hw4
  rcases hF with ⟨rfl, hF1, hF2, -⟩ | rfl
  case inr =>
    clear kg km
    go_wp2_with fail
    go_ret
    exact ⟨by first | rfl | simp, hBB.out⟩
  clear hF1 hF2
  go_wp2_with fail
  refine (few18_any 0 ao no co none 0 0 none 0 0 (.slice none 0 0) op [] [] w5 (PM.EnL.keep hvh.out hBB.out) (PM.RR.nil _) (PM.RR.nil _)).mono ?_
  rintro e w6 ⟨hF, hBn⟩
  replace kg := kg.keep hBn
  replace km := km.keep hBn
  replace hBB := PM.hid (PM.chain hBB.out hBn)
  clear hBn
  rcases hF with ⟨rfl, hF4, -⟩ | rfl
  case inr =>
    clear kg km
    go_wp2_with fail
    go_ret
    exact ⟨by first | rfl | simp, hBB.out⟩
  have hO20 : no ≤ 20 := by rw [hONh.out]; exact hF4.1
  clear hF4
  have s0 : w6.cell? ⟨g, 0, none⟩ = some (.int .u64 (lf : Int)) := kg.cell 0
  have s1 : w6.cell? ⟨g, 1, none⟩ = some (.slice a0 n0 c0) := kg.cell 1
  have s2 : w6.cell? ⟨g, 2, none⟩ = some (.slice a1 n1 c1) := kg.cell 2
  have s3 : w6.cell? ⟨g, 3, none⟩ = some (.slice a2 n2 c2) := kg.cell 3
  have m0 : w6.cell? ⟨gm, 0, none⟩ = some (.int .i64 m.kind) := km.cell 0
  have m1 : w6.cell? ⟨gm, 1, none⟩ = some (.int .u64 (m.hav : Int)) := km.cell 1
  have m2 : w6.cell? ⟨gm, 2, none⟩ = some (.slice ma0 mn0 mc0) := km.cell 2
  have m3 : w6.cell? ⟨gm, 3, none⟩ = some (.slice ma1 mn1 mc1) := km.cell 3
  have m4 : w6.cell? ⟨gm, 4, none⟩ = some (.slice ma2 mn2 mc2) := km.cell 4
  have m5 : w6.cell? ⟨gm, 5, none⟩ = some (.slice ma3 mn3 mc3) := km.cell 5
  have m6 : w6.cell? ⟨gm, 6, none⟩ = some (.slice ma4 mn4 mc4) := km.cell 6
  have m7 : w6.cell? ⟨gm, 7, none⟩ = some (.slice ma5 mn5 mc5) := km.cell 7
  by_cases h16 : mn0 ≤ 16
  case neg =>
    have q : decide ((16 : Int) < (mn0 : Int)) = true := by simp; omega
    have q' : (16 : Int) < (mn0 : Int) := by omega
    clear kg km
    go_wp2_with fail
    go_ret
    exact ⟨by first | rfl | simp, hBB.out⟩
  have q : decide ((16 : Int) < (mn0 : Int)) = false := by simp; omega
  have q' : ¬ (16 : Int) < (mn0 : Int) := by omega
  have he := ends_any lf a0 n0 c0 a1 n1 c1 a2 n2 c2 ao no co m.kind m.hav ma0 mn0 mc0 ma1 mn1 mc1 ma2 mn2 mc2 ma3 mn3 mc3 ma4 mn4 mc4 ma5 mn5 mc5 ls ps op m.votes w6 (PM.EnL.keep hsh.out.1 hBB.out) (PM.EnL.keep hsh.out.2.1 hBB.out) (PM.EnL.keep hvh.out hBB.out) (hmh.out.1.keep hBB.out)
  go_wp2_with fail
  refine he.mono ?_
  clear he s0 s1 s2 s3 m0 m1 m2 m3 m4 m5 m6 m7 q q'
  rintro e w7 ⟨u, rfl, hu, hBn⟩
  replace kg := kg.keep hBn
  replace km := km.keep hBn
  replace hBB := PM.hid (PM.chain hBB.out hBn)
  clear hBn
  have hok := PM.ends_ok (fun i => PM.hasE ls i || PM.hasE ps i || PM.hasE op i) m.votes (by rw [← hMNh.out]; exact h16)
  obtain ⟨q, hq⟩ : ∃ xx, xx = PM.endsL (fun i => PM.hasE ls i || PM.hasE ps i || PM.hasE op i) m.votes := ⟨_, rfl⟩
  rw [← hq] at hok hu
  clear hq
  replace hu := hu.em PM.idL_len
  obtain ⟨ra, rc, hre⟩ := hu.len
  subst hre
  obtain ⟨Q, hQ⟩ : ∃ xx, xx = q.length := ⟨_, rfl⟩
  have hQl := hok.len
  rw [← hQ] at hu hQl ⊢
  rw [← hMNh.out] at hQl
  have hQh := PM.hid hQ
  have hrh := PM.hid hu
  have hokh := PM.hid hok
  have kgh := PM.hid kg
  have kmh := PM.hid km
  clear hQ hu hok kg km
  go_wp2_with fail
  go_loopw [9] (fun i wr => ∃ k : Nat, i = .int .i64 k ∧ k ≤ Q ∧ Below w7.heap.size w7 wr) (fun i _ => Q - (intOf i).toNat)
  case atStart => exact ⟨0, rfl, by omega, Below.refl _ _⟩
  case round =>
    obtain ⟨k, rfl, hk, hB⟩ := hrel
    have hBk := PM.hid hB
    clear hB
    obtain ⟨wr0, hwr0⟩ : ∃ W, W = wr := ⟨_, rfl⟩
    rw [← hwr0] at hBk ⊢
    clear hwr0
    by_cases hlt : k < Q
    · obtain ⟨xx, hx⟩ : ∃ t, q[k]? = some t := ⟨q[k]'(by rw [← hQh.out]; exact hlt), List.getElem?_eq_getElem _⟩
      obtain ⟨rb, ro, rc', re, -, -, rce⟩ := PM.EM.open1 hrh.out (by rw [← hQh.out]; omega)
      injection re with re1 re2 re3
      subst re1
      have hxl := PM.hid (rce k xx hx)
      have hrce := PM.hid rce
      have hxh := PM.hid hx
      clear hx rce re2 re3
      have hxm := PM.hid (hokh.out.mem xx (List.mem_of_getElem? hxh.out))
      go_wp2_with fail
      go_loopw [10, 11] (fun b j wr => ∃ J : Nat, j = .int .i64 J ∧ J ≤ mn0 ∧ b = .bool ((m.votes.take J).any fun v => decide (v.id = xx)) ∧ Below wr0.heap.size wr0 wr) (fun _ j _ => mn0 - (intOf j).toNat)
      case atStart => exact ⟨0, rfl, by omega, rfl, Below.refl _ _⟩
      case round =>
        obtain ⟨J, rfl, hJ, rfl, hB⟩ := hrel
        have hBh := PM.hid hB
        clear hB
        obtain ⟨wr2, hwr2⟩ : ∃ W, W = wr := ⟨_, rfl⟩
        rw [← hwr2] at hBh ⊢
        clear hwr2
        have hb2 := PM.hid (PM.chain hBk.out hBh.out)
        have km2 := kmh.out.keep hb2.out
        have m0 : wr2.cell? ⟨gm, 0, none⟩ = some (.int .i64 m.kind) := km2.cell 0
        have m1 : wr2.cell? ⟨gm, 1, none⟩ = some (.int .u64 (m.hav : Int)) := km2.cell 1
        have m2 : wr2.cell? ⟨gm, 2, none⟩ = some (.slice ma0 mn0 mc0) := km2.cell 2
        have m3 : wr2.cell? ⟨gm, 3, none⟩ = some (.slice ma1 mn1 mc1) := km2.cell 3
        have m4 : wr2.cell? ⟨gm, 4, none⟩ = some (.slice ma2 mn2 mc2) := km2.cell 4
        have m5 : wr2.cell? ⟨gm, 5, none⟩ = some (.slice ma3 mn3 mc3) := km2.cell 5
        have m6 : wr2.cell? ⟨gm, 6, none⟩ = some (.slice ma4 mn4 mc4) := km2.cell 6
        have m7 : wr2.cell? ⟨gm, 7, none⟩ = some (.slice ma5 mn5 mc5) := km2.cell 7
        clear km2
        by_cases hltJ : J < mn0
        · obtain ⟨y, hy⟩ : ∃ t, m.votes[J]? = some t := ⟨m.votes[J]'(by rw [← hMNh.out]; exact hltJ), List.getElem?_eq_getElem _⟩
          obtain ⟨yb, yo, yc', ye, -, -, yce⟩ := PM.EM.open1 hmh.out.1 (by rw [← hMNh.out]; omega)
          injection ye with ye1 ye2 ye3
          subst ye1
          have hl0 := (yce J y hy).keep (PM.chain hBB.out hb2.out)
          have y0 : wr2.cell? ⟨yb, yo + J * 4, none⟩ = some (.int .i64 y.id.br) := hl0 0 _ rfl
          have y1 : wr2.cell? ⟨yb, yo + J * 4 + 1, none⟩ = some (.int .u64 (y.id.life : Int)) := hl0 1 _ rfl
          have y2 : wr2.cell? ⟨yb, yo + J * 4 + 2, none⟩ = some (.int .u64 (y.id.ser : Int)) := hl0 2 _ rfl
          have hl1 := hxl.out.keep hb2.out
          have x0 : wr2.cell? ⟨rb, ro + k * 3, none⟩ = some (.int .i64 xx.br) := hl1 0 _ rfl
          have x1 : wr2.cell? ⟨rb, ro + k * 3 + 1, none⟩ = some (.int .u64 (xx.life : Int)) := hl1 1 _ rfl
          have x2 : wr2.cell? ⟨rb, ro + k * 3 + 2, none⟩ = some (.int .u64 (xx.ser : Int)) := hl1 2 _ rfl
          have hq := ideq_run y.id xx
          have hsn : Hid (((m.votes.take (J + 1)).any fun v => decide (v.id = xx)) = (((m.votes.take J).any fun v => decide (v.id = xx)) || decide (y.id = xx))) := PM.hid (by rw [PM.take_at hy, List.any_append]; simp)
          clear hy yce hl0 hl1 ye2 ye3
          cases hfl : ((m.votes.take J).any fun v => decide (v.id = xx))
          · have hflh := PM.hid hfl
            clear hfl
            cases heq : decide (y.id = xx)
            all_goals
              rw [heq] at hq
              have heqh := PM.hid heq
              clear heq
              go_upto_region 12 with fail
              go_region
              clear hq y0 y1 y2 x0 x1 x2 m0 m1 m2 m3 m4 m5 m6 m7
              go_wp2_with fail
              exact ⟨⟨J + 1, by go_num, by omega, by rw [hsn.out, hflh.out, heqh.out]; rfl, hBh.out.drew⟩, by simp only [intOf]; omega⟩
          · have hflh := PM.hid hfl
            clear hfl hq
            go_upto_region 12 with fail
            go_region
            clear y0 y1 y2 x0 x1 x2 m0 m1 m2 m3 m4 m5 m6 m7
            go_wp2_with fail
            exact ⟨⟨J + 1, by go_num, by omega, by rw [hsn.out, hflh.out]; rfl, hBh.out.drew⟩, by simp only [intOf]; omega⟩
        · obtain rfl : J = mn0 := by omega
          have h9 : m.votes.take J = m.votes := by rw [hMNh.out]; exact List.take_length
          have hany : ((m.votes.take J).any fun v => decide (v.id = xx)) = true := by
            rw [h9, List.any_eq_true]
            obtain ⟨v, hv1, hv2⟩ := hxm.out.1
            exact ⟨v, hv1, by simp [hv2]⟩
          rw [hany]
          clear hany h9
          go_wp2_with fail
          clear m0 m1 m2 m3 m4 m5 m6 m7
          go_loopw [10, 12] (fun b j wr => ∃ I : Nat, j = .int .i64 I ∧ I ≤ k ∧ b = .bool true ∧ Below wr0.heap.size wr0 wr) (fun _ j _ => k - (intOf j).toNat)
          case atStart => exact ⟨0, rfl, by omega, rfl, hBh.out⟩
          case round =>
            obtain ⟨I, rfl, hI, rfl, hB⟩ := hrel
            have hBi := PM.hid hB
            clear hB
            obtain ⟨wr3, hwr3⟩ : ∃ W, W = wr := ⟨_, rfl⟩
            rw [← hwr3] at hBi ⊢
            clear hwr3
            have hb3 := PM.hid (PM.chain hBk.out hBi.out)
            have hl1 := hxl.out.keep hb3.out
            have x0 : wr3.cell? ⟨rb, ro + k * 3, none⟩ = some (.int .i64 xx.br) := hl1 0 _ rfl
            have x1 : wr3.cell? ⟨rb, ro + k * 3 + 1, none⟩ = some (.int .u64 (xx.life : Int)) := hl1 1 _ rfl
            have x2 : wr3.cell? ⟨rb, ro + k * 3 + 2, none⟩ = some (.int .u64 (xx.ser : Int)) := hl1 2 _ rfl
            clear hl1
            by_cases hltI : I < k
            · obtain ⟨t, ht⟩ : ∃ t, q[I]? = some t := ⟨q[I]'(by rw [← hQh.out]; omega), List.getElem?_eq_getElem _⟩
              have hl0 := (hrce.out I t ht).keep hb3.out
              have t0 : wr3.cell? ⟨rb, ro + I * 3, none⟩ = some (.int .i64 t.br) := hl0 0 _ rfl
              have t1 : wr3.cell? ⟨rb, ro + I * 3 + 1, none⟩ = some (.int .u64 (t.life : Int)) := hl0 1 _ rfl
              have t2 : wr3.cell? ⟨rb, ro + I * 3 + 2, none⟩ = some (.int .u64 (t.ser : Int)) := hl0 2 _ rfl
              have hq := ideq_run t xx
              have hne : decide (t = xx) = false := decide_eq_false (PM.nodup_ne hokh.out.nodup ht hxh.out (by omega))
              rw [hne] at hq
              have hq2 := idne_run t xx
              rw [hne] at hq2
              clear ht hl0 hne
              go_upto_region 16 with fail
              go_region
              clear hq hq2 t0 t1 t2 x0 x1 x2
              go_wp2_with fail
              exact ⟨⟨I + 1, by go_num, by omega, rfl, hBi.out.drew⟩, by simp only [intOf]; omega⟩
            · obtain rfl : I = k := by omega
              have hkl : Hid (PM.hasE ls xx = false ∧ PM.hasE ps xx = false) := PM.hid (by
                have := hxm.out.2
                simp only [Bool.or_eq_false_iff] at this
                exact this.1)
              clear x0 x1 x2
              have bx := PM.hid kgh
              go_upto_region 17 with fail
              refine PM.wp_region_st [some 86, some 87, some 88, some 89, some 90, some 91, some 92, some 93, some 94, some 95, some 96, some 97, some 98, some 99, some 100, some 101, some 102, some 103] [fun x _ => x = .bool true, fun x _ => x = .bool false, fun x _ => x = .bool false, fun x _ => x = .agg #[.int .u64 (lf : Int), .slice a0 n0 c0, .slice a1 n1 c1, .slice a2 n2 c2], fun x _ => x = .slice (some ⟨rb, ro, none⟩) Q rc, fun x _ => x = .int .i64 (I : Int), fun x _ => x = .pointer (some ⟨rb, ro + I * 3, none⟩), fun x _ => x = .agg #[.int .i64 xx.br, .int .u64 (xx.life : Int), .int .u64 (xx.ser : Int)], fun x _ => x = .bool false, fun x _ => x = .bool false, fun x _ => x = .bool false, fun x _ => x = .agg #[.int .u64 (lf : Int), .slice a0 n0 c0, .slice a1 n1 c1, .slice a2 n2 c2], fun x _ => x = .slice (some ⟨rb, ro, none⟩) Q rc, fun x _ => x = .int .i64 (I : Int), fun x _ => x = .pointer (some ⟨rb, ro + I * 3, none⟩), fun x _ => x = .agg #[.int .i64 xx.br, .int .u64 (xx.life : Int), .int .u64 (xx.ser : Int)], fun x _ => x = .bool false, fun x _ => x = .bool false] (by kernel_rfl) (by kernel_rfl) (by kernel_rfl) ?_ ?_ ?_
              · simp only [List.forall_mem_cons]
                refine ⟨?_, ?_, ?_, ?_, ?_, ?_, ?_, ?_, ?_, ?_, ?_, ?_, ?_, ?_, ?_, ?_, ?_, ?_, by simp⟩
                all_goals (intro x W W' h hb; first | exact h | exact PM.BS.keep hb h | exact PM.OW.keep hb h)
              · refine ⟨?_, ?_, ?_, ?_, ?_, ?_, ?_, ?_, ?_, ?_, ?_, ?_, ?_, ?_, ?_, ?_, ?_, ?_, trivial⟩
                all_goals
                  intro a W hB hF hd
                  have k3 := hF 3 rfl
                  have k8 := hF 8 rfl
                  have k9 := hF 9 rfl
                  have k10 := hF 10 rfl
                  have s0 : W.cell? ⟨g, 0, none⟩ = some (.int .u64 (lf : Int)) := ((kgh.out.keep hb3.out).keep hB).cell 0
                  have s1 : W.cell? ⟨g, 1, none⟩ = some (.slice a0 n0 c0) := ((kgh.out.keep hb3.out).keep hB).cell 1
                  have s2 : W.cell? ⟨g, 2, none⟩ = some (.slice a1 n1 c1) := ((kgh.out.keep hb3.out).keep hB).cell 2
                  have s3 : W.cell? ⟨g, 3, none⟩ = some (.slice a2 n2 c2) := ((kgh.out.keep hb3.out).keep hB).cell 3
                  have hl1 := (hxl.out.keep hb3.out).keep hB
                  have xx0 : W.cell? ⟨rb, ro + I * 3, none⟩ = some (.int .i64 xx.br) := hl1 0 _ rfl
                  have xx1 : W.cell? ⟨rb, ro + I * 3 + 1, none⟩ = some (.int .u64 (xx.life : Int)) := hl1 1 _ rfl
                  have xx2 : W.cell? ⟨rb, ro + I * 3 + 2, none⟩ = some (.int .u64 (xx.ser : Int)) := hl1 2 _ rfl
                  clear hl1
                  clear hF
                  simp [PM.depsL, PM.spec, PM.sl, Region.binds] at hd k3 k8 k9 k10
                  simp only [PM.wantL, PM.spec]
                  try simp only [PM.sl]
                  go_simp
                all_goals try exact Below.refl _ _
                · refine (hasS_any lf a0 n0 c0 a1 n1 c1 a2 n2 c2 xx ls W ((PM.EnL.keep hsh.out.1 (PM.chain hBB.out hb3.out)).keep hB)).mono ?_
                  rw [hkl.out.1]
                  rintro e w' ⟨rfl, hb⟩
                  exact ⟨hb, rfl⟩
                · refine (promS_any lf a0 n0 c0 a1 n1 c1 a2 n2 c2 xx ps W ((PM.EnL.keep hsh.out.2.1 (PM.chain hBB.out hb3.out)).keep hB)).mono ?_
                  rw [hkl.out.2]
                  rintro e w' ⟨rfl, hb⟩
                  exact ⟨hb, rfl⟩
              · intro G W hB hF hS
                have h103 : G 103 = .bool false := by simp [PM.allSp, PM.spec] at hS; simp [hS]
                have k0 := hF 0 rfl
                have k1 := hF 1 rfl
                have k2 := hF 2 rfl
                have k3 := hF 3 rfl
                have k4 := hF 4 rfl
                have k5 := hF 5 rfl
                have k6 := hF 6 rfl
                have k7 := hF 7 rfl
                have k8 := hF 8 rfl
                have k9 := hF 9 rfl
                have k10 := hF 10 rfl
                have k11 := hF 11 rfl
                have k12 := hF 12 rfl
                have k13 := hF 13 rfl
                have k14 := hF 14 rfl
                have k15 := hF 15 rfl
                have k16 := hF 16 rfl
                have k17 := hF 17 rfl
                have k18 := hF 18 rfl
                have k19 := hF 19 rfl
                have k20 := hF 20 rfl
                have k21 := hF 21 rfl
                have k22 := hF 22 rfl
                have k23 := hF 23 rfl
                have k24 := hF 24 rfl
                have k25 := hF 25 rfl
                have k26 := hF 26 rfl
                have k27 := hF 27 rfl
                have k28 := hF 28 rfl
                have k29 := hF 29 rfl
                have k30 := hF 30 rfl
                have k31 := hF 31 rfl
                have k32 := hF 32 rfl
                have k33 := hF 33 rfl
                have k34 := hF 34 rfl
                have k35 := hF 35 rfl
                have k36 := hF 36 rfl
                have k37 := hF 37 rfl
                have k38 := hF 38 rfl
                have k39 := hF 39 rfl
                have k40 := hF 40 rfl
                have k41 := hF 41 rfl
                have k42 := hF 42 rfl
                have k43 := hF 43 rfl
                have k44 := hF 44 rfl
                have k45 := hF 45 rfl
                have k46 := hF 46 rfl
                have k47 := hF 47 rfl
                have k48 := hF 48 rfl
                have k49 := hF 49 rfl
                have k50 := hF 50 rfl
                have k51 := hF 51 rfl
                have k52 := hF 52 rfl
                have k53 := hF 53 rfl
                have k54 := hF 54 rfl
                have k55 := hF 55 rfl
                have k56 := hF 56 rfl
                have k57 := hF 57 rfl
                have k58 := hF 58 rfl
                have k59 := hF 59 rfl
                have k60 := hF 60 rfl
                have k61 := hF 61 rfl
                have k62 := hF 62 rfl
                have k63 := hF 63 rfl
                have k64 := hF 64 rfl
                have k65 := hF 65 rfl
                have k66 := hF 66 rfl
                have k67 := hF 67 rfl
                have k68 := hF 68 rfl
                have k69 := hF 69 rfl
                have k70 := hF 70 rfl
                have k71 := hF 71 rfl
                have k72 := hF 72 rfl
                have k73 := hF 73 rfl
                have k74 := hF 74 rfl
                have k75 := hF 75 rfl
                have k76 := hF 76 rfl
                have k77 := hF 77 rfl
                have k78 := hF 78 rfl
                have k79 := hF 79 rfl
                have k80 := hF 80 rfl
                have k81 := hF 81 rfl
                have k82 := hF 82 rfl
                have k83 := hF 83 rfl
                have k84 := hF 84 rfl
                have k85 := hF 85 rfl
                have k104 := hF 104 rfl
                have k105 := hF 105 rfl
                have k106 := hF 106 rfl
                have k107 := hF 107 rfl
                have k108 := hF 108 rfl
                have k109 := hF 109 rfl
                have k110 := hF 110 rfl
                have k111 := hF 111 rfl
                have k112 := hF 112 rfl
                have k113 := hF 113 rfl
                have k114 := hF 114 rfl
                have k115 := hF 115 rfl
                have k116 := hF 116 rfl
                have k117 := hF 117 rfl
                have k118 := hF 118 rfl
                have k119 := hF 119 rfl
                have k120 := hF 120 rfl
                have k121 := hF 121 rfl
                have k122 := hF 122 rfl
                have k123 := hF 123 rfl
                have k124 := hF 124 rfl
                have k125 := hF 125 rfl
                have k126 := hF 126 rfl
                have k127 := hF 127 rfl
                have k128 := hF 128 rfl
                have k129 := hF 129 rfl
                have k130 := hF 130 rfl
                have k131 := hF 131 rfl
                have k132 := hF 132 rfl
                have k133 := hF 133 rfl
                have k134 := hF 134 rfl
                have k135 := hF 135 rfl
                have k136 := hF 136 rfl
                have k137 := hF 137 rfl
                have k138 := hF 138 rfl
                have k139 := hF 139 rfl
                have k140 := hF 140 rfl
                have k141 := hF 141 rfl
                have k142 := hF 142 rfl
                have k143 := hF 143 rfl
                have k144 := hF 144 rfl
                have k145 := hF 145 rfl
                have k146 := hF 146 rfl
                have k147 := hF 147 rfl
                have k148 := hF 148 rfl
                have k149 := hF 149 rfl
                have k150 := hF 150 rfl
                have k151 := hF 151 rfl
                have k152 := hF 152 rfl
                have k153 := hF 153 rfl
                have k154 := hF 154 rfl
                have k155 := hF 155 rfl
                have k156 := hF 156 rfl
                have k157 := hF 157 rfl
                have k158 := hF 158 rfl
                have k159 := hF 159 rfl
                simp [PM.sl] at k0 k1 k2 k3 k4 k5 k6 k7 k8 k9 k10 k11 k12 k13 k14 k15 k16 k17 k18 k19 k20 k21 k22 k23 k24 k25 k26 k27 k28 k29 k30 k31 k32 k33 k34 k35 k36 k37 k38 k39 k40 k41 k42 k43 k44 k45 k46 k47 k48 k49 k50 k51 k52 k53 k54 k55 k56 k57 k58 k59 k60 k61 k62 k63 k64 k65 k66 k67 k68 k69 k70 k71 k72 k73 k74 k75 k76 k77 k78 k79 k80 k81 k82 k83 k84 k85 k104 k105 k106 k107 k108 k109 k110 k111 k112 k113 k114 k115 k116 k117 k118 k119 k120 k121 k122 k123 k124 k125 k126 k127 k128 k129 k130 k131 k132 k133 k134 k135 k136 k137 k138 k139 k140 k141 k142 k143 k144 k145 k146 k147 k148 k149 k150 k151 k152 k153 k154 k155 k156 k157 k158 k159
                rw [show ((List.range (Array.size _)).map G).toArray = #[G 0, G 1, G 2, G 3, G 4, G 5, G 6, G 7, G 8, G 9, G 10, G 11, G 12, G 13, G 14, G 15, G 16, G 17, G 18, G 19, G 20, G 21, G 22, G 23, G 24, G 25, G 26, G 27, G 28, G 29, G 30, G 31, G 32, G 33, G 34, G 35, G 36, G 37, G 38, G 39, G 40, G 41, G 42, G 43, G 44, G 45, G 46, G 47, G 48, G 49, G 50, G 51, G 52, G 53, G 54, G 55, G 56, G 57, G 58, G 59, G 60, G 61, G 62, G 63, G 64, G 65, G 66, G 67, G 68, G 69, G 70, G 71, G 72, G 73, G 74, G 75, G 76, G 77, G 78, G 79, G 80, G 81, G 82, G 83, G 84, G 85, G 86, G 87, G 88, G 89, G 90, G 91, G 92, G 93, G 94, G 95, G 96, G 97, G 98, G 99, G 100, G 101, G 102, G 103, G 104, G 105, G 106, G 107, G 108, G 109, G 110, G 111, G 112, G 113, G 114, G 115, G 116, G 117, G 118, G 119, G 120, G 121, G 122, G 123, G 124, G 125, G 126, G 127, G 128, G 129, G 130, G 131, G 132, G 133, G 134, G 135, G 136, G 137, G 138, G 139, G 140, G 141, G 142, G 143, G 144, G 145, G 146, G 147, G 148, G 149, G 150, G 151, G 152, G 153, G 154, G 155, G 156, G 157, G 158, G 159] from rfl]
                clear hF hS
                rw [h103, k0, k1, k2, k3, k4, k5, k6, k7, k8, k9, k10, k11, k12, k13, k14, k15, k16, k17, k18, k19, k20, k21, k22, k23, k24, k25, k26, k27, k28, k29, k30, k31, k32, k33, k34, k35, k36, k37, k38, k39, k40, k41, k42, k43, k44, k45, k46, k47, k48, k49, k50, k51, k52, k53, k54, k55, k56, k57, k58, k59, k60, k61, k62, k63, k64, k65, k66, k67, k68, k69, k70, k71, k72, k73, k74, k75, k76, k77, k78, k79, k80, k81, k82, k83, k84, k85, k104, k105, k106, k107, k108, k109, k110, k111, k112, k113, k114, k115, k116, k117, k118, k119, k120, k121, k122, k123, k124, k125, k126, k127, k128, k129, k130, k131, k132, k133, k134, k135, k136, k137, k138, k139, k140, k141, k142, k143, k144, k145, k146, k147, k148, k149, k150, k151, k152, k153, k154, k155, k156, k157, k158, k159]
                clear h103 k0 k1 k2 k3 k4 k5 k6 k7 k8 k9 k10 k11 k12 k13 k14 k15 k16 k17 k18 k19 k20 k21 k22 k23 k24 k25 k26 k27 k28 k29 k30 k31 k32 k33 k34 k35 k36 k37 k38 k39 k40 k41 k42 k43 k44 k45 k46 k47 k48 k49 k50 k51 k52 k53 k54 k55 k56 k57 k58 k59 k60 k61 k62 k63 k64 k65 k66 k67 k68 k69 k70 k71 k72 k73 k74 k75 k76 k77 k78 k79 k80 k81 k82 k83 k84 k85 k104 k105 k106 k107 k108 k109 k110 k111 k112 k113 k114 k115 k116 k117 k118 k119 k120 k121 k122 k123 k124 k125 k126 k127 k128 k129 k130 k131 k132 k133 k134 k135 k136 k137 k138 k139 k140 k141 k142 k143 k144 k145 k146 k147 k148 k149 k150 k151 k152 k153 k154 k155 k156 k157 k158 k159
                have hB3 := PM.hid (PM.chain hb3.out hB)
                clear hB
                go_wp2_with fail
                exact ⟨⟨I + 1, by go_num, by omega, hB3.out⟩, by simp only [intOf]; omega⟩
    · obtain rfl : k = Q := by omega
      clear hbm
      go_wp2_with fail
      go_loopw [13] (fun i wr => ∃ K : Nat, i = .int .i64 K ∧ K ≤ mn0 ∧ Below w7.heap.size w7 wr) (fun i _ => mn0 - (intOf i).toNat)
      case atStart => exact ⟨0, rfl, by omega, hBk.out⟩
      case round =>
        obtain ⟨K, rfl, hK, hB⟩ := hrel
        have hBK := PM.hid hB
        clear hB
        obtain ⟨wr4, hwr4⟩ : ∃ W, W = wr := ⟨_, rfl⟩
        rw [← hwr4] at hBK ⊢
        clear hwr4
        have km4 := kmh.out.keep hBK.out
        have kg4 := kgh.out.keep hBK.out
        have m0 : wr4.cell? ⟨gm, 0, none⟩ = some (.int .i64 m.kind) := km4.cell 0
        have m1 : wr4.cell? ⟨gm, 1, none⟩ = some (.int .u64 (m.hav : Int)) := km4.cell 1
        have m2 : wr4.cell? ⟨gm, 2, none⟩ = some (.slice ma0 mn0 mc0) := km4.cell 2
        have m3 : wr4.cell? ⟨gm, 3, none⟩ = some (.slice ma1 mn1 mc1) := km4.cell 3
        have m4 : wr4.cell? ⟨gm, 4, none⟩ = some (.slice ma2 mn2 mc2) := km4.cell 4
        have m5 : wr4.cell? ⟨gm, 5, none⟩ = some (.slice ma3 mn3 mc3) := km4.cell 5
        have m6 : wr4.cell? ⟨gm, 6, none⟩ = some (.slice ma4 mn4 mc4) := km4.cell 6
        have m7 : wr4.cell? ⟨gm, 7, none⟩ = some (.slice ma5 mn5 mc5) := km4.cell 7
        by_cases hltK : K < mn0
        · obtain ⟨y, hy⟩ : ∃ t, m.votes[K]? = some t := ⟨m.votes[K]'(by rw [← hMNh.out]; exact hltK), List.getElem?_eq_getElem _⟩
          obtain ⟨yb, yo, yc', ye, -, -, yce⟩ := PM.EM.open1 hmh.out.1 (by rw [← hMNh.out]; omega)
          injection ye with ye1 ye2 ye3
          subst ye1
          have hl0 := (yce K y hy).keep (PM.chain hBB.out hBK.out)
          have y0 : wr4.cell? ⟨yb, yo + K * 4, none⟩ = some (.int .i64 y.id.br) := hl0 0 _ rfl
          have y1 : wr4.cell? ⟨yb, yo + K * 4 + 1, none⟩ = some (.int .u64 (y.id.life : Int)) := hl0 1 _ rfl
          have y2 : wr4.cell? ⟨yb, yo + K * 4 + 2, none⟩ = some (.int .u64 (y.id.ser : Int)) := hl0 2 _ rfl
          have hyh := PM.hid hy
          clear hy yce hl0 ye2 ye3
          go_upto_region 23 with fail
          obtain ⟨gx, hgx⟩ : ∃ g, g = wr4.heap.size := ⟨_, rfl⟩
          obtain ⟨w8, hw8⟩ : ∃ W, W = wr4.alloc (.cells #[.int .i64 y.id.br, .int .u64 (y.id.life : Int), .int .u64 (y.id.ser : Int)] 30) := ⟨_, rfl⟩
          have hBn : Below wr4.heap.size wr4 w8 := by rw [hw8]; exact (Below.refl _ _).alloc (Nat.le_refl _) _
          have kx : PM.BK w8 gx #[.int .i64 y.id.br, .int .u64 (y.id.life : Int), .int .u64 (y.id.ser : Int)] 30 := by rw [hw8, hgx]; exact PM.BK.new _ _ _
          rw [← hw8, ← hgx]
          clear hw8 hgx
          clear y0 y1 y2 m0 m1 m2 m3 m4 m5 m6 m7 km4
          have hB8 := PM.hid (PM.chain hBK.out hBn)
          replace kg4 := kg4.keep hBn
          clear hBn
          go_cut [15] from 117 to 124 (fun s wx => s = .bool (PM.hasE ls y.id || PM.hasE ps y.id) ∧ Below w8.heap.size w8 wx)
          case first =>
            have f1 := hasS_any lf a0 n0 c0 a1 n1 c1 a2 n2 c2 y.id ls w8 (PM.EnL.keep hsh.out.1 (PM.chain hBB.out hB8.out))
            have x0 : w8.cell? ⟨gx, 0, none⟩ = some (.int .i64 y.id.br) := kx.cell 0
            have x1 : w8.cell? ⟨gx, 1, none⟩ = some (.int .u64 (y.id.life : Int)) := kx.cell 1
            have x2 : w8.cell? ⟨gx, 2, none⟩ = some (.int .u64 (y.id.ser : Int)) := kx.cell 2
            have s0 : w8.cell? ⟨g, 0, none⟩ = some (.int .u64 (lf : Int)) := kg4.cell 0
            have s1 : w8.cell? ⟨g, 1, none⟩ = some (.slice a0 n0 c0) := kg4.cell 1
            have s2 : w8.cell? ⟨g, 2, none⟩ = some (.slice a1 n1 c1) := kg4.cell 2
            have s3 : w8.cell? ⟨g, 3, none⟩ = some (.slice a2 n2 c2) := kg4.cell 3
            go_wp2_with fail
            refine f1.mono ?_
            clear f1 x0 x1 x2 s0 s1 s2 s3
            rintro e wa ⟨rfl, hBn⟩
            replace kx := kx.keep hBn
            replace kg4 := kg4.keep hBn
            have hba := PM.hid hBn
            clear hBn
            cases e1 : PM.hasE ls y.id
            case true =>
              have e1h := PM.hid e1
              clear e1 kx kg4
              go_wp2_with fail
              all_goals
                go_meet
                exact ⟨by rw [e1h.out]; rfl, hba.out⟩
            have e1h := PM.hid e1
            clear e1
            have f2 := promS_any lf a0 n0 c0 a1 n1 c1 a2 n2 c2 y.id ps wa (PM.EnL.keep hsh.out.2.1 (PM.chain (PM.chain hBB.out hB8.out) hba.out))
            have x0 : wa.cell? ⟨gx, 0, none⟩ = some (.int .i64 y.id.br) := kx.cell 0
            have x1 : wa.cell? ⟨gx, 1, none⟩ = some (.int .u64 (y.id.life : Int)) := kx.cell 1
            have x2 : wa.cell? ⟨gx, 2, none⟩ = some (.int .u64 (y.id.ser : Int)) := kx.cell 2
            have s0 : wa.cell? ⟨g, 0, none⟩ = some (.int .u64 (lf : Int)) := kg4.cell 0
            have s1 : wa.cell? ⟨g, 1, none⟩ = some (.slice a0 n0 c0) := kg4.cell 1
            have s2 : wa.cell? ⟨g, 2, none⟩ = some (.slice a1 n1 c1) := kg4.cell 2
            have s3 : wa.cell? ⟨g, 3, none⟩ = some (.slice a2 n2 c2) := kg4.cell 3
            go_wp2_with fail
            refine f2.mono ?_
            clear f2 x0 x1 x2 s0 s1 s2 s3
            rintro e wb ⟨rfl, hBn⟩
            have hbb := PM.hid (PM.chain hba.out hBn)
            clear hBn kx kg4
            go_wp2_with fail
            all_goals
              go_meet
              exact ⟨by rw [e1h.out]; rfl, hbb.out⟩
          case rest =>
          obtain ⟨rfl, hB9⟩ := hcut
          have kx9 := PM.hid (kx.keep hB9)
          have hb79 := PM.hid (PM.chain hB8.out hB9)
          obtain ⟨w9, hw9⟩ : ∃ W, W = wc := ⟨_, rfl⟩
          rw [← hw9] at hb79 kx9 ⊢
          clear hw9 hB9 kx kg4
          obtain ⟨K0, hK0⟩ : ∃ b, b = (PM.hasE ls y.id || PM.hasE ps y.id) := ⟨_, rfl⟩
          rw [← hK0]
          have hK0h := PM.hid hK0
          clear hK0
          go_wp2_with fail
          go_loopw [15, 16] (fun b j wr => ∃ J : Nat, j = .int .i64 J ∧ J ≤ no ∧ b = .bool (K0 || (op.take J).any (PM.isId y.id)) ∧ Below w9.heap.size w9 wr) (fun _ j _ => no - (intOf j).toNat)
          case atStart => exact ⟨0, rfl, by omega, by simp, Below.refl _ _⟩
          case round =>
            obtain ⟨J, rfl, hJ, rfl, hB⟩ := hrel
            have hBh := PM.hid hB
            clear hB
            obtain ⟨wr2, hwr2⟩ : ∃ W, W = wr := ⟨_, rfl⟩
            rw [← hwr2] at hBh ⊢
            clear hwr2
            have hb2 := PM.hid (PM.chain hb79.out hBh.out)
            have x0 : wr2.cell? ⟨gx, 0, none⟩ = some (.int .i64 y.id.br) := PM.cellA hBh.out (kx9.out.cell 0)
            have x1 : wr2.cell? ⟨gx, 1, none⟩ = some (.int .u64 (y.id.life : Int)) := PM.cellA hBh.out (kx9.out.cell 1)
            have x2 : wr2.cell? ⟨gx, 2, none⟩ = some (.int .u64 (y.id.ser : Int)) := PM.cellA hBh.out (kx9.out.cell 2)
            by_cases hltJ : J < no
            · obtain ⟨o, oz⟩ : ∃ z, op[J]? = some z := ⟨op[J]'(by rw [← hONh.out]; first | exact hltJ | omega), List.getElem?_eq_getElem _⟩
              obtain ⟨ob, oo, oe, oc⟩ := PM.RR.opn hvh.out (by rw [← hONh.out]; first | exact hltJ | omega)
              subst oe
              obtain ⟨ocs, ol, oR⟩ := oc J o oz
              obtain ⟨_, _, _, _, oh, -, -⟩ := PM.enR_open oR
              rw [oh] at ol
              replace ol := ol.keep (PM.chain hBB.out hb2.out)
              have o0 : wr2.cell? ⟨ob, oo + J * 8 + 1, none⟩ = some (.int .i64 o.id.br) := ol 1 _ rfl
              have o1 : wr2.cell? ⟨ob, oo + J * 8 + 2, none⟩ = some (.int .u64 (o.id.life : Int)) := ol 2 _ rfl
              have o2 : wr2.cell? ⟨ob, oo + J * 8 + 3, none⟩ = some (.int .u64 (o.id.ser : Int)) := ol 3 _ rfl
              clear oc ol oR oh ocs
              have hq := ideq_run o.id y.id
              have hoh := PM.hid oz
              clear oz
              have hsn : Hid ((K0 || (op.take (J + 1)).any (PM.isId y.id)) = ((K0 || (op.take J).any (PM.isId y.id)) || decide (o.id = y.id))) := PM.hid (by rw [PM.take_at hoh.out, List.any_append, Bool.or_assoc]; simp [PM.isId])
              cases hfl : (K0 || (op.take J).any (PM.isId y.id))
              · have hflh := PM.hid hfl
                clear hfl
                cases heq : decide (o.id = y.id)
                all_goals
                  rw [heq] at hq
                  have heqh := PM.hid heq
                  clear heq
                  go_upto_region 27 with fail
                  go_region
                  clear hq o0 o1 o2 x0 x1 x2
                  go_wp2_with fail
                  exact ⟨⟨J + 1, by go_num, by omega, by rw [hsn.out, hflh.out, heqh.out]; rfl, hBh.out.drew⟩, by simp only [intOf]; omega⟩
              · have hflh := PM.hid hfl
                clear hfl hq
                go_upto_region 27 with fail
                go_region
                clear o0 o1 o2 x0 x1 x2
                go_wp2_with fail
                exact ⟨⟨J + 1, by go_num, by omega, by rw [hsn.out, hflh.out]; rfl, hBh.out.drew⟩, by simp only [intOf]; omega⟩
            · obtain rfl : J = no := by omega
              have h9 : op.take J = op := by rw [hONh.out]; exact List.take_length
              rw [h9]
              obtain ⟨KK, hKK⟩ : ∃ b, b = (K0 || op.any (PM.isId y.id)) := ⟨_, rfl⟩
              rw [← hKK]
              have hKKh := PM.hid hKK
              clear h9 hKK
              clear x0 x1 x2
              go_wp2_with fail
              go_loopw [17, 18] (fun b j wr => ∃ I : Nat, j = .int .i64 I ∧ I ≤ k ∧ b = .bool ((q.take I).any fun i => decide (i = y.id)) ∧ Below w9.heap.size w9 wr) (fun _ j _ => k - (intOf j).toNat)
              case atStart => exact ⟨0, rfl, by omega, rfl, hBh.out⟩
              case round =>
                obtain ⟨I, rfl, hI, rfl, hB⟩ := hrel
                have hBi := PM.hid hB
                clear hB
                obtain ⟨wr3, hwr3⟩ : ∃ W, W = wr := ⟨_, rfl⟩
                rw [← hwr3] at hBi ⊢
                clear hwr3
                have hb3 := PM.hid (PM.chain hb79.out hBi.out)
                have x0 : wr3.cell? ⟨gx, 0, none⟩ = some (.int .i64 y.id.br) := PM.cellA hBi.out (kx9.out.cell 0)
                have x1 : wr3.cell? ⟨gx, 1, none⟩ = some (.int .u64 (y.id.life : Int)) := PM.cellA hBi.out (kx9.out.cell 1)
                have x2 : wr3.cell? ⟨gx, 2, none⟩ = some (.int .u64 (y.id.ser : Int)) := PM.cellA hBi.out (kx9.out.cell 2)
                by_cases hltI : I < k
                · obtain ⟨t, ht⟩ : ∃ t, q[I]? = some t := ⟨q[I]'(by rw [← hQh.out]; exact hltI), List.getElem?_eq_getElem _⟩
                  obtain ⟨rb, ro, rc', re, -, -, rce⟩ := PM.EM.open1 hrh.out (by rw [← hQh.out]; omega)
                  injection re with re1 re2 re3
                  subst re1
                  have hl0 := (rce I t ht).keep hb3.out
                  have t0 : wr3.cell? ⟨rb, ro + I * 3, none⟩ = some (.int .i64 t.br) := hl0 0 _ rfl
                  have t1 : wr3.cell? ⟨rb, ro + I * 3 + 1, none⟩ = some (.int .u64 (t.life : Int)) := hl0 1 _ rfl
                  have t2 : wr3.cell? ⟨rb, ro + I * 3 + 2, none⟩ = some (.int .u64 (t.ser : Int)) := hl0 2 _ rfl
                  have hq := ideq_run t y.id
                  have hsn : Hid (((q.take (I + 1)).any fun i => decide (i = y.id)) = (((q.take I).any fun i => decide (i = y.id)) || decide (t = y.id))) := PM.hid (by rw [PM.take_at ht, List.any_append]; simp)
                  clear ht rce hl0 re2 re3
                  cases hfl : ((q.take I).any fun i => decide (i = y.id))
                  · have hflh := PM.hid hfl
                    clear hfl
                    cases heq : decide (t = y.id)
                    all_goals
                      rw [heq] at hq
                      have heqh := PM.hid heq
                      clear heq
                      go_upto_region 32 with fail
                      go_region
                      clear hq t0 t1 t2 x0 x1 x2
                      go_wp2_with fail
                      exact ⟨⟨I + 1, by go_num, by omega, by rw [hsn.out, hflh.out, heqh.out]; rfl, hBi.out.drew⟩, by simp only [intOf]; omega⟩
                  · have hflh := PM.hid hfl
                    clear hfl hq
                    go_upto_region 32 with fail
                    go_region
                    clear t0 t1 t2 x0 x1 x2
                    go_wp2_with fail
                    exact ⟨⟨I + 1, by go_num, by omega, by rw [hsn.out, hflh.out]; rfl, hBi.out.drew⟩, by simp only [intOf]; omega⟩
                · obtain rfl : I = k := by omega
                  have h9 : q.take I = q := by rw [hQh.out]; exact List.take_length
                  have hend : (q.any fun i => decide (i = y.id)) = !KK := by
                    have h1 := hokh.out.all y (List.mem_of_getElem? hyh.out)
                    rw [hKKh.out, hK0h.out]
                    rw [show (op.any (PM.isId y.id)) = PM.hasE op y.id from rfl, ← h1]
                  rw [h9, hend]
                  clear h9 hend x0 x1 x2
                  have hin := PM.hid hb3.out
                  clear hKKh
                  cases KK
                  all_goals
                    go_wp2_with fail
                    exact ⟨⟨K + 1, by go_num, by omega, hin.out⟩, by simp only [intOf]; omega⟩
        · obtain rfl : K = mn0 := by omega
          have hBf := PM.hid (PM.chain hBB.out hBK.out)
          clear kg4 km4
          go_wp2_with fail
          go_ret
          exact ⟨by first | rfl | simp, hBf.out⟩
theorem voteEnds_walk (lf : Nat) (v0 v1 v2 : Value) (ls ps : List PM.En) (ab : List PM.Id) (v : Value) (op : List PM.En) (cs : Array Value) (m : PM.Ms) (w : World) (hs : PM.StR w v0 v1 v2 ls ps ab) (hv : PM.EnL w v op) (hm : PM.msR w cs.toList m) :
    Calls Try.prog 8 #[.agg #[.int .u64 (lf : Int), v0, v1, v2], v, .agg cs] w fun e w' => e = .returned (.bool true) ∧ Below w.heap.size w w' := by
  obtain ⟨a0, c0, rfl⟩ := hs.1.len
  obtain ⟨a1, c1, rfl⟩ := hs.2.1.len
  obtain ⟨a2, c2, rfl⟩ := hs.2.2.len
  obtain ⟨va, vc, rfl⟩ := hv.len
  have hm' := hm
  obtain ⟨b0, d0, b1, d1, b2, d2, b3, d3, b4, d4, b5, d5, hcs, h0, -⟩ := PM.msR_open hm
  rw [hcs] at hm'
  have hca := congrArg List.toArray hcs
  rw [Array.toArray_toList] at hca
  subst hca
  exact voteEnds_walkA lf a0 _ c0 a1 _ c1 a2 _ c2 va _ vc b0 _ d0 b1 _ d1 b2 _ d2 b3 _ d3 b4 _ d4 b5 _ d5 ls ps op ab m w hs hv h0 hm'
end Go.Proofs.Ytjninckmgkaliaa
