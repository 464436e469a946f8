/-
  THE WALK OF VoteSound.
-/
import Derived.Test.YtjninckmgkaliaaWr
namespace Go.Proofs.Ytjninckmgkaliaa
open Go.RowKit
set_option linter.unusedVariables false
set_option linter.unusedSimpArgs false
namespace PM
theorem says_no {ks : List Ms} {m : Ms} {v : Vo} (hm : m ∈ ks) (hv : v ∈ m.votes) (hy : v.yes = false) : says ks v.id = 2 := by
  unfold says
  rw [if_pos]
  rw [List.any_eq_true]
  refine ⟨m, hm, ?_⟩
  unfold hasV
  rw [List.any_eq_true]
  refine ⟨v, hv, ?_⟩
  obtain ⟨i, y⟩ := v
  simp only at hy
  subst hy
  simp
theorem tal1_mem (ks : List Ms) : ∀ (ps : List En) (vs : List Vo) (v : Vo), v ∈ ps.foldl (tal11 ks) vs → v ∈ vs ∨ ∃ x ∈ ps, x.id = v.id ∧ v.yes = decide (says ks v.id = 1)
  | [], vs, v, h => .inl h
  | x :: ps, vs, v, h => by
    rcases tal1_mem ks ps _ v h with h | ⟨y, hy, h1, h2⟩
    · unfold tal11 at h
      split at h
      · exact .inl h
      · rw [List.mem_append, List.mem_singleton] at h
        rcases h with h | rfl
        · exact .inl h
        · exact .inr ⟨x, by simp, rfl, rfl⟩
    · exact .inr ⟨y, by simp [hy], h1, h2⟩
theorem tal3_mem : ∀ (vs : List Vo) (rf : List Id) (v : Vo), v ∈ tal3 vs rf → v ∈ vs ∨ v.yes = false
  | vs, [], v, h => .inl h
  | vs, i :: rf, v, h => by
    have h3 : tal3 vs (i :: rf) = tal3 (tal31 vs i) rf := rfl
    rw [h3] at h
    rcases tal3_mem _ rf v h with h | h
    · unfold tal31 at h
      split at h
      · exact .inl h
      · rw [List.mem_append, List.mem_singleton] at h
        rcases h with h | rfl
        · exact .inl h
        · exact .inr rfl
    · exact .inr h
theorem tal3_keep : ∀ (vs : List Vo) (rf : List Id) (v : Vo), v ∈ vs → v ∈ tal3 vs rf
  | vs, [], v, h => h
  | vs, i :: rf, v, h => by
    have h3 : tal3 vs (i :: rf) = tal3 (tal31 vs i) rf := rfl
    rw [h3]
    refine tal3_keep _ rf v ?_
    unfold tal31
    split
    · exact h
    · simp [h]
theorem tal3_ref : ∀ (vs : List Vo) (rf : List Id) (i : Id), i ∈ rf → ∃ v ∈ tal3 vs rf, v.id = i
  | vs, [], i, h => by simp at h
  | vs, j :: rf, i, h => by
    have h3 : tal3 vs (j :: rf) = tal3 (tal31 vs j) rf := rfl
    rw [h3]
    rcases List.mem_cons.1 h with rfl | h
    · have : ∃ v ∈ tal31 vs i, v.id = i := by
        unfold tal31
        split
        · rename_i hh
          unfold vsHas at hh
          obtain ⟨v, hv, hd⟩ := List.any_eq_true.1 hh
          exact ⟨v, hv, (of_decide_eq_true hd).symm⟩
        · exact ⟨⟨i, false⟩, by simp, rfl⟩
      obtain ⟨v, hv, he⟩ := this
      exact ⟨v, tal3_keep _ rf v hv, he⟩
    · exact tal3_ref _ rf i h
theorem tally_yes {ps : List En} {rf : List Id} {ks : List Ms} {v : Vo} (h : v ∈ tally ps rf ks) (hy : v.yes = true) : (∃ x ∈ ps, x.id = v.id) ∧ says ks v.id = 1 := by
  have h1 := List.mem_of_mem_take h
  rcases tal3_mem _ _ v h1 with h2 | h2
  · rcases tal1_mem ks ps [] v h2 with h3 | ⟨x, hx, he, hd⟩
    · simp at h3
    · rw [hy] at hd
      exact ⟨⟨x, hx, he⟩, of_decide_eq_true hd.symm⟩
  · rw [hy] at h2
    cases h2
theorem tally_ref {ps : List En} {rf : List Id} {ks : List Ms} (hl : ps.length + rf.length ≤ 16) {i : Id} (h : i ∈ rf) : ∃ v ∈ tally ps rf ks, v.id = i := by
  unfold tally
  have h1 := tal1_len ks ps
  have h2 := tal3_len (tal1 ks ps) rf
  rw [List.take_of_length_le (by omega)]
  exact tal3_ref _ rf i h
theorem tally_len {ps : List En} {rf : List Id} {ks : List Ms} : (tally ps rf ks).length ≤ 16 := by
  unfold tally
  rw [List.length_take]
  omega
end PM
set_option maxRecDepth 100000 in
set_option maxHeartbeats 16000000 in
theorem voteSound_walkA (pa : Option Addr) (pn pc : Nat) (ra_ : Option Addr) (rn rc_ : Nat) (ka : Option Addr) (kn kc : Nat) (ps : List PM.En) (rf : List PM.Id) (ks : List PM.Ms) (w : World) (hv0 : PM.EnL w (.slice pa pn pc) ps) (hv1 : PM.EM PM.idL 3 w (.slice ra_ rn rc_) rf) (hv2 : PM.MsL w (.slice ka kn kc) ks) :
    Calls Try.prog 5 #[.slice pa pn pc, .slice ra_ rn rc_, .slice ka kn kc] w fun e w' => e = .returned (.bool true) ∧ Below w.heap.size w w' := by
  have hPN : pn = ps.length := by
    obtain ⟨a, c, h⟩ := hv0.len
    injection h
  have hRN : rn = rf.length := by
    obtain ⟨a, c, h⟩ := hv1.len
    injection h
  have hKN : kn = ks.length := by
    obtain ⟨a, c, h⟩ := hv2.len
    injection h
  have hPNh := PM.hid hPN
  have hRNh := PM.hid hRN
  have hKNh := PM.hid hKN
  clear hPN hRN hKN
  have hv0h := PM.hid hv0
  have hv1h := PM.hid hv1
  have hv2h := PM.hid hv2
  have hb0 := hv0.bound
  unfold maxLen at hb0
  rw [← hPNh.out] at hb0
  have hb1 := hv1.bound
  unfold maxLen at hb1
  rw [← hRNh.out] at hb1
  clear hv0 hv1 hv2
  go_enter Try.func5, Try.ntmps5
  go_wp2_with fail
  refine (awake18_any w).mono ?_
  rintro e w1 ⟨rfl, hBn⟩
  have hBB := PM.hid hBn
  clear hBn
  go_wp2_with fail
  refine (few18_any 0 none 0 0 pa pn pc none 0 0 (.slice ka kn kc) [] ps ks w1 (PM.RR.nil _) (PM.EnL.keep hv0h.out hBB.out) (PM.MsL.keep hv2h.out hBB.out)).mono ?_
  rintro e w2 ⟨hF, hBn⟩
  replace hBB := PM.hid (PM.chain hBB.out hBn)
  clear hBn
  rcases hF with ⟨rfl, -, hF1, -, hF3, hF4⟩ | rfl
  case inr =>
    go_wp2_with fail
    go_ret
    exact ⟨by first | rfl | simp, hBB.out⟩
  have hk6 : kn ≤ 6 := by rw [hKNh.out]; exact hF3
  have hF4h := PM.hid hF4
  clear hF1 hF3 hF4
  by_cases h4 : rn ≤ 4
  case neg =>
    have q : decide ((4 : Int) < (rn : Int)) = true := by simp; omega
    have q' : (4 : Int) < (rn : Int) := by omega
    go_wp2_with fail
    go_ret
    exact ⟨by first | rfl | simp, hBB.out⟩
  have q : decide ((4 : Int) < (rn : Int)) = false := by simp; omega
  have q' : ¬ (4 : Int) < (rn : Int) := by omega
  by_cases h10 : pn ≤ 10
  case neg =>
    have p : decide ((10 : Int) < (pn : Int)) = true := by simp; omega
    have p' : (10 : Int) < (pn : Int) := by omega
    go_wp2_with fail
    go_ret
    exact ⟨by first | rfl | simp, hBB.out⟩
  have p : decide ((10 : Int) < (pn : Int)) = false := by simp; omega
  have p' : ¬ (10 : Int) < (pn : Int) := by omega
  have ht := tally_any (.slice pa pn pc) (.slice ra_ rn rc_) (.slice ka kn kc) ps rf ks w2 (PM.EnL.keep hv0h.out hBB.out) (hv1h.out.keep hBB.out) (PM.MsL.keep hv2h.out hBB.out) (by rw [← hPNh.out]; omega) (by rw [← hRNh.out]; omega)
  go_wp2_with fail
  refine ht.mono ?_
  clear ht q q' p p'
  rintro e w7 ⟨u, rfl, hu, hBn⟩
  replace hBB := PM.hid (PM.chain hBB.out hBn)
  clear hBn
  have hyes := PM.hid (fun (v : PM.Vo) (h : v ∈ PM.tally ps rf ks) (hy : v.yes = true) => PM.tally_yes h hy)
  have href := PM.hid (fun (i : PM.Id) (h : i ∈ rf) => PM.tally_ref (ps := ps) (ks := ks) (by rw [← hPNh.out, ← hRNh.out]; omega) h)
  have hQl := PM.tally_len (ps := ps) (rf := rf) (ks := ks)
  obtain ⟨q, hq⟩ : ∃ t, t = PM.tally ps rf ks := ⟨_, rfl⟩
  rw [← hq] at hyes href hu hQl
  clear hq
  replace hu := hu.em PM.voL_len
  obtain ⟨la, lc, hre⟩ := hu.len
  subst hre
  obtain ⟨Q, hQ⟩ : ∃ t, t = q.length := ⟨_, rfl⟩
  rw [← hQ] at hu hQl ⊢
  have hQh := PM.hid hQ
  have hrh := PM.hid hu
  clear hQ hu
  go_wp2_with fail
  go_loopw [9] (fun i wr => ∃ k : Nat, i = .int .i64 k ∧ k ≤ Q ∧ Below w7.heap.size w7 wr) (fun i _ => Q - (intOf i).toNat)
  case atStart => exact ⟨0, rfl, by omega, Below.refl _ _⟩
  case round =>
    obtain ⟨k, rfl, hk, hB⟩ := hrel
    have hBk := PM.hid hB
    clear hB
    obtain ⟨wr0, hwr0⟩ : ∃ W, W = wr := ⟨_, rfl⟩
    rw [← hwr0] at hBk ⊢
    clear hwr0
    by_cases hlt : k < Q
    · obtain ⟨v, hv⟩ : ∃ t, q[k]? = some t := ⟨q[k]'(by rw [← hQh.out]; exact hlt), List.getElem?_eq_getElem _⟩
      obtain ⟨rb, ro, rc', re, -, -, rce⟩ := PM.EM.open1 hrh.out (by rw [← hQh.out]; omega)
      injection re with re1 re2 re3
      subst re1
      have hxl := PM.hid (rce k v hv)
      have hvh := PM.hid hv
      clear hv rce re2 re3
      have v3 : wr0.cell? ⟨rb, ro + k * 4 + 3, none⟩ = some (.bool v.yes) := (hxl.out.keep hBk.out) 3 _ rfl
      cases hvy : v.yes
      · rw [hvy] at v3
        clear hvy
        go_wp2_with fail
        exact ⟨⟨k + 1, by go_num, by omega, hBk.out⟩, by simp only [intOf]; omega⟩
      rw [hvy] at v3
      have hxm := PM.hid (hyes.out v (List.mem_of_getElem? hvh.out) hvy)
      clear hvy
      go_wp2_with fail
      clear v3
      go_loopw [10, 11] (fun b j wr => ∃ J : Nat, j = .int .i64 J ∧ J ≤ pn ∧ b = .bool ((ps.take J).any (PM.isId v.id)) ∧ Below wr0.heap.size wr0 wr) (fun _ j _ => pn - (intOf j).toNat)
      case atStart => exact ⟨0, rfl, by omega, rfl, Below.refl _ _⟩
      case round =>
        obtain ⟨J, rfl, hJ, rfl, hB⟩ := hrel
        have hBh := PM.hid hB
        clear hB
        obtain ⟨wr2, hwr2⟩ : ∃ W, W = wr := ⟨_, rfl⟩
        rw [← hwr2] at hBh ⊢
        clear hwr2
        have hb2 := PM.hid (PM.chain hBk.out hBh.out)
        have hl1 := hxl.out.keep hb2.out
        have v0 : wr2.cell? ⟨rb, ro + k * 4, none⟩ = some (.int .i64 v.id.br) := hl1 0 _ rfl
        have v1 : wr2.cell? ⟨rb, ro + k * 4 + 1, none⟩ = some (.int .u64 (v.id.life : Int)) := hl1 1 _ rfl
        have v2 : wr2.cell? ⟨rb, ro + k * 4 + 2, none⟩ = some (.int .u64 (v.id.ser : Int)) := hl1 2 _ rfl
        clear hl1
        by_cases hltJ : J < pn
        · obtain ⟨o, oz⟩ : ∃ z, ps[J]? = some z := ⟨ps[J]'(by rw [← hPNh.out]; first | exact hltJ | omega), List.getElem?_eq_getElem _⟩
          obtain ⟨ob, oo, oe, oc⟩ := PM.RR.opn hv0h.out (by rw [← hPNh.out]; first | exact hltJ | omega)
          subst oe
          obtain ⟨ocs, ol, oR⟩ := oc J o oz
          obtain ⟨_, _, _, _, oh, -, -⟩ := PM.enR_open oR
          rw [oh] at ol
          replace ol := ol.keep (PM.chain hBB.out hb2.out)
          have o0 : wr2.cell? ⟨ob, oo + J * 8 + 1, none⟩ = some (.int .i64 o.id.br) := ol 1 _ rfl
          have o1 : wr2.cell? ⟨ob, oo + J * 8 + 2, none⟩ = some (.int .u64 (o.id.life : Int)) := ol 2 _ rfl
          have o2 : wr2.cell? ⟨ob, oo + J * 8 + 3, none⟩ = some (.int .u64 (o.id.ser : Int)) := ol 3 _ rfl
          clear oc ol oR oh ocs
          have hq := ideq_run o.id v.id
          have hoh := PM.hid oz
          clear oz
          have hsn : Hid (((ps.take (J + 1)).any (PM.isId v.id)) = (((ps.take J).any (PM.isId v.id)) || decide (o.id = v.id))) := PM.hid (by rw [PM.take_at hoh.out, List.any_append]; simp [PM.isId])
          cases hfl : ((ps.take J).any (PM.isId v.id))
          · have hflh := PM.hid hfl
            clear hfl
            cases heq : decide (o.id = v.id)
            all_goals
              rw [heq] at hq
              have heqh := PM.hid heq
              clear heq
              go_upto_region 13 with fail
              go_region
              clear hq o0 o1 o2 v0 v1 v2
              go_wp2_with fail
              exact ⟨⟨J + 1, by go_num, by omega, by rw [hsn.out, hflh.out, heqh.out]; rfl, hBh.out.drew⟩, by simp only [intOf]; omega⟩
          · have hflh := PM.hid hfl
            clear hfl hq
            go_upto_region 13 with fail
            go_region
            clear o0 o1 o2 v0 v1 v2
            go_wp2_with fail
            exact ⟨⟨J + 1, by go_num, by omega, by rw [hsn.out, hflh.out]; rfl, hBh.out.drew⟩, by simp only [intOf]; omega⟩
        · obtain rfl : J = pn := by omega
          have hany : ((ps.take J).any (PM.isId v.id)) = true := by
            rw [show ps.take J = ps from by rw [hPNh.out]; exact List.take_length]
            exact PM.hasE_iff.2 hxm.out.1
          rw [hany]
          clear hany
          have hsy := says_any (.slice ka kn kc) v.id ks wr2 (PM.MsL.keep hv2h.out (PM.chain hBB.out hb2.out))
          rw [hxm.out.2] at hsy
          go_wp2_with fail
          refine hsy.mono ?_
          clear hsy v0 v1 v2
          rintro e wr3 ⟨rfl, hBn⟩
          have hb3 := PM.hid (PM.chain hb2.out hBn)
          clear hBn
          go_wp2_with fail
          exact ⟨⟨k + 1, by go_num, by omega, hb3.out⟩, by simp only [intOf]; omega⟩
    · obtain rfl : k = Q := by omega
      go_wp2_with fail
      go_loopw [12] (fun i wr => ∃ K : Nat, i = .int .i64 K ∧ K ≤ kn ∧ Below w7.heap.size w7 wr) (fun i _ => kn - (intOf i).toNat)
      case atStart => exact ⟨0, rfl, by omega, hBk.out⟩
      case round =>
        obtain ⟨K, rfl, hK, hB⟩ := hrel
        have hBK := PM.hid hB
        clear hB
        obtain ⟨wr4, hwr4⟩ : ∃ W, W = wr := ⟨_, rfl⟩
        rw [← hwr4] at hBK ⊢
        clear hwr4
        by_cases hltK : K < kn
        · obtain ⟨m, hm⟩ : ∃ t, ks[K]? = some t := ⟨ks[K]'(by rw [← hKNh.out]; exact hltK), List.getElem?_eq_getElem _⟩
          obtain ⟨kb, ko, rfl, kce⟩ := PM.RR.opn hv2h.out (by rw [← hKNh.out]; omega)
          obtain ⟨cs, hl0, hR⟩ := kce K m hm
          obtain ⟨b0, e0, b1, e1, b2, e2, b3, e3, b4, e4, b5, e5, hcs, hvo, -⟩ := PM.msR_open hR
          rw [hcs] at hl0
          have hm2 : w.cell? ⟨kb, ko + K * 8 + 2, none⟩ = some (.slice b0 m.votes.length e0) := hl0 2 _ rfl
          have hmm := PM.hid (List.mem_of_getElem? hm)
          have hmf := PM.hid (hF4h.out m hmm.out).2.2.2.1
          have hm2h := PM.hid hm2
          have hvoh := PM.hid hvo
          clear hm hl0 hR hcs cs hm2 hvo kce
          obtain ⟨VN, hVN⟩ : ∃ t, t = m.votes.length := ⟨_, rfl⟩
          rw [← hVN] at hm2h hvoh hmf
          have hVNh := PM.hid hVN
          have hV50 : VN ≤ 50 := hmf.out
          clear hVN
          go_wp2_with fail
          go_loopw [13] (fun j wr => ∃ J : Nat, j = .int .i64 J ∧ J ≤ VN ∧ Below w7.heap.size w7 wr) (fun j _ => VN - (intOf j).toNat)
          case atStart => exact ⟨0, rfl, by omega, hBK.out⟩
          case round =>
            obtain ⟨J, rfl, hJ, hB⟩ := hrel
            have hBJ := PM.hid hB
            clear hB
            obtain ⟨wr5, hwr5⟩ : ∃ W, W = wr := ⟨_, rfl⟩
            rw [← hwr5] at hBJ ⊢
            clear hwr5
            have d2 : wr5.cell? ⟨kb, ko + K * 8 + 2, none⟩ = some (.slice b0 VN e0) := PM.cellA (PM.chain hBB.out hBJ.out) hm2h.out
            by_cases hltJ : J < VN
            · obtain ⟨y, hy⟩ : ∃ t, m.votes[J]? = some t := ⟨m.votes[J]'(by rw [← hVNh.out]; exact hltJ), List.getElem?_eq_getElem _⟩
              obtain ⟨yb, yo, yc', ye, -, -, yce⟩ := PM.EM.open1 hvoh.out (by rw [← hVNh.out]; omega)
              injection ye with ye1 ye2 ye3
              subst ye1
              have hl0 := (yce J y hy).keep (PM.chain hBB.out hBJ.out)
              have y0 : wr5.cell? ⟨yb, yo + J * 4, none⟩ = some (.int .i64 y.id.br) := hl0 0 _ rfl
              have y1 : wr5.cell? ⟨yb, yo + J * 4 + 1, none⟩ = some (.int .u64 (y.id.life : Int)) := hl0 1 _ rfl
              have y2 : wr5.cell? ⟨yb, yo + J * 4 + 2, none⟩ = some (.int .u64 (y.id.ser : Int)) := hl0 2 _ rfl
              have y3 : wr5.cell? ⟨yb, yo + J * 4 + 3, none⟩ = some (.bool y.yes) := hl0 3 _ rfl
              have hyh := PM.hid (List.mem_of_getElem? hy)
              clear hy yce hl0 ye2 ye3
              go_upto_region 23 with fail
              obtain ⟨gx, hgx⟩ : ∃ g, g = wr5.heap.size := ⟨_, rfl⟩
              obtain ⟨w8, hw8⟩ : ∃ W, W = wr5.alloc (.cells #[.int .i64 y.id.br, .int .u64 (y.id.life : Int), .int .u64 (y.id.ser : Int), .bool y.yes] 45) := ⟨_, rfl⟩
              have hBn : Below wr5.heap.size wr5 w8 := by rw [hw8]; exact (Below.refl _ _).alloc (Nat.le_refl _) _
              have kx : PM.BK w8 gx #[.int .i64 y.id.br, .int .u64 (y.id.life : Int), .int .u64 (y.id.ser : Int), .bool y.yes] 45 := by rw [hw8, hgx]; exact PM.BK.new _ _ _
              rw [← hw8, ← hgx]
              clear hw8 hgx
              clear y0 y1 y2 y3 d2
              have hB8 := PM.hid (PM.chain hBJ.out hBn)
              clear hBn
              have x0 : w8.cell? ⟨gx, 0, none⟩ = some (.int .i64 y.id.br) := kx.cell 0
              have x1 : w8.cell? ⟨gx, 1, none⟩ = some (.int .u64 (y.id.life : Int)) := kx.cell 1
              have x2 : w8.cell? ⟨gx, 2, none⟩ = some (.int .u64 (y.id.ser : Int)) := kx.cell 2
              have x3 : w8.cell? ⟨gx, 3, none⟩ = some (.bool y.yes) := kx.cell 3
              clear kx
              cases hyy : y.yes
              · rw [hyy] at x3
                have hsy := says_any (.slice (some ⟨kb, ko, none⟩) kn kc) y.id ks w8 (PM.MsL.keep hv2h.out (PM.chain hBB.out hB8.out))
                rw [PM.says_no hmm.out hyh.out hyy] at hsy
                clear hyy
                go_wp2_with fail
                refine hsy.mono ?_
                clear hsy x0 x1 x2 x3
                rintro e w9 ⟨rfl, hBn⟩
                have hb9 := PM.hid (PM.chain hB8.out hBn)
                clear hBn
                go_wp2_with fail
                exact ⟨⟨J + 1, by go_num, by omega, hb9.out⟩, by simp only [intOf]; omega⟩
              · rw [hyy] at x3
                clear hyy
                go_wp2_with fail
                exact ⟨⟨J + 1, by go_num, by omega, hB8.out⟩, by simp only [intOf]; omega⟩
            · obtain rfl : J = VN := by omega
              go_wp2_with fail
              exact ⟨⟨K + 1, by go_num, by omega, hBJ.out⟩, by simp only [intOf]; omega⟩
        · obtain rfl : K = kn := by omega
          go_wp2_with fail
          go_loopw [15] (fun i wr => ∃ I : Nat, i = .int .i64 I ∧ I ≤ rn ∧ Below w7.heap.size w7 wr) (fun i _ => rn - (intOf i).toNat)
          case atStart => exact ⟨0, rfl, by omega, hBK.out⟩
          case round =>
            obtain ⟨I, rfl, hI, hB⟩ := hrel
            have hBI := PM.hid hB
            clear hB
            obtain ⟨wr6, hwr6⟩ : ∃ W, W = wr := ⟨_, rfl⟩
            rw [← hwr6] at hBI ⊢
            clear hwr6
            by_cases hltI : I < rn
            · obtain ⟨t, ht⟩ : ∃ t, rf[I]? = some t := ⟨rf[I]'(by rw [← hRNh.out]; exact hltI), List.getElem?_eq_getElem _⟩
              obtain ⟨tb, to_, tc', te, -, -, tce⟩ := PM.EM.open1 hv1h.out (by rw [← hRNh.out]; omega)
              injection te with te1 te2 te3
              subst te1
              have htl := PM.hid (tce I t ht)
              have htm := PM.hid (href.out t (List.mem_of_getElem? ht))
              clear ht tce te2 te3
              go_wp2_with fail
              go_loopw [16, 17] (fun b j wr => ∃ J : Nat, j = .int .i64 J ∧ J ≤ k ∧ b = .bool ((q.take J).any fun v => decide (v.id = t)) ∧ Below w7.heap.size w7 wr) (fun _ j _ => k - (intOf j).toNat)
              case atStart => exact ⟨0, rfl, by omega, rfl, hBI.out⟩
              case round =>
                obtain ⟨J, rfl, hJ, rfl, hB⟩ := hrel
                have hBh := PM.hid hB
                clear hB
                obtain ⟨wr7, hwr7⟩ : ∃ W, W = wr := ⟨_, rfl⟩
                rw [← hwr7] at hBh ⊢
                clear hwr7
                have hl1 := htl.out.keep (PM.chain hBB.out hBh.out)
                have t0 : wr7.cell? ⟨tb, to_ + I * 3, none⟩ = some (.int .i64 t.br) := hl1 0 _ rfl
                have t1 : wr7.cell? ⟨tb, to_ + I * 3 + 1, none⟩ = some (.int .u64 (t.life : Int)) := hl1 1 _ rfl
                have t2 : wr7.cell? ⟨tb, to_ + I * 3 + 2, none⟩ = some (.int .u64 (t.ser : Int)) := hl1 2 _ rfl
                clear hl1
                by_cases hltJ : J < k
                · obtain ⟨v, hv⟩ : ∃ t, q[J]? = some t := ⟨q[J]'(by rw [← hQh.out]; exact hltJ), List.getElem?_eq_getElem _⟩
                  obtain ⟨rb, ro, rc', re, -, -, rce⟩ := PM.EM.open1 hrh.out (by rw [← hQh.out]; omega)
                  injection re with re1 re2 re3
                  subst re1
                  have hl0 := (rce J v hv).keep hBh.out
                  have v0 : wr7.cell? ⟨rb, ro + J * 4, none⟩ = some (.int .i64 v.id.br) := hl0 0 _ rfl
                  have v1 : wr7.cell? ⟨rb, ro + J * 4 + 1, none⟩ = some (.int .u64 (v.id.life : Int)) := hl0 1 _ rfl
                  have v2 : wr7.cell? ⟨rb, ro + J * 4 + 2, none⟩ = some (.int .u64 (v.id.ser : Int)) := hl0 2 _ rfl
                  have hq := ideq_run v.id t
                  have hsn : Hid (((q.take (J + 1)).any fun v => decide (v.id = t)) = (((q.take J).any fun v => decide (v.id = t)) || decide (v.id = t))) := PM.hid (by rw [PM.take_at hv, List.any_append]; simp)
                  clear hv rce hl0 re2 re3
                  cases hfl : ((q.take J).any fun v => decide (v.id = t))
                  · have hflh := PM.hid hfl
                    clear hfl
                    cases heq : decide (v.id = t)
                    all_goals
                      rw [heq] at hq
                      have heqh := PM.hid heq
                      clear heq
                      go_upto_region 32 with fail
                      go_region
                      clear hq t0 t1 t2 v0 v1 v2
                      go_wp2_with fail
                      exact ⟨⟨J + 1, by go_num, by omega, by rw [hsn.out, hflh.out, heqh.out]; rfl, hBh.out.drew⟩, by simp only [intOf]; omega⟩
                  · have hflh := PM.hid hfl
                    clear hfl hq
                    go_upto_region 32 with fail
                    go_region
                    clear t0 t1 t2 v0 v1 v2
                    go_wp2_with fail
                    exact ⟨⟨J + 1, by go_num, by omega, by rw [hsn.out, hflh.out]; rfl, hBh.out.drew⟩, by simp only [intOf]; omega⟩
                · obtain rfl : J = k := by omega
                  have hany : ((q.take J).any fun v => decide (v.id = t)) = true := by
                    rw [show q.take J = q from by rw [hQh.out]; exact List.take_length, List.any_eq_true]
                    obtain ⟨v, hv1, hv2⟩ := htm.out
                    exact ⟨v, hv1, by simp [hv2]⟩
                  rw [hany]
                  clear hany t0 t1 t2
                  go_wp2_with fail
                  exact ⟨⟨I + 1, by go_num, by omega, hBh.out⟩, by simp only [intOf]; omega⟩
            · obtain rfl : I = rn := by omega
              have hBf := PM.hid (PM.chain hBB.out hBI.out)
              go_wp2_with fail
              go_ret
              exact ⟨by first | rfl | simp, hBf.out⟩
theorem voteSound_walk (u0 : Value) (ps : List PM.En) (u1 : Value) (rf : List PM.Id) (u2 : Value) (ks : List PM.Ms) (w : World) (hv0 : PM.EnL w u0 ps) (hv1 : PM.EM PM.idL 3 w u1 rf) (hv2 : PM.MsL w u2 ks) :
    Calls Try.prog 5 #[u0, u1, u2] w fun e w' => e = .returned (.bool true) ∧ Below w.heap.size w w' := by
  obtain ⟨a0, c0, rfl⟩ := hv0.len
  obtain ⟨a1, c1, rfl⟩ := hv1.len
  obtain ⟨a2, c2, rfl⟩ := hv2.len
  exact voteSound_walkA a0 _ c0 a1 _ c1 a2 _ c2 ps rf ks w hv0 hv1 hv2
end Go.Proofs.Ytjninckmgkaliaa
