/-
  THE WALK OF EntryApart.
-/
import Derived.Test.YtklgibkdbdhaiaaJx
namespace Go.Proofs.Ytklgibkdbdhaiaa
open Go.RowKit
set_option linter.unusedVariables false
set_option linter.unusedSimpArgs false
theorem PM.Bx.drew' {b : Nat} {x y : World} (h : PM.Bx b x y) : PM.Bx b x y.drew := ⟨h.os, h.tape, h.output, h.size, h.block⟩
theorem PM.BK.drew' {w : World} {b : Nat} {cs : Array Value} {T : TypeId} (h : PM.BK w b cs T) : PM.BK w.drew b cs T := h
theorem PM.BK.see {w : World} {b : Nat} {cs cs' : Array Value} {T : TypeId} (h : PM.BK w b cs T) (he : cs = cs') : PM.BK w b cs' T := he ▸ h
set_option maxRecDepth 100000 in
set_option maxHeartbeats 16000000 in
theorem entryApart_walk (x : PM.En) (fx ex : Value) (ia il_ ir_ cl n : Int) (hx : x.wf) (hia : (Lit.int .i64 ia).wf = true) (hil : (Lit.int .u64 il_).wf = true) (hir : (Lit.int .u64 ir_).wf = true) (hcl : (Lit.int .i64 cl).wf = true) (hn : (Lit.int .i64 n).wf = true) (w : World) (hfx : PM.TV w fx x.fil) (hex : PM.EVL w ex x.evs) :
    Calls Try.prog 7 #[.agg (PM.enC x fx ex).toArray, .agg #[.int .i64 ia, .int .u64 il_, .int .u64 ir_], .int .i64 cl, .int .i64 n] w fun e w' => e = .returned (.bool true) ∧ Below w.heap.size w w' := by
  obtain ⟨il, rfl, hil'⟩ : ∃ k : Nat, il_ = (k : Int) ∧ k < 2 ^ 64 := ⟨il_.toNat, by have := Go.bounds_u64 hil; omega, by have := Go.bounds_u64 hil; omega⟩
  obtain ⟨ir, rfl, hir'⟩ : ∃ k : Nat, ir_ = (k : Int) ∧ k < 2 ^ 64 := ⟨ir_.toNat, by have := Go.bounds_u64 hir; omega, by have := Go.bounds_u64 hir; omega⟩
  obtain ⟨hn1, hn2⟩ := Go.bounds_i64 hn
  obtain ⟨X, hX⟩ : ∃ X, X = x := ⟨_, rfl⟩
  obtain ⟨Y, hY⟩ : ∃ X : PM.En, X = ⟨x.kind, ⟨ia, il, ir⟩, cl, x.sub, x.fil, x.evs⟩ := ⟨_, rfl⟩
  have hyw : PM.En.wf ⟨x.kind, ⟨ia, il, ir⟩, cl, x.sub, x.fil, x.evs⟩ := ⟨hx.1, ⟨hia, hil', hir'⟩, hcl, hx.2.2.2⟩
  have hfwx : ∀ W : World, Below w.heap.size w W → Calls Try.prog 10 #[.agg (PM.enC x fx ex).toArray] W fun e w' => (∃ b, e = .returned (.bool b)) ∧ Below W.heap.size W w' := fun W hb => few11_any x fx ex W (hfx.keep hb) (hex.keep hb)
  have hckx : ∀ W : World, Below w.heap.size w W → Calls Try.prog 17 #[.agg (PM.enC x fx ex).toArray] W fun e w' => e = .returned (.int .i64 (PM.enE X)) ∧ Below W.heap.size W w' := fun W hb => by rw [hX]; exact encheck_any x fx ex W hx (hfx.keep hb) (hex.keep hb)
  have henx : ∀ W : World, Below w.heap.size w W → Calls Try.prog 11 #[.agg (PM.enC x fx ex).toArray] W (RetEN W X) := fun W hb => by rw [hX]; exact enencode_any x fx ex W hx (hfx.keep hb) (hex.keep hb)
  have heny : ∀ W : World, Below w.heap.size w W → Calls Try.prog 11 #[.agg (PM.enC ⟨x.kind, ⟨ia, il, ir⟩, cl, x.sub, x.fil, x.evs⟩ fx ex).toArray] W (RetEN W Y) := fun W hb => by rw [hY]; exact enencode_any _ fx ex W hyw (hfx.keep hb) (hex.keep hb)
  have hinj : Hid (PM.enOk X → PM.enOk Y → PM.enB X = PM.enB Y → X = Y) := PM.hid fun p q he => by
    have a := PM.decEn_enc (x := X) (by rw [hX]; exact hx) p
    rw [he, PM.decEn_enc (x := Y) (by rw [hY]; exact hyw) q] at a
    injection a with a
    exact a.symm
  have heq : Hid (X = Y ↔ (⟨ia, il, ir⟩ : PM.Id) = x.id ∧ cl = x.client) := PM.hid (by
    rw [hX, hY]
    obtain ⟨k, i, c, s, f, e⟩ := x
    simp only [PM.En.mk.injEq, true_and, and_true]
    exact ⟨fun ⟨h1, h2⟩ => ⟨h1.symm, h2.symm⟩, fun ⟨h1, h2⟩ => ⟨h1.symm, h2.symm⟩⟩)
  have hcut : ∀ K : Nat, K ≤ x.evs.length → ∃ ta tk, (∀ W : World, (Instr.slice 28 ex none (some (.int .i64 (K : Int))) none).run Try.prog W = .ok (.slice ta K tk) W) ∧ (PM.enOk X → ∀ W : World, Below w.heap.size w W → Calls Try.prog 17 #[.agg (PM.enC ⟨x.kind, x.id, x.client, x.sub, x.fil, x.evs.take K⟩ fx (.slice ta K tk)).toArray] W fun e w' => e = .returned (.int .i64 0) ∧ Below W.heap.size W w') := fun K hK => by
    obtain ⟨ta, tk, h1, h2⟩ := PM.RR.take evTy hex hK
    refine ⟨ta, tk, h1, fun hok W hb => ?_⟩
    have hz : PM.En.wf ⟨x.kind, x.id, x.client, x.sub, x.fil, x.evs.take K⟩ := ⟨hx.1, hx.2.1, hx.2.2.1, hx.2.2.2.1, hx.2.2.2.2.1, fun e he => hx.2.2.2.2.2 e (List.mem_of_mem_take he)⟩
    have hokz : PM.enOk ⟨x.kind, x.id, x.client, x.sub, x.fil, x.evs.take K⟩ := by
      rw [hX] at hok
      obtain ⟨q1, q2, q3⟩ := hok
      refine ⟨q1, q2, ?_⟩
      rcases q3 with ⟨a, b, c, d, e⟩ | ⟨a, b, c⟩ | ⟨a, b, c⟩
      · exact .inl ⟨a, b, c, by simp only [List.length_take]; omega, fun e' he => e e' (List.mem_of_mem_take he)⟩
      · exact .inr (.inl ⟨a, b, by simp only [c, List.take_nil]⟩)
      · exact .inr (.inr ⟨a, by simp only [b, List.take_nil], c⟩)
    refine (encheck_any _ fx _ W hz (hfx.keep hb) ((show PM.EVL w (.slice ta K tk) (x.evs.take K) from h2).keep hb)).mono ?_
    rintro e w' ⟨rfl, hb'⟩
    exact ⟨by rw [PM.enE_yes hokz], hb'⟩
  have hl8 : Hid (PM.enOk X → x.evs.length ≤ 8) := PM.hid (by
    rw [hX]
    rintro ⟨-, -, ⟨-, -, -, h, -⟩ | ⟨-, -, h⟩ | ⟨-, h, -⟩⟩
    · exact h
    · rw [h]; decide
    · rw [h]; decide)
  clear hX hY hyw
  obtain ⟨afa, afc, h1⟩ := hfx.len
  obtain ⟨aea, aec, h2⟩ := hex.len
  subst h1 h2
  clear hfx hex hx hia hil hir hil' hir' hcl hn
  obtain ⟨ak, ⟨ab, al, ar⟩, ac, au, af, ae⟩ := x
  unfold PM.enC at hfwx hckx henx heny hcut ⊢
  simp only at hfwx hckx henx heny hcut heq hl8 ⊢
  generalize af.length = aF at *
  generalize ae.length = aL at *
  have hideq := ideq_run ⟨ia, il, ir⟩ ⟨ab, al, ar⟩
  simp only at hideq
  replace hideq := PM.hid hideq
  replace hcut := PM.hid hcut
  replace henx := PM.hid henx
  replace heny := PM.hid heny
  replace hckx := PM.hid hckx
  replace hfwx := PM.hid hfwx
  obtain ⟨ga, hga⟩ : ∃ g, g = w.heap.size := ⟨_, rfl⟩
  obtain ⟨gb, hgb⟩ : ∃ g, g = w.heap.size + 1 := ⟨_, rfl⟩
  obtain ⟨w1, hw1⟩ : ∃ W, W = w.alloc (.cells #[.int .i64 ak, .int .i64 ab, .int .u64 (al : Int), .int .u64 (ar : Int), .int .i64 ac, .int .u64 (au : Int), .slice afa aF afc, .slice aea aL aec] 30) := ⟨_, rfl⟩
  obtain ⟨w2, hw2⟩ : ∃ W, W = w1.alloc (.cells #[.int .i64 ia, .int .u64 (il : Int), .int .u64 (ir : Int)] 25) := ⟨_, rfl⟩
  have hs1 : w1.heap.size = w.heap.size + 1 := by rw [hw1]; simp
  have hal : Below w.heap.size w w1 := by rw [hw1]; exact (Below.refl _ _).alloc (Nat.le_refl _) _
  have hal2 : Below w1.heap.size w1 w2 := by rw [hw2]; exact (Below.refl _ _).alloc (Nat.le_refl _) _
  have ka : PM.BK w1 ga #[.int .i64 ak, .int .i64 ab, .int .u64 (al : Int), .int .u64 (ar : Int), .int .i64 ac, .int .u64 (au : Int), .slice afa aF afc, .slice aea aL aec] 30 := by rw [hw1, hga]; exact PM.BK.new _ _ _
  replace ka := ka.keep hal2
  have kb : PM.BK w2 gb #[.int .i64 ia, .int .u64 (il : Int), .int .u64 (ir : Int)] 25 := by rw [hw2, hgb, ← hs1]; exact PM.BK.new _ _ _
  have hBB := PM.hid (PM.chain hal hal2)
  clear hal hal2 hs1
  go_enter Try.func7, Try.ntmps7
  go_upto_region 1 with fail
  rw [← hw1, ← hw2, ← hgb, ← hga]
  clear hw1 hw2 hga hgb
  go_wp2_with fail
  refine (awake11_any w2).mono ?_
  rintro e w3 ⟨rfl, hBn⟩
  replace ka := ka.keep hBn
  replace kb := kb.keep hBn
  replace hBB := PM.hid (PM.chain hBB.out hBn)
  clear hBn
  have c0 : w3.cell? ⟨ga, 0, none⟩ = some (.int .i64 ak) := ka.cell 0
  have c1 : w3.cell? ⟨ga, 1, none⟩ = some (.int .i64 ab) := ka.cell 1
  have c2 : w3.cell? ⟨ga, 2, none⟩ = some (.int .u64 (al : Int)) := ka.cell 2
  have c3 : w3.cell? ⟨ga, 3, none⟩ = some (.int .u64 (ar : Int)) := ka.cell 3
  have c4 : w3.cell? ⟨ga, 4, none⟩ = some (.int .i64 ac) := ka.cell 4
  have c5 : w3.cell? ⟨ga, 5, none⟩ = some (.int .u64 (au : Int)) := ka.cell 5
  have c6 : w3.cell? ⟨ga, 6, none⟩ = some (.slice afa aF afc) := ka.cell 6
  have c7 : w3.cell? ⟨ga, 7, none⟩ = some (.slice aea aL aec) := ka.cell 7
  go_wp2_with fail
  refine (hfwx.out w3 hBB.out).mono ?_
  rintro e w4 ⟨⟨fb, rfl⟩, hBn⟩
  clear c0 c1 c2 c3 c4 c5 c6 c7
  replace ka := ka.keep hBn
  replace kb := kb.keep hBn
  replace hBB := PM.hid (PM.chain hBB.out hBn)
  clear hBn
  have c0 : w4.cell? ⟨ga, 0, none⟩ = some (.int .i64 ak) := ka.cell 0
  have c1 : w4.cell? ⟨ga, 1, none⟩ = some (.int .i64 ab) := ka.cell 1
  have c2 : w4.cell? ⟨ga, 2, none⟩ = some (.int .u64 (al : Int)) := ka.cell 2
  have c3 : w4.cell? ⟨ga, 3, none⟩ = some (.int .u64 (ar : Int)) := ka.cell 3
  have c4 : w4.cell? ⟨ga, 4, none⟩ = some (.int .i64 ac) := ka.cell 4
  have c5 : w4.cell? ⟨ga, 5, none⟩ = some (.int .u64 (au : Int)) := ka.cell 5
  have c6 : w4.cell? ⟨ga, 6, none⟩ = some (.slice afa aF afc) := ka.cell 6
  have c7 : w4.cell? ⟨ga, 7, none⟩ = some (.slice aea aL aec) := ka.cell 7
  cases fb
  case false =>
    go_wp2_with fail
    go_ret
    exact ⟨rfl, hBB.out⟩
  go_wp2_with fail
  refine (hckx.out w4 hBB.out).mono ?_
  rintro e w5 ⟨rfl, hBn⟩
  clear c0 c1 c2 c3 c4 c5 c6 c7
  replace ka := ka.keep hBn
  replace kb := kb.keep hBn
  replace hBB := PM.hid (PM.chain hBB.out hBn)
  clear hBn
  by_cases hok : PM.enOk X
  case neg =>
    rw [PM.enE_no hok]
    replace hok := PM.hid hok
    go_wp2_with fail
    go_ret
    exact ⟨rfl, hBB.out⟩
  rw [PM.enE_yes hok]
  replace hok := PM.hid hok
  have c0 : w5.cell? ⟨ga, 0, none⟩ = some (.int .i64 ak) := ka.cell 0
  have c1 : w5.cell? ⟨ga, 1, none⟩ = some (.int .i64 ab) := ka.cell 1
  have c2 : w5.cell? ⟨ga, 2, none⟩ = some (.int .u64 (al : Int)) := ka.cell 2
  have c3 : w5.cell? ⟨ga, 3, none⟩ = some (.int .u64 (ar : Int)) := ka.cell 3
  have c4 : w5.cell? ⟨ga, 4, none⟩ = some (.int .i64 ac) := ka.cell 4
  have c5 : w5.cell? ⟨ga, 5, none⟩ = some (.int .u64 (au : Int)) := ka.cell 5
  have c6 : w5.cell? ⟨ga, 6, none⟩ = some (.slice afa aF afc) := ka.cell 6
  have c7 : w5.cell? ⟨ga, 7, none⟩ = some (.slice aea aL aec) := ka.cell 7
  go_upto_region 5 with fail
  obtain ⟨gy, hgy⟩ : ∃ g, g = w5.heap.size := ⟨_, rfl⟩
  obtain ⟨v1, hv1⟩ : ∃ W, W = w5.alloc (.cells #[.int .i64 ak, .int .i64 ab, .int .u64 (al : Int), .int .u64 (ar : Int), .int .i64 ac, .int .u64 (au : Int), .slice afa aF afc, .slice aea aL aec] 30) := ⟨_, rfl⟩
  have hBn : Below w5.heap.size w5 v1 := by rw [hv1]; exact (Below.refl _ _).alloc (Nat.le_refl _) _
  have ky : PM.BK v1 gy #[.int .i64 ak, .int .i64 ab, .int .u64 (al : Int), .int .u64 (ar : Int), .int .i64 ac, .int .u64 (au : Int), .slice afa aF afc, .slice aea aL aec] 30 := by rw [hv1, hgy]; exact PM.BK.new _ _ _
  have hgey : w.heap.size ≤ gy := by rw [hgy]; exact hBB.out.size
  have hnay : ga ≠ gy := by rw [hgy]; exact Nat.ne_of_lt ka.lt
  rw [← hv1, ← hgy]
  clear hv1 hgy
  clear c0 c1 c2 c3 c4 c5 c6 c7
  replace ka := ka.keep hBn
  replace kb := kb.keep hBn
  replace hBB := PM.hid (PM.chain hBB.out hBn)
  clear hBn
  -- y's ID and client
  have q0 := fun i => PM.BK.free ky i
  have i0 : v1.cell? ⟨gb, 0, none⟩ = some (.int .i64 ia) := kb.cell 0
  have i1 : v1.cell? ⟨gb, 1, none⟩ = some (.int .u64 (il : Int)) := kb.cell 1
  have i2 : v1.cell? ⟨gb, 2, none⟩ = some (.int .u64 (ir : Int)) := kb.cell 2
  have y0 : v1.cell? ⟨gy, 0, none⟩ = some (.int .i64 ak) := ky.cell 0
  have y1 : v1.cell? ⟨gy, 1, none⟩ = some (.int .i64 ab) := ky.cell 1
  have y2 : v1.cell? ⟨gy, 2, none⟩ = some (.int .u64 (al : Int)) := ky.cell 2
  have y3 : v1.cell? ⟨gy, 3, none⟩ = some (.int .u64 (ar : Int)) := ky.cell 3
  have y4 : v1.cell? ⟨gy, 4, none⟩ = some (.int .i64 ac) := ky.cell 4
  have y5 : v1.cell? ⟨gy, 5, none⟩ = some (.int .u64 (au : Int)) := ky.cell 5
  have y6 : v1.cell? ⟨gy, 6, none⟩ = some (.slice afa aF afc) := ky.cell 6
  have y7 : v1.cell? ⟨gy, 7, none⟩ = some (.slice aea aL aec) := ky.cell 7
  go_upto_region 7 with fail
  obtain ⟨v2, hv2⟩ : ∃ W, W = ((((v1.setCell ⟨gy, 1, none⟩ (.int .i64 ia)).setCell ⟨gy, 2, none⟩ (.int .u64 (il : Int))).setCell ⟨gy, 3, none⟩ (.int .u64 (ir : Int))).setCell ⟨gy, 4, none⟩ (.int .i64 cl)) := ⟨_, rfl⟩
  have hx2 : PM.Bx gy v1 v2 := by rw [hv2]; exact (((PM.Bx.set gy 1 _ _).trans (PM.Bx.set gy 2 _ _)).trans (PM.Bx.set gy 3 _ _)).trans (PM.Bx.set gy 4 _ _)
  have ky2 : PM.BK v2 gy #[.int .i64 ak, .int .i64 ia, .int .u64 (il : Int), .int .u64 (ir : Int), .int .i64 cl, .int .u64 (au : Int), .slice afa aF afc, .slice aea aL aec] 30 := by rw [hv2]; exact ((((ky.set 1 _).set 2 _).set 3 _).set 4 _).see (by simp)
  rw [← hv2]
  clear hv2 q0 y0 y1 y2 y3 y4 y5 y6 y7
  replace ka := ka.keepx hx2 hnay
  replace hBB := PM.hid (PM.Bx.below hBB.out hx2 hgey hBB.out.size)
  clear hx2 ky kb i0 i1 i2 hgey hnay
  have ky := ky2
  clear ky2
  have c0 : v2.cell? ⟨ga, 0, none⟩ = some (.int .i64 ak) := ka.cell 0
  have c1 : v2.cell? ⟨ga, 1, none⟩ = some (.int .i64 ab) := ka.cell 1
  have c2 : v2.cell? ⟨ga, 2, none⟩ = some (.int .u64 (al : Int)) := ka.cell 2
  have c3 : v2.cell? ⟨ga, 3, none⟩ = some (.int .u64 (ar : Int)) := ka.cell 3
  have c4 : v2.cell? ⟨ga, 4, none⟩ = some (.int .i64 ac) := ka.cell 4
  have c5 : v2.cell? ⟨ga, 5, none⟩ = some (.int .u64 (au : Int)) := ka.cell 5
  have c6 : v2.cell? ⟨ga, 6, none⟩ = some (.slice afa aF afc) := ka.cell 6
  have c7 : v2.cell? ⟨ga, 7, none⟩ = some (.slice aea aL aec) := ka.cell 7
  go_wp2_with fail
  refine (henx.out v2 hBB.out).mono ?_
  rintro e u1 ⟨o1, rfl, ho, -, hBn⟩
  rw [PM.enE_yes hok.out]
  replace ho := (ho hok.out).bs
  clear c0 c1 c2 c3 c4 c5 c6 c7
  replace ka := ka.keep hBn
  replace ky := ky.keep hBn
  replace hBB := PM.hid (PM.chain hBB.out hBn)
  clear hBn
  have y0 : u1.cell? ⟨gy, 0, none⟩ = some (.int .i64 ak) := ky.cell 0
  have y1 : u1.cell? ⟨gy, 1, none⟩ = some (.int .i64 ia) := ky.cell 1
  have y2 : u1.cell? ⟨gy, 2, none⟩ = some (.int .u64 (il : Int)) := ky.cell 2
  have y3 : u1.cell? ⟨gy, 3, none⟩ = some (.int .u64 (ir : Int)) := ky.cell 3
  have y4 : u1.cell? ⟨gy, 4, none⟩ = some (.int .i64 cl) := ky.cell 4
  have y5 : u1.cell? ⟨gy, 5, none⟩ = some (.int .u64 (au : Int)) := ky.cell 5
  have y6 : u1.cell? ⟨gy, 6, none⟩ = some (.slice afa aF afc) := ky.cell 6
  have y7 : u1.cell? ⟨gy, 7, none⟩ = some (.slice aea aL aec) := ky.cell 7
  go_wp2_with fail
  refine (heny.out u1 hBB.out).mono ?_
  rintro e u2 ⟨o2, rfl, ho2, -, hBn⟩
  replace ho := ho.keep hBn
  have kc1 := PM.run_str bty Try.underlying9 ho
  clear y0 y1 y2 y3 y4 y5 y6 y7
  replace ka := ka.keep hBn
  replace ky := ky.keep hBn
  replace hBB := PM.hid (PM.chain hBB.out hBn)
  clear hBn
  have c0 : u2.cell? ⟨ga, 0, none⟩ = some (.int .i64 ak) := ka.cell 0
  have c1 : u2.cell? ⟨ga, 1, none⟩ = some (.int .i64 ab) := ka.cell 1
  have c2 : u2.cell? ⟨ga, 2, none⟩ = some (.int .u64 (al : Int)) := ka.cell 2
  have c3 : u2.cell? ⟨ga, 3, none⟩ = some (.int .u64 (ar : Int)) := ka.cell 3
  have c4 : u2.cell? ⟨ga, 4, none⟩ = some (.int .i64 ac) := ka.cell 4
  have c5 : u2.cell? ⟨ga, 5, none⟩ = some (.int .u64 (au : Int)) := ka.cell 5
  have c6 : u2.cell? ⟨ga, 6, none⟩ = some (.slice afa aF afc) := ka.cell 6
  have c7 : u2.cell? ⟨ga, 7, none⟩ = some (.slice aea aL aec) := ka.cell 7
  have y0 : u2.cell? ⟨gy, 0, none⟩ = some (.int .i64 ak) := ky.cell 0
  have y1 : u2.cell? ⟨gy, 1, none⟩ = some (.int .i64 ia) := ky.cell 1
  have y2 : u2.cell? ⟨gy, 2, none⟩ = some (.int .u64 (il : Int)) := ky.cell 2
  have y3 : u2.cell? ⟨gy, 3, none⟩ = some (.int .u64 (ir : Int)) := ky.cell 3
  have y4 : u2.cell? ⟨gy, 4, none⟩ = some (.int .i64 cl) := ky.cell 4
  have y5 : u2.cell? ⟨gy, 5, none⟩ = some (.int .u64 (au : Int)) := ky.cell 5
  have y6 : u2.cell? ⟨gy, 6, none⟩ = some (.slice afa aF afc) := ky.cell 6
  have y7 : u2.cell? ⟨gy, 7, none⟩ = some (.slice aea aL aec) := ky.cell 7
  have hqq := hideq.out
  by_cases hq : PM.enOk Y
  · by_cases hI : (⟨ia, il, ir⟩ : PM.Id) = ⟨ab, al, ar⟩
    · by_cases hC : cl = ac
      · have hXY : X = Y := heq.out.2 ⟨hI, hC⟩
        have hcc : (cl == ac) = true := by simpa using hC
        rw [decide_eq_true hI] at hqq
        clear hI hC
        replace ho2 := (ho2 hq).bs
        have kc2 := PM.run_str bty Try.underlying9 ho2
        clear ho2
        rw [PM.enE_yes hq]
        rw [← hXY] at kc2
        clear hXY hq heq hinj
        go_upto_region 12 with fail
        clear hqq kc1 kc2 hcc
        clear c0 c1 c2 c3 c4 c5 c6 c7
        clear y0 y1 y2 y3 y4 y5 y6 y7
        clear ky
        by_cases hneg : n < 0
        · have hd : decide (n < 0) = true := by simp; omega
          have c0 : u2.cell? ⟨ga, 0, none⟩ = some (.int .i64 ak) := ka.cell 0
          have c1 : u2.cell? ⟨ga, 1, none⟩ = some (.int .i64 ab) := ka.cell 1
          have c2 : u2.cell? ⟨ga, 2, none⟩ = some (.int .u64 (al : Int)) := ka.cell 2
          have c3 : u2.cell? ⟨ga, 3, none⟩ = some (.int .u64 (ar : Int)) := ka.cell 3
          have c4 : u2.cell? ⟨ga, 4, none⟩ = some (.int .i64 ac) := ka.cell 4
          have c5 : u2.cell? ⟨ga, 5, none⟩ = some (.int .u64 (au : Int)) := ka.cell 5
          have c6 : u2.cell? ⟨ga, 6, none⟩ = some (.slice afa aF afc) := ka.cell 6
          have c7 : u2.cell? ⟨ga, 7, none⟩ = some (.slice aea aL aec) := ka.cell 7
          go_upto_region 14 with fail
          obtain ⟨N, hN⟩ : ∃ N : Int, N = -(n + 1) := ⟨_, rfl⟩
          rw [← hN]
          have hN0 : 0 ≤ N := by omega
          have hN1 : N ≤ 9223372036854775807 := by omega
          clear hd hN hneg hn1 hn2
          obtain ⟨K, hK⟩ : ∃ K : Nat, (K : Int) = N % ((aL : Int) + 1) := ⟨(N % ((aL : Int) + 1)).toNat, by have := Int.emod_nonneg N (show (aL : Int) + 1 ≠ 0 by omega); omega⟩
          have hKL : K ≤ aL := by
            have := Int.emod_lt_of_pos N (show (0 : Int) < (aL : Int) + 1 by omega)
            omega
          obtain ⟨ta, tk, hcu, hchz⟩ := hcut.out K hKL
          replace hchz := PM.hid (hchz hok.out)
          rw [hK] at hcu
          have hKh := PM.hid hK
          clear hK hcut
          have hbx' : aL ≤ 8 := hl8.out hok.out
          have hwA : IntKind.i64.wrap ((aL : Int) + 1) = (aL : Int) + 1 := by rw [IntKind.wrap_i64]; omega
          have hl2 : ¬ ((aL : Int) + 1 = 0) := by omega
          have htm : N.tmod ((aL : Int) + 1) = N % ((aL : Int) + 1) := Int.tmod_eq_emod_of_nonneg hN0
          go_upto_region 15 with fail
          obtain ⟨gz, hgz⟩ : ∃ g, g = u2.heap.size := ⟨_, rfl⟩
          obtain ⟨v3, hv3⟩ : ∃ W, W = u2.alloc (.cells #[.int .i64 ak, .int .i64 ab, .int .u64 (al : Int), .int .u64 (ar : Int), .int .i64 ac, .int .u64 (au : Int), .slice afa aF afc, .slice aea aL aec] 30) := ⟨_, rfl⟩
          have hBn : Below u2.heap.size u2 v3 := by rw [hv3]; exact (Below.refl _ _).alloc (Nat.le_refl _) _
          have kz : PM.BK v3 gz #[.int .i64 ak, .int .i64 ab, .int .u64 (al : Int), .int .u64 (ar : Int), .int .i64 ac, .int .u64 (au : Int), .slice afa aF afc, .slice aea aL aec] 30 := by rw [hv3, hgz]; exact PM.BK.new _ _ _
          have hgez : w.heap.size ≤ gz := by rw [hgz]; exact hBB.out.size
          have hnaz : ga ≠ gz := by rw [hgz]; exact Nat.ne_of_lt ka.lt
          rw [← hv3, ← hgz]
          clear hv3 hgz
          clear c0 c1 c2 c3 c4 c5 c6 c7
          replace ka := ka.keep hBn
          replace hBB := PM.hid (PM.chain hBB.out hBn)
          clear hBn
          have c0 : v3.cell? ⟨ga, 0, none⟩ = some (.int .i64 ak) := ka.cell 0
          have c1 : v3.cell? ⟨ga, 1, none⟩ = some (.int .i64 ab) := ka.cell 1
          have c2 : v3.cell? ⟨ga, 2, none⟩ = some (.int .u64 (al : Int)) := ka.cell 2
          have c3 : v3.cell? ⟨ga, 3, none⟩ = some (.int .u64 (ar : Int)) := ka.cell 3
          have c4 : v3.cell? ⟨ga, 4, none⟩ = some (.int .i64 ac) := ka.cell 4
          have c5 : v3.cell? ⟨ga, 5, none⟩ = some (.int .u64 (au : Int)) := ka.cell 5
          have c6 : v3.cell? ⟨ga, 6, none⟩ = some (.slice afa aF afc) := ka.cell 6
          have c7 : v3.cell? ⟨ga, 7, none⟩ = some (.slice aea aL aec) := ka.cell 7
          have z0 : v3.cell? ⟨gz, 0, none⟩ = some (.int .i64 ak) := kz.cell 0
          have z1 : v3.cell? ⟨gz, 1, none⟩ = some (.int .i64 ab) := kz.cell 1
          have z2 : v3.cell? ⟨gz, 2, none⟩ = some (.int .u64 (al : Int)) := kz.cell 2
          have z3 : v3.cell? ⟨gz, 3, none⟩ = some (.int .u64 (ar : Int)) := kz.cell 3
          have z4 : v3.cell? ⟨gz, 4, none⟩ = some (.int .i64 ac) := kz.cell 4
          have z5 : v3.cell? ⟨gz, 5, none⟩ = some (.int .u64 (au : Int)) := kz.cell 5
          have z6 : v3.cell? ⟨gz, 6, none⟩ = some (.slice afa aF afc) := kz.cell 6
          have z7 : v3.cell? ⟨gz, 7, none⟩ = some (.slice aea aL aec) := kz.cell 7
          have q0 := fun i => PM.BK.free kz i
          go_region
          obtain ⟨v4, hv4⟩ : ∃ W, W = (v3.setCell ⟨gz, 7, none⟩ (.slice ta K tk)).drew := ⟨_, rfl⟩
          have hx4 : PM.Bx gz v3 v4 := by rw [hv4]; exact (PM.Bx.set gz 7 v3 _).drew'
          have kz4 : PM.BK v4 gz #[.int .i64 ak, .int .i64 ab, .int .u64 (al : Int), .int .u64 (ar : Int), .int .i64 ac, .int .u64 (au : Int), .slice afa aF afc, .slice ta K tk] 30 := by rw [hv4]; exact ((kz.set 7 _).see (by simp)).drew'
          rw [← hv4]
          clear hv4 q0 hcu hl2 htm hwA kz hKh hN0 hN1
          replace hBB := PM.hid (PM.Bx.below hBB.out hx4 hgez hBB.out.size)
          clear c0 c1 c2 c3 c4 c5 c6 c7
          clear z0 z1 z2 z3 z4 z5 z6 z7
          clear hx4 ka hnaz hgez
          have z0 : v4.cell? ⟨gz, 0, none⟩ = some (.int .i64 ak) := kz4.cell 0
          have z1 : v4.cell? ⟨gz, 1, none⟩ = some (.int .i64 ab) := kz4.cell 1
          have z2 : v4.cell? ⟨gz, 2, none⟩ = some (.int .u64 (al : Int)) := kz4.cell 2
          have z3 : v4.cell? ⟨gz, 3, none⟩ = some (.int .u64 (ar : Int)) := kz4.cell 3
          have z4 : v4.cell? ⟨gz, 4, none⟩ = some (.int .i64 ac) := kz4.cell 4
          have z5 : v4.cell? ⟨gz, 5, none⟩ = some (.int .u64 (au : Int)) := kz4.cell 5
          have z6 : v4.cell? ⟨gz, 6, none⟩ = some (.slice afa aF afc) := kz4.cell 6
          have z7 : v4.cell? ⟨gz, 7, none⟩ = some (.slice ta K tk) := kz4.cell 7
          go_wp2_with fail
          refine (hchz.out v4 hBB.out).mono ?_
          rintro e v5 ⟨rfl, hBn⟩
          replace hBB := PM.hid (PM.chain hBB.out hBn)
          clear hBn
          go_wp2_with fail
          go_ret
          exact ⟨rfl, hBB.out⟩
        · have hd : decide (n < 0) = false := by simp; omega
          have c0 : u2.cell? ⟨ga, 0, none⟩ = some (.int .i64 ak) := ka.cell 0
          have c1 : u2.cell? ⟨ga, 1, none⟩ = some (.int .i64 ab) := ka.cell 1
          have c2 : u2.cell? ⟨ga, 2, none⟩ = some (.int .u64 (al : Int)) := ka.cell 2
          have c3 : u2.cell? ⟨ga, 3, none⟩ = some (.int .u64 (ar : Int)) := ka.cell 3
          have c4 : u2.cell? ⟨ga, 4, none⟩ = some (.int .i64 ac) := ka.cell 4
          have c5 : u2.cell? ⟨ga, 5, none⟩ = some (.int .u64 (au : Int)) := ka.cell 5
          have c6 : u2.cell? ⟨ga, 6, none⟩ = some (.slice afa aF afc) := ka.cell 6
          have c7 : u2.cell? ⟨ga, 7, none⟩ = some (.slice aea aL aec) := ka.cell 7
          go_upto_region 14 with fail
          obtain ⟨N, hN⟩ : ∃ N : Int, N = n := ⟨_, rfl⟩
          rw [← hN]
          have hN0 : 0 ≤ N := by omega
          have hN1 : N ≤ 9223372036854775807 := by omega
          clear hd hN hneg hn1 hn2
          obtain ⟨K, hK⟩ : ∃ K : Nat, (K : Int) = N % ((aL : Int) + 1) := ⟨(N % ((aL : Int) + 1)).toNat, by have := Int.emod_nonneg N (show (aL : Int) + 1 ≠ 0 by omega); omega⟩
          have hKL : K ≤ aL := by
            have := Int.emod_lt_of_pos N (show (0 : Int) < (aL : Int) + 1 by omega)
            omega
          obtain ⟨ta, tk, hcu, hchz⟩ := hcut.out K hKL
          replace hchz := PM.hid (hchz hok.out)
          rw [hK] at hcu
          have hKh := PM.hid hK
          clear hK hcut
          have hbx' : aL ≤ 8 := hl8.out hok.out
          have hwA : IntKind.i64.wrap ((aL : Int) + 1) = (aL : Int) + 1 := by rw [IntKind.wrap_i64]; omega
          have hl2 : ¬ ((aL : Int) + 1 = 0) := by omega
          have htm : N.tmod ((aL : Int) + 1) = N % ((aL : Int) + 1) := Int.tmod_eq_emod_of_nonneg hN0
          go_upto_region 15 with fail
          obtain ⟨gz, hgz⟩ : ∃ g, g = u2.heap.size := ⟨_, rfl⟩
          obtain ⟨v3, hv3⟩ : ∃ W, W = u2.alloc (.cells #[.int .i64 ak, .int .i64 ab, .int .u64 (al : Int), .int .u64 (ar : Int), .int .i64 ac, .int .u64 (au : Int), .slice afa aF afc, .slice aea aL aec] 30) := ⟨_, rfl⟩
          have hBn : Below u2.heap.size u2 v3 := by rw [hv3]; exact (Below.refl _ _).alloc (Nat.le_refl _) _
          have kz : PM.BK v3 gz #[.int .i64 ak, .int .i64 ab, .int .u64 (al : Int), .int .u64 (ar : Int), .int .i64 ac, .int .u64 (au : Int), .slice afa aF afc, .slice aea aL aec] 30 := by rw [hv3, hgz]; exact PM.BK.new _ _ _
          have hgez : w.heap.size ≤ gz := by rw [hgz]; exact hBB.out.size
          have hnaz : ga ≠ gz := by rw [hgz]; exact Nat.ne_of_lt ka.lt
          rw [← hv3, ← hgz]
          clear hv3 hgz
          clear c0 c1 c2 c3 c4 c5 c6 c7
          replace ka := ka.keep hBn
          replace hBB := PM.hid (PM.chain hBB.out hBn)
          clear hBn
          have c0 : v3.cell? ⟨ga, 0, none⟩ = some (.int .i64 ak) := ka.cell 0
          have c1 : v3.cell? ⟨ga, 1, none⟩ = some (.int .i64 ab) := ka.cell 1
          have c2 : v3.cell? ⟨ga, 2, none⟩ = some (.int .u64 (al : Int)) := ka.cell 2
          have c3 : v3.cell? ⟨ga, 3, none⟩ = some (.int .u64 (ar : Int)) := ka.cell 3
          have c4 : v3.cell? ⟨ga, 4, none⟩ = some (.int .i64 ac) := ka.cell 4
          have c5 : v3.cell? ⟨ga, 5, none⟩ = some (.int .u64 (au : Int)) := ka.cell 5
          have c6 : v3.cell? ⟨ga, 6, none⟩ = some (.slice afa aF afc) := ka.cell 6
          have c7 : v3.cell? ⟨ga, 7, none⟩ = some (.slice aea aL aec) := ka.cell 7
          have z0 : v3.cell? ⟨gz, 0, none⟩ = some (.int .i64 ak) := kz.cell 0
          have z1 : v3.cell? ⟨gz, 1, none⟩ = some (.int .i64 ab) := kz.cell 1
          have z2 : v3.cell? ⟨gz, 2, none⟩ = some (.int .u64 (al : Int)) := kz.cell 2
          have z3 : v3.cell? ⟨gz, 3, none⟩ = some (.int .u64 (ar : Int)) := kz.cell 3
          have z4 : v3.cell? ⟨gz, 4, none⟩ = some (.int .i64 ac) := kz.cell 4
          have z5 : v3.cell? ⟨gz, 5, none⟩ = some (.int .u64 (au : Int)) := kz.cell 5
          have z6 : v3.cell? ⟨gz, 6, none⟩ = some (.slice afa aF afc) := kz.cell 6
          have z7 : v3.cell? ⟨gz, 7, none⟩ = some (.slice aea aL aec) := kz.cell 7
          have q0 := fun i => PM.BK.free kz i
          go_region
          obtain ⟨v4, hv4⟩ : ∃ W, W = (v3.setCell ⟨gz, 7, none⟩ (.slice ta K tk)).drew := ⟨_, rfl⟩
          have hx4 : PM.Bx gz v3 v4 := by rw [hv4]; exact (PM.Bx.set gz 7 v3 _).drew'
          have kz4 : PM.BK v4 gz #[.int .i64 ak, .int .i64 ab, .int .u64 (al : Int), .int .u64 (ar : Int), .int .i64 ac, .int .u64 (au : Int), .slice afa aF afc, .slice ta K tk] 30 := by rw [hv4]; exact ((kz.set 7 _).see (by simp)).drew'
          rw [← hv4]
          clear hv4 q0 hcu hl2 htm hwA kz hKh hN0 hN1
          replace hBB := PM.hid (PM.Bx.below hBB.out hx4 hgez hBB.out.size)
          clear c0 c1 c2 c3 c4 c5 c6 c7
          clear z0 z1 z2 z3 z4 z5 z6 z7
          clear hx4 ka hnaz hgez
          have z0 : v4.cell? ⟨gz, 0, none⟩ = some (.int .i64 ak) := kz4.cell 0
          have z1 : v4.cell? ⟨gz, 1, none⟩ = some (.int .i64 ab) := kz4.cell 1
          have z2 : v4.cell? ⟨gz, 2, none⟩ = some (.int .u64 (al : Int)) := kz4.cell 2
          have z3 : v4.cell? ⟨gz, 3, none⟩ = some (.int .u64 (ar : Int)) := kz4.cell 3
          have z4 : v4.cell? ⟨gz, 4, none⟩ = some (.int .i64 ac) := kz4.cell 4
          have z5 : v4.cell? ⟨gz, 5, none⟩ = some (.int .u64 (au : Int)) := kz4.cell 5
          have z6 : v4.cell? ⟨gz, 6, none⟩ = some (.slice afa aF afc) := kz4.cell 6
          have z7 : v4.cell? ⟨gz, 7, none⟩ = some (.slice ta K tk) := kz4.cell 7
          go_wp2_with fail
          refine (hchz.out v4 hBB.out).mono ?_
          rintro e v5 ⟨rfl, hBn⟩
          replace hBB := PM.hid (PM.chain hBB.out hBn)
          clear hBn
          go_wp2_with fail
          go_ret
          exact ⟨rfl, hBB.out⟩
      · have hXY : ¬ X = Y := fun h => hC (heq.out.1 h).2
        have hcc : (cl == ac) = false := by simpa using hC
        rw [decide_eq_true hI] at hqq
        clear hI hC
        replace ho2 := (ho2 hq).bs
        have kc2 := PM.run_str bty Try.underlying9 ho2
        clear ho2
        rw [PM.enE_yes hq]
        have hne : (PM.enB X == PM.enB Y) = false := by simpa using fun he => hXY (hinj.out hok.out hq he)
        clear hXY hq heq hinj
        go_upto_region 12 with fail
        clear hqq kc1 kc2 hne hcc
        clear c0 c1 c2 c3 c4 c5 c6 c7
        clear y0 y1 y2 y3 y4 y5 y6 y7
        clear ky
        by_cases hneg : n < 0
        · have hd : decide (n < 0) = true := by simp; omega
          have c0 : u2.cell? ⟨ga, 0, none⟩ = some (.int .i64 ak) := ka.cell 0
          have c1 : u2.cell? ⟨ga, 1, none⟩ = some (.int .i64 ab) := ka.cell 1
          have c2 : u2.cell? ⟨ga, 2, none⟩ = some (.int .u64 (al : Int)) := ka.cell 2
          have c3 : u2.cell? ⟨ga, 3, none⟩ = some (.int .u64 (ar : Int)) := ka.cell 3
          have c4 : u2.cell? ⟨ga, 4, none⟩ = some (.int .i64 ac) := ka.cell 4
          have c5 : u2.cell? ⟨ga, 5, none⟩ = some (.int .u64 (au : Int)) := ka.cell 5
          have c6 : u2.cell? ⟨ga, 6, none⟩ = some (.slice afa aF afc) := ka.cell 6
          have c7 : u2.cell? ⟨ga, 7, none⟩ = some (.slice aea aL aec) := ka.cell 7
          go_upto_region 14 with fail
          obtain ⟨N, hN⟩ : ∃ N : Int, N = -(n + 1) := ⟨_, rfl⟩
          rw [← hN]
          have hN0 : 0 ≤ N := by omega
          have hN1 : N ≤ 9223372036854775807 := by omega
          clear hd hN hneg hn1 hn2
          obtain ⟨K, hK⟩ : ∃ K : Nat, (K : Int) = N % ((aL : Int) + 1) := ⟨(N % ((aL : Int) + 1)).toNat, by have := Int.emod_nonneg N (show (aL : Int) + 1 ≠ 0 by omega); omega⟩
          have hKL : K ≤ aL := by
            have := Int.emod_lt_of_pos N (show (0 : Int) < (aL : Int) + 1 by omega)
            omega
          obtain ⟨ta, tk, hcu, hchz⟩ := hcut.out K hKL
          replace hchz := PM.hid (hchz hok.out)
          rw [hK] at hcu
          have hKh := PM.hid hK
          clear hK hcut
          have hbx' : aL ≤ 8 := hl8.out hok.out
          have hwA : IntKind.i64.wrap ((aL : Int) + 1) = (aL : Int) + 1 := by rw [IntKind.wrap_i64]; omega
          have hl2 : ¬ ((aL : Int) + 1 = 0) := by omega
          have htm : N.tmod ((aL : Int) + 1) = N % ((aL : Int) + 1) := Int.tmod_eq_emod_of_nonneg hN0
          go_upto_region 15 with fail
          obtain ⟨gz, hgz⟩ : ∃ g, g = u2.heap.size := ⟨_, rfl⟩
          obtain ⟨v3, hv3⟩ : ∃ W, W = u2.alloc (.cells #[.int .i64 ak, .int .i64 ab, .int .u64 (al : Int), .int .u64 (ar : Int), .int .i64 ac, .int .u64 (au : Int), .slice afa aF afc, .slice aea aL aec] 30) := ⟨_, rfl⟩
          have hBn : Below u2.heap.size u2 v3 := by rw [hv3]; exact (Below.refl _ _).alloc (Nat.le_refl _) _
          have kz : PM.BK v3 gz #[.int .i64 ak, .int .i64 ab, .int .u64 (al : Int), .int .u64 (ar : Int), .int .i64 ac, .int .u64 (au : Int), .slice afa aF afc, .slice aea aL aec] 30 := by rw [hv3, hgz]; exact PM.BK.new _ _ _
          have hgez : w.heap.size ≤ gz := by rw [hgz]; exact hBB.out.size
          have hnaz : ga ≠ gz := by rw [hgz]; exact Nat.ne_of_lt ka.lt
          rw [← hv3, ← hgz]
          clear hv3 hgz
          clear c0 c1 c2 c3 c4 c5 c6 c7
          replace ka := ka.keep hBn
          replace hBB := PM.hid (PM.chain hBB.out hBn)
          clear hBn
          have c0 : v3.cell? ⟨ga, 0, none⟩ = some (.int .i64 ak) := ka.cell 0
          have c1 : v3.cell? ⟨ga, 1, none⟩ = some (.int .i64 ab) := ka.cell 1
          have c2 : v3.cell? ⟨ga, 2, none⟩ = some (.int .u64 (al : Int)) := ka.cell 2
          have c3 : v3.cell? ⟨ga, 3, none⟩ = some (.int .u64 (ar : Int)) := ka.cell 3
          have c4 : v3.cell? ⟨ga, 4, none⟩ = some (.int .i64 ac) := ka.cell 4
          have c5 : v3.cell? ⟨ga, 5, none⟩ = some (.int .u64 (au : Int)) := ka.cell 5
          have c6 : v3.cell? ⟨ga, 6, none⟩ = some (.slice afa aF afc) := ka.cell 6
          have c7 : v3.cell? ⟨ga, 7, none⟩ = some (.slice aea aL aec) := ka.cell 7
          have z0 : v3.cell? ⟨gz, 0, none⟩ = some (.int .i64 ak) := kz.cell 0
          have z1 : v3.cell? ⟨gz, 1, none⟩ = some (.int .i64 ab) := kz.cell 1
          have z2 : v3.cell? ⟨gz, 2, none⟩ = some (.int .u64 (al : Int)) := kz.cell 2
          have z3 : v3.cell? ⟨gz, 3, none⟩ = some (.int .u64 (ar : Int)) := kz.cell 3
          have z4 : v3.cell? ⟨gz, 4, none⟩ = some (.int .i64 ac) := kz.cell 4
          have z5 : v3.cell? ⟨gz, 5, none⟩ = some (.int .u64 (au : Int)) := kz.cell 5
          have z6 : v3.cell? ⟨gz, 6, none⟩ = some (.slice afa aF afc) := kz.cell 6
          have z7 : v3.cell? ⟨gz, 7, none⟩ = some (.slice aea aL aec) := kz.cell 7
          have q0 := fun i => PM.BK.free kz i
          go_region
          obtain ⟨v4, hv4⟩ : ∃ W, W = (v3.setCell ⟨gz, 7, none⟩ (.slice ta K tk)).drew := ⟨_, rfl⟩
          have hx4 : PM.Bx gz v3 v4 := by rw [hv4]; exact (PM.Bx.set gz 7 v3 _).drew'
          have kz4 : PM.BK v4 gz #[.int .i64 ak, .int .i64 ab, .int .u64 (al : Int), .int .u64 (ar : Int), .int .i64 ac, .int .u64 (au : Int), .slice afa aF afc, .slice ta K tk] 30 := by rw [hv4]; exact ((kz.set 7 _).see (by simp)).drew'
          rw [← hv4]
          clear hv4 q0 hcu hl2 htm hwA kz hKh hN0 hN1
          replace hBB := PM.hid (PM.Bx.below hBB.out hx4 hgez hBB.out.size)
          clear c0 c1 c2 c3 c4 c5 c6 c7
          clear z0 z1 z2 z3 z4 z5 z6 z7
          clear hx4 ka hnaz hgez
          have z0 : v4.cell? ⟨gz, 0, none⟩ = some (.int .i64 ak) := kz4.cell 0
          have z1 : v4.cell? ⟨gz, 1, none⟩ = some (.int .i64 ab) := kz4.cell 1
          have z2 : v4.cell? ⟨gz, 2, none⟩ = some (.int .u64 (al : Int)) := kz4.cell 2
          have z3 : v4.cell? ⟨gz, 3, none⟩ = some (.int .u64 (ar : Int)) := kz4.cell 3
          have z4 : v4.cell? ⟨gz, 4, none⟩ = some (.int .i64 ac) := kz4.cell 4
          have z5 : v4.cell? ⟨gz, 5, none⟩ = some (.int .u64 (au : Int)) := kz4.cell 5
          have z6 : v4.cell? ⟨gz, 6, none⟩ = some (.slice afa aF afc) := kz4.cell 6
          have z7 : v4.cell? ⟨gz, 7, none⟩ = some (.slice ta K tk) := kz4.cell 7
          go_wp2_with fail
          refine (hchz.out v4 hBB.out).mono ?_
          rintro e v5 ⟨rfl, hBn⟩
          replace hBB := PM.hid (PM.chain hBB.out hBn)
          clear hBn
          go_wp2_with fail
          go_ret
          exact ⟨rfl, hBB.out⟩
        · have hd : decide (n < 0) = false := by simp; omega
          have c0 : u2.cell? ⟨ga, 0, none⟩ = some (.int .i64 ak) := ka.cell 0
          have c1 : u2.cell? ⟨ga, 1, none⟩ = some (.int .i64 ab) := ka.cell 1
          have c2 : u2.cell? ⟨ga, 2, none⟩ = some (.int .u64 (al : Int)) := ka.cell 2
          have c3 : u2.cell? ⟨ga, 3, none⟩ = some (.int .u64 (ar : Int)) := ka.cell 3
          have c4 : u2.cell? ⟨ga, 4, none⟩ = some (.int .i64 ac) := ka.cell 4
          have c5 : u2.cell? ⟨ga, 5, none⟩ = some (.int .u64 (au : Int)) := ka.cell 5
          have c6 : u2.cell? ⟨ga, 6, none⟩ = some (.slice afa aF afc) := ka.cell 6
          have c7 : u2.cell? ⟨ga, 7, none⟩ = some (.slice aea aL aec) := ka.cell 7
          go_upto_region 14 with fail
          obtain ⟨N, hN⟩ : ∃ N : Int, N = n := ⟨_, rfl⟩
          rw [← hN]
          have hN0 : 0 ≤ N := by omega
          have hN1 : N ≤ 9223372036854775807 := by omega
          clear hd hN hneg hn1 hn2
          obtain ⟨K, hK⟩ : ∃ K : Nat, (K : Int) = N % ((aL : Int) + 1) := ⟨(N % ((aL : Int) + 1)).toNat, by have := Int.emod_nonneg N (show (aL : Int) + 1 ≠ 0 by omega); omega⟩
          have hKL : K ≤ aL := by
            have := Int.emod_lt_of_pos N (show (0 : Int) < (aL : Int) + 1 by omega)
            omega
          obtain ⟨ta, tk, hcu, hchz⟩ := hcut.out K hKL
          replace hchz := PM.hid (hchz hok.out)
          rw [hK] at hcu
          have hKh := PM.hid hK
          clear hK hcut
          have hbx' : aL ≤ 8 := hl8.out hok.out
          have hwA : IntKind.i64.wrap ((aL : Int) + 1) = (aL : Int) + 1 := by rw [IntKind.wrap_i64]; omega
          have hl2 : ¬ ((aL : Int) + 1 = 0) := by omega
          have htm : N.tmod ((aL : Int) + 1) = N % ((aL : Int) + 1) := Int.tmod_eq_emod_of_nonneg hN0
          go_upto_region 15 with fail
          obtain ⟨gz, hgz⟩ : ∃ g, g = u2.heap.size := ⟨_, rfl⟩
          obtain ⟨v3, hv3⟩ : ∃ W, W = u2.alloc (.cells #[.int .i64 ak, .int .i64 ab, .int .u64 (al : Int), .int .u64 (ar : Int), .int .i64 ac, .int .u64 (au : Int), .slice afa aF afc, .slice aea aL aec] 30) := ⟨_, rfl⟩
          have hBn : Below u2.heap.size u2 v3 := by rw [hv3]; exact (Below.refl _ _).alloc (Nat.le_refl _) _
          have kz : PM.BK v3 gz #[.int .i64 ak, .int .i64 ab, .int .u64 (al : Int), .int .u64 (ar : Int), .int .i64 ac, .int .u64 (au : Int), .slice afa aF afc, .slice aea aL aec] 30 := by rw [hv3, hgz]; exact PM.BK.new _ _ _
          have hgez : w.heap.size ≤ gz := by rw [hgz]; exact hBB.out.size
          have hnaz : ga ≠ gz := by rw [hgz]; exact Nat.ne_of_lt ka.lt
          rw [← hv3, ← hgz]
          clear hv3 hgz
          clear c0 c1 c2 c3 c4 c5 c6 c7
          replace ka := ka.keep hBn
          replace hBB := PM.hid (PM.chain hBB.out hBn)
          clear hBn
          have c0 : v3.cell? ⟨ga, 0, none⟩ = some (.int .i64 ak) := ka.cell 0
          have c1 : v3.cell? ⟨ga, 1, none⟩ = some (.int .i64 ab) := ka.cell 1
          have c2 : v3.cell? ⟨ga, 2, none⟩ = some (.int .u64 (al : Int)) := ka.cell 2
          have c3 : v3.cell? ⟨ga, 3, none⟩ = some (.int .u64 (ar : Int)) := ka.cell 3
          have c4 : v3.cell? ⟨ga, 4, none⟩ = some (.int .i64 ac) := ka.cell 4
          have c5 : v3.cell? ⟨ga, 5, none⟩ = some (.int .u64 (au : Int)) := ka.cell 5
          have c6 : v3.cell? ⟨ga, 6, none⟩ = some (.slice afa aF afc) := ka.cell 6
          have c7 : v3.cell? ⟨ga, 7, none⟩ = some (.slice aea aL aec) := ka.cell 7
          have z0 : v3.cell? ⟨gz, 0, none⟩ = some (.int .i64 ak) := kz.cell 0
          have z1 : v3.cell? ⟨gz, 1, none⟩ = some (.int .i64 ab) := kz.cell 1
          have z2 : v3.cell? ⟨gz, 2, none⟩ = some (.int .u64 (al : Int)) := kz.cell 2
          have z3 : v3.cell? ⟨gz, 3, none⟩ = some (.int .u64 (ar : Int)) := kz.cell 3
          have z4 : v3.cell? ⟨gz, 4, none⟩ = some (.int .i64 ac) := kz.cell 4
          have z5 : v3.cell? ⟨gz, 5, none⟩ = some (.int .u64 (au : Int)) := kz.cell 5
          have z6 : v3.cell? ⟨gz, 6, none⟩ = some (.slice afa aF afc) := kz.cell 6
          have z7 : v3.cell? ⟨gz, 7, none⟩ = some (.slice aea aL aec) := kz.cell 7
          have q0 := fun i => PM.BK.free kz i
          go_region
          obtain ⟨v4, hv4⟩ : ∃ W, W = (v3.setCell ⟨gz, 7, none⟩ (.slice ta K tk)).drew := ⟨_, rfl⟩
          have hx4 : PM.Bx gz v3 v4 := by rw [hv4]; exact (PM.Bx.set gz 7 v3 _).drew'
          have kz4 : PM.BK v4 gz #[.int .i64 ak, .int .i64 ab, .int .u64 (al : Int), .int .u64 (ar : Int), .int .i64 ac, .int .u64 (au : Int), .slice afa aF afc, .slice ta K tk] 30 := by rw [hv4]; exact ((kz.set 7 _).see (by simp)).drew'
          rw [← hv4]
          clear hv4 q0 hcu hl2 htm hwA kz hKh hN0 hN1
          replace hBB := PM.hid (PM.Bx.below hBB.out hx4 hgez hBB.out.size)
          clear c0 c1 c2 c3 c4 c5 c6 c7
          clear z0 z1 z2 z3 z4 z5 z6 z7
          clear hx4 ka hnaz hgez
          have z0 : v4.cell? ⟨gz, 0, none⟩ = some (.int .i64 ak) := kz4.cell 0
          have z1 : v4.cell? ⟨gz, 1, none⟩ = some (.int .i64 ab) := kz4.cell 1
          have z2 : v4.cell? ⟨gz, 2, none⟩ = some (.int .u64 (al : Int)) := kz4.cell 2
          have z3 : v4.cell? ⟨gz, 3, none⟩ = some (.int .u64 (ar : Int)) := kz4.cell 3
          have z4 : v4.cell? ⟨gz, 4, none⟩ = some (.int .i64 ac) := kz4.cell 4
          have z5 : v4.cell? ⟨gz, 5, none⟩ = some (.int .u64 (au : Int)) := kz4.cell 5
          have z6 : v4.cell? ⟨gz, 6, none⟩ = some (.slice afa aF afc) := kz4.cell 6
          have z7 : v4.cell? ⟨gz, 7, none⟩ = some (.slice ta K tk) := kz4.cell 7
          go_wp2_with fail
          refine (hchz.out v4 hBB.out).mono ?_
          rintro e v5 ⟨rfl, hBn⟩
          replace hBB := PM.hid (PM.chain hBB.out hBn)
          clear hBn
          go_wp2_with fail
          go_ret
          exact ⟨rfl, hBB.out⟩
    · have hXY : ¬ X = Y := fun h => hI (heq.out.1 h).1
      rw [decide_eq_false hI] at hqq
      clear hI
      replace ho2 := (ho2 hq).bs
      have kc2 := PM.run_str bty Try.underlying9 ho2
      clear ho2
      rw [PM.enE_yes hq]
      have hne : (PM.enB X == PM.enB Y) = false := by simpa using fun he => hXY (hinj.out hok.out hq he)
      clear hXY hq heq hinj
      go_upto_region 12 with fail
      clear hqq kc1 kc2 hne
      clear c0 c1 c2 c3 c4 c5 c6 c7
      clear y0 y1 y2 y3 y4 y5 y6 y7
      clear ky
      by_cases hneg : n < 0
      · have hd : decide (n < 0) = true := by simp; omega
        have c0 : u2.cell? ⟨ga, 0, none⟩ = some (.int .i64 ak) := ka.cell 0
        have c1 : u2.cell? ⟨ga, 1, none⟩ = some (.int .i64 ab) := ka.cell 1
        have c2 : u2.cell? ⟨ga, 2, none⟩ = some (.int .u64 (al : Int)) := ka.cell 2
        have c3 : u2.cell? ⟨ga, 3, none⟩ = some (.int .u64 (ar : Int)) := ka.cell 3
        have c4 : u2.cell? ⟨ga, 4, none⟩ = some (.int .i64 ac) := ka.cell 4
        have c5 : u2.cell? ⟨ga, 5, none⟩ = some (.int .u64 (au : Int)) := ka.cell 5
        have c6 : u2.cell? ⟨ga, 6, none⟩ = some (.slice afa aF afc) := ka.cell 6
        have c7 : u2.cell? ⟨ga, 7, none⟩ = some (.slice aea aL aec) := ka.cell 7
        go_upto_region 14 with fail
        obtain ⟨N, hN⟩ : ∃ N : Int, N = -(n + 1) := ⟨_, rfl⟩
        rw [← hN]
        have hN0 : 0 ≤ N := by omega
        have hN1 : N ≤ 9223372036854775807 := by omega
        clear hd hN hneg hn1 hn2
        obtain ⟨K, hK⟩ : ∃ K : Nat, (K : Int) = N % ((aL : Int) + 1) := ⟨(N % ((aL : Int) + 1)).toNat, by have := Int.emod_nonneg N (show (aL : Int) + 1 ≠ 0 by omega); omega⟩
        have hKL : K ≤ aL := by
          have := Int.emod_lt_of_pos N (show (0 : Int) < (aL : Int) + 1 by omega)
          omega
        obtain ⟨ta, tk, hcu, hchz⟩ := hcut.out K hKL
        replace hchz := PM.hid (hchz hok.out)
        rw [hK] at hcu
        have hKh := PM.hid hK
        clear hK hcut
        have hbx' : aL ≤ 8 := hl8.out hok.out
        have hwA : IntKind.i64.wrap ((aL : Int) + 1) = (aL : Int) + 1 := by rw [IntKind.wrap_i64]; omega
        have hl2 : ¬ ((aL : Int) + 1 = 0) := by omega
        have htm : N.tmod ((aL : Int) + 1) = N % ((aL : Int) + 1) := Int.tmod_eq_emod_of_nonneg hN0
        go_upto_region 15 with fail
        obtain ⟨gz, hgz⟩ : ∃ g, g = u2.heap.size := ⟨_, rfl⟩
        obtain ⟨v3, hv3⟩ : ∃ W, W = u2.alloc (.cells #[.int .i64 ak, .int .i64 ab, .int .u64 (al : Int), .int .u64 (ar : Int), .int .i64 ac, .int .u64 (au : Int), .slice afa aF afc, .slice aea aL aec] 30) := ⟨_, rfl⟩
        have hBn : Below u2.heap.size u2 v3 := by rw [hv3]; exact (Below.refl _ _).alloc (Nat.le_refl _) _
        have kz : PM.BK v3 gz #[.int .i64 ak, .int .i64 ab, .int .u64 (al : Int), .int .u64 (ar : Int), .int .i64 ac, .int .u64 (au : Int), .slice afa aF afc, .slice aea aL aec] 30 := by rw [hv3, hgz]; exact PM.BK.new _ _ _
        have hgez : w.heap.size ≤ gz := by rw [hgz]; exact hBB.out.size
        have hnaz : ga ≠ gz := by rw [hgz]; exact Nat.ne_of_lt ka.lt
        rw [← hv3, ← hgz]
        clear hv3 hgz
        clear c0 c1 c2 c3 c4 c5 c6 c7
        replace ka := ka.keep hBn
        replace hBB := PM.hid (PM.chain hBB.out hBn)
        clear hBn
        have c0 : v3.cell? ⟨ga, 0, none⟩ = some (.int .i64 ak) := ka.cell 0
        have c1 : v3.cell? ⟨ga, 1, none⟩ = some (.int .i64 ab) := ka.cell 1
        have c2 : v3.cell? ⟨ga, 2, none⟩ = some (.int .u64 (al : Int)) := ka.cell 2
        have c3 : v3.cell? ⟨ga, 3, none⟩ = some (.int .u64 (ar : Int)) := ka.cell 3
        have c4 : v3.cell? ⟨ga, 4, none⟩ = some (.int .i64 ac) := ka.cell 4
        have c5 : v3.cell? ⟨ga, 5, none⟩ = some (.int .u64 (au : Int)) := ka.cell 5
        have c6 : v3.cell? ⟨ga, 6, none⟩ = some (.slice afa aF afc) := ka.cell 6
        have c7 : v3.cell? ⟨ga, 7, none⟩ = some (.slice aea aL aec) := ka.cell 7
        have z0 : v3.cell? ⟨gz, 0, none⟩ = some (.int .i64 ak) := kz.cell 0
        have z1 : v3.cell? ⟨gz, 1, none⟩ = some (.int .i64 ab) := kz.cell 1
        have z2 : v3.cell? ⟨gz, 2, none⟩ = some (.int .u64 (al : Int)) := kz.cell 2
        have z3 : v3.cell? ⟨gz, 3, none⟩ = some (.int .u64 (ar : Int)) := kz.cell 3
        have z4 : v3.cell? ⟨gz, 4, none⟩ = some (.int .i64 ac) := kz.cell 4
        have z5 : v3.cell? ⟨gz, 5, none⟩ = some (.int .u64 (au : Int)) := kz.cell 5
        have z6 : v3.cell? ⟨gz, 6, none⟩ = some (.slice afa aF afc) := kz.cell 6
        have z7 : v3.cell? ⟨gz, 7, none⟩ = some (.slice aea aL aec) := kz.cell 7
        have q0 := fun i => PM.BK.free kz i
        go_region
        obtain ⟨v4, hv4⟩ : ∃ W, W = (v3.setCell ⟨gz, 7, none⟩ (.slice ta K tk)).drew := ⟨_, rfl⟩
        have hx4 : PM.Bx gz v3 v4 := by rw [hv4]; exact (PM.Bx.set gz 7 v3 _).drew'
        have kz4 : PM.BK v4 gz #[.int .i64 ak, .int .i64 ab, .int .u64 (al : Int), .int .u64 (ar : Int), .int .i64 ac, .int .u64 (au : Int), .slice afa aF afc, .slice ta K tk] 30 := by rw [hv4]; exact ((kz.set 7 _).see (by simp)).drew'
        rw [← hv4]
        clear hv4 q0 hcu hl2 htm hwA kz hKh hN0 hN1
        replace hBB := PM.hid (PM.Bx.below hBB.out hx4 hgez hBB.out.size)
        clear c0 c1 c2 c3 c4 c5 c6 c7
        clear z0 z1 z2 z3 z4 z5 z6 z7
        clear hx4 ka hnaz hgez
        have z0 : v4.cell? ⟨gz, 0, none⟩ = some (.int .i64 ak) := kz4.cell 0
        have z1 : v4.cell? ⟨gz, 1, none⟩ = some (.int .i64 ab) := kz4.cell 1
        have z2 : v4.cell? ⟨gz, 2, none⟩ = some (.int .u64 (al : Int)) := kz4.cell 2
        have z3 : v4.cell? ⟨gz, 3, none⟩ = some (.int .u64 (ar : Int)) := kz4.cell 3
        have z4 : v4.cell? ⟨gz, 4, none⟩ = some (.int .i64 ac) := kz4.cell 4
        have z5 : v4.cell? ⟨gz, 5, none⟩ = some (.int .u64 (au : Int)) := kz4.cell 5
        have z6 : v4.cell? ⟨gz, 6, none⟩ = some (.slice afa aF afc) := kz4.cell 6
        have z7 : v4.cell? ⟨gz, 7, none⟩ = some (.slice ta K tk) := kz4.cell 7
        go_wp2_with fail
        refine (hchz.out v4 hBB.out).mono ?_
        rintro e v5 ⟨rfl, hBn⟩
        replace hBB := PM.hid (PM.chain hBB.out hBn)
        clear hBn
        go_wp2_with fail
        go_ret
        exact ⟨rfl, hBB.out⟩
      · have hd : decide (n < 0) = false := by simp; omega
        have c0 : u2.cell? ⟨ga, 0, none⟩ = some (.int .i64 ak) := ka.cell 0
        have c1 : u2.cell? ⟨ga, 1, none⟩ = some (.int .i64 ab) := ka.cell 1
        have c2 : u2.cell? ⟨ga, 2, none⟩ = some (.int .u64 (al : Int)) := ka.cell 2
        have c3 : u2.cell? ⟨ga, 3, none⟩ = some (.int .u64 (ar : Int)) := ka.cell 3
        have c4 : u2.cell? ⟨ga, 4, none⟩ = some (.int .i64 ac) := ka.cell 4
        have c5 : u2.cell? ⟨ga, 5, none⟩ = some (.int .u64 (au : Int)) := ka.cell 5
        have c6 : u2.cell? ⟨ga, 6, none⟩ = some (.slice afa aF afc) := ka.cell 6
        have c7 : u2.cell? ⟨ga, 7, none⟩ = some (.slice aea aL aec) := ka.cell 7
        go_upto_region 14 with fail
        obtain ⟨N, hN⟩ : ∃ N : Int, N = n := ⟨_, rfl⟩
        rw [← hN]
        have hN0 : 0 ≤ N := by omega
        have hN1 : N ≤ 9223372036854775807 := by omega
        clear hd hN hneg hn1 hn2
        obtain ⟨K, hK⟩ : ∃ K : Nat, (K : Int) = N % ((aL : Int) + 1) := ⟨(N % ((aL : Int) + 1)).toNat, by have := Int.emod_nonneg N (show (aL : Int) + 1 ≠ 0 by omega); omega⟩
        have hKL : K ≤ aL := by
          have := Int.emod_lt_of_pos N (show (0 : Int) < (aL : Int) + 1 by omega)
          omega
        obtain ⟨ta, tk, hcu, hchz⟩ := hcut.out K hKL
        replace hchz := PM.hid (hchz hok.out)
        rw [hK] at hcu
        have hKh := PM.hid hK
        clear hK hcut
        have hbx' : aL ≤ 8 := hl8.out hok.out
        have hwA : IntKind.i64.wrap ((aL : Int) + 1) = (aL : Int) + 1 := by rw [IntKind.wrap_i64]; omega
        have hl2 : ¬ ((aL : Int) + 1 = 0) := by omega
        have htm : N.tmod ((aL : Int) + 1) = N % ((aL : Int) + 1) := Int.tmod_eq_emod_of_nonneg hN0
        go_upto_region 15 with fail
        obtain ⟨gz, hgz⟩ : ∃ g, g = u2.heap.size := ⟨_, rfl⟩
        obtain ⟨v3, hv3⟩ : ∃ W, W = u2.alloc (.cells #[.int .i64 ak, .int .i64 ab, .int .u64 (al : Int), .int .u64 (ar : Int), .int .i64 ac, .int .u64 (au : Int), .slice afa aF afc, .slice aea aL aec] 30) := ⟨_, rfl⟩
        have hBn : Below u2.heap.size u2 v3 := by rw [hv3]; exact (Below.refl _ _).alloc (Nat.le_refl _) _
        have kz : PM.BK v3 gz #[.int .i64 ak, .int .i64 ab, .int .u64 (al : Int), .int .u64 (ar : Int), .int .i64 ac, .int .u64 (au : Int), .slice afa aF afc, .slice aea aL aec] 30 := by rw [hv3, hgz]; exact PM.BK.new _ _ _
        have hgez : w.heap.size ≤ gz := by rw [hgz]; exact hBB.out.size
        have hnaz : ga ≠ gz := by rw [hgz]; exact Nat.ne_of_lt ka.lt
        rw [← hv3, ← hgz]
        clear hv3 hgz
        clear c0 c1 c2 c3 c4 c5 c6 c7
        replace ka := ka.keep hBn
        replace hBB := PM.hid (PM.chain hBB.out hBn)
        clear hBn
        have c0 : v3.cell? ⟨ga, 0, none⟩ = some (.int .i64 ak) := ka.cell 0
        have c1 : v3.cell? ⟨ga, 1, none⟩ = some (.int .i64 ab) := ka.cell 1
        have c2 : v3.cell? ⟨ga, 2, none⟩ = some (.int .u64 (al : Int)) := ka.cell 2
        have c3 : v3.cell? ⟨ga, 3, none⟩ = some (.int .u64 (ar : Int)) := ka.cell 3
        have c4 : v3.cell? ⟨ga, 4, none⟩ = some (.int .i64 ac) := ka.cell 4
        have c5 : v3.cell? ⟨ga, 5, none⟩ = some (.int .u64 (au : Int)) := ka.cell 5
        have c6 : v3.cell? ⟨ga, 6, none⟩ = some (.slice afa aF afc) := ka.cell 6
        have c7 : v3.cell? ⟨ga, 7, none⟩ = some (.slice aea aL aec) := ka.cell 7
        have z0 : v3.cell? ⟨gz, 0, none⟩ = some (.int .i64 ak) := kz.cell 0
        have z1 : v3.cell? ⟨gz, 1, none⟩ = some (.int .i64 ab) := kz.cell 1
        have z2 : v3.cell? ⟨gz, 2, none⟩ = some (.int .u64 (al : Int)) := kz.cell 2
        have z3 : v3.cell? ⟨gz, 3, none⟩ = some (.int .u64 (ar : Int)) := kz.cell 3
        have z4 : v3.cell? ⟨gz, 4, none⟩ = some (.int .i64 ac) := kz.cell 4
        have z5 : v3.cell? ⟨gz, 5, none⟩ = some (.int .u64 (au : Int)) := kz.cell 5
        have z6 : v3.cell? ⟨gz, 6, none⟩ = some (.slice afa aF afc) := kz.cell 6
        have z7 : v3.cell? ⟨gz, 7, none⟩ = some (.slice aea aL aec) := kz.cell 7
        have q0 := fun i => PM.BK.free kz i
        go_region
        obtain ⟨v4, hv4⟩ : ∃ W, W = (v3.setCell ⟨gz, 7, none⟩ (.slice ta K tk)).drew := ⟨_, rfl⟩
        have hx4 : PM.Bx gz v3 v4 := by rw [hv4]; exact (PM.Bx.set gz 7 v3 _).drew'
        have kz4 : PM.BK v4 gz #[.int .i64 ak, .int .i64 ab, .int .u64 (al : Int), .int .u64 (ar : Int), .int .i64 ac, .int .u64 (au : Int), .slice afa aF afc, .slice ta K tk] 30 := by rw [hv4]; exact ((kz.set 7 _).see (by simp)).drew'
        rw [← hv4]
        clear hv4 q0 hcu hl2 htm hwA kz hKh hN0 hN1
        replace hBB := PM.hid (PM.Bx.below hBB.out hx4 hgez hBB.out.size)
        clear c0 c1 c2 c3 c4 c5 c6 c7
        clear z0 z1 z2 z3 z4 z5 z6 z7
        clear hx4 ka hnaz hgez
        have z0 : v4.cell? ⟨gz, 0, none⟩ = some (.int .i64 ak) := kz4.cell 0
        have z1 : v4.cell? ⟨gz, 1, none⟩ = some (.int .i64 ab) := kz4.cell 1
        have z2 : v4.cell? ⟨gz, 2, none⟩ = some (.int .u64 (al : Int)) := kz4.cell 2
        have z3 : v4.cell? ⟨gz, 3, none⟩ = some (.int .u64 (ar : Int)) := kz4.cell 3
        have z4 : v4.cell? ⟨gz, 4, none⟩ = some (.int .i64 ac) := kz4.cell 4
        have z5 : v4.cell? ⟨gz, 5, none⟩ = some (.int .u64 (au : Int)) := kz4.cell 5
        have z6 : v4.cell? ⟨gz, 6, none⟩ = some (.slice afa aF afc) := kz4.cell 6
        have z7 : v4.cell? ⟨gz, 7, none⟩ = some (.slice ta K tk) := kz4.cell 7
        go_wp2_with fail
        refine (hchz.out v4 hBB.out).mono ?_
        rintro e v5 ⟨rfl, hBn⟩
        replace hBB := PM.hid (PM.chain hBB.out hBn)
        clear hBn
        go_wp2_with fail
        go_ret
        exact ⟨rfl, hBB.out⟩
  · by_cases hI : (⟨ia, il, ir⟩ : PM.Id) = ⟨ab, al, ar⟩
    · by_cases hC : cl = ac
      · have hXY : X = Y := heq.out.2 ⟨hI, hC⟩
        have hcc : (cl == ac) = true := by simpa using hC
        rw [decide_eq_true hI] at hqq
        clear hI hC
        rw [PM.enE_no hq]
        clear ho2 ho
        clear hXY hq heq hinj
        go_upto_region 12 with fail
        clear hqq kc1 hcc
        clear c0 c1 c2 c3 c4 c5 c6 c7
        clear y0 y1 y2 y3 y4 y5 y6 y7
        clear ky
        by_cases hneg : n < 0
        · have hd : decide (n < 0) = true := by simp; omega
          have c0 : u2.cell? ⟨ga, 0, none⟩ = some (.int .i64 ak) := ka.cell 0
          have c1 : u2.cell? ⟨ga, 1, none⟩ = some (.int .i64 ab) := ka.cell 1
          have c2 : u2.cell? ⟨ga, 2, none⟩ = some (.int .u64 (al : Int)) := ka.cell 2
          have c3 : u2.cell? ⟨ga, 3, none⟩ = some (.int .u64 (ar : Int)) := ka.cell 3
          have c4 : u2.cell? ⟨ga, 4, none⟩ = some (.int .i64 ac) := ka.cell 4
          have c5 : u2.cell? ⟨ga, 5, none⟩ = some (.int .u64 (au : Int)) := ka.cell 5
          have c6 : u2.cell? ⟨ga, 6, none⟩ = some (.slice afa aF afc) := ka.cell 6
          have c7 : u2.cell? ⟨ga, 7, none⟩ = some (.slice aea aL aec) := ka.cell 7
          go_upto_region 14 with fail
          obtain ⟨N, hN⟩ : ∃ N : Int, N = -(n + 1) := ⟨_, rfl⟩
          rw [← hN]
          have hN0 : 0 ≤ N := by omega
          have hN1 : N ≤ 9223372036854775807 := by omega
          clear hd hN hneg hn1 hn2
          obtain ⟨K, hK⟩ : ∃ K : Nat, (K : Int) = N % ((aL : Int) + 1) := ⟨(N % ((aL : Int) + 1)).toNat, by have := Int.emod_nonneg N (show (aL : Int) + 1 ≠ 0 by omega); omega⟩
          have hKL : K ≤ aL := by
            have := Int.emod_lt_of_pos N (show (0 : Int) < (aL : Int) + 1 by omega)
            omega
          obtain ⟨ta, tk, hcu, hchz⟩ := hcut.out K hKL
          replace hchz := PM.hid (hchz hok.out)
          rw [hK] at hcu
          have hKh := PM.hid hK
          clear hK hcut
          have hbx' : aL ≤ 8 := hl8.out hok.out
          have hwA : IntKind.i64.wrap ((aL : Int) + 1) = (aL : Int) + 1 := by rw [IntKind.wrap_i64]; omega
          have hl2 : ¬ ((aL : Int) + 1 = 0) := by omega
          have htm : N.tmod ((aL : Int) + 1) = N % ((aL : Int) + 1) := Int.tmod_eq_emod_of_nonneg hN0
          go_upto_region 15 with fail
          obtain ⟨gz, hgz⟩ : ∃ g, g = u2.heap.size := ⟨_, rfl⟩
          obtain ⟨v3, hv3⟩ : ∃ W, W = u2.alloc (.cells #[.int .i64 ak, .int .i64 ab, .int .u64 (al : Int), .int .u64 (ar : Int), .int .i64 ac, .int .u64 (au : Int), .slice afa aF afc, .slice aea aL aec] 30) := ⟨_, rfl⟩
          have hBn : Below u2.heap.size u2 v3 := by rw [hv3]; exact (Below.refl _ _).alloc (Nat.le_refl _) _
          have kz : PM.BK v3 gz #[.int .i64 ak, .int .i64 ab, .int .u64 (al : Int), .int .u64 (ar : Int), .int .i64 ac, .int .u64 (au : Int), .slice afa aF afc, .slice aea aL aec] 30 := by rw [hv3, hgz]; exact PM.BK.new _ _ _
          have hgez : w.heap.size ≤ gz := by rw [hgz]; exact hBB.out.size
          have hnaz : ga ≠ gz := by rw [hgz]; exact Nat.ne_of_lt ka.lt
          rw [← hv3, ← hgz]
          clear hv3 hgz
          clear c0 c1 c2 c3 c4 c5 c6 c7
          replace ka := ka.keep hBn
          replace hBB := PM.hid (PM.chain hBB.out hBn)
          clear hBn
          have c0 : v3.cell? ⟨ga, 0, none⟩ = some (.int .i64 ak) := ka.cell 0
          have c1 : v3.cell? ⟨ga, 1, none⟩ = some (.int .i64 ab) := ka.cell 1
          have c2 : v3.cell? ⟨ga, 2, none⟩ = some (.int .u64 (al : Int)) := ka.cell 2
          have c3 : v3.cell? ⟨ga, 3, none⟩ = some (.int .u64 (ar : Int)) := ka.cell 3
          have c4 : v3.cell? ⟨ga, 4, none⟩ = some (.int .i64 ac) := ka.cell 4
          have c5 : v3.cell? ⟨ga, 5, none⟩ = some (.int .u64 (au : Int)) := ka.cell 5
          have c6 : v3.cell? ⟨ga, 6, none⟩ = some (.slice afa aF afc) := ka.cell 6
          have c7 : v3.cell? ⟨ga, 7, none⟩ = some (.slice aea aL aec) := ka.cell 7
          have z0 : v3.cell? ⟨gz, 0, none⟩ = some (.int .i64 ak) := kz.cell 0
          have z1 : v3.cell? ⟨gz, 1, none⟩ = some (.int .i64 ab) := kz.cell 1
          have z2 : v3.cell? ⟨gz, 2, none⟩ = some (.int .u64 (al : Int)) := kz.cell 2
          have z3 : v3.cell? ⟨gz, 3, none⟩ = some (.int .u64 (ar : Int)) := kz.cell 3
          have z4 : v3.cell? ⟨gz, 4, none⟩ = some (.int .i64 ac) := kz.cell 4
          have z5 : v3.cell? ⟨gz, 5, none⟩ = some (.int .u64 (au : Int)) := kz.cell 5
          have z6 : v3.cell? ⟨gz, 6, none⟩ = some (.slice afa aF afc) := kz.cell 6
          have z7 : v3.cell? ⟨gz, 7, none⟩ = some (.slice aea aL aec) := kz.cell 7
          have q0 := fun i => PM.BK.free kz i
          go_region
          obtain ⟨v4, hv4⟩ : ∃ W, W = (v3.setCell ⟨gz, 7, none⟩ (.slice ta K tk)).drew := ⟨_, rfl⟩
          have hx4 : PM.Bx gz v3 v4 := by rw [hv4]; exact (PM.Bx.set gz 7 v3 _).drew'
          have kz4 : PM.BK v4 gz #[.int .i64 ak, .int .i64 ab, .int .u64 (al : Int), .int .u64 (ar : Int), .int .i64 ac, .int .u64 (au : Int), .slice afa aF afc, .slice ta K tk] 30 := by rw [hv4]; exact ((kz.set 7 _).see (by simp)).drew'
          rw [← hv4]
          clear hv4 q0 hcu hl2 htm hwA kz hKh hN0 hN1
          replace hBB := PM.hid (PM.Bx.below hBB.out hx4 hgez hBB.out.size)
          clear c0 c1 c2 c3 c4 c5 c6 c7
          clear z0 z1 z2 z3 z4 z5 z6 z7
          clear hx4 ka hnaz hgez
          have z0 : v4.cell? ⟨gz, 0, none⟩ = some (.int .i64 ak) := kz4.cell 0
          have z1 : v4.cell? ⟨gz, 1, none⟩ = some (.int .i64 ab) := kz4.cell 1
          have z2 : v4.cell? ⟨gz, 2, none⟩ = some (.int .u64 (al : Int)) := kz4.cell 2
          have z3 : v4.cell? ⟨gz, 3, none⟩ = some (.int .u64 (ar : Int)) := kz4.cell 3
          have z4 : v4.cell? ⟨gz, 4, none⟩ = some (.int .i64 ac) := kz4.cell 4
          have z5 : v4.cell? ⟨gz, 5, none⟩ = some (.int .u64 (au : Int)) := kz4.cell 5
          have z6 : v4.cell? ⟨gz, 6, none⟩ = some (.slice afa aF afc) := kz4.cell 6
          have z7 : v4.cell? ⟨gz, 7, none⟩ = some (.slice ta K tk) := kz4.cell 7
          go_wp2_with fail
          refine (hchz.out v4 hBB.out).mono ?_
          rintro e v5 ⟨rfl, hBn⟩
          replace hBB := PM.hid (PM.chain hBB.out hBn)
          clear hBn
          go_wp2_with fail
          go_ret
          exact ⟨rfl, hBB.out⟩
        · have hd : decide (n < 0) = false := by simp; omega
          have c0 : u2.cell? ⟨ga, 0, none⟩ = some (.int .i64 ak) := ka.cell 0
          have c1 : u2.cell? ⟨ga, 1, none⟩ = some (.int .i64 ab) := ka.cell 1
          have c2 : u2.cell? ⟨ga, 2, none⟩ = some (.int .u64 (al : Int)) := ka.cell 2
          have c3 : u2.cell? ⟨ga, 3, none⟩ = some (.int .u64 (ar : Int)) := ka.cell 3
          have c4 : u2.cell? ⟨ga, 4, none⟩ = some (.int .i64 ac) := ka.cell 4
          have c5 : u2.cell? ⟨ga, 5, none⟩ = some (.int .u64 (au : Int)) := ka.cell 5
          have c6 : u2.cell? ⟨ga, 6, none⟩ = some (.slice afa aF afc) := ka.cell 6
          have c7 : u2.cell? ⟨ga, 7, none⟩ = some (.slice aea aL aec) := ka.cell 7
          go_upto_region 14 with fail
          obtain ⟨N, hN⟩ : ∃ N : Int, N = n := ⟨_, rfl⟩
          rw [← hN]
          have hN0 : 0 ≤ N := by omega
          have hN1 : N ≤ 9223372036854775807 := by omega
          clear hd hN hneg hn1 hn2
          obtain ⟨K, hK⟩ : ∃ K : Nat, (K : Int) = N % ((aL : Int) + 1) := ⟨(N % ((aL : Int) + 1)).toNat, by have := Int.emod_nonneg N (show (aL : Int) + 1 ≠ 0 by omega); omega⟩
          have hKL : K ≤ aL := by
            have := Int.emod_lt_of_pos N (show (0 : Int) < (aL : Int) + 1 by omega)
            omega
          obtain ⟨ta, tk, hcu, hchz⟩ := hcut.out K hKL
          replace hchz := PM.hid (hchz hok.out)
          rw [hK] at hcu
          have hKh := PM.hid hK
          clear hK hcut
          have hbx' : aL ≤ 8 := hl8.out hok.out
          have hwA : IntKind.i64.wrap ((aL : Int) + 1) = (aL : Int) + 1 := by rw [IntKind.wrap_i64]; omega
          have hl2 : ¬ ((aL : Int) + 1 = 0) := by omega
          have htm : N.tmod ((aL : Int) + 1) = N % ((aL : Int) + 1) := Int.tmod_eq_emod_of_nonneg hN0
          go_upto_region 15 with fail
          obtain ⟨gz, hgz⟩ : ∃ g, g = u2.heap.size := ⟨_, rfl⟩
          obtain ⟨v3, hv3⟩ : ∃ W, W = u2.alloc (.cells #[.int .i64 ak, .int .i64 ab, .int .u64 (al : Int), .int .u64 (ar : Int), .int .i64 ac, .int .u64 (au : Int), .slice afa aF afc, .slice aea aL aec] 30) := ⟨_, rfl⟩
          have hBn : Below u2.heap.size u2 v3 := by rw [hv3]; exact (Below.refl _ _).alloc (Nat.le_refl _) _
          have kz : PM.BK v3 gz #[.int .i64 ak, .int .i64 ab, .int .u64 (al : Int), .int .u64 (ar : Int), .int .i64 ac, .int .u64 (au : Int), .slice afa aF afc, .slice aea aL aec] 30 := by rw [hv3, hgz]; exact PM.BK.new _ _ _
          have hgez : w.heap.size ≤ gz := by rw [hgz]; exact hBB.out.size
          have hnaz : ga ≠ gz := by rw [hgz]; exact Nat.ne_of_lt ka.lt
          rw [← hv3, ← hgz]
          clear hv3 hgz
          clear c0 c1 c2 c3 c4 c5 c6 c7
          replace ka := ka.keep hBn
          replace hBB := PM.hid (PM.chain hBB.out hBn)
          clear hBn
          have c0 : v3.cell? ⟨ga, 0, none⟩ = some (.int .i64 ak) := ka.cell 0
          have c1 : v3.cell? ⟨ga, 1, none⟩ = some (.int .i64 ab) := ka.cell 1
          have c2 : v3.cell? ⟨ga, 2, none⟩ = some (.int .u64 (al : Int)) := ka.cell 2
          have c3 : v3.cell? ⟨ga, 3, none⟩ = some (.int .u64 (ar : Int)) := ka.cell 3
          have c4 : v3.cell? ⟨ga, 4, none⟩ = some (.int .i64 ac) := ka.cell 4
          have c5 : v3.cell? ⟨ga, 5, none⟩ = some (.int .u64 (au : Int)) := ka.cell 5
          have c6 : v3.cell? ⟨ga, 6, none⟩ = some (.slice afa aF afc) := ka.cell 6
          have c7 : v3.cell? ⟨ga, 7, none⟩ = some (.slice aea aL aec) := ka.cell 7
          have z0 : v3.cell? ⟨gz, 0, none⟩ = some (.int .i64 ak) := kz.cell 0
          have z1 : v3.cell? ⟨gz, 1, none⟩ = some (.int .i64 ab) := kz.cell 1
          have z2 : v3.cell? ⟨gz, 2, none⟩ = some (.int .u64 (al : Int)) := kz.cell 2
          have z3 : v3.cell? ⟨gz, 3, none⟩ = some (.int .u64 (ar : Int)) := kz.cell 3
          have z4 : v3.cell? ⟨gz, 4, none⟩ = some (.int .i64 ac) := kz.cell 4
          have z5 : v3.cell? ⟨gz, 5, none⟩ = some (.int .u64 (au : Int)) := kz.cell 5
          have z6 : v3.cell? ⟨gz, 6, none⟩ = some (.slice afa aF afc) := kz.cell 6
          have z7 : v3.cell? ⟨gz, 7, none⟩ = some (.slice aea aL aec) := kz.cell 7
          have q0 := fun i => PM.BK.free kz i
          go_region
          obtain ⟨v4, hv4⟩ : ∃ W, W = (v3.setCell ⟨gz, 7, none⟩ (.slice ta K tk)).drew := ⟨_, rfl⟩
          have hx4 : PM.Bx gz v3 v4 := by rw [hv4]; exact (PM.Bx.set gz 7 v3 _).drew'
          have kz4 : PM.BK v4 gz #[.int .i64 ak, .int .i64 ab, .int .u64 (al : Int), .int .u64 (ar : Int), .int .i64 ac, .int .u64 (au : Int), .slice afa aF afc, .slice ta K tk] 30 := by rw [hv4]; exact ((kz.set 7 _).see (by simp)).drew'
          rw [← hv4]
          clear hv4 q0 hcu hl2 htm hwA kz hKh hN0 hN1
          replace hBB := PM.hid (PM.Bx.below hBB.out hx4 hgez hBB.out.size)
          clear c0 c1 c2 c3 c4 c5 c6 c7
          clear z0 z1 z2 z3 z4 z5 z6 z7
          clear hx4 ka hnaz hgez
          have z0 : v4.cell? ⟨gz, 0, none⟩ = some (.int .i64 ak) := kz4.cell 0
          have z1 : v4.cell? ⟨gz, 1, none⟩ = some (.int .i64 ab) := kz4.cell 1
          have z2 : v4.cell? ⟨gz, 2, none⟩ = some (.int .u64 (al : Int)) := kz4.cell 2
          have z3 : v4.cell? ⟨gz, 3, none⟩ = some (.int .u64 (ar : Int)) := kz4.cell 3
          have z4 : v4.cell? ⟨gz, 4, none⟩ = some (.int .i64 ac) := kz4.cell 4
          have z5 : v4.cell? ⟨gz, 5, none⟩ = some (.int .u64 (au : Int)) := kz4.cell 5
          have z6 : v4.cell? ⟨gz, 6, none⟩ = some (.slice afa aF afc) := kz4.cell 6
          have z7 : v4.cell? ⟨gz, 7, none⟩ = some (.slice ta K tk) := kz4.cell 7
          go_wp2_with fail
          refine (hchz.out v4 hBB.out).mono ?_
          rintro e v5 ⟨rfl, hBn⟩
          replace hBB := PM.hid (PM.chain hBB.out hBn)
          clear hBn
          go_wp2_with fail
          go_ret
          exact ⟨rfl, hBB.out⟩
      · have hXY : ¬ X = Y := fun h => hC (heq.out.1 h).2
        have hcc : (cl == ac) = false := by simpa using hC
        rw [decide_eq_true hI] at hqq
        clear hI hC
        rw [PM.enE_no hq]
        clear ho2 ho
        clear hXY hq heq hinj
        go_upto_region 12 with fail
        clear hqq kc1 hcc
        clear c0 c1 c2 c3 c4 c5 c6 c7
        clear y0 y1 y2 y3 y4 y5 y6 y7
        clear ky
        by_cases hneg : n < 0
        · have hd : decide (n < 0) = true := by simp; omega
          have c0 : u2.cell? ⟨ga, 0, none⟩ = some (.int .i64 ak) := ka.cell 0
          have c1 : u2.cell? ⟨ga, 1, none⟩ = some (.int .i64 ab) := ka.cell 1
          have c2 : u2.cell? ⟨ga, 2, none⟩ = some (.int .u64 (al : Int)) := ka.cell 2
          have c3 : u2.cell? ⟨ga, 3, none⟩ = some (.int .u64 (ar : Int)) := ka.cell 3
          have c4 : u2.cell? ⟨ga, 4, none⟩ = some (.int .i64 ac) := ka.cell 4
          have c5 : u2.cell? ⟨ga, 5, none⟩ = some (.int .u64 (au : Int)) := ka.cell 5
          have c6 : u2.cell? ⟨ga, 6, none⟩ = some (.slice afa aF afc) := ka.cell 6
          have c7 : u2.cell? ⟨ga, 7, none⟩ = some (.slice aea aL aec) := ka.cell 7
          go_upto_region 14 with fail
          obtain ⟨N, hN⟩ : ∃ N : Int, N = -(n + 1) := ⟨_, rfl⟩
          rw [← hN]
          have hN0 : 0 ≤ N := by omega
          have hN1 : N ≤ 9223372036854775807 := by omega
          clear hd hN hneg hn1 hn2
          obtain ⟨K, hK⟩ : ∃ K : Nat, (K : Int) = N % ((aL : Int) + 1) := ⟨(N % ((aL : Int) + 1)).toNat, by have := Int.emod_nonneg N (show (aL : Int) + 1 ≠ 0 by omega); omega⟩
          have hKL : K ≤ aL := by
            have := Int.emod_lt_of_pos N (show (0 : Int) < (aL : Int) + 1 by omega)
            omega
          obtain ⟨ta, tk, hcu, hchz⟩ := hcut.out K hKL
          replace hchz := PM.hid (hchz hok.out)
          rw [hK] at hcu
          have hKh := PM.hid hK
          clear hK hcut
          have hbx' : aL ≤ 8 := hl8.out hok.out
          have hwA : IntKind.i64.wrap ((aL : Int) + 1) = (aL : Int) + 1 := by rw [IntKind.wrap_i64]; omega
          have hl2 : ¬ ((aL : Int) + 1 = 0) := by omega
          have htm : N.tmod ((aL : Int) + 1) = N % ((aL : Int) + 1) := Int.tmod_eq_emod_of_nonneg hN0
          go_upto_region 15 with fail
          obtain ⟨gz, hgz⟩ : ∃ g, g = u2.heap.size := ⟨_, rfl⟩
          obtain ⟨v3, hv3⟩ : ∃ W, W = u2.alloc (.cells #[.int .i64 ak, .int .i64 ab, .int .u64 (al : Int), .int .u64 (ar : Int), .int .i64 ac, .int .u64 (au : Int), .slice afa aF afc, .slice aea aL aec] 30) := ⟨_, rfl⟩
          have hBn : Below u2.heap.size u2 v3 := by rw [hv3]; exact (Below.refl _ _).alloc (Nat.le_refl _) _
          have kz : PM.BK v3 gz #[.int .i64 ak, .int .i64 ab, .int .u64 (al : Int), .int .u64 (ar : Int), .int .i64 ac, .int .u64 (au : Int), .slice afa aF afc, .slice aea aL aec] 30 := by rw [hv3, hgz]; exact PM.BK.new _ _ _
          have hgez : w.heap.size ≤ gz := by rw [hgz]; exact hBB.out.size
          have hnaz : ga ≠ gz := by rw [hgz]; exact Nat.ne_of_lt ka.lt
          rw [← hv3, ← hgz]
          clear hv3 hgz
          clear c0 c1 c2 c3 c4 c5 c6 c7
          replace ka := ka.keep hBn
          replace hBB := PM.hid (PM.chain hBB.out hBn)
          clear hBn
          have c0 : v3.cell? ⟨ga, 0, none⟩ = some (.int .i64 ak) := ka.cell 0
          have c1 : v3.cell? ⟨ga, 1, none⟩ = some (.int .i64 ab) := ka.cell 1
          have c2 : v3.cell? ⟨ga, 2, none⟩ = some (.int .u64 (al : Int)) := ka.cell 2
          have c3 : v3.cell? ⟨ga, 3, none⟩ = some (.int .u64 (ar : Int)) := ka.cell 3
          have c4 : v3.cell? ⟨ga, 4, none⟩ = some (.int .i64 ac) := ka.cell 4
          have c5 : v3.cell? ⟨ga, 5, none⟩ = some (.int .u64 (au : Int)) := ka.cell 5
          have c6 : v3.cell? ⟨ga, 6, none⟩ = some (.slice afa aF afc) := ka.cell 6
          have c7 : v3.cell? ⟨ga, 7, none⟩ = some (.slice aea aL aec) := ka.cell 7
          have z0 : v3.cell? ⟨gz, 0, none⟩ = some (.int .i64 ak) := kz.cell 0
          have z1 : v3.cell? ⟨gz, 1, none⟩ = some (.int .i64 ab) := kz.cell 1
          have z2 : v3.cell? ⟨gz, 2, none⟩ = some (.int .u64 (al : Int)) := kz.cell 2
          have z3 : v3.cell? ⟨gz, 3, none⟩ = some (.int .u64 (ar : Int)) := kz.cell 3
          have z4 : v3.cell? ⟨gz, 4, none⟩ = some (.int .i64 ac) := kz.cell 4
          have z5 : v3.cell? ⟨gz, 5, none⟩ = some (.int .u64 (au : Int)) := kz.cell 5
          have z6 : v3.cell? ⟨gz, 6, none⟩ = some (.slice afa aF afc) := kz.cell 6
          have z7 : v3.cell? ⟨gz, 7, none⟩ = some (.slice aea aL aec) := kz.cell 7
          have q0 := fun i => PM.BK.free kz i
          go_region
          obtain ⟨v4, hv4⟩ : ∃ W, W = (v3.setCell ⟨gz, 7, none⟩ (.slice ta K tk)).drew := ⟨_, rfl⟩
          have hx4 : PM.Bx gz v3 v4 := by rw [hv4]; exact (PM.Bx.set gz 7 v3 _).drew'
          have kz4 : PM.BK v4 gz #[.int .i64 ak, .int .i64 ab, .int .u64 (al : Int), .int .u64 (ar : Int), .int .i64 ac, .int .u64 (au : Int), .slice afa aF afc, .slice ta K tk] 30 := by rw [hv4]; exact ((kz.set 7 _).see (by simp)).drew'
          rw [← hv4]
          clear hv4 q0 hcu hl2 htm hwA kz hKh hN0 hN1
          replace hBB := PM.hid (PM.Bx.below hBB.out hx4 hgez hBB.out.size)
          clear c0 c1 c2 c3 c4 c5 c6 c7
          clear z0 z1 z2 z3 z4 z5 z6 z7
          clear hx4 ka hnaz hgez
          have z0 : v4.cell? ⟨gz, 0, none⟩ = some (.int .i64 ak) := kz4.cell 0
          have z1 : v4.cell? ⟨gz, 1, none⟩ = some (.int .i64 ab) := kz4.cell 1
          have z2 : v4.cell? ⟨gz, 2, none⟩ = some (.int .u64 (al : Int)) := kz4.cell 2
          have z3 : v4.cell? ⟨gz, 3, none⟩ = some (.int .u64 (ar : Int)) := kz4.cell 3
          have z4 : v4.cell? ⟨gz, 4, none⟩ = some (.int .i64 ac) := kz4.cell 4
          have z5 : v4.cell? ⟨gz, 5, none⟩ = some (.int .u64 (au : Int)) := kz4.cell 5
          have z6 : v4.cell? ⟨gz, 6, none⟩ = some (.slice afa aF afc) := kz4.cell 6
          have z7 : v4.cell? ⟨gz, 7, none⟩ = some (.slice ta K tk) := kz4.cell 7
          go_wp2_with fail
          refine (hchz.out v4 hBB.out).mono ?_
          rintro e v5 ⟨rfl, hBn⟩
          replace hBB := PM.hid (PM.chain hBB.out hBn)
          clear hBn
          go_wp2_with fail
          go_ret
          exact ⟨rfl, hBB.out⟩
        · have hd : decide (n < 0) = false := by simp; omega
          have c0 : u2.cell? ⟨ga, 0, none⟩ = some (.int .i64 ak) := ka.cell 0
          have c1 : u2.cell? ⟨ga, 1, none⟩ = some (.int .i64 ab) := ka.cell 1
          have c2 : u2.cell? ⟨ga, 2, none⟩ = some (.int .u64 (al : Int)) := ka.cell 2
          have c3 : u2.cell? ⟨ga, 3, none⟩ = some (.int .u64 (ar : Int)) := ka.cell 3
          have c4 : u2.cell? ⟨ga, 4, none⟩ = some (.int .i64 ac) := ka.cell 4
          have c5 : u2.cell? ⟨ga, 5, none⟩ = some (.int .u64 (au : Int)) := ka.cell 5
          have c6 : u2.cell? ⟨ga, 6, none⟩ = some (.slice afa aF afc) := ka.cell 6
          have c7 : u2.cell? ⟨ga, 7, none⟩ = some (.slice aea aL aec) := ka.cell 7
          go_upto_region 14 with fail
          obtain ⟨N, hN⟩ : ∃ N : Int, N = n := ⟨_, rfl⟩
          rw [← hN]
          have hN0 : 0 ≤ N := by omega
          have hN1 : N ≤ 9223372036854775807 := by omega
          clear hd hN hneg hn1 hn2
          obtain ⟨K, hK⟩ : ∃ K : Nat, (K : Int) = N % ((aL : Int) + 1) := ⟨(N % ((aL : Int) + 1)).toNat, by have := Int.emod_nonneg N (show (aL : Int) + 1 ≠ 0 by omega); omega⟩
          have hKL : K ≤ aL := by
            have := Int.emod_lt_of_pos N (show (0 : Int) < (aL : Int) + 1 by omega)
            omega
          obtain ⟨ta, tk, hcu, hchz⟩ := hcut.out K hKL
          replace hchz := PM.hid (hchz hok.out)
          rw [hK] at hcu
          have hKh := PM.hid hK
          clear hK hcut
          have hbx' : aL ≤ 8 := hl8.out hok.out
          have hwA : IntKind.i64.wrap ((aL : Int) + 1) = (aL : Int) + 1 := by rw [IntKind.wrap_i64]; omega
          have hl2 : ¬ ((aL : Int) + 1 = 0) := by omega
          have htm : N.tmod ((aL : Int) + 1) = N % ((aL : Int) + 1) := Int.tmod_eq_emod_of_nonneg hN0
          go_upto_region 15 with fail
          obtain ⟨gz, hgz⟩ : ∃ g, g = u2.heap.size := ⟨_, rfl⟩
          obtain ⟨v3, hv3⟩ : ∃ W, W = u2.alloc (.cells #[.int .i64 ak, .int .i64 ab, .int .u64 (al : Int), .int .u64 (ar : Int), .int .i64 ac, .int .u64 (au : Int), .slice afa aF afc, .slice aea aL aec] 30) := ⟨_, rfl⟩
          have hBn : Below u2.heap.size u2 v3 := by rw [hv3]; exact (Below.refl _ _).alloc (Nat.le_refl _) _
          have kz : PM.BK v3 gz #[.int .i64 ak, .int .i64 ab, .int .u64 (al : Int), .int .u64 (ar : Int), .int .i64 ac, .int .u64 (au : Int), .slice afa aF afc, .slice aea aL aec] 30 := by rw [hv3, hgz]; exact PM.BK.new _ _ _
          have hgez : w.heap.size ≤ gz := by rw [hgz]; exact hBB.out.size
          have hnaz : ga ≠ gz := by rw [hgz]; exact Nat.ne_of_lt ka.lt
          rw [← hv3, ← hgz]
          clear hv3 hgz
          clear c0 c1 c2 c3 c4 c5 c6 c7
          replace ka := ka.keep hBn
          replace hBB := PM.hid (PM.chain hBB.out hBn)
          clear hBn
          have c0 : v3.cell? ⟨ga, 0, none⟩ = some (.int .i64 ak) := ka.cell 0
          have c1 : v3.cell? ⟨ga, 1, none⟩ = some (.int .i64 ab) := ka.cell 1
          have c2 : v3.cell? ⟨ga, 2, none⟩ = some (.int .u64 (al : Int)) := ka.cell 2
          have c3 : v3.cell? ⟨ga, 3, none⟩ = some (.int .u64 (ar : Int)) := ka.cell 3
          have c4 : v3.cell? ⟨ga, 4, none⟩ = some (.int .i64 ac) := ka.cell 4
          have c5 : v3.cell? ⟨ga, 5, none⟩ = some (.int .u64 (au : Int)) := ka.cell 5
          have c6 : v3.cell? ⟨ga, 6, none⟩ = some (.slice afa aF afc) := ka.cell 6
          have c7 : v3.cell? ⟨ga, 7, none⟩ = some (.slice aea aL aec) := ka.cell 7
          have z0 : v3.cell? ⟨gz, 0, none⟩ = some (.int .i64 ak) := kz.cell 0
          have z1 : v3.cell? ⟨gz, 1, none⟩ = some (.int .i64 ab) := kz.cell 1
          have z2 : v3.cell? ⟨gz, 2, none⟩ = some (.int .u64 (al : Int)) := kz.cell 2
          have z3 : v3.cell? ⟨gz, 3, none⟩ = some (.int .u64 (ar : Int)) := kz.cell 3
          have z4 : v3.cell? ⟨gz, 4, none⟩ = some (.int .i64 ac) := kz.cell 4
          have z5 : v3.cell? ⟨gz, 5, none⟩ = some (.int .u64 (au : Int)) := kz.cell 5
          have z6 : v3.cell? ⟨gz, 6, none⟩ = some (.slice afa aF afc) := kz.cell 6
          have z7 : v3.cell? ⟨gz, 7, none⟩ = some (.slice aea aL aec) := kz.cell 7
          have q0 := fun i => PM.BK.free kz i
          go_region
          obtain ⟨v4, hv4⟩ : ∃ W, W = (v3.setCell ⟨gz, 7, none⟩ (.slice ta K tk)).drew := ⟨_, rfl⟩
          have hx4 : PM.Bx gz v3 v4 := by rw [hv4]; exact (PM.Bx.set gz 7 v3 _).drew'
          have kz4 : PM.BK v4 gz #[.int .i64 ak, .int .i64 ab, .int .u64 (al : Int), .int .u64 (ar : Int), .int .i64 ac, .int .u64 (au : Int), .slice afa aF afc, .slice ta K tk] 30 := by rw [hv4]; exact ((kz.set 7 _).see (by simp)).drew'
          rw [← hv4]
          clear hv4 q0 hcu hl2 htm hwA kz hKh hN0 hN1
          replace hBB := PM.hid (PM.Bx.below hBB.out hx4 hgez hBB.out.size)
          clear c0 c1 c2 c3 c4 c5 c6 c7
          clear z0 z1 z2 z3 z4 z5 z6 z7
          clear hx4 ka hnaz hgez
          have z0 : v4.cell? ⟨gz, 0, none⟩ = some (.int .i64 ak) := kz4.cell 0
          have z1 : v4.cell? ⟨gz, 1, none⟩ = some (.int .i64 ab) := kz4.cell 1
          have z2 : v4.cell? ⟨gz, 2, none⟩ = some (.int .u64 (al : Int)) := kz4.cell 2
          have z3 : v4.cell? ⟨gz, 3, none⟩ = some (.int .u64 (ar : Int)) := kz4.cell 3
          have z4 : v4.cell? ⟨gz, 4, none⟩ = some (.int .i64 ac) := kz4.cell 4
          have z5 : v4.cell? ⟨gz, 5, none⟩ = some (.int .u64 (au : Int)) := kz4.cell 5
          have z6 : v4.cell? ⟨gz, 6, none⟩ = some (.slice afa aF afc) := kz4.cell 6
          have z7 : v4.cell? ⟨gz, 7, none⟩ = some (.slice ta K tk) := kz4.cell 7
          go_wp2_with fail
          refine (hchz.out v4 hBB.out).mono ?_
          rintro e v5 ⟨rfl, hBn⟩
          replace hBB := PM.hid (PM.chain hBB.out hBn)
          clear hBn
          go_wp2_with fail
          go_ret
          exact ⟨rfl, hBB.out⟩
    · have hXY : ¬ X = Y := fun h => hI (heq.out.1 h).1
      rw [decide_eq_false hI] at hqq
      clear hI
      rw [PM.enE_no hq]
      clear ho2 ho
      clear hXY hq heq hinj
      go_upto_region 12 with fail
      clear hqq kc1
      clear c0 c1 c2 c3 c4 c5 c6 c7
      clear y0 y1 y2 y3 y4 y5 y6 y7
      clear ky
      by_cases hneg : n < 0
      · have hd : decide (n < 0) = true := by simp; omega
        have c0 : u2.cell? ⟨ga, 0, none⟩ = some (.int .i64 ak) := ka.cell 0
        have c1 : u2.cell? ⟨ga, 1, none⟩ = some (.int .i64 ab) := ka.cell 1
        have c2 : u2.cell? ⟨ga, 2, none⟩ = some (.int .u64 (al : Int)) := ka.cell 2
        have c3 : u2.cell? ⟨ga, 3, none⟩ = some (.int .u64 (ar : Int)) := ka.cell 3
        have c4 : u2.cell? ⟨ga, 4, none⟩ = some (.int .i64 ac) := ka.cell 4
        have c5 : u2.cell? ⟨ga, 5, none⟩ = some (.int .u64 (au : Int)) := ka.cell 5
        have c6 : u2.cell? ⟨ga, 6, none⟩ = some (.slice afa aF afc) := ka.cell 6
        have c7 : u2.cell? ⟨ga, 7, none⟩ = some (.slice aea aL aec) := ka.cell 7
        go_upto_region 14 with fail
        obtain ⟨N, hN⟩ : ∃ N : Int, N = -(n + 1) := ⟨_, rfl⟩
        rw [← hN]
        have hN0 : 0 ≤ N := by omega
        have hN1 : N ≤ 9223372036854775807 := by omega
        clear hd hN hneg hn1 hn2
        obtain ⟨K, hK⟩ : ∃ K : Nat, (K : Int) = N % ((aL : Int) + 1) := ⟨(N % ((aL : Int) + 1)).toNat, by have := Int.emod_nonneg N (show (aL : Int) + 1 ≠ 0 by omega); omega⟩
        have hKL : K ≤ aL := by
          have := Int.emod_lt_of_pos N (show (0 : Int) < (aL : Int) + 1 by omega)
          omega
        obtain ⟨ta, tk, hcu, hchz⟩ := hcut.out K hKL
        replace hchz := PM.hid (hchz hok.out)
        rw [hK] at hcu
        have hKh := PM.hid hK
        clear hK hcut
        have hbx' : aL ≤ 8 := hl8.out hok.out
        have hwA : IntKind.i64.wrap ((aL : Int) + 1) = (aL : Int) + 1 := by rw [IntKind.wrap_i64]; omega
        have hl2 : ¬ ((aL : Int) + 1 = 0) := by omega
        have htm : N.tmod ((aL : Int) + 1) = N % ((aL : Int) + 1) := Int.tmod_eq_emod_of_nonneg hN0
        go_upto_region 15 with fail
        obtain ⟨gz, hgz⟩ : ∃ g, g = u2.heap.size := ⟨_, rfl⟩
        obtain ⟨v3, hv3⟩ : ∃ W, W = u2.alloc (.cells #[.int .i64 ak, .int .i64 ab, .int .u64 (al : Int), .int .u64 (ar : Int), .int .i64 ac, .int .u64 (au : Int), .slice afa aF afc, .slice aea aL aec] 30) := ⟨_, rfl⟩
        have hBn : Below u2.heap.size u2 v3 := by rw [hv3]; exact (Below.refl _ _).alloc (Nat.le_refl _) _
        have kz : PM.BK v3 gz #[.int .i64 ak, .int .i64 ab, .int .u64 (al : Int), .int .u64 (ar : Int), .int .i64 ac, .int .u64 (au : Int), .slice afa aF afc, .slice aea aL aec] 30 := by rw [hv3, hgz]; exact PM.BK.new _ _ _
        have hgez : w.heap.size ≤ gz := by rw [hgz]; exact hBB.out.size
        have hnaz : ga ≠ gz := by rw [hgz]; exact Nat.ne_of_lt ka.lt
        rw [← hv3, ← hgz]
        clear hv3 hgz
        clear c0 c1 c2 c3 c4 c5 c6 c7
        replace ka := ka.keep hBn
        replace hBB := PM.hid (PM.chain hBB.out hBn)
        clear hBn
        have c0 : v3.cell? ⟨ga, 0, none⟩ = some (.int .i64 ak) := ka.cell 0
        have c1 : v3.cell? ⟨ga, 1, none⟩ = some (.int .i64 ab) := ka.cell 1
        have c2 : v3.cell? ⟨ga, 2, none⟩ = some (.int .u64 (al : Int)) := ka.cell 2
        have c3 : v3.cell? ⟨ga, 3, none⟩ = some (.int .u64 (ar : Int)) := ka.cell 3
        have c4 : v3.cell? ⟨ga, 4, none⟩ = some (.int .i64 ac) := ka.cell 4
        have c5 : v3.cell? ⟨ga, 5, none⟩ = some (.int .u64 (au : Int)) := ka.cell 5
        have c6 : v3.cell? ⟨ga, 6, none⟩ = some (.slice afa aF afc) := ka.cell 6
        have c7 : v3.cell? ⟨ga, 7, none⟩ = some (.slice aea aL aec) := ka.cell 7
        have z0 : v3.cell? ⟨gz, 0, none⟩ = some (.int .i64 ak) := kz.cell 0
        have z1 : v3.cell? ⟨gz, 1, none⟩ = some (.int .i64 ab) := kz.cell 1
        have z2 : v3.cell? ⟨gz, 2, none⟩ = some (.int .u64 (al : Int)) := kz.cell 2
        have z3 : v3.cell? ⟨gz, 3, none⟩ = some (.int .u64 (ar : Int)) := kz.cell 3
        have z4 : v3.cell? ⟨gz, 4, none⟩ = some (.int .i64 ac) := kz.cell 4
        have z5 : v3.cell? ⟨gz, 5, none⟩ = some (.int .u64 (au : Int)) := kz.cell 5
        have z6 : v3.cell? ⟨gz, 6, none⟩ = some (.slice afa aF afc) := kz.cell 6
        have z7 : v3.cell? ⟨gz, 7, none⟩ = some (.slice aea aL aec) := kz.cell 7
        have q0 := fun i => PM.BK.free kz i
        go_region
        obtain ⟨v4, hv4⟩ : ∃ W, W = (v3.setCell ⟨gz, 7, none⟩ (.slice ta K tk)).drew := ⟨_, rfl⟩
        have hx4 : PM.Bx gz v3 v4 := by rw [hv4]; exact (PM.Bx.set gz 7 v3 _).drew'
        have kz4 : PM.BK v4 gz #[.int .i64 ak, .int .i64 ab, .int .u64 (al : Int), .int .u64 (ar : Int), .int .i64 ac, .int .u64 (au : Int), .slice afa aF afc, .slice ta K tk] 30 := by rw [hv4]; exact ((kz.set 7 _).see (by simp)).drew'
        rw [← hv4]
        clear hv4 q0 hcu hl2 htm hwA kz hKh hN0 hN1
        replace hBB := PM.hid (PM.Bx.below hBB.out hx4 hgez hBB.out.size)
        clear c0 c1 c2 c3 c4 c5 c6 c7
        clear z0 z1 z2 z3 z4 z5 z6 z7
        clear hx4 ka hnaz hgez
        have z0 : v4.cell? ⟨gz, 0, none⟩ = some (.int .i64 ak) := kz4.cell 0
        have z1 : v4.cell? ⟨gz, 1, none⟩ = some (.int .i64 ab) := kz4.cell 1
        have z2 : v4.cell? ⟨gz, 2, none⟩ = some (.int .u64 (al : Int)) := kz4.cell 2
        have z3 : v4.cell? ⟨gz, 3, none⟩ = some (.int .u64 (ar : Int)) := kz4.cell 3
        have z4 : v4.cell? ⟨gz, 4, none⟩ = some (.int .i64 ac) := kz4.cell 4
        have z5 : v4.cell? ⟨gz, 5, none⟩ = some (.int .u64 (au : Int)) := kz4.cell 5
        have z6 : v4.cell? ⟨gz, 6, none⟩ = some (.slice afa aF afc) := kz4.cell 6
        have z7 : v4.cell? ⟨gz, 7, none⟩ = some (.slice ta K tk) := kz4.cell 7
        go_wp2_with fail
        refine (hchz.out v4 hBB.out).mono ?_
        rintro e v5 ⟨rfl, hBn⟩
        replace hBB := PM.hid (PM.chain hBB.out hBn)
        clear hBn
        go_wp2_with fail
        go_ret
        exact ⟨rfl, hBB.out⟩
      · have hd : decide (n < 0) = false := by simp; omega
        have c0 : u2.cell? ⟨ga, 0, none⟩ = some (.int .i64 ak) := ka.cell 0
        have c1 : u2.cell? ⟨ga, 1, none⟩ = some (.int .i64 ab) := ka.cell 1
        have c2 : u2.cell? ⟨ga, 2, none⟩ = some (.int .u64 (al : Int)) := ka.cell 2
        have c3 : u2.cell? ⟨ga, 3, none⟩ = some (.int .u64 (ar : Int)) := ka.cell 3
        have c4 : u2.cell? ⟨ga, 4, none⟩ = some (.int .i64 ac) := ka.cell 4
        have c5 : u2.cell? ⟨ga, 5, none⟩ = some (.int .u64 (au : Int)) := ka.cell 5
        have c6 : u2.cell? ⟨ga, 6, none⟩ = some (.slice afa aF afc) := ka.cell 6
        have c7 : u2.cell? ⟨ga, 7, none⟩ = some (.slice aea aL aec) := ka.cell 7
        go_upto_region 14 with fail
        obtain ⟨N, hN⟩ : ∃ N : Int, N = n := ⟨_, rfl⟩
        rw [← hN]
        have hN0 : 0 ≤ N := by omega
        have hN1 : N ≤ 9223372036854775807 := by omega
        clear hd hN hneg hn1 hn2
        obtain ⟨K, hK⟩ : ∃ K : Nat, (K : Int) = N % ((aL : Int) + 1) := ⟨(N % ((aL : Int) + 1)).toNat, by have := Int.emod_nonneg N (show (aL : Int) + 1 ≠ 0 by omega); omega⟩
        have hKL : K ≤ aL := by
          have := Int.emod_lt_of_pos N (show (0 : Int) < (aL : Int) + 1 by omega)
          omega
        obtain ⟨ta, tk, hcu, hchz⟩ := hcut.out K hKL
        replace hchz := PM.hid (hchz hok.out)
        rw [hK] at hcu
        have hKh := PM.hid hK
        clear hK hcut
        have hbx' : aL ≤ 8 := hl8.out hok.out
        have hwA : IntKind.i64.wrap ((aL : Int) + 1) = (aL : Int) + 1 := by rw [IntKind.wrap_i64]; omega
        have hl2 : ¬ ((aL : Int) + 1 = 0) := by omega
        have htm : N.tmod ((aL : Int) + 1) = N % ((aL : Int) + 1) := Int.tmod_eq_emod_of_nonneg hN0
        go_upto_region 15 with fail
        obtain ⟨gz, hgz⟩ : ∃ g, g = u2.heap.size := ⟨_, rfl⟩
        obtain ⟨v3, hv3⟩ : ∃ W, W = u2.alloc (.cells #[.int .i64 ak, .int .i64 ab, .int .u64 (al : Int), .int .u64 (ar : Int), .int .i64 ac, .int .u64 (au : Int), .slice afa aF afc, .slice aea aL aec] 30) := ⟨_, rfl⟩
        have hBn : Below u2.heap.size u2 v3 := by rw [hv3]; exact (Below.refl _ _).alloc (Nat.le_refl _) _
        have kz : PM.BK v3 gz #[.int .i64 ak, .int .i64 ab, .int .u64 (al : Int), .int .u64 (ar : Int), .int .i64 ac, .int .u64 (au : Int), .slice afa aF afc, .slice aea aL aec] 30 := by rw [hv3, hgz]; exact PM.BK.new _ _ _
        have hgez : w.heap.size ≤ gz := by rw [hgz]; exact hBB.out.size
        have hnaz : ga ≠ gz := by rw [hgz]; exact Nat.ne_of_lt ka.lt
        rw [← hv3, ← hgz]
        clear hv3 hgz
        clear c0 c1 c2 c3 c4 c5 c6 c7
        replace ka := ka.keep hBn
        replace hBB := PM.hid (PM.chain hBB.out hBn)
        clear hBn
        have c0 : v3.cell? ⟨ga, 0, none⟩ = some (.int .i64 ak) := ka.cell 0
        have c1 : v3.cell? ⟨ga, 1, none⟩ = some (.int .i64 ab) := ka.cell 1
        have c2 : v3.cell? ⟨ga, 2, none⟩ = some (.int .u64 (al : Int)) := ka.cell 2
        have c3 : v3.cell? ⟨ga, 3, none⟩ = some (.int .u64 (ar : Int)) := ka.cell 3
        have c4 : v3.cell? ⟨ga, 4, none⟩ = some (.int .i64 ac) := ka.cell 4
        have c5 : v3.cell? ⟨ga, 5, none⟩ = some (.int .u64 (au : Int)) := ka.cell 5
        have c6 : v3.cell? ⟨ga, 6, none⟩ = some (.slice afa aF afc) := ka.cell 6
        have c7 : v3.cell? ⟨ga, 7, none⟩ = some (.slice aea aL aec) := ka.cell 7
        have z0 : v3.cell? ⟨gz, 0, none⟩ = some (.int .i64 ak) := kz.cell 0
        have z1 : v3.cell? ⟨gz, 1, none⟩ = some (.int .i64 ab) := kz.cell 1
        have z2 : v3.cell? ⟨gz, 2, none⟩ = some (.int .u64 (al : Int)) := kz.cell 2
        have z3 : v3.cell? ⟨gz, 3, none⟩ = some (.int .u64 (ar : Int)) := kz.cell 3
        have z4 : v3.cell? ⟨gz, 4, none⟩ = some (.int .i64 ac) := kz.cell 4
        have z5 : v3.cell? ⟨gz, 5, none⟩ = some (.int .u64 (au : Int)) := kz.cell 5
        have z6 : v3.cell? ⟨gz, 6, none⟩ = some (.slice afa aF afc) := kz.cell 6
        have z7 : v3.cell? ⟨gz, 7, none⟩ = some (.slice aea aL aec) := kz.cell 7
        have q0 := fun i => PM.BK.free kz i
        go_region
        obtain ⟨v4, hv4⟩ : ∃ W, W = (v3.setCell ⟨gz, 7, none⟩ (.slice ta K tk)).drew := ⟨_, rfl⟩
        have hx4 : PM.Bx gz v3 v4 := by rw [hv4]; exact (PM.Bx.set gz 7 v3 _).drew'
        have kz4 : PM.BK v4 gz #[.int .i64 ak, .int .i64 ab, .int .u64 (al : Int), .int .u64 (ar : Int), .int .i64 ac, .int .u64 (au : Int), .slice afa aF afc, .slice ta K tk] 30 := by rw [hv4]; exact ((kz.set 7 _).see (by simp)).drew'
        rw [← hv4]
        clear hv4 q0 hcu hl2 htm hwA kz hKh hN0 hN1
        replace hBB := PM.hid (PM.Bx.below hBB.out hx4 hgez hBB.out.size)
        clear c0 c1 c2 c3 c4 c5 c6 c7
        clear z0 z1 z2 z3 z4 z5 z6 z7
        clear hx4 ka hnaz hgez
        have z0 : v4.cell? ⟨gz, 0, none⟩ = some (.int .i64 ak) := kz4.cell 0
        have z1 : v4.cell? ⟨gz, 1, none⟩ = some (.int .i64 ab) := kz4.cell 1
        have z2 : v4.cell? ⟨gz, 2, none⟩ = some (.int .u64 (al : Int)) := kz4.cell 2
        have z3 : v4.cell? ⟨gz, 3, none⟩ = some (.int .u64 (ar : Int)) := kz4.cell 3
        have z4 : v4.cell? ⟨gz, 4, none⟩ = some (.int .i64 ac) := kz4.cell 4
        have z5 : v4.cell? ⟨gz, 5, none⟩ = some (.int .u64 (au : Int)) := kz4.cell 5
        have z6 : v4.cell? ⟨gz, 6, none⟩ = some (.slice afa aF afc) := kz4.cell 6
        have z7 : v4.cell? ⟨gz, 7, none⟩ = some (.slice ta K tk) := kz4.cell 7
        go_wp2_with fail
        refine (hchz.out v4 hBB.out).mono ?_
        rintro e v5 ⟨rfl, hBn⟩
        replace hBB := PM.hid (PM.chain hBB.out hBn)
        clear hBn
        go_wp2_with fail
        go_ret
        exact ⟨rfl, hBB.out⟩
end Go.Proofs.Ytklgibkdbdhaiaa
