/-
  CONTRACTS OF postilionlaw07.Few, may, postilionref07.Same; slices of filters that are built; append of rows.
-/
import Derived.Test.YtnpbfjkfbobgaaaGreatKp
import Derived.Test.YtnpbfjkfbobgaaaGreatIC
namespace Go.Proofs.YtnpbfjkfbobgaaaGreat
open Go.RowKit
set_option linter.unusedVariables false
set_option linter.unusedSimpArgs false
namespace PM
def FF (ls : List (List Te)) : Prop := ls.length ≤ 12 ∧ ∀ x ∈ ls, FFew x
theorem RR.lits1 {α : Type} {R : World → List Value → α → Prop} (hL : Lasts R) (W : World) (E : TypeId) (vs : List Value) (ls : List α) (n : Nat) (cs : Array Value) (hcs : cs = vs.toArray) (hn : n = ls.length) (hlen : vs.length = ls.length) (hmax : ls.length ≤ maxLen) (h1 : ∀ v ∈ vs, v.oneCell' = true)
    (hR : ∀ (i : Nat) v x, vs[i]? = some v → ls[i]? = some x → R W [v] x) : RR R 1 (W.alloc (.cells cs E)) (.slice (Option.some ⟨W.heap.size, 0, Option.none⟩) n n) ls := by
  subst hn hcs
  have hal : Below W.heap.size W (W.alloc (.cells vs.toArray E)) := (Below.refl _ _).alloc (Nat.le_refl _) _
  refine ⟨vs.pmap (fun v h => ce1 v h) h1, ⟨_, ls.length, by simp [hlen], by simp [hlen], hmax, fun _ => ⟨W.heap.size, 0, rfl, fun i y hi j u hu => ?_⟩⟩, by simp [hlen], fun i c x hi hx => ?_⟩
  · rw [List.getElem?_pmap] at hi
    obtain ⟨v, h9, hv, rfl⟩ := Option.pmap_eq_some_iff.1 hi
    rw [Nat.zero_add, World.cell?_alloc_new]
    have : j = 0 ∧ u = v := by
      match j, hu with
      | 0, hu => simp [ceL, ce1] at hu; exact ⟨rfl, hu.symm⟩
      | j + 1, hu => simp [ceL, ce1] at hu
    obtain ⟨rfl, rfl⟩ := this
    simpa using hv
  · rw [List.getElem?_pmap] at hi
    obtain ⟨v, h9, hv, rfl⟩ := Option.pmap_eq_some_iff.1 hi
    exact hL _ _ _ _ hal (hR i v x hv hx)
/-- a reading in an elder world -/
def cR (w0 : World) (w : World) (cs : List Value) (f : List Te) : Prop := fR w0 cs f
theorem cR_lasts (w0 : World) : Lasts (cR w0) := fun W w cs x hb h => h
theorem cR_stays (w0 : World) (E : TypeId) : Stays (cR w0) E := fun w w' cs x row hg ht h => h
theorem FL.toC {w0 w : World} {v : Value} {ls : List (List Te)} (hb : Below w0.heap.size w0 w) (h : FL w0 v ls) : RR (cR w0) 1 w v ls := by
  obtain ⟨css, h1, h2, h3⟩ := h
  exact ⟨css, h1.keep hb, h2, h3⟩
theorem RR.toF {w0 w : World} {v : Value} {ls : List (List Te)} (hb : Below w0.heap.size w0 w) (h : RR (cR w0) 1 w v ls) : FL w v ls := by
  obtain ⟨css, h1, h2, h3⟩ := h
  exact ⟨css, h1, h2, fun i cs x a b => fR_lasts _ _ _ _ hb (h3 i cs x a b)⟩
section
variable {α : Type} {R : World → List Value → α → Prop} {c : Nat} {w : World} {E : TypeId} {P : Program} {ops : Array Oper} {rest : List Oper} {o : Oper} {a : Act} {Q : Exit → Act → World → Prop}
theorem OR.app {B : Nat} {w' : World} {v v' : Value} {l m : List α} {css csm : List (Ce c)} (hS : Stays R E) (h1 : OM ceL c E B w v css) (h2 : css.length = l.length) (h3 : ∀ (i : Nat) (cs : Ce c) (x : α), css[i]? = some cs → l[i]? = some x → R w cs.1 x)
    (h4 : csm.length = m.length) (h5 : ∀ (i : Nat) (cs : Ce c) (x : α), csm[i]? = some cs → m[i]? = some x → R w cs.1 x) (ho : OM ceL c E B w' v' (css ++ csm)) (hg : w.grownBy w' v.ownBlock) : OR R c E B w' v' (l ++ m) := by
  refine ⟨css ++ csm, ho, by simp [h2, h4], fun i cs x hi hx => ?_⟩
  have ht := OM.rowty h1
  by_cases hl : i < css.length
  · rw [List.getElem?_append_left hl] at hi
    rw [List.getElem?_append_left (by omega)] at hx
    exact hS _ _ _ _ _ hg ht (h3 i cs x hi hx)
  · rw [List.getElem?_append_right (by omega)] at hi
    rw [List.getElem?_append_right (by omega), ← h2] at hx
    exact hS _ _ _ _ _ hg ht (h5 _ cs x hi hx)
/-- append of a slice -/
theorem wpList_orm {T : TypeId} {nb : Nat} (ET : MTy P T E c nb) (hS : Stays R E) (B : Nat) (hgd : o.guard = none) (s x : Operand)
    (ho : o.op = .call { callee := .builtin .append, args := #[s, x], argTypes := #[T, T] })
    (v xv : Value) (l m : List α) (hs : a.eval s = v) (hx : a.eval x = xv) (hown : OR R c E B w v l) (hsrc : RR R c w xv m) (hn : (l.length + m.length) * nb ≤ 140737488355328) (hn2 : l.length + m.length ≤ maxLen) (hB : B ≤ w.heap.size)
    (h : ∀ v' w', OR R c E B w' v' (l ++ m) → Below B w w' → w.grownBy w' v.ownBlock → wpList P ops Q rest (a.put o.dst v') w') : wpList P ops Q (o :: rest) a w := by
  obtain ⟨css, h1, h2, h3⟩ := hown
  obtain ⟨csm, h4, h5, h6⟩ := hsrc
  refine wpList_em ET ceL_len ceL_one B hgd s x ho v xv css csm hs hx h1 h4 (by rw [h2, h5]; exact hn) (by rw [h2, h5]; exact hn2) hB ?_
  intro v' w' g1 g2 g3 g4
  exact h v' w' (OR.app hS h1 h2 h3 h5 h6 g1 g3) g2 g3
end
end PM
set_option maxRecDepth 100000 in
set_option maxHeartbeats 4000000 in
theorem same7_any (v u : Value) (ls ms : List (List PM.Te)) (w : World) (hv : PM.FL w v ls) (hu : PM.FL w u ms) :
    Calls Tryz.prog 10 #[v, u] w fun e w' => (e = .returned (.bool true) ∧ ls = ms ∨ e = .returned (.bool false) ∧ ls ≠ ms) ∧ Below w.heap.size w w' := by
  obtain ⟨ad, cap, hve⟩ := hv.len
  obtain ⟨ad', cap', hue⟩ := hu.len
  subst hve hue
  have hbd := hv.bound
  have hbd' := hu.bound
  unfold maxLen at hbd hbd'
  by_cases hl : ls.length = ms.length
  case neg =>
    have hne : ls ≠ ms := fun h => hl (by rw [h])
    have hneh := PM.hid hne
    have g1 : ((ls.length : Int) != ms.length) = true := by simp; omega
    clear hne hv hu
    go_enter Tryz.func10, Tryz.ntmps10
    go_wp2_with fail
    go_ret
    exact ⟨.inr ⟨rfl, hneh.out⟩, Below.refl _ _⟩
  obtain ⟨L, hL⟩ : ∃ L, L = ls.length := ⟨_, rfl⟩
  have hLh := PM.hid hL
  have hMh := PM.hid (hL.trans hl)
  rw [← hL] at hbd hv
  rw [← hl, ← hL] at hu hbd'
  rw [← hl, ← hL]
  have hvh := PM.hid hv
  have huh := PM.hid hu
  clear hL hv hu hl
  go_enter Tryz.func10, Tryz.ntmps10
  go_wp2_with fail
  go_loopw [5] (fun i wr => ∃ k : Nat, i = .int .i64 k ∧ k ≤ L ∧ Hid (Below w.heap.size w wr ∧ ∀ (j : Nat), j < k → ls[j]? = ms[j]?)) (fun i _ => L - (intOf i).toNat)
  case atStart => exact ⟨0, rfl, by omega, PM.hid ⟨Below.refl _ _, fun j hj => absurd hj (by omega)⟩⟩
  case round =>
    obtain ⟨k, rfl, hk, hin⟩ := hrel
    by_cases hlt : k < L
    · obtain ⟨xx, hx⟩ : ∃ x, ls[k]? = some x := ⟨ls[k]'(by rw [← hLh.out]; exact hlt), List.getElem?_eq_getElem _⟩
      obtain ⟨yy, hy⟩ : ∃ x, ms[k]? = some x := ⟨ms[k]'(by rw [← hMh.out]; exact hlt), List.getElem?_eq_getElem _⟩
      obtain ⟨g, off, rfl, hce⟩ := PM.RR.opn hvh.out (by rw [← hLh.out]; omega)
      obtain ⟨xv, hc, hxv⟩ := PM.fR_cell (hce k xx hx)
      obtain ⟨g', off', rfl, hcf⟩ := PM.RR.opn huh.out (by rw [← hMh.out]; omega)
      obtain ⟨yv, hd, hyv⟩ := PM.fR_cell (hcf k yy hy)
      have hcc := PM.hid (And.intro (PM.cell_keepK hin.out.1 hc) (And.intro (PM.cell_keepK hin.out.1 hd) (And.intro (hxv.keep hin.out.1) (hyv.keep hin.out.1))))
      have hxy := PM.hid (And.intro hx hy)
      clear hx hy hce hcf hc hd hxv hyv
      go_upto_region 6 with fail
      refine PM.wp_region_st [some 18, some 19, some 20, some 21, some 22, some 23, some 24, some 25, some 26, some 6] [fun x _ => x = .slice (some ⟨g, off, none⟩) L cap, fun x _ => x = .int .i64 (k : Int), fun x _ => x = .pointer (some ⟨g, off + k, none⟩), fun x _ => x = xv, fun x _ => x = .slice (some ⟨g', off', none⟩) L cap', fun x _ => x = .int .i64 (k : Int), fun x _ => x = .pointer (some ⟨g', off' + k, none⟩), fun x _ => x = yv, fun z _ => (z = .bool true ∧ xx = yy) ∨ (z = .bool false ∧ xx ≠ yy), fun z _ => (z = .bool true ∧ xx = yy) ∨ (z = .bool false ∧ xx ≠ yy)] (by kernel_rfl) (by kernel_rfl) (by kernel_rfl) ?_ ?_ ?_
      · simp only [List.forall_mem_cons]
        refine ⟨?_, ?_, ?_, ?_, ?_, ?_, ?_, ?_, ?_, ?_, by simp⟩
        all_goals (intro x W W' h hb; first | exact h | exact PM.BS.keep hb h | exact PM.OW.keep hb h)
      · refine ⟨?_, ?_, ?_, ?_, ?_, ?_, ?_, ?_, ?_, ?_, trivial⟩
        all_goals
          intro a W hB hF hd
          have k0 := hF 0 rfl
          have k1 := hF 1 rfl
          have k5 := hF 5 rfl
          have c0 : W.cell? ⟨g, off + k, none⟩ = some xv := PM.cell_keepK hB hcc.out.1
          have d0 : W.cell? ⟨g', off' + k, none⟩ = some yv := PM.cell_keepK hB hcc.out.2.1
          clear hF
          simp [PM.depsL, PM.spec, PM.sl, Region.binds] at hd k0 k1 k5
          simp only [PM.wantL, PM.spec]
          try simp only [PM.sl]
          go_simp
        all_goals try exact Below.refl _ _
        · refine (fsame_any xv yv xx yy W (hcc.out.2.2.1.keep hB) (hcc.out.2.2.2.keep hB)).mono ?_
          rintro e w' ⟨hsm, hb⟩
          rcases hsm with ⟨rfl, h⟩ | ⟨rfl, h⟩
          · exact ⟨hb, _, rfl, .inl ⟨rfl, h⟩⟩
          · exact ⟨hb, _, rfl, .inr ⟨rfl, h⟩⟩
        · first | exact ⟨Below.refl _ _, _, rfl, hd.1⟩ | exact ⟨Below.refl _ _, _, rfl, hd⟩
      · intro G W hB hF hS
        have h6 : (G 6 = .bool true ∧ xx = yy) ∨ (G 6 = .bool false ∧ xx ≠ yy) := by simp [PM.allSp, PM.spec] at hS; exact hS.2.2.2.2.2.2.2.2.2
        have k0 := hF 0 rfl
        have k1 := hF 1 rfl
        have k2 := hF 2 rfl
        have k3 := hF 3 rfl
        have k4 := hF 4 rfl
        have k5 := hF 5 rfl
        have k7 := hF 7 rfl
        have k8 := hF 8 rfl
        have k9 := hF 9 rfl
        have k10 := hF 10 rfl
        have k11 := hF 11 rfl
        have k12 := hF 12 rfl
        have k13 := hF 13 rfl
        have k14 := hF 14 rfl
        have k15 := hF 15 rfl
        have k16 := hF 16 rfl
        have k17 := hF 17 rfl
        have k27 := hF 27 rfl
        have k28 := hF 28 rfl
        simp [PM.sl] at k0 k1 k2 k3 k4 k5 k7 k8 k9 k10 k11 k12 k13 k14 k15 k16 k17 k27 k28
        rw [show ((List.range (Array.size _)).map G).toArray = #[G 0, G 1, G 2, G 3, G 4, G 5, G 6, G 7, G 8, G 9, G 10, G 11, G 12, G 13, G 14, G 15, G 16, G 17, G 18, G 19, G 20, G 21, G 22, G 23, G 24, G 25, G 26, G 27, G 28] from rfl]
        clear hF hS
        rw [k0, k1, k2, k3, k4, k5, k7, k8, k9, k10, k11, k12, k13, k14, k15, k16, k17, k27, k28]
        clear k0 k1 k2 k3 k4 k5 k7 k8 k9 k10 k11 k12 k13 k14 k15 k16 k17 k27 k28
        have hB3 := PM.hid (PM.chain hin.out.1 hB)
        clear hB
        rcases h6 with ⟨h6, hq⟩ | ⟨h6, hq⟩
        · rw [h6]
          have hqh := PM.hid hq
          clear h6 hq
          go_wp2_with fail
          refine ⟨⟨k + 1, by go_num, by omega, PM.hid ⟨hB3.out, fun i hi => ?_⟩⟩, by simp only [intOf]; omega⟩
          by_cases hij : i < k
          · exact hin.out.2 i hij
          · obtain rfl : i = k := by omega
            rw [hxy.out.1, hxy.out.2, hqh.out]
        · rw [h6]
          have hqh := PM.hid hq
          clear h6 hq
          go_wp2_with fail
          go_ret
          exact ⟨.inr ⟨rfl, fun h => hqh.out (by have := hxy.out.1; rw [h, hxy.out.2] at this; exact (Option.some.inj this).symm)⟩, hB3.out⟩
    · obtain rfl : k = L := by omega
      go_wp2_with fail
      go_ret
      refine ⟨.inl ⟨rfl, List.ext_getElem? fun i => ?_⟩, hin.out.1⟩
      by_cases hi : i < k
      · exact hin.out.2 i hi
      · rw [List.getElem?_eq_none (by rw [← hLh.out]; omega), List.getElem?_eq_none (by rw [← hMh.out]; omega)]
end Go.Proofs.YtnpbfjkfbobgaaaGreat
