/-
  THE WALK of TableOrders.
-/
import Derived.Test.YtnpbfjkfbobgaaaBr
import Derived.Test.YtnpbfjkfbobgaaaAp
import Derived.Test.YtnpbfjkfbobgaaaOa
import Derived.Test.YtnpbfjkfbobgaaaJO
import Derived.BigQuiet
namespace Go.Proofs.Ytnpbfjkfbobgaaa
open Go.RowKit
set_option linter.unusedVariables false
set_option linter.unusedSimpArgs false
namespace PM
def S0 (E : TypeId) (B0 : Nat) (a : List (Ce 8)) (x : Value) (w : World) : Prop := ∃ g, x = .slice (some ⟨g, 0, none⟩) 0 0 ∧ (a = [] → OM ceL 8 E B0 w x a)
def S1 (E : TypeId) (B0 : Nat) (a : List (Ce 8)) (x : Value) (w : World) : Prop := ∃ p n k, x = .slice (some p) n k ∧ OM ceL 8 E B0 w x a
def S2 (E : TypeId) (B0 : Nat) (b : List (Ce 8)) (x : Value) (w : World) : Prop := ∃ p, x = .slice (some p) 1 1 ∧ OM ceL 8 E B0 w x b
theorem OM.lit1c {E : TypeId} {B0 : Nat} (W : World) (x : Ce 8) (cs : Array Value) (hcs : cs = x.1.toArray) (hB : B0 ≤ W.heap.size) : OM ceL 8 E B0 (W.alloc (.cells cs E)) (.slice (some ⟨W.heap.size, 0, none⟩) 1 1) [x] := by
  subst hcs
  have hx : x.1.length = 8 := x.2.1
  refine ⟨flat_len ceL_len [x], .inr ⟨W.heap.size, 1, x.1.toArray, rfl, hB, heap_alloc_new W _, Nat.le_refl _, by simp only [maxLen]; omega, by simp [hx], ?_⟩⟩
  simp [ceL, List.take_of_length_le, hx]
theorem OM.lit0c {E : TypeId} {B0 : Nat} (W : World) (hB : B0 ≤ W.heap.size) : OM ceL 8 E B0 (W.alloc (.cells #[] E)) (.slice (some ⟨W.heap.size, 0, none⟩) 0 0) ([] : List (Ce 8)) :=
  ⟨by simp, .inr ⟨W.heap.size, 0, #[], rfl, hB, heap_alloc_new W _, by simp, by decide, by simp, by simp⟩⟩
theorem wp_append {P : Program} {T : TypeId} {o : Oper} {a : Act} {w w' : World} {v xv v' : Value} {Q : Act → World → Prop} {K : Exit → Act → World → Prop} (hgd : o.guard = none) (s x : Operand) (ho : o.op = .call { callee := .builtin .append, args := #[s, x], argTypes := #[T, T] }) (hs : a.eval s = v) (hx : a.eval x = xv) (hrun : (Builtin.append_ #[T, T] o.type #[v, xv]).run P w = .ok v' w') (h : Q (a.put o.dst v') w') : o.wp P a w Q K := by
  unfold Oper.wp
  simp [execOp, ho, resolve, invoke, builtin, hs, hx, hrun, Result.andThen]
  exact h
theorem EnL.more {W0 W : World} {v : Value} {cssK : List (Ce 8)} {csm : Ce 8} {ks : List En} {m : En} (h1 : EM ceL 8 W v (cssK ++ [csm])) (hl : cssK.length = ks.length) (h3 : ∀ (i : Nat) (cs : Ce 8) (x : En), cssK[i]? = some cs → ks[i]? = some x → enR W0 cs.1 x) (hb : Below W0.heap.size W0 W) (hm : enR W0 csm.1 m) : EnL W v (ks ++ [m]) := by
  refine ⟨cssK ++ [csm], h1, by simp [hl], fun i cs x hi hx => ?_⟩
  by_cases hlt : i < cssK.length
  · rw [List.getElem?_append_left hlt] at hi
    rw [List.getElem?_append_left (by omega)] at hx
    exact enR_lasts _ _ _ _ hb (h3 i cs x hi hx)
  · rw [List.getElem?_append_right (by omega)] at hi hx
    have hi0 : i = cssK.length := by
      have := (List.getElem?_eq_some_iff.1 hi).1
      simp at this
      omega
    subst hi0
    simp at hi
    rw [hl] at hx
    simp at hx
    subst hi hx
    exact enR_lasts _ _ _ _ hb hm
end PM
set_option maxRecDepth 100000 in
set_option maxHeartbeats 32000000 in
theorem tableOrders_walkA (va : Option Addr) (N vc : Nat) (l : List PM.En) (x : PM.En) (fa : Option Addr) (F fc : Nat) (ea : Option Addr) (L ec : Nat) (w : World) (hF : F = x.fil.length) (hL : L = x.evs.length) (hv : PM.EnL w (.slice va N vc) l) (hw : ∀ y ∈ l, PM.En.wf y) (hx : x.wf) (hf : PM.TV w (.slice fa F fc) x.fil) (he : PM.EVL w (.slice ea L ec) x.evs) :
    Calls Try.prog 4 #[.slice va N vc, .agg #[.int .i64 x.kind, .int .i64 x.id.br, .int .u64 (x.id.life : Int), .int .u64 (x.id.ser : Int), .int .i64 x.client, .int .u64 (x.sub : Int), .slice fa F fc, .slice ea L ec]] w fun e w' => e = .returned (.bool true) ∧ Below w.heap.size w w' := by
  have hNh : Hid (N = l.length) := PM.hid (by
    obtain ⟨a, c, h⟩ := hv.len
    injection h)
  have hFh := PM.hid hF
  have hLh := PM.hid hL
  have hvh := PM.hid hv
  have hwf := PM.hid (And.intro hw hx)
  have hxr := PM.hid (And.intro hf he)
  clear hF hL hv hw hx hf he
  obtain ⟨gx, hgx⟩ : ∃ g, g = w.heap.size := ⟨_, rfl⟩
  obtain ⟨w1, hw1⟩ : ∃ W, W = w.alloc (.cells #[.int .i64 x.kind, .int .i64 x.id.br, .int .u64 (x.id.life : Int), .int .u64 (x.id.ser : Int), .int .i64 x.client, .int .u64 (x.sub : Int), .slice fa F fc, .slice ea L ec] 31) := ⟨_, rfl⟩
  have hal : Below w.heap.size w w1 := by rw [hw1]; exact (Below.refl _ _).alloc (Nat.le_refl _) _
  have kx : PM.BK w1 gx #[.int .i64 x.kind, .int .i64 x.id.br, .int .u64 (x.id.life : Int), .int .u64 (x.id.ser : Int), .int .i64 x.client, .int .u64 (x.sub : Int), .slice fa F fc, .slice ea L ec] 31 := by rw [hw1, hgx]; exact PM.BK.new _ _ _
  have hBB := PM.hid hal
  clear hal
  have hfw : Hid (∀ W : World, Below w.heap.size w W → Calls Try.prog 8 #[.agg #[.int .i64 x.kind, .int .i64 x.id.br, .int .u64 (x.id.life : Int), .int .u64 (x.id.ser : Int), .int .i64 x.client, .int .u64 (x.sub : Int), .slice fa F fc, .slice ea L ec]] W fun e w' => (e = .returned (.bool true) ∧ PM.FewEn x ∨ e = .returned (.bool false) ∧ ¬ PM.FewEn x) ∧ Below W.heap.size W w') := PM.hid fun W hb => by
    have h1 := hxr.out.1
    have h2 := hxr.out.2
    rw [hFh.out] at h1 ⊢
    rw [hLh.out] at h2 ⊢
    exact few11x_any x _ _ W (h1.keep hb) (PM.EVL.keepO hb h2)
  go_enter Try.func4, Try.ntmps4
  go_upto_region 1 with fail
  rw [← hw1, ← hgx]
  clear hw1 hgx
  go_wp2_with fail
  refine (awake15_any w1).mono ?_
  rintro e w2 ⟨rfl, hb⟩
  replace kx := kx.keep hb
  replace hBB := PM.hid (PM.chain hBB.out hb)
  clear hb
  have c0 : w2.cell? ⟨gx, 0, none⟩ = some (.int .i64 x.kind) := kx.cell 0
  have c1 : w2.cell? ⟨gx, 1, none⟩ = some (.int .i64 x.id.br) := kx.cell 1
  have c2 : w2.cell? ⟨gx, 2, none⟩ = some (.int .u64 (x.id.life : Int)) := kx.cell 2
  have c3 : w2.cell? ⟨gx, 3, none⟩ = some (.int .u64 (x.id.ser : Int)) := kx.cell 3
  have c4 : w2.cell? ⟨gx, 4, none⟩ = some (.int .i64 x.client) := kx.cell 4
  have c5 : w2.cell? ⟨gx, 5, none⟩ = some (.int .u64 (x.sub : Int)) := kx.cell 5
  have c6 : w2.cell? ⟨gx, 6, none⟩ = some (.slice fa F fc) := kx.cell 6
  have c7 : w2.cell? ⟨gx, 7, none⟩ = some (.slice ea L ec) := kx.cell 7
  go_wp2_with fail
  refine (hfw.out w2 hBB.out).mono ?_
  rintro e w3 ⟨hFw, hb⟩
  clear c0 c1 c2 c3 c4 c5 c6 c7
  replace kx := kx.keep hb
  replace hBB := PM.hid (PM.chain hBB.out hb)
  clear hb
  rcases hFw with ⟨rfl, hFw⟩ | ⟨rfl, hFw⟩
  case inr =>
    clear kx hFw
    go_wp2_with fail
    go_ret
    exact ⟨by first | rfl | simp, hBB.out⟩
  have hFwh := PM.hid hFw
  have hEnS := PM.hid hFw.enS
  clear hFw
  have hck : Hid (∀ W : World, Below w.heap.size w W → Calls Try.prog 9 #[.agg #[.int .i64 x.kind, .int .i64 x.id.br, .int .u64 (x.id.life : Int), .int .u64 (x.id.ser : Int), .int .i64 x.client, .int .u64 (x.sub : Int), .slice fa F fc, .slice ea L ec]] W fun e w' => e = .returned (.int .i64 (PM.enE x)) ∧ Below W.heap.size W w') := PM.hid fun W hb => by
    have h1 := hxr.out.1
    have h2 := hxr.out.2
    rw [hFh.out] at h1 ⊢
    rw [hLh.out] at h2 ⊢
    exact encheck_any x _ _ W hwf.out.2 (h1.keep hb) (PM.EVL.keepO hb h2)
  have c0 : w3.cell? ⟨gx, 0, none⟩ = some (.int .i64 x.kind) := kx.cell 0
  have c1 : w3.cell? ⟨gx, 1, none⟩ = some (.int .i64 x.id.br) := kx.cell 1
  have c2 : w3.cell? ⟨gx, 2, none⟩ = some (.int .u64 (x.id.life : Int)) := kx.cell 2
  have c3 : w3.cell? ⟨gx, 3, none⟩ = some (.int .u64 (x.id.ser : Int)) := kx.cell 3
  have c4 : w3.cell? ⟨gx, 4, none⟩ = some (.int .i64 x.client) := kx.cell 4
  have c5 : w3.cell? ⟨gx, 5, none⟩ = some (.int .u64 (x.sub : Int)) := kx.cell 5
  have c6 : w3.cell? ⟨gx, 6, none⟩ = some (.slice fa F fc) := kx.cell 6
  have c7 : w3.cell? ⟨gx, 7, none⟩ = some (.slice ea L ec) := kx.cell 7
  by_cases hok : PM.enOk x
  case neg =>
    have hc := hck.out w3 hBB.out
    rw [show PM.enE x = 110 from by unfold PM.enE; rw [if_neg hok]] at hc
    clear hok hck
    go_wp2_with fail
    refine hc.mono ?_
    rintro e w4 ⟨rfl, hb⟩
    clear hc c0 c1 c2 c3 c4 c5 c6 c7
    replace kx := kx.keep hb
    replace hBB := PM.hid (PM.chain hBB.out hb)
    clear hb
    clear kx
    go_wp2_with fail
    go_ret
    exact ⟨by first | rfl | simp, hBB.out⟩
  have hc := hck.out w3 hBB.out
  rw [PM.enE_yes hok] at hc
  replace hok := PM.hid hok
  clear hck
  go_wp2_with fail
  refine hc.mono ?_
  rintro e w4 ⟨rfl, hb⟩
  clear hc c0 c1 c2 c3 c4 c5 c6 c7
  replace kx := kx.keep hb
  replace hBB := PM.hid (PM.chain hBB.out hb)
  clear hb
  obtain ⟨K, hK⟩ : ∃ K, K = min N 29 := ⟨_, rfl⟩
  have hm : min (N : Int) 29 = (K : Int) := by rw [hK]; omega
  have hK29 : Hid (K ≤ 29 ∧ K ≤ l.length) := PM.hid (by rw [hK, ← hNh.out]; omega)
  clear hK
  obtain ⟨ta, tk, htk, hT⟩ := PM.RR.take tyEnO (PM.EnL.keep hvh.out hBB.out) hK29.out.2
  obtain ⟨cssK, hK1, hK2, hK3⟩ := hT
  rw [show (l.take K).length = K from List.length_take_of_le hK29.out.2] at hK2
  have hKl : Hid (cssK.length ≤ 29) := PM.hid (by rw [hK2]; exact hK29.out.1)
  have hK1h := PM.hid hK1
  have hK23 := PM.hid (And.intro (show cssK.length = (l.take K).length by rw [hK2, List.length_take_of_le hK29.out.2]) hK3)
  clear hK1 hK2 hK3
  obtain ⟨csm, hcsm⟩ : ∃ c : PM.Ce 8, c = PM.enCe x fa F fc ea L ec := ⟨_, rfl⟩
  have hcsm1 : Hid (csm.1 = PM.enC x (.slice fa F fc) (.slice ea L ec)) := PM.hid (by rw [hcsm]; rfl)
  have hmR : Hid (PM.enR w4 csm.1 x) := PM.hid (by rw [hcsm1.out]; exact ⟨_, _, rfl, hxr.out.1.keep hBB.out, PM.EVL.keepO hBB.out hxr.out.2⟩)
  clear hcsm
  obtain ⟨t, ht⟩ : ∃ t, t = PM.grL (l.take K ++ [x]) := ⟨_, rfl⟩
  have hG : Hid (PM.GrOk 30 t) := PM.hid (by rw [ht]; exact PM.grL_ok _)
  have htl : t = PM.applyL x.kind (PM.subOf x) ((l.take K).foldl PM.gr1 []) := by rw [ht]; exact PM.gr_last (by rw [List.length_take_of_le hK29.out.2]; exact hK29.out.1) hFwh.out hok.out
  have happ : Hid (PM.applyL x.kind (PM.subOf x) t = t) := PM.hid (by rw [htl, PM.applyL_twice])
  have hk2 : Hid (x.kind = 2 → PM.cntS (PM.subOf x) t = 1) := PM.hid (fun h => by rw [htl, h]; unfold PM.applyL; rw [if_pos rfl]; exact PM.cnt_ins _ _)
  have hk3 : Hid (x.kind = 3 → PM.cntS (PM.subOf x) t = 0) := PM.hid (fun h => by rw [htl, h]; exact PM.cnt_uns _ _)
  clear htl
  replace ht := PM.hid ht
  go_upto_region 6 with fail
  refine PM.wp_region_st2 9 [some 21, some 22, some 23, some 24, some 25, some 26, some 27, some 28, some 29, some 30, some 31, some 6] [PM.S0 31 w4.heap.size cssK, fun vq _ => vq = .slice va N vc, fun vq _ => vq = .slice va N vc, fun vq _ => vq = .int .i64 (N : Int), fun vq _ => vq = .int .i64 (K : Int), fun vq _ => vq = .slice ta K tk, PM.S1 31 w4.heap.size cssK, fun vq _ => vq = .agg #[.int .i64 x.kind, .int .i64 x.id.br, .int .u64 (x.id.life : Int), .int .u64 (x.id.ser : Int), .int .i64 x.client, .int .u64 (x.sub : Int), .slice fa F fc, .slice ea L ec], PM.S2 31 w4.heap.size [csm]] (by kernel_rfl) (by kernel_rfl) (by kernel_rfl) (by kernel_rfl) (by kernel_rfl) (of_decide_eq_true (by kernel_rfl)) (by kernel_rfl) ?_ ?_ ?_
  · simp only [List.forall_mem_cons]
    refine ⟨?_, ?_, ?_, ?_, ?_, ?_, ?_, ?_, ?_, by simp⟩
    all_goals (intro vq W W' h hb; first | exact h | exact PM.BS.keep hb h | exact PM.OW.keep hb h | (obtain ⟨g, hx, h⟩ := h; exact ⟨g, hx, fun e => (h e).keep hb⟩) | (obtain ⟨p, n, k, hx, h⟩ := h; exact ⟨p, n, k, hx, h.keep hb⟩) | (obtain ⟨p, hx, h⟩ := h; exact ⟨p, hx, h.keep hb⟩))
  · refine ⟨?_, ?_, ?_, ?_, ?_, ?_, ?_, ?_, ?_, trivial⟩
    all_goals
      intro a W hB hF hd
      have k0 := hF 0 rfl
      have k3 := hF 3 rfl
      have hKK := hK1h.out.keep hB
      have c0 : W.cell? ⟨gx, 0, none⟩ = some (.int .i64 x.kind) := (kx.keep hB).cell 0
      have c1 : W.cell? ⟨gx, 1, none⟩ = some (.int .i64 x.id.br) := (kx.keep hB).cell 1
      have c2 : W.cell? ⟨gx, 2, none⟩ = some (.int .u64 (x.id.life : Int)) := (kx.keep hB).cell 2
      have c3 : W.cell? ⟨gx, 3, none⟩ = some (.int .u64 (x.id.ser : Int)) := (kx.keep hB).cell 3
      have c4 : W.cell? ⟨gx, 4, none⟩ = some (.int .i64 x.client) := (kx.keep hB).cell 4
      have c5 : W.cell? ⟨gx, 5, none⟩ = some (.int .u64 (x.sub : Int)) := (kx.keep hB).cell 5
      have c6 : W.cell? ⟨gx, 6, none⟩ = some (.slice fa F fc) := (kx.keep hB).cell 6
      have c7 : W.cell? ⟨gx, 7, none⟩ = some (.slice ea L ec) := (kx.keep hB).cell 7
      clear hF
      simp [PM.depsL, PM.spec, PM.sl, Region.binds] at hd k0 k3
      simp only [PM.wantL, PM.spec]
      try simp only [PM.sl]
      first
        | (have hd' : PM.S0 31 w4.heap.size cssK _ W ∧ _ := hd; obtain ⟨⟨g, hx, hO⟩, hx26⟩ := hd'; rw [hx] at hO; obtain ⟨pa, pn, pk, W2, hrun, hO2, hb2⟩ := PM.run_app0 tyEnO PM.ceL_len PM.ceL_one 22 hO hKK (by have := hKl.out; omega) (by have := hKl.out; unfold maxLen; omega) hB.size; rw [if_pos trivial]; refine PM.wp_append rfl _ _ rfl (by simp [go_sem, hx]) (by simp [go_sem, hx26]) hrun ?_)
        | go_simp
    all_goals try exact Below.refl _ _
    · exact ⟨(Below.refl _ _).alloc (Nat.le_refl _) _, _, rfl, W.heap.size, rfl, fun e => by rw [e]; exact PM.OM.lit0c W hB.size⟩
    · exact ⟨hb2, _, rfl, pa, pn, pk, rfl, hO2⟩
    · exact ⟨(Below.refl _ _).alloc (Nat.le_refl _) _, _, rfl, ⟨W.heap.size, 0, none⟩, rfl, PM.OM.lit1c W csm _ (by rw [hcsm1.out]; rfl) hB.size⟩
  · intro G W hB hF hS
    simp [PM.allSp, PM.spec] at hS
    obtain ⟨h21, h22, h23, h24, h25, h26, h27, h28, h29⟩ := hS
    obtain ⟨p27, n27, c27, e27, o27⟩ := h27
    obtain ⟨p29, e29, o29⟩ := h29
    rw [e27] at o27
    rw [e29] at o29
    have k0 := hF 0 rfl
    have k1 := hF 1 rfl
    have k2 := hF 2 rfl
    have k3 := hF 3 rfl
    have k4 := hF 4 rfl
    have k5 := hF 5 rfl
    have k7 := hF 7 rfl
    have k8 := hF 8 rfl
    have k9 := hF 9 rfl
    have k10 := hF 10 rfl
    have k11 := hF 11 rfl
    have k12 := hF 12 rfl
    have k13 := hF 13 rfl
    have k14 := hF 14 rfl
    have k15 := hF 15 rfl
    have k16 := hF 16 rfl
    have k17 := hF 17 rfl
    have k18 := hF 18 rfl
    have k19 := hF 19 rfl
    have k20 := hF 20 rfl
    have k32 := hF 32 rfl
    have k33 := hF 33 rfl
    have k34 := hF 34 rfl
    have k35 := hF 35 rfl
    have k36 := hF 36 rfl
    have k37 := hF 37 rfl
    have k38 := hF 38 rfl
    have k39 := hF 39 rfl
    have k40 := hF 40 rfl
    have k41 := hF 41 rfl
    have k42 := hF 42 rfl
    have k43 := hF 43 rfl
    have k44 := hF 44 rfl
    have k45 := hF 45 rfl
    have k46 := hF 46 rfl
    have k47 := hF 47 rfl
    have k48 := hF 48 rfl
    have k49 := hF 49 rfl
    have k50 := hF 50 rfl
    have k51 := hF 51 rfl
    have k52 := hF 52 rfl
    have k53 := hF 53 rfl
    have k54 := hF 54 rfl
    have k55 := hF 55 rfl
    have k56 := hF 56 rfl
    have k57 := hF 57 rfl
    have k58 := hF 58 rfl
    have k59 := hF 59 rfl
    have k60 := hF 60 rfl
    have k61 := hF 61 rfl
    have k62 := hF 62 rfl
    have k63 := hF 63 rfl
    have k64 := hF 64 rfl
    have k65 := hF 65 rfl
    have k66 := hF 66 rfl
    have k67 := hF 67 rfl
    have k68 := hF 68 rfl
    have k69 := hF 69 rfl
    have k70 := hF 70 rfl
    have k71 := hF 71 rfl
    have k72 := hF 72 rfl
    have k73 := hF 73 rfl
    have k74 := hF 74 rfl
    have k75 := hF 75 rfl
    have k76 := hF 76 rfl
    have k77 := hF 77 rfl
    have k78 := hF 78 rfl
    have k79 := hF 79 rfl
    have k80 := hF 80 rfl
    have k81 := hF 81 rfl
    have k82 := hF 82 rfl
    have k83 := hF 83 rfl
    have k84 := hF 84 rfl
    have k85 := hF 85 rfl
    have k86 := hF 86 rfl
    have k87 := hF 87 rfl
    have k88 := hF 88 rfl
    have k89 := hF 89 rfl
    have k90 := hF 90 rfl
    have k91 := hF 91 rfl
    have k92 := hF 92 rfl
    have k93 := hF 93 rfl
    have k94 := hF 94 rfl
    have k95 := hF 95 rfl
    have k96 := hF 96 rfl
    have k97 := hF 97 rfl
    have k98 := hF 98 rfl
    have k99 := hF 99 rfl
    have k100 := hF 100 rfl
    have k101 := hF 101 rfl
    have k102 := hF 102 rfl
    have k103 := hF 103 rfl
    have k104 := hF 104 rfl
    have k105 := hF 105 rfl
    have k106 := hF 106 rfl
    have k107 := hF 107 rfl
    have k108 := hF 108 rfl
    have k109 := hF 109 rfl
    have k110 := hF 110 rfl
    have k111 := hF 111 rfl
    have k112 := hF 112 rfl
    have k113 := hF 113 rfl
    have k114 := hF 114 rfl
    have k115 := hF 115 rfl
    have k116 := hF 116 rfl
    have k117 := hF 117 rfl
    have k118 := hF 118 rfl
    have k119 := hF 119 rfl
    have k120 := hF 120 rfl
    have k121 := hF 121 rfl
    have k122 := hF 122 rfl
    have k123 := hF 123 rfl
    have k124 := hF 124 rfl
    have k125 := hF 125 rfl
    simp [PM.sl] at k0 k1 k2 k3 k4 k5 k7 k8 k9 k10 k11 k12 k13 k14 k15 k16 k17 k18 k19 k20 k32 k33 k34 k35 k36 k37 k38 k39 k40 k41 k42 k43 k44 k45 k46 k47 k48 k49 k50 k51 k52 k53 k54 k55 k56 k57 k58 k59 k60 k61 k62 k63 k64 k65 k66 k67 k68 k69 k70 k71 k72 k73 k74 k75 k76 k77 k78 k79 k80 k81 k82 k83 k84 k85 k86 k87 k88 k89 k90 k91 k92 k93 k94 k95 k96 k97 k98 k99 k100 k101 k102 k103 k104 k105 k106 k107 k108 k109 k110 k111 k112 k113 k114 k115 k116 k117 k118 k119 k120 k121 k122 k123 k124 k125
    rw [show ((List.range (Array.size _)).map G).toArray = #[G 0, G 1, G 2, G 3, G 4, G 5, G 6, G 7, G 8, G 9, G 10, G 11, G 12, G 13, G 14, G 15, G 16, G 17, G 18, G 19, G 20, G 21, G 22, G 23, G 24, G 25, G 26, G 27, G 28, G 29, G 30, G 31, G 32, G 33, G 34, G 35, G 36, G 37, G 38, G 39, G 40, G 41, G 42, G 43, G 44, G 45, G 46, G 47, G 48, G 49, G 50, G 51, G 52, G 53, G 54, G 55, G 56, G 57, G 58, G 59, G 60, G 61, G 62, G 63, G 64, G 65, G 66, G 67, G 68, G 69, G 70, G 71, G 72, G 73, G 74, G 75, G 76, G 77, G 78, G 79, G 80, G 81, G 82, G 83, G 84, G 85, G 86, G 87, G 88, G 89, G 90, G 91, G 92, G 93, G 94, G 95, G 96, G 97, G 98, G 99, G 100, G 101, G 102, G 103, G 104, G 105, G 106, G 107, G 108, G 109, G 110, G 111, G 112, G 113, G 114, G 115, G 116, G 117, G 118, G 119, G 120, G 121, G 122, G 123, G 124, G 125] from rfl]
    clear hF
    rw [h22, h23, h24, h25, h26, e27, h28, e29, k0, k1, k2, k3, k4, k5, k7, k8, k9, k10, k11, k12, k13, k14, k15, k16, k17, k18, k19, k20, k32, k33, k34, k35, k36, k37, k38, k39, k40, k41, k42, k43, k44, k45, k46, k47, k48, k49, k50, k51, k52, k53, k54, k55, k56, k57, k58, k59, k60, k61, k62, k63, k64, k65, k66, k67, k68, k69, k70, k71, k72, k73, k74, k75, k76, k77, k78, k79, k80, k81, k82, k83, k84, k85, k86, k87, k88, k89, k90, k91, k92, k93, k94, k95, k96, k97, k98, k99, k100, k101, k102, k103, k104, k105, k106, k107, k108, k109, k110, k111, k112, k113, k114, k115, k116, k117, k118, k119, k120, k121, k122, k123, k124, k125]
    obtain ⟨v21, hv21⟩ : ∃ v, v = G 21 := ⟨_, rfl⟩
    obtain ⟨v30, hv30⟩ : ∃ v, v = G 30 := ⟨_, rfl⟩
    obtain ⟨v31, hv31⟩ : ∃ v, v = G 31 := ⟨_, rfl⟩
    obtain ⟨v6, hv6⟩ : ∃ v, v = G 6 := ⟨_, rfl⟩
    rw [← hv21, ← hv30, ← hv31, ← hv6]
    clear hv21 hv30 hv31 hv6 h21 h22 h23 h24 h25 h26 e27 h28 e29 k0 k1 k2 k3 k4 k5 k7 k8 k9 k10 k11 k12 k13 k14 k15 k16 k17 k18 k19 k20 k32 k33 k34 k35 k36 k37 k38 k39 k40 k41 k42 k43 k44 k45 k46 k47 k48 k49 k50 k51 k52 k53 k54 k55 k56 k57 k58 k59 k60 k61 k62 k63 k64 k65 k66 k67 k68 k69 k70 k71 k72 k73 k74 k75 k76 k77 k78 k79 k80 k81 k82 k83 k84 k85 k86 k87 k88 k89 k90 k91 k92 k93 k94 k95 k96 k97 k98 k99 k100 k101 k102 k103 k104 k105 k106 k107 k108 k109 k110 k111 k112 k113 k114 k115 k116 k117 k118 k119 k120 k121 k122 k123 k124 k125
    have hl16 : (cssK.length + [csm].length) * 96 ≤ 140737488355328 := by have := hKl.out; simp; omega
    have hl17 : cssK.length + [csm].length ≤ maxLen := by have := hKl.out; unfold maxLen; simp; omega
    have hsz := hB.size
    refine PM.wpList_em tyEnO PM.ceL_len PM.ceL_one w4.heap.size rfl _ _ rfl (.slice (some p27) n27 c27) (.slice (some p29) 1 1) cssK [csm] rfl rfl o27 (o29.em PM.ceL_len) hl16 hl17 hsz ?_
    intro v' w' t1 t2 t3 t4
    have hE := PM.hid (And.intro t1 t2)
    clear t1 t2 t3 t4 o27 o29 hl16 hl17 hsz
    go_wp2_with fail
    have hb4 := hB.trans hE.out.2
    refine (grown15_any v' (l.take K ++ [x]) w' (PM.EnL.more (hE.out.1.em PM.ceL_len) hK23.out.1 hK23.out.2 hb4 hmR.out) (fun y hy => (List.mem_append.1 hy).elim (fun h => hwf.out.1 y (List.mem_of_mem_take h)) (fun h => by simp at h; subst h; exact hwf.out.2))).mono ?_
    rintro e w5 ⟨u1, rfl, h1, hb⟩
    rw [← ht.out] at h1
    have hb5 := PM.chain hb4 hb
    replace kx := kx.keep hb5
    replace hBB := PM.hid (PM.chain hBB.out hb5)
    obtain ⟨a0, c0, hue⟩ := PM.RR.len h1
    subst hue
    obtain ⟨M, hM⟩ : ∃ M, M = t.length := ⟨_, rfl⟩
    rw [← hM] at h1 ⊢
    have hMh := PM.hid hM
    have hM30 : M ≤ 30 := by rw [hM]; exact hG.out.len
    have h1h := PM.hid h1
    clear hB hE hb4 hb hb5 h1 hM ht hm htk hcsm1 hmR hK1h hK23 hKl
    go_wp2_with fail
    obtain ⟨C0, hC0⟩ : ∃ C, C = PM.cntS (PM.subOf x) (t.take 0) := ⟨_, rfl⟩
    have hC00 : C0 = 0 := by rw [hC0]; rfl
    subst hC00
    go_loopw [7, 8] (fun f i wr => ∃ k : Nat, i = .int .i64 k ∧ f = .int .i64 (PM.cntS (PM.subOf x) (t.take k) : Int) ∧ k ≤ M ∧ Hid (Below w5.heap.size w5 wr)) (fun _ i _ => M - (intOf i).toNat)
    case atStart => exact ⟨0, rfl, by rw [← hC0]; rfl, by omega, PM.hid (Below.refl _ _)⟩
    case round =>
      obtain ⟨k, rfl, rfl, hk, hin⟩ := hrel
      clear hC0
      obtain ⟨C, hC⟩ : ∃ C, C = PM.cntS (PM.subOf x) (t.take k) := ⟨_, rfl⟩
      rw [← hC]
      have hCh := PM.hid hC
      have hCM : C ≤ M := by rw [hC]; exact Nat.le_trans (PM.cnt_le _ _ _) hk
      clear hC
      by_cases hlt : k < M
      · obtain ⟨z, hz⟩ : ∃ z, t[k]? = some z := ⟨t[k]'(by rw [← hMh.out]; exact hlt), List.getElem?_eq_getElem _⟩
        obtain ⟨b0, b0o, hbe, hce⟩ := PM.RR.opn (PM.SbL.keep h1h.out hin.out) (by rw [← hMh.out]; omega)
        subst hbe
        obtain ⟨cs, hl0, pv, hcs, -⟩ := hce k z hz
        rw [hcs] at hl0
        have hzh := PM.hid hz
        have d0 : wr.cell? ⟨b0, b0o + k * 3, none⟩ = some (.int .i64 z.cl) := hl0 0 _ rfl
        have d1 : wr.cell? ⟨b0, b0o + k * 3 + 1, none⟩ = some (.int .u64 (z.sub : Int)) := hl0 1 _ rfl
        clear hl0 hcs cs hz
        have c0 : wr.cell? ⟨gx, 0, none⟩ = some (.int .i64 x.kind) := (kx.keep hin.out).cell 0
        have c1 : wr.cell? ⟨gx, 1, none⟩ = some (.int .i64 x.id.br) := (kx.keep hin.out).cell 1
        have c2 : wr.cell? ⟨gx, 2, none⟩ = some (.int .u64 (x.id.life : Int)) := (kx.keep hin.out).cell 2
        have c3 : wr.cell? ⟨gx, 3, none⟩ = some (.int .u64 (x.id.ser : Int)) := (kx.keep hin.out).cell 3
        have c4 : wr.cell? ⟨gx, 4, none⟩ = some (.int .i64 x.client) := (kx.keep hin.out).cell 4
        have c5 : wr.cell? ⟨gx, 5, none⟩ = some (.int .u64 (x.sub : Int)) := (kx.keep hin.out).cell 5
        have c6 : wr.cell? ⟨gx, 6, none⟩ = some (.slice fa F fc) := (kx.keep hin.out).cell 6
        have c7 : wr.cell? ⟨gx, 7, none⟩ = some (.slice ea L ec) := (kx.keep hin.out).cell 7
        by_cases hk0 : k = 0
        · have hkd : decide (0 < k) = false := decide_eq_false (by omega)
          have hki : decide ((0 : Int) < (k : Int)) = false := decide_eq_false (by omega)
          replace hk0 := PM.hid hk0
          clear hce
          go_wp2_with fail
          go_quiet (fail)
          go_wp2_with fail
          clear hkd hki
          by_cases hcl : z.cl = x.client
          · have q1 : (z.cl == x.client) = true := beq_iff_eq.2 hcl
            have q1d : decide (z.cl = x.client) = true := decide_eq_true hcl
            by_cases hsb : z.sub = x.sub
            · have q2 : ((z.sub : Int) == (x.sub : Int)) = true := beq_iff_eq.2 (by omega)
              have q2d : decide (z.sub = x.sub) = true := decide_eq_true hsb
              have q2e : (z.sub == x.sub) = true := beq_iff_eq.2 hsb
              have hsm : Hid (PM.sameS (PM.subOf x) z = true) := PM.hid (by rw [PM.same_iff]; exact ⟨hcl, hsb⟩)
              clear hcl hsb
              go_quiet (fail)
              clear q1 q1d q2 q2d q2e c0 c1 c2 c3 c4 c5 c6 c7 d0 d1
              go_wp2_with fail
              refine ⟨⟨k + 1, by go_num, ?_, by omega, PM.hid (by first | exact hin.out.drew | exact PM.dN' hin.out _ | exact PM.dN' hin.out.drew _)⟩, by simp only [intOf]; omega⟩
              rw [PM.cntS_snoc hzh.out, hsm.out, ← hCh.out]
              go_num
            · have q2 : ((z.sub : Int) == (x.sub : Int)) = false := beq_eq_false_iff_ne.2 (by omega)
              have q2d : decide (z.sub = x.sub) = false := decide_eq_false hsb
              have q2e : (z.sub == x.sub) = false := beq_eq_false_iff_ne.2 hsb
              have hsm : Hid (PM.sameS (PM.subOf x) z = false) := PM.hid (by rw [← Bool.not_eq_true, PM.same_iff]; exact fun h => hsb h.2)
              clear hcl hsb
              go_quiet (fail)
              clear q1 q1d q2 q2d q2e c0 c1 c2 c3 c4 c5 c6 c7 d0 d1
              go_wp2_with fail
              refine ⟨⟨k + 1, by go_num, ?_, by omega, PM.hid (by first | exact hin.out.drew | exact PM.dN' hin.out _ | exact PM.dN' hin.out.drew _)⟩, by simp only [intOf]; omega⟩
              rw [PM.cntS_snoc hzh.out, hsm.out, ← hCh.out]
              first | rfl | go_num
          · have q1 : (z.cl == x.client) = false := beq_eq_false_iff_ne.2 hcl
            have q1d : decide (z.cl = x.client) = false := decide_eq_false hcl
            have hsm : Hid (PM.sameS (PM.subOf x) z = false) := PM.hid (by rw [← Bool.not_eq_true, PM.same_iff]; exact fun h => hcl h.1)
            clear hcl
            go_quiet (fail)
            clear q1 q1d c0 c1 c2 c3 c4 c5 c6 c7 d0 d1
            go_wp2_with fail
            refine ⟨⟨k + 1, by go_num, ?_, by omega, PM.hid (by first | exact hin.out.drew | exact PM.dN' hin.out _ | exact PM.dN' hin.out.drew _)⟩, by simp only [intOf]; omega⟩
            rw [PM.cntS_snoc hzh.out, hsm.out, ← hCh.out]
            first | rfl | go_num
        · have hkd : decide (0 < k) = true := decide_eq_true (by omega)
          have hki : decide ((0 : Int) < (k : Int)) = true := decide_eq_true (by omega)
          obtain ⟨y, hy⟩ : ∃ y, t[k - 1]? = some y := ⟨t[k - 1]'(by rw [← hMh.out]; omega), List.getElem?_eq_getElem _⟩
          have hbf := hG.out.rise.at (by omega) hy hzh.out
          rw [PM.bef_iff] at hbf
          obtain ⟨cs, hl0, pv, hcs, -⟩ := hce (k - 1) y hy
          rw [hcs] at hl0
          have e0 : wr.cell? ⟨b0, b0o + (k - 1) * 3, none⟩ = some (.int .i64 y.cl) := hl0 0 _ rfl
          have e1 : wr.cell? ⟨b0, b0o + (k - 1) * 3 + 1, none⟩ = some (.int .u64 (y.sub : Int)) := hl0 1 _ rfl
          clear hl0 hcs cs hy hce
          have r1 : decide (z.cl < y.cl) = false := decide_eq_false (by omega)
          by_cases heq : z.cl = y.cl
          · have r2 : (z.cl == y.cl) = true := beq_iff_eq.2 heq
            have r2d : decide (z.cl = y.cl) = true := decide_eq_true heq
            have r3 : decide ((z.sub : Int) ≤ (y.sub : Int)) = false := decide_eq_false (by omega)
            have r3d : decide (z.sub ≤ y.sub) = false := decide_eq_false (by omega)
            clear hbf heq
            go_wp2_with fail
            go_quiet (fail)
            go_wp2_with fail
            clear hkd hki r1 r2 r2d r3 r3d e0 e1
            by_cases hcl : z.cl = x.client
            · have q1 : (z.cl == x.client) = true := beq_iff_eq.2 hcl
              have q1d : decide (z.cl = x.client) = true := decide_eq_true hcl
              by_cases hsb : z.sub = x.sub
              · have q2 : ((z.sub : Int) == (x.sub : Int)) = true := beq_iff_eq.2 (by omega)
                have q2d : decide (z.sub = x.sub) = true := decide_eq_true hsb
                have q2e : (z.sub == x.sub) = true := beq_iff_eq.2 hsb
                have hsm : Hid (PM.sameS (PM.subOf x) z = true) := PM.hid (by rw [PM.same_iff]; exact ⟨hcl, hsb⟩)
                clear hcl hsb
                go_quiet (fail)
                clear q1 q1d q2 q2d q2e c0 c1 c2 c3 c4 c5 c6 c7 d0 d1
                go_wp2_with fail
                refine ⟨⟨k + 1, by go_num, ?_, by omega, PM.hid (by first | exact hin.out.drew | exact PM.dN' hin.out _ | exact PM.dN' hin.out.drew _)⟩, by simp only [intOf]; omega⟩
                rw [PM.cntS_snoc hzh.out, hsm.out, ← hCh.out]
                go_num
              · have q2 : ((z.sub : Int) == (x.sub : Int)) = false := beq_eq_false_iff_ne.2 (by omega)
                have q2d : decide (z.sub = x.sub) = false := decide_eq_false hsb
                have q2e : (z.sub == x.sub) = false := beq_eq_false_iff_ne.2 hsb
                have hsm : Hid (PM.sameS (PM.subOf x) z = false) := PM.hid (by rw [← Bool.not_eq_true, PM.same_iff]; exact fun h => hsb h.2)
                clear hcl hsb
                go_quiet (fail)
                clear q1 q1d q2 q2d q2e c0 c1 c2 c3 c4 c5 c6 c7 d0 d1
                go_wp2_with fail
                refine ⟨⟨k + 1, by go_num, ?_, by omega, PM.hid (by first | exact hin.out.drew | exact PM.dN' hin.out _ | exact PM.dN' hin.out.drew _)⟩, by simp only [intOf]; omega⟩
                rw [PM.cntS_snoc hzh.out, hsm.out, ← hCh.out]
                first | rfl | go_num
            · have q1 : (z.cl == x.client) = false := beq_eq_false_iff_ne.2 hcl
              have q1d : decide (z.cl = x.client) = false := decide_eq_false hcl
              have hsm : Hid (PM.sameS (PM.subOf x) z = false) := PM.hid (by rw [← Bool.not_eq_true, PM.same_iff]; exact fun h => hcl h.1)
              clear hcl
              go_quiet (fail)
              clear q1 q1d c0 c1 c2 c3 c4 c5 c6 c7 d0 d1
              go_wp2_with fail
              refine ⟨⟨k + 1, by go_num, ?_, by omega, PM.hid (by first | exact hin.out.drew | exact PM.dN' hin.out _ | exact PM.dN' hin.out.drew _)⟩, by simp only [intOf]; omega⟩
              rw [PM.cntS_snoc hzh.out, hsm.out, ← hCh.out]
              first | rfl | go_num
          · have r2 : (z.cl == y.cl) = false := beq_eq_false_iff_ne.2 heq
            have r2d : decide (z.cl = y.cl) = false := decide_eq_false heq
            clear hbf heq
            go_wp2_with fail
            go_quiet (fail)
            go_wp2_with fail
            clear hkd hki r1 r2 r2d e0 e1
            by_cases hcl : z.cl = x.client
            · have q1 : (z.cl == x.client) = true := beq_iff_eq.2 hcl
              have q1d : decide (z.cl = x.client) = true := decide_eq_true hcl
              by_cases hsb : z.sub = x.sub
              · have q2 : ((z.sub : Int) == (x.sub : Int)) = true := beq_iff_eq.2 (by omega)
                have q2d : decide (z.sub = x.sub) = true := decide_eq_true hsb
                have q2e : (z.sub == x.sub) = true := beq_iff_eq.2 hsb
                have hsm : Hid (PM.sameS (PM.subOf x) z = true) := PM.hid (by rw [PM.same_iff]; exact ⟨hcl, hsb⟩)
                clear hcl hsb
                go_quiet (fail)
                clear q1 q1d q2 q2d q2e c0 c1 c2 c3 c4 c5 c6 c7 d0 d1
                go_wp2_with fail
                refine ⟨⟨k + 1, by go_num, ?_, by omega, PM.hid (by first | exact hin.out.drew | exact PM.dN' hin.out _ | exact PM.dN' hin.out.drew _)⟩, by simp only [intOf]; omega⟩
                rw [PM.cntS_snoc hzh.out, hsm.out, ← hCh.out]
                go_num
              · have q2 : ((z.sub : Int) == (x.sub : Int)) = false := beq_eq_false_iff_ne.2 (by omega)
                have q2d : decide (z.sub = x.sub) = false := decide_eq_false hsb
                have q2e : (z.sub == x.sub) = false := beq_eq_false_iff_ne.2 hsb
                have hsm : Hid (PM.sameS (PM.subOf x) z = false) := PM.hid (by rw [← Bool.not_eq_true, PM.same_iff]; exact fun h => hsb h.2)
                clear hcl hsb
                go_quiet (fail)
                clear q1 q1d q2 q2d q2e c0 c1 c2 c3 c4 c5 c6 c7 d0 d1
                go_wp2_with fail
                refine ⟨⟨k + 1, by go_num, ?_, by omega, PM.hid (by first | exact hin.out.drew | exact PM.dN' hin.out _ | exact PM.dN' hin.out.drew _)⟩, by simp only [intOf]; omega⟩
                rw [PM.cntS_snoc hzh.out, hsm.out, ← hCh.out]
                first | rfl | go_num
            · have q1 : (z.cl == x.client) = false := beq_eq_false_iff_ne.2 hcl
              have q1d : decide (z.cl = x.client) = false := decide_eq_false hcl
              have hsm : Hid (PM.sameS (PM.subOf x) z = false) := PM.hid (by rw [← Bool.not_eq_true, PM.same_iff]; exact fun h => hcl h.1)
              clear hcl
              go_quiet (fail)
              clear q1 q1d c0 c1 c2 c3 c4 c5 c6 c7 d0 d1
              go_wp2_with fail
              refine ⟨⟨k + 1, by go_num, ?_, by omega, PM.hid (by first | exact hin.out.drew | exact PM.dN' hin.out _ | exact PM.dN' hin.out.drew _)⟩, by simp only [intOf]; omega⟩
              rw [PM.cntS_snoc hzh.out, hsm.out, ← hCh.out]
              first | rfl | go_num
      · obtain rfl : k = M := by omega
        have hCt : Hid (C = PM.cntS (PM.subOf x) t) := PM.hid (by rw [hCh.out, hMh.out, List.take_length])
        have h2 : x.kind = 2 → C = 1 := fun h => by rw [hCt.out]; exact hk2.out h
        have h3 : x.kind = 3 → C = 0 := fun h => by rw [hCt.out]; exact hk3.out h
        have hkk := PM.hid (And.intro h2 h3)
        clear h2 h3
        replace hBB := PM.hid (PM.chain hBB.out hin.out)
        have hap := apply15_any (.slice a0 k c0) t x.kind x.id.br x.id.life x.id.ser x.client x.sub fa F fc (.slice ea L ec) x.fil wr hFh.out (PM.SbL.keep h1h.out hin.out) (hG.out.sbs (by omega)) hG.out.rise (hxr.out.1.keep hBB.out) hFwh.out.fil1000
        rw [show PM.applyL x.kind ⟨x.client, x.sub, x.fil⟩ t = t from happ.out] at hap
        replace kx := kx.keep hin.out
        have d0 : wr.cell? ⟨gx, 0, none⟩ = some (.int .i64 x.kind) := kx.cell 0
        have d1 : wr.cell? ⟨gx, 1, none⟩ = some (.int .i64 x.id.br) := kx.cell 1
        have d2 : wr.cell? ⟨gx, 2, none⟩ = some (.int .u64 (x.id.life : Int)) := kx.cell 2
        have d3 : wr.cell? ⟨gx, 3, none⟩ = some (.int .u64 (x.id.ser : Int)) := kx.cell 3
        have d4 : wr.cell? ⟨gx, 4, none⟩ = some (.int .i64 x.client) := kx.cell 4
        have d5 : wr.cell? ⟨gx, 5, none⟩ = some (.int .u64 (x.sub : Int)) := kx.cell 5
        have d6 : wr.cell? ⟨gx, 6, none⟩ = some (.slice fa F fc) := kx.cell 6
        have d7 : wr.cell? ⟨gx, 7, none⟩ = some (.slice ea L ec) := kx.cell 7
        go_wp2_with fail
        refine hap.mono ?_
        clear hap d0 d1 d2 d3 d4 d5 d6 d7
        rintro e w7 ⟨u2, rfl, ho, hb⟩
        have hS2 : PM.SbL w7 u2 t := ho.rr.imp fun cs x h => PM.sbO_sbR h
        have hsm := same15_refl u2 (.slice a0 k c0) t w7 hS2 (PM.SbL.keep (PM.SbL.keep h1h.out hin.out) hb)
        replace kx := kx.keep hb
        replace hBB := PM.hid (PM.chain hBB.out hb)
        clear ho hS2 hb
        go_wp2_with fail
        refine hsm.mono ?_
        clear hsm
        rintro e w8 ⟨rfl, hb⟩
        replace kx := kx.keep hb
        replace hBB := PM.hid (PM.chain hBB.out hb)
        clear hb
        have d0 : w8.cell? ⟨gx, 0, none⟩ = some (.int .i64 x.kind) := kx.cell 0
        have d1 : w8.cell? ⟨gx, 1, none⟩ = some (.int .i64 x.id.br) := kx.cell 1
        have d2 : w8.cell? ⟨gx, 2, none⟩ = some (.int .u64 (x.id.life : Int)) := kx.cell 2
        have d3 : w8.cell? ⟨gx, 3, none⟩ = some (.int .u64 (x.id.ser : Int)) := kx.cell 3
        have d4 : w8.cell? ⟨gx, 4, none⟩ = some (.int .i64 x.client) := kx.cell 4
        have d5 : w8.cell? ⟨gx, 5, none⟩ = some (.int .u64 (x.sub : Int)) := kx.cell 5
        have d6 : w8.cell? ⟨gx, 6, none⟩ = some (.slice fa F fc) := kx.cell 6
        have d7 : w8.cell? ⟨gx, 7, none⟩ = some (.slice ea L ec) := kx.cell 7
        by_cases hq2 : x.kind = 2
        · obtain rfl := hkk.out.1 hq2
          have q1 : (x.kind != 2) = false := by simp [hq2]
          have q2 : (x.kind != 3) = true := by simp [hq2]
          clear hq2
          go_wp2_with fail
          go_ret
          exact ⟨rfl, hBB.out⟩
        have q1 : (x.kind != 2) = true := by simp [hq2]
        by_cases hq3 : x.kind = 3
        · obtain rfl := hkk.out.2 hq3
          have q2 : (x.kind != 3) = false := by simp [hq3]
          clear hq2 hq3
          go_wp2_with fail
          go_ret
          exact ⟨rfl, hBB.out⟩
        have q2 : (x.kind != 3) = true := by simp [hq3]
        clear hq2 hq3
        go_wp2_with fail
        go_ret
        exact ⟨rfl, hBB.out⟩
theorem tableOrders_walk (v : Value) (l : List PM.En) (x : PM.En) (fv ev : Value) (hx : x.wf) (w : World) (hv : PM.EnL w v l) (hw : ∀ y ∈ l, PM.En.wf y) (hf : PM.TV w fv x.fil) (he : PM.EVL w ev x.evs) :
    Calls Try.prog 4 #[v, .agg (PM.enC x fv ev).toArray] w fun e w' => e = .returned (.bool true) ∧ Below w.heap.size w w' := by
  obtain ⟨va, vc, rfl⟩ := hv.len
  obtain ⟨fa, fc, rfl⟩ := hf.len
  obtain ⟨ea, ec, rfl⟩ := PM.RR.len he
  exact tableOrders_walkA va _ vc l x fa _ fc ea _ ec w rfl rfl hv hw hx hf he
end Go.Proofs.Ytnpbfjkfbobgaaa
