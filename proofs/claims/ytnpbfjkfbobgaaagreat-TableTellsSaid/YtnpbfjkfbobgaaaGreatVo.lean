/-
  CONTRACTS OF package own: Flat, Event, Filter, Each[Event], Entry.
-/
import Derived.Test.YtnpbfjkfbobgaaaGreatVt
namespace Go.Proofs.YtnpbfjkfbobgaaaGreat
open Go.RowKit
set_option linter.unusedVariables false
set_option linter.unusedSimpArgs false
namespace PM
theorem Bx.set8o (g : Nat) (w : World) (a b c d e f x y : Value) : Bx g w ((((((((w.setCell ⟨g, 0, Option.none⟩ a).setCell ⟨g, 1, Option.none⟩ b).setCell ⟨g, 2, Option.none⟩ c).setCell ⟨g, 3, Option.none⟩ d).setCell ⟨g, 4, Option.none⟩ e).setCell ⟨g, 5, Option.none⟩ f).setCell ⟨g, 6, Option.none⟩ x).setCell ⟨g, 7, Option.none⟩ y) :=
  ((((((((Bx.set g 0 w a)).trans (Bx.set g 1 _ b)).trans (Bx.set g 2 _ c)).trans (Bx.set g 3 _ d)).trans (Bx.set g 4 _ e)).trans (Bx.set g 5 _ f)).trans (Bx.set g 6 _ x)).trans (Bx.set g 7 _ y)
theorem BK.set8o {w : World} {r : Nat} {a b c d e f g h : Value} {T : TypeId} (k : BK w r #[a, b, c, d, e, f, g, h] T) (a' b' c' d' e' f' g' h' : Value) : BK ((((((((w.setCell ⟨r, 0, Option.none⟩ a').setCell ⟨r, 1, Option.none⟩ b').setCell ⟨r, 2, Option.none⟩ c').setCell ⟨r, 3, Option.none⟩ d').setCell ⟨r, 4, Option.none⟩ e').setCell ⟨r, 5, Option.none⟩ f').setCell ⟨r, 6, Option.none⟩ g').setCell ⟨r, 7, Option.none⟩ h') r #[a', b', c', d', e', f', g', h'] T := by
  have := (((((((k.set 0 a').set 1 b').set 2 c').set 3 d').set 4 e').set 5 f').set 6 g').set 7 h'
  simpa using this
theorem BK.seeO {w : World} {b : Nat} {cs cs' : Array Value} {T : TypeId} (h : BK w b cs T) (he : cs = cs') : BK w b cs' T := he ▸ h
/-- an event of the call's own, in a cell -/
def evO (T : TypeId) (B : Nat) (w : World) (cs : List Value) (e : List At) : Prop := ∃ v, cs = [v] ∧ OM attL 4 T B w v e
theorem evO_lasts {T : TypeId} {B : Nat} : Lasts (evO T B) := fun W w cs x hb ⟨v, h1, h2⟩ => ⟨v, h1, h2.keep hb⟩
theorem evO_stays {T E : TypeId} {B : Nat} (hne : T ≠ E) : Stays (evO T B) E := fun w w' cs x row hg ht ⟨v, h1, h2⟩ => ⟨v, h1, OM.stays hne h2 hg ht⟩
theorem EVL.keepO {W w : World} {v : Value} {ls : List (List At)} (hb : Below W.heap.size W w) (h : EVL W v ls) : EVL w v ls := RR.keep evR_lasts hb h
theorem evOr_mono {T E : TypeId} {B B' : Nat} {w : World} {v : Value} {l : List (List At)} (hb : B' ≤ B) (h : OR (evO T B) 1 E B w v l) : OR (evO T B') 1 E B' w v l := by
  obtain ⟨css, h1, h2, h3⟩ := h
  exact ⟨css, h1.mono hb, h2, fun i cs x a b => by obtain ⟨v, g1, g2⟩ := h3 i cs x a b; exact ⟨v, g1, g2.mono hb⟩⟩
theorem evOr_keepx {T E K : TypeId} {B b : Nat} {w w' : World} {v : Value} {l : List (List At)} {cs : Array Value} (h : OR (evO T B) 1 E B w v l) (hx : Bx b w w') (hb : BK w b cs K) (h1 : K ≠ T) (h2 : K ≠ E) : OR (evO T B) 1 E B w' v l := by
  obtain ⟨css, g1, g2, g3⟩ := h
  exact ⟨css, g1.keepx hx hb h2, g2, fun i cs x a b => by obtain ⟨v, f1, f2⟩ := g3 i cs x a b; exact ⟨v, f1, f2.keepx hx hb h1⟩⟩
theorem evOr_stays {T E K : TypeId} {B : Nat} {w w' : World} {v : Value} {l : List (List At)} {row : Option Nat} (h1 : T ≠ K) (h2 : E ≠ K) (h : OR (evO T B) 1 E B w v l) (hg : w.grownBy w' row) (ht : ∀ g, row = some g → ∃ cur m, w.heap[g]? = some (.cells cur K m)) : OR (evO T B) 1 E B w' v l := by
  obtain ⟨css, g1, g2, g3⟩ := h
  exact ⟨css, OM.stays h2 g1 hg ht, g2, fun i cs x a b => evO_stays h1 _ _ _ _ _ hg ht (g3 i cs x a b)⟩
/-- an entry of the call's own -/
def enO (TT TA TE : TypeId) (B : Nat) (w : World) (cs : List Value) (x : En) : Prop := ∃ fv ev, cs = enC x fv ev ∧ OM teL 5 TT B w fv x.fil ∧ OR (evO TA B) 1 TE B w ev x.evs
theorem evOr_evl {T E : TypeId} {B : Nat} {w : World} {v : Value} {l : List (List At)} (h : OR (evO T B) 1 E B w v l) : EVL w v l :=
  RR.imp h.rr fun cs x ⟨v, h1, h2⟩ => ⟨v, h1, (h2.em attL_len).ev⟩
theorem enO_lasts {TT TA TE : TypeId} {B : Nat} : Lasts (enO TT TA TE B) := fun W w cs x hb ⟨fv, ev, h1, h2, h3⟩ => ⟨fv, ev, h1, h2.keep hb, OR.keep evO_lasts hb h3⟩
theorem enO_stays {TT TA TE K : TypeId} {B : Nat} (h1 : TT ≠ K) (h2 : TA ≠ K) (h3 : TE ≠ K) : Stays (enO TT TA TE B) K := fun w w' cs x row hg ht ⟨fv, ev, g1, g2, g3⟩ => ⟨fv, ev, g1, OM.stays h1 g2 hg ht, evOr_stays h2 h3 g3 hg ht⟩
theorem enO_mono {TT TA TE : TypeId} {B B' : Nat} {w : World} {cs : List Value} {x : En} (hb : B' ≤ B) (h : enO TT TA TE B w cs x) : enO TT TA TE B' w cs x := by
  obtain ⟨fv, ev, h1, h2, h3⟩ := h
  exact ⟨fv, ev, h1, h2.mono hb, evOr_mono hb h3⟩
theorem enO_enR {TT TA TE : TypeId} {B : Nat} {w : World} {cs : List Value} {x : En} (h : enO TT TA TE B w cs x) : enR w cs x := by
  obtain ⟨fv, ev, h1, h2, h3⟩ := h
  exact ⟨fv, ev, h1, h2.em teL_len, evOr_evl h3⟩
/-- an entry of little load -/
def EnS (x : En) : Prop := x.fil.length ≤ 1000 ∧ x.evs.length ≤ 1000 ∧ ∀ e ∈ x.evs, e.length ≤ 1000
end PM
theorem tyEvO : PM.MTy Tryz.prog 29 55 1 24 := by
  refine ⟨Tryz.underlying29, by decide, ?_⟩
  obtain ⟨i, h1, h2, h3, h4⟩ := info_parts (P := Tryz.prog) (e := 55) (z := .slice none 0 0) (size := 1) (bytes := 24) (by kernel_rfl)
  exact ⟨i, _, h1, h2, h3, h4, by kernel_rfl⟩
theorem tyAtO : PM.MTy Tryz.prog 54 53 4 48 := by
  refine ⟨Tryz.underlying54, by decide, ?_⟩
  obtain ⟨i, h1, h2, h3, h4⟩ := info_parts (P := Tryz.prog) (e := 53) (z := .agg #[.string ByteArray.empty, .int .i64 0, .int .i64 0, .string ByteArray.empty]) (size := 4) (bytes := 48) (by kernel_rfl)
  exact ⟨i, _, h1, h2, h3, h4, by kernel_rfl⟩
set_option maxHeartbeats 2000000 in
theorem flatAt_any (v : Value) (l : List PM.At) (w : World) (hv : PM.EM PM.attL 4 w v l) (hl : l.length ≤ 1000) :
    Calls Tryz.prog 70 #[v] w fun e w' => ∃ u, e = .returned u ∧ PM.OM PM.attL 4 53 w.heap.size w' u l ∧ Below w.heap.size w w' := by
  obtain ⟨va, vc, hve⟩ := hv.len
  subst hve
  obtain ⟨N, hN⟩ : ∃ N, N = l.length := ⟨_, rfl⟩
  have hNh := PM.hid hN
  rw [← hN] at hv hl ⊢
  clear hN
  go_enter Tryz.func70, Tryz.ntmps70
  by_cases h0 : N = 0
  · subst h0
    have e0 : Hid (l = []) := PM.hid (List.length_eq_zero_iff.1 hNh.out.symm)
    clear hv hl
    go_wp2_with fail
    go_ret
    exact ⟨_, rfl, by rw [e0.out]; exact PM.OM.nilrow _, Below.refl _ _⟩
  have g0 : ((N : Int) == 0) = false := by simp; omega
  have hNn := PM.hid hv
  go_wp2_with (first | (at_make; refine PM.wpList_mkm (e := PM.attL) tyAtO w.heap.size rfl _ _ rfl .i64 .i64 _ N rfl rfl rfl (by omega) (by unfold maxLen; omega) (Nat.le_refl _) ?_; intro w1 hO hB1 _; have hs1 := hv.keep hB1; have hz1 := hB1.size; have hn1 : (([] : List PM.At).length + l.length) * 48 ≤ 140737488355328 ∧ ([] : List PM.At).length + l.length ≤ maxLen := by (unfold maxLen; rw [← hNh.out]; simp; omega)) | (at_builtin; refine PM.wpList_em (e := PM.attL) tyAtO PM.attL_len PM.attL_one w.heap.size rfl _ _ rfl (.slice (some ⟨w.heap.size, 0, none⟩) 0 N) (.slice va N vc) [] l rfl rfl hO hs1 hn1.1 hn1.2 hz1 ?_; intro v' w2 t1 t2 t3 t4; have hE := PM.hid (And.intro t1 (hB1.trans t2)); clear t1 t2 t3 t4 hO hs1 hB1 hz1 hn1))
  go_ret
  exact ⟨_, rfl, hE.out.1, hE.out.2⟩
theorem tyTeO : PM.MTy Tryz.prog 27 50 5 56 := by
  refine ⟨Tryz.underlying27, by decide, ?_⟩
  obtain ⟨i, h1, h2, h3, h4⟩ := info_parts (P := Tryz.prog) (e := 50) (z := .agg #[.string ByteArray.empty, .int .i64 0, .int .i64 0, .int .i64 0, .string ByteArray.empty]) (size := 5) (bytes := 56) (by kernel_rfl)
  exact ⟨i, _, h1, h2, h3, h4, by kernel_rfl⟩
set_option maxHeartbeats 2000000 in
theorem flatTe_any (v : Value) (l : List PM.Te) (w : World) (hv : PM.EM PM.teL 5 w v l) (hl : l.length ≤ 1000) :
    Calls Tryz.prog 45 #[v] w fun e w' => ∃ u, e = .returned u ∧ PM.OM PM.teL 5 50 w.heap.size w' u l ∧ Below w.heap.size w w' := by
  obtain ⟨va, vc, hve⟩ := hv.len
  subst hve
  obtain ⟨N, hN⟩ : ∃ N, N = l.length := ⟨_, rfl⟩
  have hNh := PM.hid hN
  rw [← hN] at hv hl ⊢
  clear hN
  go_enter Tryz.func45, Tryz.ntmps45
  by_cases h0 : N = 0
  · subst h0
    have e0 : Hid (l = []) := PM.hid (List.length_eq_zero_iff.1 hNh.out.symm)
    clear hv hl
    go_wp2_with fail
    go_ret
    exact ⟨_, rfl, by rw [e0.out]; exact PM.OM.nilrow _, Below.refl _ _⟩
  have g0 : ((N : Int) == 0) = false := by simp; omega
  have hNn := PM.hid hv
  go_wp2_with (first | (at_make; refine PM.wpList_mkm (e := PM.teL) tyTeO w.heap.size rfl _ _ rfl .i64 .i64 _ N rfl rfl rfl (by omega) (by unfold maxLen; omega) (Nat.le_refl _) ?_; intro w1 hO hB1 _; have hs1 := hv.keep hB1; have hz1 := hB1.size; have hn1 : (([] : List PM.Te).length + l.length) * 56 ≤ 140737488355328 ∧ ([] : List PM.Te).length + l.length ≤ maxLen := by (unfold maxLen; rw [← hNh.out]; simp; omega)) | (at_builtin; refine PM.wpList_em (e := PM.teL) tyTeO PM.teL_len PM.teL_one w.heap.size rfl _ _ rfl (.slice (some ⟨w.heap.size, 0, none⟩) 0 N) (.slice va N vc) [] l rfl rfl hO hs1 hn1.1 hn1.2 hz1 ?_; intro v' w2 t1 t2 t3 t4; have hE := PM.hid (And.intro t1 (hB1.trans t2)); clear t1 t2 t3 t4 hO hs1 hB1 hz1 hn1))
  go_ret
  exact ⟨_, rfl, hE.out.1, hE.out.2⟩
theorem ownEv_any (v : Value) (l : List PM.At) (w : World) (hv : PM.EM PM.attL 4 w v l) (hl : l.length ≤ 1000) :
    Calls Tryz.prog 57 #[v] w fun e w' => ∃ u, e = .returned u ∧ PM.OM PM.attL 4 53 w.heap.size w' u l ∧ Below w.heap.size w w' := by
  go_enter Tryz.func57, Tryz.ntmps57
  go_wp2_with fail
  refine (flatAt_any v l w hv hl).mono ?_
  rintro e w1 ⟨u, rfl, h1, h2⟩
  have hh := PM.hid (And.intro h1 h2)
  clear h1 h2
  go_wp2_with fail
  go_ret
  exact ⟨_, rfl, hh.out⟩
theorem ownF_any (v : Value) (l : List PM.Te) (w : World) (hv : PM.EM PM.teL 5 w v l) (hl : l.length ≤ 1000) :
    Calls Tryz.prog 28 #[v] w fun e w' => ∃ u, e = .returned u ∧ PM.OM PM.teL 5 50 w.heap.size w' u l ∧ Below w.heap.size w w' := by
  go_enter Tryz.func28, Tryz.ntmps28
  go_wp2_with fail
  refine (flatTe_any v l w hv hl).mono ?_
  rintro e w1 ⟨u, rfl, h1, h2⟩
  have hh := PM.hid (And.intro h1 h2)
  clear h1 h2
  go_wp2_with fail
  go_ret
  exact ⟨_, rfl, hh.out⟩
set_option maxHeartbeats 4000000 in
theorem eachEv_any (v : Value) (l : List (List PM.At)) (w : World) (hv : PM.EVL w v l) (hl : l.length ≤ 1000) (hs : ∀ e ∈ l, e.length ≤ 1000) :
    Calls Tryz.prog 53 #[v, .func (.func 57) #[] #[]] w fun e w' => ∃ u, e = .returned u ∧ PM.OR (PM.evO 53 w.heap.size) 1 55 w.heap.size w' u l ∧ Below w.heap.size w w' := by
  obtain ⟨va, vc, hve⟩ := hv.len
  subst hve
  obtain ⟨N, hN⟩ : ∃ N, N = l.length := ⟨_, rfl⟩
  have hNh := PM.hid hN
  rw [← hN] at hv hl ⊢
  have hvh := PM.hid hv
  have hsh := PM.hid hs
  clear hN hv hs
  go_enter Tryz.func53, Tryz.ntmps53
  by_cases h0 : N = 0
  · subst h0
    have e0 : Hid (l = []) := PM.hid (List.length_eq_zero_iff.1 hNh.out.symm)
    clear hl
    go_wp2_with fail
    go_ret
    exact ⟨_, rfl, by rw [e0.out]; exact PM.OR.nilrow _, Below.refl _ _⟩
  have g0 : ((N : Int) == 0) = false := by simp; omega
  go_wp2_with (at_make; refine PM.wpList_mkm (e := PM.ceL (c := 1)) tyEvO w.heap.size rfl _ _ rfl .i64 .i64 _ N rfl rfl rfl (by omega) (by unfold maxLen; omega) (Nat.le_refl _) ?_; intro w1 hO hB1 _; have hOh := PM.hid (And.intro hO hB1); clear hO hB1)
  go_loopw [5, 16] (fun s i wr => ∃ k : Nat, i = .int .i64 k ∧ k ≤ N ∧ PM.OR (PM.evO 53 w.heap.size) 1 55 w.heap.size wr s (l.take k) ∧ Below w.heap.size w wr) (fun _ i _ => N - (intOf i).toNat)
  case atStart => exact ⟨0, rfl, by omega, ⟨[], hOh.out.1, rfl, fun i cs x a _ => by simp at a⟩, hOh.out.2⟩
  case round =>
    obtain ⟨k, rfl, hk, hrow, hB⟩ := hrel
    have hS := PM.hid (And.intro hrow hB)
    obtain ⟨ra, rc, hre⟩ := hrow.rr.len
    have hkl : (l.take k).length = k := by rw [List.length_take]; rw [← hNh.out]; omega
    rw [hkl] at hre
    subst hre
    by_cases hlt : k < N
    · obtain ⟨x, hx⟩ : ∃ x, l[k]? = some x := ⟨l[k]'(by rw [← hNh.out]; exact hlt), List.getElem?_eq_getElem _⟩
      obtain ⟨b, off, rfl, hce⟩ := PM.RR.opn (hvh.out) (by rw [← hNh.out]; omega)
      obtain ⟨cs, hl0, xv, hcs, hxv⟩ := hce k x hx
      replace hl0 := hl0.keep hB
      rw [hcs] at hl0
      obtain ⟨xa, xc, hxe⟩ := hxv.em.len
      have c0 : wr.cell? ⟨b, off + k, none⟩ = some xv := by have := hl0 0 xv rfl; rwa [Nat.mul_one, Nat.add_zero] at this
      have hcl := ownEv_any xv x wr (hxv.keep hB).em (hsh.out x (List.mem_of_getElem? hx))
      have hxh := PM.hid hx
      subst hxe
      clear hx hce hl0 hcs hxv cs hB hrow hkl
      go_wp2_with fail
      refine hcl.mono ?_
      clear hcl c0
      rintro e w5 ⟨u, rfl, hu, hB5⟩
      obtain ⟨ua, uc, hue⟩ := (hu.em PM.attL_len).len
      subst hue
      have hr5 := PM.OR.keep PM.evO_lasts hB5 hS.out.1
      have hB5h := PM.hid (PM.chain hS.out.2 hB5)
      have hRy : PM.evO 53 w.heap.size w5 [.slice ua x.length uc] x := ⟨_, rfl, hu.mono hS.out.2.size⟩
      have hl16 : ((l.take k).length + 1) * 24 ≤ 140737488355328 := by rw [List.length_take]; omega
      have hl17 : (l.take k).length + 1 ≤ maxLen := by rw [List.length_take]; unfold maxLen; omega
      have hsz := hB5h.out.size
      clear hu hB5
      go_wp2_with (at_builtin; go_loud (refine PM.wpList_or1 tyEvO (PM.evO_stays (by decide)) PM.evO_lasts w.heap.size w5 rfl _ _ rfl _ (l.take k) x (PM.ce1 (.slice ua x.length uc) rfl) _ rfl rfl rfl rfl hRy hr5 hl16 hl17 hsz ?_); intro v' w' t1 t2 t3; have hE := PM.hid (And.intro t1 (hB5h.out.trans t2)); clear t1 t2 t3 hr5 hRy hsz)
      refine ⟨⟨k + 1, by go_num, by omega, by rw [PM.take_at hxh.out]; exact hE.out.1, hE.out.2⟩, by simp only [intOf]; omega⟩
    · obtain rfl : k = N := by omega
      clear hB hrow hkl
      go_wp2_with fail
      go_ret
      exact ⟨_, rfl, by have := hS.out.1; have h9 : l.take k = l := (by rw [hNh.out]; exact List.take_length); rwa [h9] at this, hS.out.2⟩
set_option maxRecDepth 100000 in
set_option maxHeartbeats 4000000 in
theorem ownEn_any (x : PM.En) (fv ev : Value) (w : World) (hf : PM.TV w fv x.fil) (he : PM.EVL w ev x.evs) (hs : PM.EnS x) :
    Calls Tryz.prog 38 #[.agg (PM.enC x fv ev).toArray] w fun e w' => ∃ ua uc ta tc, e = .returned (.agg (PM.enC x (.slice ua x.fil.length uc) (.slice ta x.evs.length tc)).toArray) ∧ PM.enO 50 53 55 w.heap.size w' (PM.enC x (.slice ua x.fil.length uc) (.slice ta x.evs.length tc)) x ∧ Below w.heap.size w w' := by
  have hE0 := ownF_any fv x.fil
  have hE1 := eachEv_any ev x.evs
  obtain ⟨hs1, hs2, hs3⟩ := hs
  obtain ⟨fa, fc, hfe⟩ := hf.len
  obtain ⟨ea, ec, hee⟩ := he.len
  subst hfe hee
  obtain ⟨FF, hFF⟩ : ∃ F, F = x.fil := ⟨_, rfl⟩
  obtain ⟨EE, hEE⟩ : ∃ F, F = x.evs := ⟨_, rfl⟩
  have hfin : ∀ (B : Nat) (W : World) (a b : Value), PM.OM PM.teL 5 50 B W a FF → PM.OR (PM.evO 53 B) 1 55 B W b EE → PM.enO 50 53 55 B W (PM.enC x a b) x := fun B W a b h1 h2 => by
    exact ⟨a, b, rfl, by rw [← hFF]; exact h1, by rw [← hEE]; exact h2⟩
  rw [← hFF] at hE0 hf
  rw [← hEE] at hE1 he
  rw [← hFF] at hs1
  rw [← hEE] at hs2 hs3
  have hF0 : x.fil.length = FF.length := by rw [hFF]
  have hL0 : x.evs.length = EE.length := by rw [hEE]
  obtain ⟨kd, ⟨ib, il, is⟩, cl, sub, fil, evs⟩ := x
  simp only at hfin hF0 hL0 hE0 hE1 hf he ⊢
  rw [hF0, hL0]
  unfold PM.enC at hfin ⊢
  simp only at hfin ⊢
  have hlF : Hid (FF.length ≤ 1000) := PM.hid hs1
  clear hF0 hL0 hFF hEE
  replace hfin := PM.hid hfin
  obtain ⟨F, hFd⟩ : ∃ F, F = FF.length := ⟨_, rfl⟩
  obtain ⟨L, hLd⟩ : ∃ F, F = EE.length := ⟨_, rfl⟩
  rw [← hFd] at hE0 hf ⊢
  rw [← hLd] at hE1 he ⊢
  have hFh := PM.hid hFd
  have hLh := PM.hid hLd
  have hsh := PM.hid (And.intro hs1 (And.intro hs2 hs3))
  clear hFd hLd hs1 hs2 hs3
  obtain ⟨gx, hgx⟩ : ∃ g, g = w.heap.size := ⟨_, rfl⟩
  obtain ⟨gz, hgz⟩ : ∃ g, g = w.heap.size + 1 := ⟨_, rfl⟩
  obtain ⟨w1, hw1⟩ : ∃ W, W = w.alloc (.cells #[.int .i64 kd, .int .i64 ib, .int .u64 (il : Int), .int .u64 (is : Int), .int .i64 cl, .int .u64 (sub : Int), .slice fa F fc, .slice ea L ec] 31) := ⟨_, rfl⟩
  obtain ⟨w2, hw2⟩ : ∃ W, W = w1.alloc (.cells #[.int .i64 0, .int .i64 0, .int .u64 0, .int .u64 0, .int .i64 0, .int .u64 0, .slice none 0 0, .slice none 0 0] 31) := ⟨_, rfl⟩
  have hs1 : w1.heap.size = w.heap.size + 1 := by rw [hw1]; simp
  have hal : Below w.heap.size w w1 := by rw [hw1]; exact (Below.refl _ _).alloc (Nat.le_refl _) _
  have hal2 : Below w1.heap.size w1 w2 := by rw [hw2]; exact (Below.refl _ _).alloc (Nat.le_refl _) _
  have kx : PM.BK w1 gx #[.int .i64 kd, .int .i64 ib, .int .u64 (il : Int), .int .u64 (is : Int), .int .i64 cl, .int .u64 (sub : Int), .slice fa F fc, .slice ea L ec] 31 := by rw [hw1, hgx]; exact PM.BK.new _ _ _
  replace kx := kx.keep hal2
  have kz : PM.BK w2 gz #[.int .i64 0, .int .i64 0, .int .u64 0, .int .u64 0, .int .i64 0, .int .u64 0, .slice none 0 0, .slice none 0 0] 31 := by rw [hw2, hgz, ← hs1]; exact PM.BK.new _ _ _
  have hne : gx ≠ gz := by omega
  have hgwx : w.heap.size ≤ gx := by omega
  have hgwz : w.heap.size ≤ gz := by omega
  have hBB := PM.hid (PM.chain hal hal2)
  clear hal hal2 hs1
  have hfh := PM.hid (And.intro hf he)
  clear hf he
  go_enter Tryz.func38, Tryz.ntmps38
  go_upto_region 1 with fail
  rw [← hw1, ← hw2, ← hgz, ← hgx]
  clear hw1 hw2 hgx hgz
  have c0 : w2.cell? ⟨gx, 0, none⟩ = some (.int .i64 kd) := kx.cell 0
  have c1 : w2.cell? ⟨gx, 1, none⟩ = some (.int .i64 ib) := kx.cell 1
  have c2 : w2.cell? ⟨gx, 2, none⟩ = some (.int .u64 (il : Int)) := kx.cell 2
  have c3 : w2.cell? ⟨gx, 3, none⟩ = some (.int .u64 (is : Int)) := kx.cell 3
  have c4 : w2.cell? ⟨gx, 4, none⟩ = some (.int .i64 cl) := kx.cell 4
  have c5 : w2.cell? ⟨gx, 5, none⟩ = some (.int .u64 (sub : Int)) := kx.cell 5
  have c6 : w2.cell? ⟨gx, 6, none⟩ = some (.slice fa F fc) := kx.cell 6
  have c7 : w2.cell? ⟨gx, 7, none⟩ = some (.slice ea L ec) := kx.cell 7
  go_wp2_with fail
  refine (hE0 w2 (hfh.out.1.keep hBB.out) (by rw [hFh.out]; exact hlF.out)).mono ?_
  rintro e w3 ⟨u, rfl, hu, hBn⟩
  replace hu := hu.mono hBB.out.size
  obtain ⟨ua, uc, hue⟩ := (hu.em PM.teL_len).len
  rw [← hFh.out] at hue
  subst hue
  clear c0 c1 c2 c3 c4 c5 c6 c7
  replace kx := kx.keep hBn
  replace kz := kz.keep hBn
  replace hBB := PM.hid (PM.chain hBB.out hBn)
  clear hBn hE0
  have c0 : w3.cell? ⟨gx, 0, none⟩ = some (.int .i64 kd) := kx.cell 0
  have c1 : w3.cell? ⟨gx, 1, none⟩ = some (.int .i64 ib) := kx.cell 1
  have c2 : w3.cell? ⟨gx, 2, none⟩ = some (.int .u64 (il : Int)) := kx.cell 2
  have c3 : w3.cell? ⟨gx, 3, none⟩ = some (.int .u64 (is : Int)) := kx.cell 3
  have c4 : w3.cell? ⟨gx, 4, none⟩ = some (.int .i64 cl) := kx.cell 4
  have c5 : w3.cell? ⟨gx, 5, none⟩ = some (.int .u64 (sub : Int)) := kx.cell 5
  have c6 : w3.cell? ⟨gx, 6, none⟩ = some (.slice fa F fc) := kx.cell 6
  have c7 : w3.cell? ⟨gx, 7, none⟩ = some (.slice ea L ec) := kx.cell 7
  have q0 := fun i => PM.BK.free kx i
  go_upto_region 2 with fail
  obtain ⟨w4, hw4⟩ : ∃ W, W = w3.setCell ⟨gx, 6, none⟩ (.slice ua F uc) := ⟨_, rfl⟩
  have hx4 : PM.Bx gx w3 w4 := by rw [hw4]; exact PM.Bx.set gx 6 _ _
  have hu4 := hu.keepx hx4 kx (by decide)
  have kx4 : PM.BK w4 gx #[.int .i64 kd, .int .i64 ib, .int .u64 (il : Int), .int .u64 (is : Int), .int .i64 cl, .int .u64 (sub : Int), .slice ua F uc, .slice ea L ec] 31 := by rw [hw4]; exact (kx.set 6 _).seeO (by simp)
  replace kz := kz.keepx hx4 (Ne.symm hne)
  rw [← hw4]
  clear hw4 q0 kx hu
  clear c0 c1 c2 c3 c4 c5 c6 c7
  replace hBB := PM.hid (PM.Bx.below hBB.out hx4 hgwx hBB.out.size)
  clear hx4
  have c0 : w4.cell? ⟨gx, 0, none⟩ = some (.int .i64 kd) := kx4.cell 0
  have c1 : w4.cell? ⟨gx, 1, none⟩ = some (.int .i64 ib) := kx4.cell 1
  have c2 : w4.cell? ⟨gx, 2, none⟩ = some (.int .u64 (il : Int)) := kx4.cell 2
  have c3 : w4.cell? ⟨gx, 3, none⟩ = some (.int .u64 (is : Int)) := kx4.cell 3
  have c4 : w4.cell? ⟨gx, 4, none⟩ = some (.int .i64 cl) := kx4.cell 4
  have c5 : w4.cell? ⟨gx, 5, none⟩ = some (.int .u64 (sub : Int)) := kx4.cell 5
  have c6 : w4.cell? ⟨gx, 6, none⟩ = some (.slice ua F uc) := kx4.cell 6
  have c7 : w4.cell? ⟨gx, 7, none⟩ = some (.slice ea L ec) := kx4.cell 7
  go_wp2_with fail
  refine (hE1 w4 (PM.EVL.keepO hBB.out hfh.out.2) (by rw [hLh.out]; exact hsh.out.2.1) hsh.out.2.2).mono ?_
  rintro e w5 ⟨t, rfl, ht, hBn⟩
  replace ht := PM.evOr_mono hBB.out.size ht
  obtain ⟨ta, tc, hte⟩ := ht.rr.len
  rw [← hLh.out] at hte
  subst hte
  clear c0 c1 c2 c3 c4 c5 c6 c7
  replace kx4 := kx4.keep hBn
  replace kz := kz.keep hBn
  replace hu4 := hu4.keep hBn
  replace hBB := PM.hid (PM.chain hBB.out hBn)
  clear hBn hE1
  have c0 : w5.cell? ⟨gx, 0, none⟩ = some (.int .i64 kd) := kx4.cell 0
  have c1 : w5.cell? ⟨gx, 1, none⟩ = some (.int .i64 ib) := kx4.cell 1
  have c2 : w5.cell? ⟨gx, 2, none⟩ = some (.int .u64 (il : Int)) := kx4.cell 2
  have c3 : w5.cell? ⟨gx, 3, none⟩ = some (.int .u64 (is : Int)) := kx4.cell 3
  have c4 : w5.cell? ⟨gx, 4, none⟩ = some (.int .i64 cl) := kx4.cell 4
  have c5 : w5.cell? ⟨gx, 5, none⟩ = some (.int .u64 (sub : Int)) := kx4.cell 5
  have c6 : w5.cell? ⟨gx, 6, none⟩ = some (.slice ua F uc) := kx4.cell 6
  have c7 : w5.cell? ⟨gx, 7, none⟩ = some (.slice ea L ec) := kx4.cell 7
  have q0 := fun i => PM.BK.free kx4 i
  go_upto_region 3 with fail
  obtain ⟨w6, hw6⟩ : ∃ W, W = w5.setCell ⟨gx, 7, none⟩ (.slice ta L tc) := ⟨_, rfl⟩
  have hx6 : PM.Bx gx w5 w6 := by rw [hw6]; exact PM.Bx.set gx 7 _ _
  have hu6 := hu4.keepx hx6 kx4 (by decide)
  have ht6 := PM.evOr_keepx ht hx6 kx4 (by decide) (by decide)
  have kx6 : PM.BK w6 gx #[.int .i64 kd, .int .i64 ib, .int .u64 (il : Int), .int .u64 (is : Int), .int .i64 cl, .int .u64 (sub : Int), .slice ua F uc, .slice ta L tc] 31 := by rw [hw6]; exact (kx4.set 7 _).seeO (by simp)
  replace kz := kz.keepx hx6 (Ne.symm hne)
  rw [← hw6]
  clear hw6 q0 kx4 hu4 ht
  clear c0 c1 c2 c3 c4 c5 c6 c7
  replace hBB := PM.hid (PM.Bx.below hBB.out hx6 hgwx hBB.out.size)
  clear hx6
  have c0 : w6.cell? ⟨gx, 0, none⟩ = some (.int .i64 kd) := kx6.cell 0
  have c1 : w6.cell? ⟨gx, 1, none⟩ = some (.int .i64 ib) := kx6.cell 1
  have c2 : w6.cell? ⟨gx, 2, none⟩ = some (.int .u64 (il : Int)) := kx6.cell 2
  have c3 : w6.cell? ⟨gx, 3, none⟩ = some (.int .u64 (is : Int)) := kx6.cell 3
  have c4 : w6.cell? ⟨gx, 4, none⟩ = some (.int .i64 cl) := kx6.cell 4
  have c5 : w6.cell? ⟨gx, 5, none⟩ = some (.int .u64 (sub : Int)) := kx6.cell 5
  have c6 : w6.cell? ⟨gx, 6, none⟩ = some (.slice ua F uc) := kx6.cell 6
  have c7 : w6.cell? ⟨gx, 7, none⟩ = some (.slice ta L tc) := kx6.cell 7
  have z0 : w6.cell? ⟨gz, 0, none⟩ = some (.int .i64 0) := kz.cell 0
  have z1 : w6.cell? ⟨gz, 1, none⟩ = some (.int .i64 0) := kz.cell 1
  have z2 : w6.cell? ⟨gz, 2, none⟩ = some (.int .u64 0) := kz.cell 2
  have z3 : w6.cell? ⟨gz, 3, none⟩ = some (.int .u64 0) := kz.cell 3
  have z4 : w6.cell? ⟨gz, 4, none⟩ = some (.int .i64 0) := kz.cell 4
  have z5 : w6.cell? ⟨gz, 5, none⟩ = some (.int .u64 0) := kz.cell 5
  have z6 : w6.cell? ⟨gz, 6, none⟩ = some (.slice none 0 0) := kz.cell 6
  have z7 : w6.cell? ⟨gz, 7, none⟩ = some (.slice none 0 0) := kz.cell 7
  have q0 := fun i => PM.BK.free kz i
  go_wp2_with fail
  obtain ⟨w7, hw7⟩ : ∃ W, W = ((((((((w6.setCell ⟨gz, 0, none⟩ (.int .i64 kd)).setCell ⟨gz, 1, none⟩ (.int .i64 ib)).setCell ⟨gz, 2, none⟩ (.int .u64 (il : Int))).setCell ⟨gz, 3, none⟩ (.int .u64 (is : Int))).setCell ⟨gz, 4, none⟩ (.int .i64 cl)).setCell ⟨gz, 5, none⟩ (.int .u64 (sub : Int))).setCell ⟨gz, 6, none⟩ (.slice ua F uc)).setCell ⟨gz, 7, none⟩ (.slice ta L tc)) := ⟨_, rfl⟩
  have hx7 : PM.Bx gz w6 w7 := by rw [hw7]; exact PM.Bx.set8o gz w6 _ _ _ _ _ _ _ _
  have hu7 := hu6.keepx hx7 kz (by decide)
  have ht7 := PM.evOr_keepx ht6 hx7 kz (by decide) (by decide)
  have kz7 : PM.BK w7 gz #[.int .i64 kd, .int .i64 ib, .int .u64 (il : Int), .int .u64 (is : Int), .int .i64 cl, .int .u64 (sub : Int), .slice ua F uc, .slice ta L tc] 31 := by rw [hw7]; exact PM.BK.set8o kz _ _ _ _ _ _ _ _
  rw [← hw7]
  clear hw7 q0 kz hu6 ht6
  clear c0 c1 c2 c3 c4 c5 c6 c7
  clear z0 z1 z2 z3 z4 z5 z6 z7
  replace hBB := PM.hid (PM.Bx.below hBB.out hx7 hgwz hBB.out.size)
  clear hx7 kx6
  have z0 : w7.cell? ⟨gz, 0, none⟩ = some (.int .i64 kd) := kz7.cell 0
  have z1 : w7.cell? ⟨gz, 1, none⟩ = some (.int .i64 ib) := kz7.cell 1
  have z2 : w7.cell? ⟨gz, 2, none⟩ = some (.int .u64 (il : Int)) := kz7.cell 2
  have z3 : w7.cell? ⟨gz, 3, none⟩ = some (.int .u64 (is : Int)) := kz7.cell 3
  have z4 : w7.cell? ⟨gz, 4, none⟩ = some (.int .i64 cl) := kz7.cell 4
  have z5 : w7.cell? ⟨gz, 5, none⟩ = some (.int .u64 (sub : Int)) := kz7.cell 5
  have z6 : w7.cell? ⟨gz, 6, none⟩ = some (.slice ua F uc) := kz7.cell 6
  have z7 : w7.cell? ⟨gz, 7, none⟩ = some (.slice ta L tc) := kz7.cell 7
  have hfi := PM.hid (hfin.out _ _ _ _ hu7 ht7)
  clear hu7 ht7 kz7
  refine bodyPost_ret (v := .agg #[.int .i64 kd, .int .i64 ib, .int .u64 (il : Int), .int .u64 (is : Int), .int .i64 cl, .int .u64 (sub : Int), .slice ua F uc, .slice ta L tc]) (by simp [results, Tryz.results38, go_sem, z0, z1, z2, z3, z4, z5, z6, z7]) rfl ?_
  exact ⟨ua, uc, ta, tc, rfl, hfi.out, hBB.out⟩
end Go.Proofs.YtnpbfjkfbobgaaaGreat
