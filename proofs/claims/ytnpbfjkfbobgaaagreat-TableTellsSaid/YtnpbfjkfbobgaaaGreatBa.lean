/-
  SUBSCRIPTIONS; own.Each[Subscription], table.subscription; append where there is room.
-/
import Derived.Test.YtnpbfjkfbobgaaaGreatWt
import Derived.Test.YtnpbfjkfbobgaaaGreatYk
namespace Go.Proofs.YtnpbfjkfbobgaaaGreat
open Go.RowKit
set_option linter.unusedVariables false
set_option linter.unusedSimpArgs false
namespace PM
/-- a subscription -/
structure Sb where
  cl : Int
  sub : Nat
  fil : List Te
def sbC (x : Sb) (v : Value) : List Value := [.int .i64 x.cl, .int .u64 (x.sub : Int), v]
def sbR (w : World) (cs : List Value) (x : Sb) : Prop := ∃ v, cs = sbC x v ∧ TV w v x.fil
theorem sbR_lasts : Lasts sbR := fun W w cs x hb ⟨v, h1, h2⟩ => ⟨v, h1, h2.keep hb⟩
abbrev SbL (w : World) (v : Value) (l : List Sb) : Prop := RR sbR 3 w v l
theorem SbL.keep {W w : World} {v : Value} {l : List Sb} (h : SbL W v l) (hb : Below W.heap.size W w) : SbL w v l := RR.keep sbR_lasts hb h
theorem sbR_open {w : World} {cs : List Value} {x : Sb} (h : sbR w cs x) : ∃ fa fc, cs = sbC x (.slice fa x.fil.length fc) ∧ TV w (.slice fa x.fil.length fc) x.fil := by
  obtain ⟨v, h1, h2⟩ := h
  obtain ⟨fa, fc, rfl⟩ := h2.len
  exact ⟨fa, fc, h1, h2⟩
/-- a subscription whose filter is the call's own -/
def sbO (TT : TypeId) (B : Nat) (w : World) (cs : List Value) (x : Sb) : Prop := ∃ v, cs = sbC x v ∧ OM teL 5 TT B w v x.fil
theorem sbO_lasts {TT : TypeId} {B : Nat} : Lasts (sbO TT B) := fun W w cs x hb ⟨v, h1, h2⟩ => ⟨v, h1, h2.keep hb⟩
theorem sbO_stays {TT K : TypeId} {B : Nat} (hne : TT ≠ K) : Stays (sbO TT B) K := fun w w' cs x row hg ht ⟨v, h1, h2⟩ => ⟨v, h1, OM.stays hne h2 hg ht⟩
theorem sbO_mono {TT : TypeId} {B B' : Nat} {w : World} {cs : List Value} {x : Sb} (hb : B' ≤ B) (h : sbO TT B w cs x) : sbO TT B' w cs x := by
  obtain ⟨v, h1, h2⟩ := h
  exact ⟨v, h1, h2.mono hb⟩
theorem sbO_sbR {TT : TypeId} {B : Nat} {w : World} {cs : List Value} {x : Sb} (h : sbO TT B w cs x) : sbR w cs x := by
  obtain ⟨v, h1, h2⟩ := h
  exact ⟨v, h1, h2.em teL_len⟩
/-- as it reads in an elder world -/
def sbE (w0 : World) (w : World) (cs : List Value) (x : Sb) : Prop := sbR w0 cs x
theorem sbE_lasts (w0 : World) : Lasts (sbE w0) := fun W w cs x hb h => h
theorem sbE_stays (w0 : World) (E : TypeId) : Stays (sbE w0) E := fun w w' cs x row hg ht h => h
def sbCe (x : Sb) (a : Option Addr) (n c : Nat) : Ce 3 := ⟨sbC x (.slice a n c), rfl, by
  intro u hu
  simp [sbC] at hu
  rcases hu with rfl | rfl | rfl <;> rfl⟩
def sbsS (l : List Sb) : Prop := l.length ≤ 1000 ∧ ∀ x ∈ l, x.fil.length ≤ 1000
section
variable {α : Type} {R : World → List Value → α → Prop} {c : Nat} {E : TypeId} {B : Nat}
variable {P : Program} {w : World} {ops : Array Oper} {rest : List Oper} {o : Oper} {a : Act} {Q : Exit → Act → World → Prop}
/-- append of one where there is room: the capacity stays -/
theorem wpList_or1c {T : TypeId} {nb : Nat} (ET : MTy P T E c nb) (hS : Stays R E) (hL : Lasts R) (B : Nat) (W : World) (hgd : o.guard = none) (s x : Operand)
    (ho : o.op = .call { callee := .builtin .append, args := #[s, x], argTypes := #[T, T] })
    (g cap n : Nat) (l : List α) (hnl : l.length = n) (y : α) (cs : Ce c) (ev : Array Value) (hs : a.eval s = .slice (some ⟨g, 0, none⟩) n cap) (hx : a.eval x = .slice (Option.some ⟨W.heap.size, 0, Option.none⟩) 1 1) (hw : w = W.alloc (.cells ev E)) (hy : ev = cs.1.toArray)
    (hR : R W cs.1 y) (hown : OR R c E B W (.slice (some ⟨g, 0, none⟩) n cap) l) (hroom : n < cap) (hn : (n + 1) * nb ≤ 140737488355328) (hn2 : n + 1 ≤ maxLen) (hB : B ≤ W.heap.size)
    (h : ∀ w', OR R c E B w' (.slice (some ⟨g, 0, none⟩) (n + 1) cap) (l ++ [y]) → Below B W w' → wpList P ops Q rest (a.put o.dst (.slice (some ⟨g, 0, none⟩) (n + 1) cap)) w') : wpList P ops Q (o :: rest) a w := by
  subst hnl
  subst hw
  subst hy
  have hb0 : Below W.heap.size W (W.alloc (.cells cs.1.toArray E)) := (Below.refl _ _).alloc (Nat.le_refl _) _
  have hown' := OR.keep hL hb0 hown
  have hsrc : RR R c (W.alloc (.cells cs.1.toArray E)) (.slice (some ⟨W.heap.size, 0, none⟩) 1 1) [y] := RR.one (w0 := W) hL W E cs y _ rfl hR
  obtain ⟨v', w', hr, h1, h2, h3⟩ := run_orS ET hS o.type hown' hsrc hn hn2 (Nat.le_trans hB hb0.size)
  have hbel : Below B W w' := by
    obtain ⟨css, g1, g2, g3⟩ := hown'
    exact OM.below g1 (hb0.mono hB) h2 (Nat.le_trans hB hb0.size)
  have hv' : v' = .slice (some ⟨g, 0, none⟩) (l.length + 1) cap := by
    obtain ⟨css, g1, g2, g3⟩ := hown'
    obtain ⟨i, z, hi, hz, hsz, hby, hzs⟩ := ET.row
    rcases g1.2 with ⟨e, _⟩ | ⟨g', cap', cur, he, hbg, hg, hnc, hcm, hcs, htake⟩
    · simp at e
    · injection he with e1 e2 e3
      injection e1 with e1
      injection e1 with e1 _ _
      subst e1 e3
      have hcl : (cs.1).length = c := cs.2.1
      have hr2 := run_append_room (P := P) (W.alloc (.cells cs.1.toArray E)) T o.type E i ET.sl hi g l.length cap cur hg ⟨W.heap.size, 0, none⟩ 1 1 cs.1 (by rw [hcl, hsz, Nat.one_mul]) (fun j u hu => by
        rw [Addr.add_lit, Nat.zero_add]
        have hj := (List.getElem?_eq_some_iff.1 hu).1
        rw [World.cell?_alloc_at (w := W) cs.1.toArray E W.heap.size j rfl]
        simpa using hu) cs.2.2 (by omega) (by rw [hcl, hsz, hcs]; have := Nat.mul_le_mul_right c hroom; rw [Nat.succ_mul] at this; exact this)
      rw [hr] at hr2
      injection hr2 with e1 _
  subst hv'
  exact wpList_plain hgd fun _ hK => wp_appendS hgd s x ho hs hx hr (hK _ _ (h w' h1 hbel))
end
end PM
theorem tySb : PM.MTy Tryz.prog 34 57 3 40 := by
  refine ⟨Tryz.underlying34, by decide, ?_⟩
  obtain ⟨i, h1, h2, h3, h4⟩ := info_parts (P := Tryz.prog) (e := 57) (z := .agg #[.int .i64 0, .int .u64 0, .slice none 0 0]) (size := 3) (bytes := 40) (by kernel_rfl)
  exact ⟨i, _, h1, h2, h3, h4, by kernel_rfl⟩
set_option maxRecDepth 100000 in
set_option maxHeartbeats 4000000 in
theorem subOwn_any (cl : Int) (sb : Nat) (fl : List PM.Te) (fa : Option Addr) (F fc : Nat) (w : World) (hF : F = fl.length) (hf : PM.TV w (.slice fa F fc) fl) (hs : fl.length ≤ 1000) :
    Calls Tryz.prog 27 #[.agg #[.int .i64 cl, .int .u64 (sb : Int), .slice fa F fc]] w fun e w' => ∃ ua uc, e = .returned (.agg #[.int .i64 cl, .int .u64 (sb : Int), .slice ua F uc]) ∧ PM.OM PM.teL 5 50 w.heap.size w' (.slice ua F uc) fl ∧ Below w.heap.size w w' := by
  have hE0 := ownF_any (.slice fa F fc) fl
  have hFh := PM.hid hF
  have hsh := PM.hid hs
  clear hF hs
  obtain ⟨gx, hgx⟩ : ∃ g, g = w.heap.size := ⟨_, rfl⟩
  obtain ⟨gz, hgz⟩ : ∃ g, g = w.heap.size + 1 := ⟨_, rfl⟩
  obtain ⟨w1, hw1⟩ : ∃ W, W = w.alloc (.cells #[.int .i64 cl, .int .u64 (sb : Int), .slice fa F fc] 57) := ⟨_, rfl⟩
  obtain ⟨w2, hw2⟩ : ∃ W, W = w1.alloc (.cells #[.int .i64 0, .int .u64 0, .slice none 0 0] 57) := ⟨_, rfl⟩
  have hs1 : w1.heap.size = w.heap.size + 1 := by rw [hw1]; simp
  have hal : Below w.heap.size w w1 := by rw [hw1]; exact (Below.refl _ _).alloc (Nat.le_refl _) _
  have hal2 : Below w1.heap.size w1 w2 := by rw [hw2]; exact (Below.refl _ _).alloc (Nat.le_refl _) _
  have kx : PM.BK w1 gx #[.int .i64 cl, .int .u64 (sb : Int), .slice fa F fc] 57 := by rw [hw1, hgx]; exact PM.BK.new _ _ _
  replace kx := kx.keep hal2
  have kz : PM.BK w2 gz #[.int .i64 0, .int .u64 0, .slice none 0 0] 57 := by rw [hw2, hgz, ← hs1]; exact PM.BK.new _ _ _
  have hne : gx ≠ gz := by omega
  have hgwx : w.heap.size ≤ gx := by omega
  have hgwz : w.heap.size ≤ gz := by omega
  have hBB := PM.hid (PM.chain hal hal2)
  clear hal hal2 hs1
  have hfh := PM.hid hf
  clear hf
  go_enter Tryz.func27, Tryz.ntmps27
  go_upto_region 1 with fail
  rw [← hw1, ← hw2, ← hgz, ← hgx]
  clear hw1 hw2 hgx hgz
  have c0 : w2.cell? ⟨gx, 0, none⟩ = some (.int .i64 cl) := kx.cell 0
  have c1 : w2.cell? ⟨gx, 1, none⟩ = some (.int .u64 (sb : Int)) := kx.cell 1
  have c2 : w2.cell? ⟨gx, 2, none⟩ = some (.slice fa F fc) := kx.cell 2
  go_wp2_with fail
  refine (hE0 w2 (hfh.out.keep hBB.out) hsh.out).mono ?_
  rintro e w3 ⟨u, rfl, hu, hBn⟩
  replace hu := hu.mono hBB.out.size
  obtain ⟨ua, uc, hue⟩ := (hu.em PM.teL_len).len
  rw [← hFh.out] at hue
  subst hue
  clear c0 c1 c2
  replace kx := kx.keep hBn
  replace kz := kz.keep hBn
  replace hBB := PM.hid (PM.chain hBB.out hBn)
  clear hBn hE0
  have c0 : w3.cell? ⟨gx, 0, none⟩ = some (.int .i64 cl) := kx.cell 0
  have c1 : w3.cell? ⟨gx, 1, none⟩ = some (.int .u64 (sb : Int)) := kx.cell 1
  have c2 : w3.cell? ⟨gx, 2, none⟩ = some (.slice fa F fc) := kx.cell 2
  have q0 := fun i => PM.BK.free kx i
  go_upto_region 2 with fail
  obtain ⟨w4, hw4⟩ : ∃ W, W = w3.setCell ⟨gx, 2, none⟩ (.slice ua F uc) := ⟨_, rfl⟩
  have hx4 : PM.Bx gx w3 w4 := by rw [hw4]; exact PM.Bx.set gx 2 _ _
  have hu4 := hu.keepx hx4 kx (by decide)
  have kx4 : PM.BK w4 gx #[.int .i64 cl, .int .u64 (sb : Int), .slice ua F uc] 57 := by rw [hw4]; exact (kx.set 2 _).seeO (by simp)
  replace kz := kz.keepx hx4 (Ne.symm hne)
  rw [← hw4]
  clear hw4 q0 kx hu
  clear c0 c1 c2
  replace hBB := PM.hid (PM.Bx.below hBB.out hx4 hgwx hBB.out.size)
  clear hx4
  have c0 : w4.cell? ⟨gx, 0, none⟩ = some (.int .i64 cl) := kx4.cell 0
  have c1 : w4.cell? ⟨gx, 1, none⟩ = some (.int .u64 (sb : Int)) := kx4.cell 1
  have c2 : w4.cell? ⟨gx, 2, none⟩ = some (.slice ua F uc) := kx4.cell 2
  have z0 : w4.cell? ⟨gz, 0, none⟩ = some (.int .i64 0) := kz.cell 0
  have z1 : w4.cell? ⟨gz, 1, none⟩ = some (.int .u64 0) := kz.cell 1
  have z2 : w4.cell? ⟨gz, 2, none⟩ = some (.slice none 0 0) := kz.cell 2
  have q0 := fun i => PM.BK.free kz i
  go_wp2_with fail
  obtain ⟨w7, hw7⟩ : ∃ W, W = ((w4.setCell ⟨gz, 0, none⟩ (.int .i64 cl)).setCell ⟨gz, 1, none⟩ (.int .u64 (sb : Int))).setCell ⟨gz, 2, none⟩ (.slice ua F uc) := ⟨_, rfl⟩
  have hx7 : PM.Bx gz w4 w7 := by rw [hw7]; exact ((PM.Bx.set gz 0 w4 _).trans (PM.Bx.set gz 1 _ _)).trans (PM.Bx.set gz 2 _ _)
  have hu7 := hu4.keepx hx7 kz (by decide)
  have kz7 : PM.BK w7 gz #[.int .i64 cl, .int .u64 (sb : Int), .slice ua F uc] 57 := by rw [hw7]; exact (((kz.set 0 _).set 1 _).set 2 _).seeO (by simp)
  rw [← hw7]
  clear hw7 q0 kz hu4
  clear c0 c1 c2 z0 z1 z2
  replace hBB := PM.hid (PM.Bx.below hBB.out hx7 hgwz hBB.out.size)
  clear hx7 kx4
  have z0 : w7.cell? ⟨gz, 0, none⟩ = some (.int .i64 cl) := kz7.cell 0
  have z1 : w7.cell? ⟨gz, 1, none⟩ = some (.int .u64 (sb : Int)) := kz7.cell 1
  have z2 : w7.cell? ⟨gz, 2, none⟩ = some (.slice ua F uc) := kz7.cell 2
  have hfi := PM.hid hu7
  clear hu7 kz7
  refine bodyPost_ret (v := .agg #[.int .i64 cl, .int .u64 (sb : Int), .slice ua F uc]) (by simp [results, Tryz.results27, go_sem, z0, z1, z2]) rfl ?_
  exact ⟨ua, uc, rfl, hfi.out, hBB.out⟩
set_option maxRecDepth 100000 in
set_option maxHeartbeats 4000000 in
theorem eachSb_any (v : Value) (l : List PM.Sb) (w : World) (hv : PM.SbL w v l) (hl : PM.sbsS l) :
    Calls Tryz.prog 26 #[v, .func (.func 27) #[] #[]] w fun e w' => ∃ u, e = .returned u ∧ PM.OR (PM.sbO 50 w.heap.size) 3 57 w.heap.size w' u l ∧ (l = [] ∧ u = .slice none 0 0 ∨ 0 < l.length ∧ ∃ g, u = .slice (some ⟨g, 0, none⟩) l.length l.length) ∧ Below w.heap.size w w' := by
  obtain ⟨va, vc, hve⟩ := hv.len
  subst hve
  obtain ⟨N, hN⟩ : ∃ N, N = l.length := ⟨_, rfl⟩
  have hNh := PM.hid hN
  have hl1 := hl.1
  rw [← hN] at hv hl1 ⊢
  have hvh := PM.hid hv
  have hsh := PM.hid hl.2
  clear hN hv hl
  go_enter Tryz.func26, Tryz.ntmps26
  by_cases h0 : N = 0
  · subst h0
    have e0 : Hid (l = []) := PM.hid (List.length_eq_zero_iff.1 hNh.out.symm)
    clear hl1
    go_wp2_with fail
    go_ret
    exact ⟨_, rfl, by rw [e0.out]; exact PM.OR.nilrow _, .inl ⟨e0.out, rfl⟩, Below.refl _ _⟩
  have g0 : ((N : Int) == 0) = false := by simp; omega
  obtain ⟨g, hg⟩ : ∃ g, g = w.heap.size := ⟨_, rfl⟩
  go_wp2_with (at_make; refine PM.wpList_mkm (e := PM.ceL (c := 3)) tySb w.heap.size rfl _ _ rfl .i64 .i64 _ N rfl rfl rfl (by omega) (by unfold maxLen; omega) (Nat.le_refl _) ?_; intro w1 hO hB1 _; rw [← hg]; have hO2 : PM.OM PM.ceL 3 57 w.heap.size w1 (.slice (some ⟨g, 0, none⟩) 0 N) [] := (by rw [hg]; exact hO); have hOh := PM.hid (And.intro hO2 hB1); clear hO hO2 hB1 hg)
  go_loopw [5, 16] (fun s i wr => ∃ k : Nat, i = .int .i64 k ∧ k ≤ N ∧ s = .slice (some ⟨g, 0, none⟩) k N ∧ PM.OR (PM.sbO 50 w.heap.size) 3 57 w.heap.size wr (.slice (some ⟨g, 0, none⟩) k N) (l.take k) ∧ Below w.heap.size w wr) (fun _ i _ => N - (intOf i).toNat)
  case atStart => exact ⟨0, rfl, by omega, rfl, ⟨[], hOh.out.1, rfl, fun i cs x a _ => by simp at a⟩, hOh.out.2⟩
  case round =>
    obtain ⟨k, rfl, hk, rfl, hrow, hB⟩ := hrel
    have hS := PM.hid (And.intro hrow hB)
    have hkl : (l.take k).length = k := by rw [List.length_take]; rw [← hNh.out]; omega
    by_cases hlt : k < N
    · obtain ⟨z, hz⟩ : ∃ z, l[k]? = some z := ⟨l[k]'(by rw [← hNh.out]; exact hlt), List.getElem?_eq_getElem _⟩
      obtain ⟨b, off, hbe, hce⟩ := PM.RR.opn hvh.out (by rw [← hNh.out]; omega)
      subst hbe
      obtain ⟨cs, hl0, hR⟩ := hce k z hz
      obtain ⟨fa, fc, hcs, hzf⟩ := PM.sbR_open hR
      replace hl0 := hl0.keep hB
      rw [hcs] at hl0
      obtain ⟨zF, hzF⟩ : ∃ P, P = z.fil.length := ⟨_, rfl⟩
      rw [← hzF] at hl0 hzf
      have d0 : wr.cell? ⟨b, off + k * 3, none⟩ = some (.int .i64 z.cl) := hl0 0 _ rfl
      have d1 : wr.cell? ⟨b, off + k * 3 + 1, none⟩ = some (.int .u64 (z.sub : Int)) := hl0 1 _ rfl
      have d2 : wr.cell? ⟨b, off + k * 3 + 2, none⟩ = some (.slice fa zF fc) := hl0 2 _ rfl
      have hzh := PM.hid hz
      have hzs := hsh.out _ (List.mem_of_getElem? hz)
      have hen : Hid (∀ W : World, Below w.heap.size w W → Calls Tryz.prog 27 #[.agg #[.int .i64 z.cl, .int .u64 (z.sub : Int), .slice fa zF fc]] W fun e w' => ∃ ua uc, e = .returned (.agg #[.int .i64 z.cl, .int .u64 (z.sub : Int), .slice ua zF uc]) ∧ PM.OM PM.teL 5 50 W.heap.size w' (.slice ua zF uc) z.fil ∧ Below W.heap.size W w') := PM.hid fun W hb => subOwn_any z.cl z.sub z.fil fa zF fc W hzF (hzf.keep hb) hzs
      clear hz hce hl0 hR hcs cs hzf hzF hzs hrow hB
      go_upto_region 7 with fail
      obtain ⟨gx, hgx⟩ : ∃ g, g = wr.heap.size := ⟨_, rfl⟩
      obtain ⟨w3, hw3⟩ : ∃ W, W = wr.alloc (.cells #[.int .i64 z.cl, .int .u64 (z.sub : Int), .slice fa zF fc] 57) := ⟨_, rfl⟩
      have hBn : Below wr.heap.size wr w3 := by rw [hw3]; exact (Below.refl _ _).alloc (Nat.le_refl _) _
      have kx : PM.BK w3 gx #[.int .i64 z.cl, .int .u64 (z.sub : Int), .slice fa zF fc] 57 := by rw [hw3, hgx]; exact PM.BK.new _ _ _
      rw [← hw3, ← hgx]
      clear hw3 hgx
      clear d0 d1 d2
      have hBw := PM.hid (PM.chain hS.out.2 hBn)
      have hr3 := PM.OR.keep PM.sbO_lasts hBn hS.out.1
      clear hBn
      have x0 : w3.cell? ⟨gx, 0, none⟩ = some (.int .i64 z.cl) := kx.cell 0
      have x1 : w3.cell? ⟨gx, 1, none⟩ = some (.int .u64 (z.sub : Int)) := kx.cell 1
      have x2 : w3.cell? ⟨gx, 2, none⟩ = some (.slice fa zF fc) := kx.cell 2
      clear kx
      go_wp2_with fail
      refine (hen.out w3 hBw.out).mono ?_
      rintro e w5 ⟨ua, uc, rfl, hRy, hBn⟩
      clear x0 x1 x2
      have hRy : PM.sbO 50 w.heap.size w5 (PM.sbCe z ua zF uc).1 z := ⟨_, rfl, hRy.mono hBw.out.size⟩
      have hr5 := PM.OR.keep PM.sbO_lasts hBn hr3
      have hB5h := PM.hid (PM.chain hBw.out hBn)
      have hl16 : (k + 1) * 40 ≤ 140737488355328 := by omega
      have hl17 : k + 1 ≤ maxLen := by unfold maxLen; omega
      have hsz := hB5h.out.size
      have hklh := PM.hid hkl
      clear hBn hr3 hkl
      go_wp2_with (at_builtin; go_loud (refine PM.wpList_or1c tySb (PM.sbO_stays (by decide)) PM.sbO_lasts w.heap.size w5 rfl _ _ rfl g N k (l.take k) hklh.out z (PM.sbCe z ua zF uc) _ rfl rfl rfl rfl hRy hr5 hlt hl16 hl17 hsz ?_); intro w' t1 t2; have hE := PM.hid (And.intro t1 (hB5h.out.trans t2)); clear t1 t2 hr5 hRy hsz)
      refine ⟨⟨k + 1, by go_num, by omega, by first | rfl | go_num, by rw [PM.take_at hzh.out]; exact hE.out.1, hE.out.2⟩, by simp only [intOf]; omega⟩
    · obtain rfl : k = N := by omega
      clear hB hrow hkl
      go_wp2_with fail
      go_ret
      refine ⟨_, rfl, ?_, ?_, hS.out.2⟩
      · have := hS.out.1
        have h9 : l.take k = l := (by rw [hNh.out]; exact List.take_length)
        rwa [h9] at this
      · exact .inr ⟨by omega, g, rfl⟩
end Go.Proofs.YtnpbfjkfbobgaaaGreat
