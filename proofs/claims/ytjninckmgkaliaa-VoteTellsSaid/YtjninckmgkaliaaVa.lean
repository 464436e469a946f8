/-
  CONTRACTS: is one of some entries of an ID (package fold, slices.ContainsFunc), an ID among some (slices.Contains).
-/
import Derived.Test.YtjninckmgkaliaaVm
namespace Go.Proofs.Ytjninckmgkaliaa
open Go.RowKit
set_option linter.unusedVariables false
set_option linter.unusedSimpArgs false
namespace PM
/-- the first place at which a list is as it is asked, or -1 -/
def At1 {α : Type} (p : α → Bool) (l : List α) (i : Int) : Prop :=
  (i = -1 ∧ ∀ (j : Nat) (x : α), l[j]? = some x → p x = false) ∨ ∃ (k : Nat) (x : α), i = (k : Int) ∧ l[k]? = some x ∧ p x = true ∧ ∀ (j : Nat) (y : α), j < k → l[j]? = some y → p y = false
theorem At1.any {α : Type} {p : α → Bool} {l : List α} {i : Int} (h : At1 p l i) : decide (i ≥ 0) = l.any p := by
  rcases h with ⟨rfl, h⟩ | ⟨k, x, rfl, hx, hp, _⟩
  · have : l.any p = false := by
      rw [List.any_eq_false]
      intro x hx
      obtain ⟨j, hj⟩ := List.mem_iff_getElem?.1 hx
      rw [h j x hj]; simp
    rw [this]; decide
  · have : l.any p = true := List.any_eq_true.2 ⟨x, List.mem_of_getElem? hx, hp⟩
    rw [this]; simp
/-- an entry's ID is it -/
def isId (i : Id) (x : En) : Bool := decide (x.id = i)
def hasE (l : List En) (i : Id) : Bool := l.any (isId i)
def hasI (l : List Id) (i : Id) : Bool := l.any fun x => decide (i = x)
theorem hasI_iff {l : List Id} {i : Id} : hasI l i = true ↔ i ∈ l := by
  unfold hasI
  rw [List.any_eq_true]
  constructor
  · rintro ⟨x, hx, h⟩
    rw [of_decide_eq_true h]
    exact hx
  · intro h
    exact ⟨i, h, by simp⟩
theorem hasE_iff {l : List En} {i : Id} : hasE l i = true ↔ ∃ x ∈ l, x.id = i := by
  unfold hasE isId
  rw [List.any_eq_true]
  simp
theorem id_eq (a b c a' b' c') : decide ((⟨a, b, c⟩ : Id) = ⟨a', b', c'⟩) = (decide (a = a') && (decide (b = b') && decide (c = c'))) := by
  simp only [Id.mk.injEq, Bool.decide_and]
theorem enR_open {w : World} {cs : List Value} {x : En} (h : enR w cs x) : ∃ fa fc ea ec, cs = enC x (.slice fa x.fil.length fc) (.slice ea x.evs.length ec) ∧ TV w (.slice fa x.fil.length fc) x.fil ∧ EVL w (.slice ea x.evs.length ec) x.evs := by
  obtain ⟨fv, ev, h1, h2, h3⟩ := h
  obtain ⟨fa, fc, rfl⟩ := h2.len
  obtain ⟨ea, ec, rfl⟩ := h3.len
  exact ⟨fa, fc, ea, ec, h1, h2, h3⟩
/-- what a function that tells of an entry by a captured block answers -/
def TellsE (P : Program) (K : Nat) (bf : Nat) (p : En → Bool) (W0 : World) : Prop := ∀ (x : En) (fa : Option Addr) (fl fc : Nat) (ea : Option Addr) (el ec : Nat) (W : World), Below W0.heap.size W0 W →
  Calls P K #[.agg #[.int .i64 x.kind, .int .i64 x.id.br, .int .u64 (x.id.life : Int), .int .u64 (x.id.ser : Int), .int .i64 x.client, .int .u64 (x.sub : Int), .slice fa fl fc, .slice ea el ec], .pointer (some ⟨bf, 0, none⟩)] W fun e w' => e = .returned (.bool (p x)) ∧ Below W.heap.size W w'
end PM
set_option maxRecDepth 100000 in
theorem among1_any (kd cl : Int) (i0 : PM.Id) (sub : Nat) (fa : Option Addr) (fl fc : Nat) (ea : Option Addr) (el ec : Nat) (i : PM.Id) (b : Nat) (w : World)
    (h0 : w.cell? ⟨b, 0, none⟩ = some (.int .i64 i.br)) (h1 : w.cell? ⟨b, 1, none⟩ = some (.int .u64 (i.life : Int))) (h2 : w.cell? ⟨b, 2, none⟩ = some (.int .u64 (i.ser : Int))) :
    Calls Try.prog 53 #[.agg #[.int .i64 kd, .int .i64 i0.br, .int .u64 (i0.life : Int), .int .u64 (i0.ser : Int), .int .i64 cl, .int .u64 (sub : Int), .slice fa fl fc, .slice ea el ec], .pointer (some ⟨b, 0, none⟩)] w fun e w' => e = .returned (.bool (decide (i0 = i))) ∧ Below w.heap.size w w' := by
  have a0 : ∀ o, (w.alloc o).cell? ⟨b, 0, none⟩ = some (.int .i64 i.br) := fun o => PM.cellA ((Below.refl _ _).alloc (Nat.le_refl _) o) h0
  have a1 : ∀ o, (w.alloc o).cell? ⟨b, 1, none⟩ = some (.int .u64 (i.life : Int)) := fun o => PM.cellA ((Below.refl _ _).alloc (Nat.le_refl _) o) h1
  have a2 : ∀ o, (w.alloc o).cell? ⟨b, 2, none⟩ = some (.int .u64 (i.ser : Int)) := fun o => PM.cellA ((Below.refl _ _).alloc (Nat.le_refl _) o) h2
  have hq := ideq_run i0 i
  obtain ⟨ib, il, ir⟩ := i
  obtain ⟨jb, jl, jr⟩ := i0
  simp only at hq a0 a1 a2 ⊢
  clear h0 h1 h2
  go_enter Try.func53, Try.ntmps53
  go_wp2
  go_ret
  exact ⟨by rw [PM.id_eq]; rfl, by go_grown⟩
theorem among1_tells (i : PM.Id) (b : Nat) (w : World)
    (h0 : w.cell? ⟨b, 0, none⟩ = some (.int .i64 i.br)) (h1 : w.cell? ⟨b, 1, none⟩ = some (.int .u64 (i.life : Int))) (h2 : w.cell? ⟨b, 2, none⟩ = some (.int .u64 (i.ser : Int))) :
    PM.TellsE Try.prog 53 b (PM.isId i) w := fun x fa fl fc ea el ec W hb =>
  among1_any x.kind x.client x.id x.sub fa fl fc ea el ec i b W (PM.cellA hb h0) (PM.cellA hb h1) (PM.cellA hb h2)
set_option maxHeartbeats 1000000 in
theorem idxE_among (p : PM.En → Bool) (v : Value) (bf : Nat) (l : List PM.En) (w : World) (hv : PM.EnL w v l) (hc : PM.TellsE Try.prog 53 bf p w) :
    Calls Try.prog 51 #[v, .func (.func 53) #[] #[.pointer (some ⟨bf, 0, none⟩)]] w fun e w' => ∃ i, e = .returned (.int .i64 i) ∧ PM.At1 p l i ∧ Below w.heap.size w w' := by
  have hmax := hv.bound
  obtain ⟨ad, cap, rfl⟩ := hv.len
  unfold maxLen at hmax
  obtain ⟨L, hL⟩ : ∃ L, L = l.length := ⟨_, rfl⟩
  have hLh := PM.hid hL
  rw [← hL] at hv hmax ⊢
  have hvh := PM.hid hv
  have hch := PM.hid hc
  clear hL hv hc
  go_enter Try.func51, Try.ntmps51
  go_wp2
  go_loopw [8] (fun i wr => ∃ k : Nat, i = .int .i64 k ∧ k ≤ L ∧ (∀ j y, j < k → l[j]? = some y → p y = false) ∧ Below w.heap.size w wr) (fun i _ => L - (intOf i).toNat)
  case atStart => exact ⟨0, rfl, by omega, fun j y hj => absurd hj (by omega), Below.refl _ _⟩
  case round =>
    obtain ⟨k, rfl, hk, hall, hB⟩ := hrel
    have hS := PM.hid (And.intro hall hB)
    clear hall
    by_cases hlt : k < L
    · obtain ⟨z, hz⟩ : ∃ z, l[k]? = some z := ⟨l[k]'(by rw [← hLh.out]; exact hlt), List.getElem?_eq_getElem _⟩
      obtain ⟨b, off, rfl, hce⟩ := PM.RR.opn hvh.out (by rw [← hLh.out]; omega)
      obtain ⟨cs, hl0, hR⟩ := hce k z hz
      obtain ⟨fa, fc, ea, ec, hcs, -, -⟩ := PM.enR_open hR
      replace hl0 := hl0.keep hB
      rw [hcs] at hl0
      have d0 : wr.cell? ⟨b, off + k * 8, none⟩ = some (.int .i64 z.kind) := hl0 0 _ rfl
      have d1 : wr.cell? ⟨b, off + k * 8 + 1, none⟩ = some (.int .i64 z.id.br) := hl0 1 _ rfl
      have d2 : wr.cell? ⟨b, off + k * 8 + 2, none⟩ = some (.int .u64 (z.id.life : Int)) := hl0 2 _ rfl
      have d3 : wr.cell? ⟨b, off + k * 8 + 3, none⟩ = some (.int .u64 (z.id.ser : Int)) := hl0 3 _ rfl
      have d4 : wr.cell? ⟨b, off + k * 8 + 4, none⟩ = some (.int .i64 z.client) := hl0 4 _ rfl
      have d5 : wr.cell? ⟨b, off + k * 8 + 5, none⟩ = some (.int .u64 (z.sub : Int)) := hl0 5 _ rfl
      have d6 : wr.cell? ⟨b, off + k * 8 + 6, none⟩ = some (.slice fa z.fil.length fc) := hl0 6 _ rfl
      have d7 : wr.cell? ⟨b, off + k * 8 + 7, none⟩ = some (.slice ea z.evs.length ec) := hl0 7 _ rfl
      have hc := hch.out z fa z.fil.length fc ea z.evs.length ec wr hB
      have hzh := PM.hid hz
      clear hz hB hce hl0 hR hcs cs
      generalize z.fil.length = zF at *
      generalize z.evs.length = zE at *
      cases heq : p z
      · rw [heq] at hc
        have heqh := PM.hid heq
        clear heq
        go_wp2_with fail
        refine hc.mono ?_
        rintro e w2 ⟨rfl, hB2⟩
        go_wp2_with fail
        refine ⟨⟨k + 1, by go_num, by omega, fun j y hj hy => ?_, PM.chain hS.out.2 hB2⟩, by simp only [intOf]; omega⟩
        by_cases hjk : j < k
        · exact hS.out.1 j y hjk hy
        · obtain rfl : j = k := by omega
          rw [hzh.out] at hy
          cases hy
          exact heqh.out
      · rw [heq] at hc
        have heqh := PM.hid heq
        clear heq
        go_wp2_with fail
        refine hc.mono ?_
        rintro e w2 ⟨rfl, hB2⟩
        go_wp2_with fail
        go_ret
        exact ⟨_, rfl, .inr ⟨k, z, rfl, hzh.out, heqh.out, hS.out.1⟩, PM.chain hS.out.2 hB2⟩
    · obtain rfl : k = L := by omega
      clear hB
      go_wp2_with fail
      go_ret
      refine ⟨_, rfl, .inl ⟨rfl, fun j z hj => ?_⟩, hS.out.2⟩
      exact hS.out.1 j z (by rw [hLh.out]; exact (List.getElem?_eq_some_iff.1 hj).1) hj
theorem contE_among (p : PM.En → Bool) (v : Value) (bf : Nat) (l : List PM.En) (w : World) (hv : PM.EnL w v l) (hc : PM.TellsE Try.prog 53 bf p w) :
    Calls Try.prog 37 #[v, .func (.func 53) #[] #[.pointer (some ⟨bf, 0, none⟩)]] w fun e w' => e = .returned (.bool (l.any p)) ∧ Below w.heap.size w w' := by
  have h := idxE_among p v bf l w hv hc
  clear hv hc
  go_enter Try.func37, Try.ntmps37
  go_wp2_with fail
  refine h.mono ?_
  rintro e w2 ⟨i, rfl, hi, hB⟩
  have hh := PM.hid (And.intro hi hB)
  clear h hi hB
  go_wp2_with fail
  go_ret
  exact ⟨by rw [← hh.out.1.any]; rfl, hh.out.2⟩
set_option maxHeartbeats 1000000 in
theorem idxE_ends (p : PM.En → Bool) (v : Value) (bf : Nat) (l : List PM.En) (w : World) (hv : PM.EnL w v l) (hc : PM.TellsE Try.prog 38 bf p w) :
    Calls Try.prog 51 #[v, .func (.func 38) #[] #[.pointer (some ⟨bf, 0, none⟩)]] w fun e w' => ∃ i, e = .returned (.int .i64 i) ∧ PM.At1 p l i ∧ Below w.heap.size w w' := by
  have hmax := hv.bound
  obtain ⟨ad, cap, rfl⟩ := hv.len
  unfold maxLen at hmax
  obtain ⟨L, hL⟩ : ∃ L, L = l.length := ⟨_, rfl⟩
  have hLh := PM.hid hL
  rw [← hL] at hv hmax ⊢
  have hvh := PM.hid hv
  have hch := PM.hid hc
  clear hL hv hc
  go_enter Try.func51, Try.ntmps51
  go_wp2
  go_loopw [8] (fun i wr => ∃ k : Nat, i = .int .i64 k ∧ k ≤ L ∧ (∀ j y, j < k → l[j]? = some y → p y = false) ∧ Below w.heap.size w wr) (fun i _ => L - (intOf i).toNat)
  case atStart => exact ⟨0, rfl, by omega, fun j y hj => absurd hj (by omega), Below.refl _ _⟩
  case round =>
    obtain ⟨k, rfl, hk, hall, hB⟩ := hrel
    have hS := PM.hid (And.intro hall hB)
    clear hall
    by_cases hlt : k < L
    · obtain ⟨z, hz⟩ : ∃ z, l[k]? = some z := ⟨l[k]'(by rw [← hLh.out]; exact hlt), List.getElem?_eq_getElem _⟩
      obtain ⟨b, off, rfl, hce⟩ := PM.RR.opn hvh.out (by rw [← hLh.out]; omega)
      obtain ⟨cs, hl0, hR⟩ := hce k z hz
      obtain ⟨fa, fc, ea, ec, hcs, -, -⟩ := PM.enR_open hR
      replace hl0 := hl0.keep hB
      rw [hcs] at hl0
      have d0 : wr.cell? ⟨b, off + k * 8, none⟩ = some (.int .i64 z.kind) := hl0 0 _ rfl
      have d1 : wr.cell? ⟨b, off + k * 8 + 1, none⟩ = some (.int .i64 z.id.br) := hl0 1 _ rfl
      have d2 : wr.cell? ⟨b, off + k * 8 + 2, none⟩ = some (.int .u64 (z.id.life : Int)) := hl0 2 _ rfl
      have d3 : wr.cell? ⟨b, off + k * 8 + 3, none⟩ = some (.int .u64 (z.id.ser : Int)) := hl0 3 _ rfl
      have d4 : wr.cell? ⟨b, off + k * 8 + 4, none⟩ = some (.int .i64 z.client) := hl0 4 _ rfl
      have d5 : wr.cell? ⟨b, off + k * 8 + 5, none⟩ = some (.int .u64 (z.sub : Int)) := hl0 5 _ rfl
      have d6 : wr.cell? ⟨b, off + k * 8 + 6, none⟩ = some (.slice fa z.fil.length fc) := hl0 6 _ rfl
      have d7 : wr.cell? ⟨b, off + k * 8 + 7, none⟩ = some (.slice ea z.evs.length ec) := hl0 7 _ rfl
      have hc := hch.out z fa z.fil.length fc ea z.evs.length ec wr hB
      have hzh := PM.hid hz
      clear hz hB hce hl0 hR hcs cs
      generalize z.fil.length = zF at *
      generalize z.evs.length = zE at *
      cases heq : p z
      · rw [heq] at hc
        have heqh := PM.hid heq
        clear heq
        go_wp2_with fail
        refine hc.mono ?_
        rintro e w2 ⟨rfl, hB2⟩
        go_wp2_with fail
        refine ⟨⟨k + 1, by go_num, by omega, fun j y hj hy => ?_, PM.chain hS.out.2 hB2⟩, by simp only [intOf]; omega⟩
        by_cases hjk : j < k
        · exact hS.out.1 j y hjk hy
        · obtain rfl : j = k := by omega
          rw [hzh.out] at hy
          cases hy
          exact heqh.out
      · rw [heq] at hc
        have heqh := PM.hid heq
        clear heq
        go_wp2_with fail
        refine hc.mono ?_
        rintro e w2 ⟨rfl, hB2⟩
        go_wp2_with fail
        go_ret
        exact ⟨_, rfl, .inr ⟨k, z, rfl, hzh.out, heqh.out, hS.out.1⟩, PM.chain hS.out.2 hB2⟩
    · obtain rfl : k = L := by omega
      clear hB
      go_wp2_with fail
      go_ret
      refine ⟨_, rfl, .inl ⟨rfl, fun j z hj => ?_⟩, hS.out.2⟩
      exact hS.out.1 j z (by rw [hLh.out]; exact (List.getElem?_eq_some_iff.1 hj).1) hj
theorem contE_ends (p : PM.En → Bool) (v : Value) (bf : Nat) (l : List PM.En) (w : World) (hv : PM.EnL w v l) (hc : PM.TellsE Try.prog 38 bf p w) :
    Calls Try.prog 37 #[v, .func (.func 38) #[] #[.pointer (some ⟨bf, 0, none⟩)]] w fun e w' => e = .returned (.bool (l.any p)) ∧ Below w.heap.size w w' := by
  have h := idxE_ends p v bf l w hv hc
  clear hv hc
  go_enter Try.func37, Try.ntmps37
  go_wp2_with fail
  refine h.mono ?_
  rintro e w2 ⟨i, rfl, hi, hB⟩
  have hh := PM.hid (And.intro hi hB)
  clear h hi hB
  go_wp2_with fail
  go_ret
  exact ⟨by rw [← hh.out.1.any]; rfl, hh.out.2⟩
set_option maxHeartbeats 1000000 in
theorem amongE_any (v : Value) (i : PM.Id) (l : List PM.En) (w : World) (hv : PM.EnL w v l) :
    Calls Try.prog 42 #[v, .agg #[.int .i64 i.br, .int .u64 (i.life : Int), .int .u64 (i.ser : Int)]] w fun e w' => e = .returned (.bool (PM.hasE l i)) ∧ Below w.heap.size w w' := by
  obtain ⟨g, hg⟩ : ∃ g, g = w.heap.size := ⟨_, rfl⟩
  obtain ⟨w1, hw1⟩ : ∃ W, W = w.alloc (.cells #[.int .i64 i.br, .int .u64 (i.life : Int), .int .u64 (i.ser : Int)] 30) := ⟨_, rfl⟩
  have hal : Below w.heap.size w w1 := by rw [hw1]; exact (Below.refl _ _).alloc (Nat.le_refl _) _
  have kg : PM.BK w1 g #[.int .i64 i.br, .int .u64 (i.life : Int), .int .u64 (i.ser : Int)] 30 := by rw [hw1, hg]; exact PM.BK.new _ _ _
  have hc := among1_tells i g w1 (kg.cell 0) (kg.cell 1) (kg.cell 2)
  have hcf := contE_among _ v g l w1 (PM.RR.keep PM.enR_lasts hal hv) hc
  have hh := PM.hid hal
  clear hal kg hc hv
  obtain ⟨ib, il, ir⟩ := i
  simp only at hw1
  go_enter Try.func42, Try.ntmps42
  go_upto_region 1 with fail
  rw [← hw1, ← hg]
  clear hw1 hg
  go_wp2_with fail
  refine hcf.mono ?_
  rintro e w2 ⟨rfl, hB⟩
  have hB2 := PM.hid (PM.chain hh.out hB)
  clear hB hcf
  go_wp2_with fail
  go_ret
  exact ⟨rfl, hB2.out⟩
set_option maxHeartbeats 1000000 in
theorem hasS_any (lf : Int) (a0 : Option Addr) (n0 c0 : Nat) (a1 : Option Addr) (n1 c1 : Nat) (a2 : Option Addr) (n2 c2 : Nat) (i : PM.Id) (l : List PM.En) (w : World) (hv : PM.EnL w (.slice a0 n0 c0) l) :
    Calls Try.prog 22 #[.agg #[.int .u64 lf, .slice a0 n0 c0, .slice a1 n1 c1, .slice a2 n2 c2], .agg #[.int .i64 i.br, .int .u64 (i.life : Int), .int .u64 (i.ser : Int)]] w fun e w' => e = .returned (.bool (PM.hasE l i)) ∧ Below w.heap.size w w' := by
  have hal : ∀ o p, Below w.heap.size w ((w.alloc o).alloc p) := fun o p => ((Below.refl _ _).alloc (Nat.le_refl _) o).alloc (by simp) p
  have hcf := fun o p => amongE_any _ i l ((w.alloc o).alloc p) (PM.RR.keep PM.enR_lasts (hal o p) hv)
  replace hal := PM.hid hal
  clear hv
  obtain ⟨ib, il, ir⟩ := i
  simp only at hcf
  go_enter Try.func22, Try.ntmps22
  go_wp2_with fail
  refine (hcf _ _).mono ?_
  rintro e w2 ⟨rfl, hB⟩
  have hB2 := PM.hid (PM.chain (hal.out _ _) hB)
  clear hB hcf
  go_wp2_with fail
  go_ret
  exact ⟨rfl, hB2.out⟩
set_option maxHeartbeats 1000000 in
theorem promS_any (lf : Int) (a0 : Option Addr) (n0 c0 : Nat) (a1 : Option Addr) (n1 c1 : Nat) (a2 : Option Addr) (n2 c2 : Nat) (i : PM.Id) (l : List PM.En) (w : World) (hv : PM.EnL w (.slice a1 n1 c1) l) :
    Calls Try.prog 23 #[.agg #[.int .u64 lf, .slice a0 n0 c0, .slice a1 n1 c1, .slice a2 n2 c2], .agg #[.int .i64 i.br, .int .u64 (i.life : Int), .int .u64 (i.ser : Int)]] w fun e w' => e = .returned (.bool (PM.hasE l i)) ∧ Below w.heap.size w w' := by
  have hal : ∀ o p, Below w.heap.size w ((w.alloc o).alloc p) := fun o p => ((Below.refl _ _).alloc (Nat.le_refl _) o).alloc (by simp) p
  have hcf := fun o p => amongE_any _ i l ((w.alloc o).alloc p) (PM.RR.keep PM.enR_lasts (hal o p) hv)
  replace hal := PM.hid hal
  clear hv
  obtain ⟨ib, il, ir⟩ := i
  simp only at hcf
  go_enter Try.func23, Try.ntmps23
  go_wp2_with fail
  refine (hcf _ _).mono ?_
  rintro e w2 ⟨rfl, hB⟩
  have hB2 := PM.hid (PM.chain (hal.out _ _) hB)
  clear hB hcf
  go_wp2_with fail
  go_ret
  exact ⟨rfl, hB2.out⟩
end Go.Proofs.Ytjninckmgkaliaa
