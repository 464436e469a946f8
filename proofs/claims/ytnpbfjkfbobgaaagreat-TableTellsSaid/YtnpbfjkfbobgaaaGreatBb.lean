/-
  THE CLOSURES OF package table; IndexFunc, kept of subscriptions; slices.Contains of ints.
-/
import Derived.Test.YtnpbfjkfbobgaaaGreatBa
namespace Go.Proofs.YtnpbfjkfbobgaaaGreat
open Go.RowKit
set_option linter.unusedVariables false
set_option linter.unusedSimpArgs false
namespace PM
/-- is a subscription of this client and this number? -/
def sameB (c : Int) (s : Nat) (cl : Int) (sb : Nat) : Bool := decide (cl = c) && decide (sb = s)
/-- does it come behind? -/
def behB (c : Int) (s : Nat) (cl : Int) (sb : Nat) : Bool := decide (c < cl) || (decide (cl = c) && decide (s < sb))
/-- a closure that tells something of subscriptions, and only makes memory -/
def TellsS (P : Program) (K : Nat) (bf : Nat) (p : Int → Nat → Bool) (W0 : World) : Prop := ∀ (cl : Int) (sb : Nat) (fa : Option Addr) (F fc : Nat) (W : World), Below W0.heap.size W0 W →
  Calls P K #[.agg #[.int .i64 cl, .int .u64 (sb : Int), .slice fa F fc], .pointer (some ⟨bf, 0, none⟩)] W fun e w' => e = .returned (.bool (p cl sb)) ∧ Below W.heap.size W w'
def pS (p : Int → Nat → Bool) (x : Sb) : Bool := p x.cl x.sub
/-- a function value with one captured variable -/
def clo (K bf : Nat) : Value := .func (.func K) #[] #[.pointer (some ⟨bf, 0, none⟩)]
theorem decide_eqb (a b : Int) : (a == b) = decide (a = b) := by
  by_cases h : a = b <;> simp [h]
end PM
set_option maxRecDepth 100000 in
set_option maxHeartbeats 2000000 in
theorem sameS_any (cl : Int) (sb : Nat) (fa : Option Addr) (F fc : Nat) (gx : Nat) (kd ib : Int) (il is : Nat) (ec : Int) (es : Nat) (e6 e7 : Value) (w : World) (hx : PM.BK w gx #[.int .i64 kd, .int .i64 ib, .int .u64 (il : Int), .int .u64 (is : Int), .int .i64 ec, .int .u64 (es : Int), e6, e7] 31) :
    Calls Tryz.prog 24 #[.agg #[.int .i64 cl, .int .u64 (sb : Int), .slice fa F fc], .pointer (some ⟨gx, 0, none⟩)] w fun e w' => e = .returned (.bool (PM.sameB ec es cl sb)) ∧ Below w.heap.size w w' := by
  obtain ⟨gz, hgz⟩ : ∃ g, g = w.heap.size := ⟨_, rfl⟩
  obtain ⟨w1, hw1⟩ : ∃ W, W = w.alloc (.cells #[.int .i64 cl, .int .u64 (sb : Int), .slice fa F fc] 57) := ⟨_, rfl⟩
  have hal : Below w.heap.size w w1 := by rw [hw1]; exact (Below.refl _ _).alloc (Nat.le_refl _) _
  have kz : PM.BK w1 gz #[.int .i64 cl, .int .u64 (sb : Int), .slice fa F fc] 57 := by rw [hw1, hgz]; exact PM.BK.new _ _ _
  replace hx := hx.keep hal
  have z0 : w1.cell? ⟨gz, 0, none⟩ = some (.int .i64 cl) := kz.cell 0
  have z1 : w1.cell? ⟨gz, 1, none⟩ = some (.int .u64 (sb : Int)) := kz.cell 1
  have z2 : w1.cell? ⟨gz, 2, none⟩ = some (.slice fa F fc) := kz.cell 2
  have x0 : w1.cell? ⟨gx, 0, none⟩ = some (.int .i64 kd) := hx.cell 0
  have x1 : w1.cell? ⟨gx, 1, none⟩ = some (.int .i64 ib) := hx.cell 1
  have x2 : w1.cell? ⟨gx, 2, none⟩ = some (.int .u64 (il : Int)) := hx.cell 2
  have x3 : w1.cell? ⟨gx, 3, none⟩ = some (.int .u64 (is : Int)) := hx.cell 3
  have x4 : w1.cell? ⟨gx, 4, none⟩ = some (.int .i64 ec) := hx.cell 4
  have x5 : w1.cell? ⟨gx, 5, none⟩ = some (.int .u64 (es : Int)) := hx.cell 5
  have x6 : w1.cell? ⟨gx, 6, none⟩ = some (e6) := hx.cell 6
  have x7 : w1.cell? ⟨gx, 7, none⟩ = some (e7) := hx.cell 7
  clear hx kz
  have hBB := PM.hid hal
  clear hal
  go_enter Tryz.func24, Tryz.ntmps24
  go_upto_region 1 with fail
  rw [← hw1, ← hgz]
  clear hw1 hgz
  by_cases h1 : cl = ec
  · have q1 : ((cl : Int) == ec) = true := by simp [h1]
    by_cases h2 : sb = es
    · have q2 : ((sb : Int) == (es : Int)) = true := by simp [h2]
      have hf : Hid (PM.sameB ec es cl sb = true) := PM.hid (by simp [PM.sameB, h1, h2])
      clear h1 h2
      go_wp2_with fail
      go_ret
      exact ⟨by rw [hf.out]; rfl, hBB.out⟩
    · have q2 : ((sb : Int) == (es : Int)) = false := by simp; omega
      have hf : Hid (PM.sameB ec es cl sb = false) := PM.hid (by simp [PM.sameB, h2])
      clear h1 h2
      go_wp2_with fail
      go_ret
      exact ⟨by rw [hf.out]; rfl, hBB.out⟩
  · have q1 : ((cl : Int) == ec) = false := by simp [h1]
    have hf : Hid (PM.sameB ec es cl sb = false) := PM.hid (by simp [PM.sameB, h1])
    clear h1
    go_wp2_with fail
    go_ret
    exact ⟨by rw [hf.out]; rfl, hBB.out⟩
set_option maxRecDepth 100000 in
set_option maxHeartbeats 2000000 in
theorem behS_any (cl : Int) (sb : Nat) (fa : Option Addr) (F fc : Nat) (gx : Nat) (c : Int) (s : Nat) (v : Value) (w : World) (hx : PM.BK w gx #[.int .i64 c, .int .u64 (s : Int), v] 57) :
    Calls Tryz.prog 43 #[.agg #[.int .i64 cl, .int .u64 (sb : Int), .slice fa F fc], .pointer (some ⟨gx, 0, none⟩)] w fun e w' => e = .returned (.bool (PM.behB c s cl sb)) ∧ Below w.heap.size w w' := by
  obtain ⟨gz, hgz⟩ : ∃ g, g = w.heap.size := ⟨_, rfl⟩
  obtain ⟨w1, hw1⟩ : ∃ W, W = w.alloc (.cells #[.int .i64 cl, .int .u64 (sb : Int), .slice fa F fc] 57) := ⟨_, rfl⟩
  have hal : Below w.heap.size w w1 := by rw [hw1]; exact (Below.refl _ _).alloc (Nat.le_refl _) _
  have kz : PM.BK w1 gz #[.int .i64 cl, .int .u64 (sb : Int), .slice fa F fc] 57 := by rw [hw1, hgz]; exact PM.BK.new _ _ _
  replace hx := hx.keep hal
  have z0 : w1.cell? ⟨gz, 0, none⟩ = some (.int .i64 cl) := kz.cell 0
  have z1 : w1.cell? ⟨gz, 1, none⟩ = some (.int .u64 (sb : Int)) := kz.cell 1
  have z2 : w1.cell? ⟨gz, 2, none⟩ = some (.slice fa F fc) := kz.cell 2
  have x0 : w1.cell? ⟨gx, 0, none⟩ = some (.int .i64 c) := hx.cell 0
  have x1 : w1.cell? ⟨gx, 1, none⟩ = some (.int .u64 (s : Int)) := hx.cell 1
  have x2 : w1.cell? ⟨gx, 2, none⟩ = some (v) := hx.cell 2
  clear hx kz
  have hBB := PM.hid hal
  clear hal
  go_enter Tryz.func43, Tryz.ntmps43
  go_upto_region 1 with fail
  rw [← hw1, ← hgz]
  clear hw1 hgz
  by_cases h0 : c < cl
  · have q0 : decide (c < cl) = true := by simp [h0]
    have hf : Hid (PM.behB c s cl sb = true) := PM.hid (by simp [PM.behB, h0])
    go_wp2_with fail
    go_ret
    exact ⟨by rw [hf.out]; rfl, hBB.out⟩
  have q0 : decide (c < cl) = false := by simpa using h0
  by_cases h1 : cl = c
  · have q1 : ((cl : Int) == c) = true := by simp [h1]
    by_cases h2 : s < sb
    · have q2 : decide ((s : Int) < (sb : Int)) = true := by simp; omega
      have q3 : (s : Int) < (sb : Int) := by omega
      have hf : Hid (PM.behB c s cl sb = true) := PM.hid (by simp [PM.behB, h1, h2])
      subst h1
      clear h2 h0
      go_wp2_with fail
      go_ret
      exact ⟨by rw [hf.out]; rfl, hBB.out⟩
    · have q2 : decide ((s : Int) < (sb : Int)) = false := by simp; omega
      have q3 : ¬ (s : Int) < (sb : Int) := by omega
      have hf : Hid (PM.behB c s cl sb = false) := PM.hid (by simp [PM.behB, h1, h2])
      subst h1
      clear h2 h0
      go_wp2_with fail
      go_ret
      exact ⟨by rw [hf.out]; rfl, hBB.out⟩
  · have q1 : ((cl : Int) == c) = false := by simp [h1]
    have hf : Hid (PM.behB c s cl sb = false) := PM.hid (by simp [PM.behB, h0, h1])
    clear h0
    go_wp2_with fail
    go_ret
    exact ⟨by rw [hf.out]; rfl, hBB.out⟩
set_option maxRecDepth 100000 in
set_option maxHeartbeats 2000000 in
theorem nsameS_any (cl : Int) (sb : Nat) (fa : Option Addr) (F fc : Nat) (gf gx : Nat) (kd ib : Int) (il is : Nat) (ec : Int) (es : Nat) (e6 e7 : Value) (w : World) (hk : PM.BK w gf #[PM.clo 24 gx] 61) (hx : PM.BK w gx #[.int .i64 kd, .int .i64 ib, .int .u64 (il : Int), .int .u64 (is : Int), .int .i64 ec, .int .u64 (es : Int), e6, e7] 31) :
    Calls Tryz.prog 30 #[.agg #[.int .i64 cl, .int .u64 (sb : Int), .slice fa F fc], .pointer (some ⟨gf, 0, none⟩)] w fun e w' => e = .returned (.bool (!PM.sameB ec es cl sb)) ∧ Below w.heap.size w w' := by
  obtain ⟨gz, hgz⟩ : ∃ g, g = w.heap.size := ⟨_, rfl⟩
  obtain ⟨w1, hw1⟩ : ∃ W, W = w.alloc (.cells #[.int .i64 cl, .int .u64 (sb : Int), .slice fa F fc] 57) := ⟨_, rfl⟩
  have hal : Below w.heap.size w w1 := by rw [hw1]; exact (Below.refl _ _).alloc (Nat.le_refl _) _
  have kz : PM.BK w1 gz #[.int .i64 cl, .int .u64 (sb : Int), .slice fa F fc] 57 := by rw [hw1, hgz]; exact PM.BK.new _ _ _
  replace hk := hk.keep hal
  replace hx := hx.keep hal
  have z0 : w1.cell? ⟨gz, 0, none⟩ = some (.int .i64 cl) := kz.cell 0
  have z1 : w1.cell? ⟨gz, 1, none⟩ = some (.int .u64 (sb : Int)) := kz.cell 1
  have z2 : w1.cell? ⟨gz, 2, none⟩ = some (.slice fa F fc) := kz.cell 2
  have k0 : w1.cell? ⟨gf, 0, none⟩ = some (.func (.func 24) #[] #[.pointer (some ⟨gx, 0, none⟩)]) := hk.cell 0
  have hcc := sameS_any cl sb fa F fc gx kd ib il is ec es e6 e7 w1 hx
  clear hx hk kz
  have hBB := PM.hid hal
  clear hal
  go_enter Tryz.func30, Tryz.ntmps30
  go_upto_region 1 with fail
  rw [← hw1, ← hgz]
  clear hw1 hgz
  obtain ⟨c, hc⟩ : ∃ c, c = PM.sameB ec es cl sb := ⟨_, rfl⟩
  rw [← hc] at hcc
  have hch := PM.hid hc
  clear hc
  go_wp2_with fail
  refine hcc.mono ?_
  rintro e w2 ⟨rfl, hb⟩
  have hB2 := PM.hid (PM.chain hBB.out hb)
  clear hb hcc z0 z1 z2 k0
  go_wp2_with fail
  go_ret
  exact ⟨by rw [← hch.out]; cases c <;> rfl, hB2.out⟩
set_option maxHeartbeats 2000000 in
theorem idxInt_any (v : Value) (x : Int) (l : List Int) (w : World) (hv : PM.ES PM.iv w v l) :
    Calls Tryz.prog 66 #[v, .int .i64 x] w fun e w' => ∃ i, e = .returned (.int .i64 i) ∧ PM.At1 (fun y => decide (x = y)) l i ∧ Below w.heap.size w w' := by
  have hmax := hv.bound
  obtain ⟨ad, cap, rfl⟩ := hv.len
  unfold maxLen at hmax
  obtain ⟨L, hL⟩ : ∃ L, L = l.length := ⟨_, rfl⟩
  have hLh := PM.hid hL
  rw [← hL] at hv hmax ⊢
  have hvh := PM.hid hv
  clear hL hv
  go_enter Tryz.func66, Tryz.ntmps66
  go_wp2
  go_loopw [5, 8] (fun _ i wr => ∃ k : Nat, i = .int .i64 k ∧ k ≤ L ∧ (∀ j y, j < k → l[j]? = some y → decide (x = y) = false) ∧ Below w.heap.size w wr) (fun _ i _ => L - (intOf i).toNat)
  case atStart => exact ⟨0, rfl, by omega, fun j y hj => absurd hj (by omega), Below.refl _ _⟩
  case round =>
    obtain ⟨k, rfl, hk, hall, hB⟩ := hrel
    have hS := PM.hid (And.intro hall hB)
    clear hall
    by_cases hlt : k < L
    · obtain ⟨z, hz⟩ : ∃ z, l[k]? = some z := ⟨l[k]'(by rw [← hLh.out]; exact hlt), List.getElem?_eq_getElem _⟩
      obtain ⟨b, off, cap', he, -, -, hce⟩ := PM.ES.open1 hvh.out (by rw [← hLh.out]; omega)
      injection he with he1 he2 he3
      subst he1
      have d0 : wr.cell? ⟨b, off + k, none⟩ = some (.int .i64 z) := PM.cellA hB (hce k z hz)
      have hzh := PM.hid hz
      clear hz hB hce he2 he3
      by_cases heq : x = z
      · have q : (x == z) = true := by simp [heq]
        have heqh := PM.hid heq
        clear heq
        go_wp2_with fail
        go_ret
        exact ⟨_, rfl, .inr ⟨k, z, rfl, hzh.out, by simp [heqh.out], hS.out.1⟩, hS.out.2⟩
      · have q : (x == z) = false := by simp [heq]
        have heqh := PM.hid heq
        clear heq
        go_wp2_with fail
        refine ⟨⟨k + 1, by go_num, by omega, fun j y hj hy => ?_, hS.out.2⟩, by simp only [intOf]; omega⟩
        by_cases hjk : j < k
        · exact hS.out.1 j y hjk hy
        · obtain rfl : j = k := by omega
          rw [hzh.out] at hy
          cases hy
          simpa using heqh.out
    · obtain rfl : k = L := by omega
      clear hB
      go_wp2_with fail
      go_ret
      refine ⟨_, rfl, .inl ⟨rfl, fun j z hj => ?_⟩, hS.out.2⟩
      exact hS.out.1 j z (by rw [hLh.out]; exact (List.getElem?_eq_some_iff.1 hj).1) hj
theorem contInt_any (v : Value) (x : Int) (l : List Int) (w : World) (hv : PM.ES PM.iv w v l) :
    Calls Tryz.prog 50 #[v, .int .i64 x] w fun e w' => e = .returned (.bool (l.any fun y => decide (x = y))) ∧ Below w.heap.size w w' := by
  have h := idxInt_any v x l w hv
  clear hv
  go_enter Tryz.func50, Tryz.ntmps50
  go_wp2_with fail
  refine h.mono ?_
  rintro e w2 ⟨n, rfl, hi, hB⟩
  have hh := PM.hid (And.intro hi hB)
  clear h hi hB
  go_wp2_with fail
  go_ret
  exact ⟨by rw [← hh.out.1.any]; rfl, hh.out.2⟩
set_option maxRecDepth 100000 in
set_option maxHeartbeats 2000000 in
theorem inS_any (cl : Int) (sb : Nat) (fa : Option Addr) (F fc : Nat) (gc : Nat) (ca : Option Addr) (cn cc : Nat) (l : List Int) (w : World) (hk : PM.BK w gc #[.slice ca cn cc] 23) (hv : PM.ES PM.iv w (.slice ca cn cc) l) :
    Calls Tryz.prog 49 #[.agg #[.int .i64 cl, .int .u64 (sb : Int), .slice fa F fc], .pointer (some ⟨gc, 0, none⟩)] w fun e w' => e = .returned (.bool (l.any fun y => decide (cl = y))) ∧ Below w.heap.size w w' := by
  obtain ⟨gz, hgz⟩ : ∃ g, g = w.heap.size := ⟨_, rfl⟩
  obtain ⟨w1, hw1⟩ : ∃ W, W = w.alloc (.cells #[.int .i64 cl, .int .u64 (sb : Int), .slice fa F fc] 57) := ⟨_, rfl⟩
  have hal : Below w.heap.size w w1 := by rw [hw1]; exact (Below.refl _ _).alloc (Nat.le_refl _) _
  have kz : PM.BK w1 gz #[.int .i64 cl, .int .u64 (sb : Int), .slice fa F fc] 57 := by rw [hw1, hgz]; exact PM.BK.new _ _ _
  replace hk := hk.keep hal
  replace hv := hv.keep hal
  have z0 : w1.cell? ⟨gz, 0, none⟩ = some (.int .i64 cl) := kz.cell 0
  have z1 : w1.cell? ⟨gz, 1, none⟩ = some (.int .u64 (sb : Int)) := kz.cell 1
  have z2 : w1.cell? ⟨gz, 2, none⟩ = some (.slice fa F fc) := kz.cell 2
  have k0 : w1.cell? ⟨gc, 0, none⟩ = some (.slice ca cn cc) := hk.cell 0
  have hcc := contInt_any (.slice ca cn cc) cl l w1 hv
  clear hv hk kz
  have hBB := PM.hid hal
  clear hal
  go_enter Tryz.func49, Tryz.ntmps49
  go_upto_region 1 with fail
  rw [← hw1, ← hgz]
  clear hw1 hgz
  go_wp2_with fail
  refine hcc.mono ?_
  rintro e w2 ⟨rfl, hb⟩
  have hB2 := PM.hid (PM.chain hBB.out hb)
  clear hb hcc z0 z1 z2 k0
  go_wp2_with fail
  go_ret
  exact ⟨rfl, hB2.out⟩
theorem sameS_tells (gx : Nat) (kd ib : Int) (il is : Nat) (ec : Int) (es : Nat) (e6 e7 : Value) (w : World) (hx : PM.BK w gx #[.int .i64 kd, .int .i64 ib, .int .u64 (il : Int), .int .u64 (is : Int), .int .i64 ec, .int .u64 (es : Int), e6, e7] 31) : PM.TellsS Tryz.prog 24 gx (PM.sameB ec es) w :=
  fun cl sb fa F fc W hb => sameS_any cl sb fa F fc gx kd ib il is ec es e6 e7 W (hx.keep hb)
theorem behS_tells (gx : Nat) (c : Int) (s : Nat) (v : Value) (w : World) (hx : PM.BK w gx #[.int .i64 c, .int .u64 (s : Int), v] 57) : PM.TellsS Tryz.prog 43 gx (PM.behB c s) w :=
  fun cl sb fa F fc W hb => behS_any cl sb fa F fc gx c s v W (hx.keep hb)
theorem nsameS_tells (gf gx : Nat) (kd ib : Int) (il is : Nat) (ec : Int) (es : Nat) (e6 e7 : Value) (w : World) (hk : PM.BK w gf #[PM.clo 24 gx] 61) (hx : PM.BK w gx #[.int .i64 kd, .int .i64 ib, .int .u64 (il : Int), .int .u64 (is : Int), .int .i64 ec, .int .u64 (es : Int), e6, e7] 31) : PM.TellsS Tryz.prog 30 gf (fun cl sb => !PM.sameB ec es cl sb) w :=
  fun cl sb fa F fc W hb => nsameS_any cl sb fa F fc gf gx kd ib il is ec es e6 e7 W (hk.keep hb) (hx.keep hb)
theorem inS_tells (gc : Nat) (ca : Option Addr) (cn cc : Nat) (l : List Int) (w : World) (hk : PM.BK w gc #[.slice ca cn cc] 23) (hv : PM.ES PM.iv w (.slice ca cn cc) l) : PM.TellsS Tryz.prog 49 gc (fun cl _ => l.any fun y => decide (cl = y)) w :=
  fun cl sb fa F fc W hb => inS_any cl sb fa F fc gc ca cn cc l W (hk.keep hb) (hv.keep hb)
set_option maxHeartbeats 2000000 in
theorem idxS_same (p : Int → Nat → Bool) (v : Value) (bf : Nat) (l : List PM.Sb) (w : World) (hv : PM.SbL w v l) (hc : PM.TellsS Tryz.prog 24 bf p w) :
    Calls Tryz.prog 42 #[v, .func (.func 24) #[] #[.pointer (some ⟨bf, 0, none⟩)]] w fun e w' => ∃ i, e = .returned (.int .i64 i) ∧ PM.At1 (PM.pS p) l i ∧ Below w.heap.size w w' := by
  have hmax := hv.bound
  obtain ⟨ad, cap, rfl⟩ := hv.len
  unfold maxLen at hmax
  obtain ⟨L, hL⟩ : ∃ L, L = l.length := ⟨_, rfl⟩
  have hLh := PM.hid hL
  rw [← hL] at hv hmax ⊢
  have hvh := PM.hid hv
  have hch := PM.hid hc
  clear hL hv hc
  go_enter Tryz.func42, Tryz.ntmps42
  go_wp2
  go_loopw [5, 8] (fun _ i wr => ∃ k : Nat, i = .int .i64 k ∧ k ≤ L ∧ (∀ j y, j < k → l[j]? = some y → PM.pS p y = false) ∧ Below w.heap.size w wr) (fun _ i _ => L - (intOf i).toNat)
  case atStart => exact ⟨0, rfl, by omega, fun j y hj => absurd hj (by omega), Below.refl _ _⟩
  case round =>
    obtain ⟨k, rfl, hk, hall, hB⟩ := hrel
    have hS := PM.hid (And.intro hall hB)
    clear hall
    by_cases hlt : k < L
    · obtain ⟨z, hz⟩ : ∃ z, l[k]? = some z := ⟨l[k]'(by rw [← hLh.out]; exact hlt), List.getElem?_eq_getElem _⟩
      obtain ⟨b, off, hbe, hce⟩ := PM.RR.opn hvh.out (by rw [← hLh.out]; omega)
      subst hbe
      obtain ⟨cs, hl0, hR⟩ := hce k z hz
      obtain ⟨fa, fc, hcs, hzf⟩ := PM.sbR_open hR
      rw [hcs] at hl0 hR
      obtain ⟨zF, hzF⟩ : ∃ P, P = z.fil.length := ⟨_, rfl⟩
      rw [← hzF] at hl0 hR
      replace hl0 := hl0.keep hB
      have d0 : wr.cell? ⟨b, off + k * 3, none⟩ = some (.int .i64 z.cl) := hl0 0 _ rfl
      have d1 : wr.cell? ⟨b, off + k * 3 + 1, none⟩ = some (.int .u64 (z.sub : Int)) := hl0 1 _ rfl
      have d2 : wr.cell? ⟨b, off + k * 3 + 2, none⟩ = some (.slice fa zF fc) := hl0 2 _ rfl
      have hzh := PM.hid hz
      have zR := PM.hid hR
      clear hz hce hl0 hR hcs cs hzf hzF
      have hcc := hch.out z.cl z.sub fa zF fc wr hB
      clear hB
      cases heq : p z.cl z.sub
      · rw [heq] at hcc
        have heqh := PM.hid (show PM.pS p z = false from heq)
        clear heq
        go_wp2_with fail
        refine hcc.mono ?_
        rintro e w2 ⟨rfl, hB2⟩
        clear hcc
        go_wp2_with fail
        refine ⟨⟨k + 1, by go_num, by omega, fun j y hj hy => ?_, PM.chain hS.out.2 hB2⟩, by simp only [intOf]; omega⟩
        by_cases hjk : j < k
        · exact hS.out.1 j y hjk hy
        · obtain rfl : j = k := by omega
          rw [hzh.out] at hy
          cases hy
          exact heqh.out
      · rw [heq] at hcc
        have heqh := PM.hid (show PM.pS p z = true from heq)
        clear heq
        go_wp2_with fail
        refine hcc.mono ?_
        rintro e w2 ⟨rfl, hB2⟩
        clear hcc
        go_wp2_with fail
        go_ret
        exact ⟨_, rfl, .inr ⟨k, z, rfl, hzh.out, heqh.out, hS.out.1⟩, PM.chain hS.out.2 hB2⟩
    · obtain rfl : k = L := by omega
      clear hB
      go_wp2_with fail
      go_ret
      refine ⟨_, rfl, .inl ⟨rfl, fun j z hj => ?_⟩, hS.out.2⟩
      exact hS.out.1 j z (by rw [hLh.out]; exact (List.getElem?_eq_some_iff.1 hj).1) hj
set_option maxHeartbeats 2000000 in
theorem idxS_beh (p : Int → Nat → Bool) (v : Value) (bf : Nat) (l : List PM.Sb) (w : World) (hv : PM.SbL w v l) (hc : PM.TellsS Tryz.prog 43 bf p w) :
    Calls Tryz.prog 42 #[v, .func (.func 43) #[] #[.pointer (some ⟨bf, 0, none⟩)]] w fun e w' => ∃ i, e = .returned (.int .i64 i) ∧ PM.At1 (PM.pS p) l i ∧ Below w.heap.size w w' := by
  have hmax := hv.bound
  obtain ⟨ad, cap, rfl⟩ := hv.len
  unfold maxLen at hmax
  obtain ⟨L, hL⟩ : ∃ L, L = l.length := ⟨_, rfl⟩
  have hLh := PM.hid hL
  rw [← hL] at hv hmax ⊢
  have hvh := PM.hid hv
  have hch := PM.hid hc
  clear hL hv hc
  go_enter Tryz.func42, Tryz.ntmps42
  go_wp2
  go_loopw [5, 8] (fun _ i wr => ∃ k : Nat, i = .int .i64 k ∧ k ≤ L ∧ (∀ j y, j < k → l[j]? = some y → PM.pS p y = false) ∧ Below w.heap.size w wr) (fun _ i _ => L - (intOf i).toNat)
  case atStart => exact ⟨0, rfl, by omega, fun j y hj => absurd hj (by omega), Below.refl _ _⟩
  case round =>
    obtain ⟨k, rfl, hk, hall, hB⟩ := hrel
    have hS := PM.hid (And.intro hall hB)
    clear hall
    by_cases hlt : k < L
    · obtain ⟨z, hz⟩ : ∃ z, l[k]? = some z := ⟨l[k]'(by rw [← hLh.out]; exact hlt), List.getElem?_eq_getElem _⟩
      obtain ⟨b, off, hbe, hce⟩ := PM.RR.opn hvh.out (by rw [← hLh.out]; omega)
      subst hbe
      obtain ⟨cs, hl0, hR⟩ := hce k z hz
      obtain ⟨fa, fc, hcs, hzf⟩ := PM.sbR_open hR
      rw [hcs] at hl0 hR
      obtain ⟨zF, hzF⟩ : ∃ P, P = z.fil.length := ⟨_, rfl⟩
      rw [← hzF] at hl0 hR
      replace hl0 := hl0.keep hB
      have d0 : wr.cell? ⟨b, off + k * 3, none⟩ = some (.int .i64 z.cl) := hl0 0 _ rfl
      have d1 : wr.cell? ⟨b, off + k * 3 + 1, none⟩ = some (.int .u64 (z.sub : Int)) := hl0 1 _ rfl
      have d2 : wr.cell? ⟨b, off + k * 3 + 2, none⟩ = some (.slice fa zF fc) := hl0 2 _ rfl
      have hzh := PM.hid hz
      have zR := PM.hid hR
      clear hz hce hl0 hR hcs cs hzf hzF
      have hcc := hch.out z.cl z.sub fa zF fc wr hB
      clear hB
      cases heq : p z.cl z.sub
      · rw [heq] at hcc
        have heqh := PM.hid (show PM.pS p z = false from heq)
        clear heq
        go_wp2_with fail
        refine hcc.mono ?_
        rintro e w2 ⟨rfl, hB2⟩
        clear hcc
        go_wp2_with fail
        refine ⟨⟨k + 1, by go_num, by omega, fun j y hj hy => ?_, PM.chain hS.out.2 hB2⟩, by simp only [intOf]; omega⟩
        by_cases hjk : j < k
        · exact hS.out.1 j y hjk hy
        · obtain rfl : j = k := by omega
          rw [hzh.out] at hy
          cases hy
          exact heqh.out
      · rw [heq] at hcc
        have heqh := PM.hid (show PM.pS p z = true from heq)
        clear heq
        go_wp2_with fail
        refine hcc.mono ?_
        rintro e w2 ⟨rfl, hB2⟩
        clear hcc
        go_wp2_with fail
        go_ret
        exact ⟨_, rfl, .inr ⟨k, z, rfl, hzh.out, heqh.out, hS.out.1⟩, PM.chain hS.out.2 hB2⟩
    · obtain rfl : k = L := by omega
      clear hB
      go_wp2_with fail
      go_ret
      refine ⟨_, rfl, .inl ⟨rfl, fun j z hj => ?_⟩, hS.out.2⟩
      exact hS.out.1 j z (by rw [hLh.out]; exact (List.getElem?_eq_some_iff.1 hj).1) hj
set_option maxRecDepth 100000 in
set_option maxHeartbeats 4000000 in
theorem keptS_nsame (p : Int → Nat → Bool) (v : Value) (bf : Nat) (l : List PM.Sb) (w : World) (hv : PM.SbL w v l) (hl : l.length ≤ 1000) (hc : PM.TellsS Tryz.prog 30 bf p w) :
    Calls Tryz.prog 29 #[v, .func (.func 30) #[] #[.pointer (some ⟨bf, 0, none⟩)]] w fun e w' => ∃ u, e = .returned u ∧ PM.OR (PM.sbE w) 3 57 w.heap.size w' u (l.filter (PM.pS p)) ∧ Below w.heap.size w w' := by
  obtain ⟨ad, cap, rfl⟩ := hv.len
  obtain ⟨L, hL⟩ : ∃ L, L = l.length := ⟨_, rfl⟩
  have hLh := PM.hid hL
  rw [← hL] at hv hl ⊢
  have hvh := PM.hid hv
  have hch := PM.hid hc
  clear hL hv hc
  go_enter Tryz.func29, Tryz.ntmps29
  go_wp2_with fail
  go_loopw [5, 7, 10] (fun s _ i wr => ∃ k : Nat, i = .int .i64 k ∧ k ≤ L ∧ Hid (PM.OR (PM.sbE w) 3 57 w.heap.size wr s ((l.take k).filter (PM.pS p)) ∧ Below w.heap.size w wr)) (fun _ _ i _ => L - (intOf i).toNat)
  case atStart => exact ⟨0, rfl, by omega, PM.hid ⟨PM.OR.nilrow _, Below.refl _ _⟩⟩
  case round =>
    obtain ⟨k, rfl, hk, hin⟩ := hrel
    obtain ⟨hO, hB⟩ := hin.out
    have hBB := PM.hid hB
    clear hin
    have hfl : ((l.take k).filter (PM.pS p)).length ≤ k := Nat.le_trans (List.length_filter_le _ _) (by rw [List.length_take]; omega)
    obtain ⟨out, hout⟩ : ∃ x, x = (l.take k).filter (PM.pS p) := ⟨_, rfl⟩
    rw [← hout] at hO hfl
    have houth := PM.hid hout
    clear hout
    obtain ⟨ra, rc, hre⟩ := hO.rr.len
    subst hre
    obtain ⟨P, hP⟩ : ∃ P, P = out.length := ⟨_, rfl⟩
    rw [← hP] at hO hfl ⊢
    have hPh := PM.hid hP
    clear hP
    by_cases hlt : k < L
    · obtain ⟨z, hz⟩ : ∃ z, l[k]? = some z := ⟨l[k]'(by rw [← hLh.out]; exact hlt), List.getElem?_eq_getElem _⟩
      obtain ⟨b, off, hbe, hce⟩ := PM.RR.opn hvh.out (by rw [← hLh.out]; omega)
      subst hbe
      obtain ⟨cs, hl0, hR⟩ := hce k z hz
      obtain ⟨fa, fc, hcs, hzf⟩ := PM.sbR_open hR
      rw [hcs] at hl0 hR
      obtain ⟨zF, hzF⟩ : ∃ P, P = z.fil.length := ⟨_, rfl⟩
      rw [← hzF] at hl0 hR
      replace hl0 := hl0.keep hB
      have d0 : wr.cell? ⟨b, off + k * 3, none⟩ = some (.int .i64 z.cl) := hl0 0 _ rfl
      have d1 : wr.cell? ⟨b, off + k * 3 + 1, none⟩ = some (.int .u64 (z.sub : Int)) := hl0 1 _ rfl
      have d2 : wr.cell? ⟨b, off + k * 3 + 2, none⟩ = some (.slice fa zF fc) := hl0 2 _ rfl
      have hzh := PM.hid hz
      have zR := PM.hid hR
      clear hz hce hl0 hR hcs cs hzf hzF
      clear hB
      go_upto_region 5 with fail
      obtain ⟨gx, hgx⟩ : ∃ g, g = wr.heap.size := ⟨_, rfl⟩
      obtain ⟨w3, hw3⟩ : ∃ W, W = wr.alloc (.cells #[.int .i64 z.cl, .int .u64 (z.sub : Int), .slice fa zF fc] 57) := ⟨_, rfl⟩
      have hBn : Below wr.heap.size wr w3 := by rw [hw3]; exact (Below.refl _ _).alloc (Nat.le_refl _) _
      have kx : PM.BK w3 gx #[.int .i64 z.cl, .int .u64 (z.sub : Int), .slice fa zF fc] 57 := by rw [hw3, hgx]; exact PM.BK.new _ _ _
      rw [← hw3, ← hgx]
      clear hw3 hgx
      clear d0 d1 d2
      replace hO := PM.OR.keep (PM.sbE_lasts w) hBn hO
      replace hBB := PM.hid (PM.chain hBB.out hBn)
      clear hBn
      have hcc := hch.out z.cl z.sub fa zF fc w3 hBB.out
      have x0 : w3.cell? ⟨gx, 0, none⟩ = some (.int .i64 z.cl) := kx.cell 0
      have x1 : w3.cell? ⟨gx, 1, none⟩ = some (.int .u64 (z.sub : Int)) := kx.cell 1
      have x2 : w3.cell? ⟨gx, 2, none⟩ = some (.slice fa zF fc) := kx.cell 2
      cases heq : p z.cl z.sub
      · rw [heq] at hcc
        have hsk : Hid ((l.take (k + 1)).filter (PM.pS p) = out) := PM.hid (by rw [PM.take_at hzh.out, List.filter_append, ← houth.out, List.filter_cons_of_neg (by show ¬ p z.cl z.sub = true; rw [heq]; decide), List.filter_nil, List.append_nil])
        clear heq kx
        go_wp2_with fail
        refine hcc.mono ?_
        rintro e w5 ⟨rfl, hBn⟩
        clear hcc x0 x1 x2
        have hin2 := PM.hid (And.intro (PM.OR.keep (PM.sbE_lasts w) hBn hO) (PM.chain hBB.out hBn))
        clear hBn hO
        go_wp2_with fail
        exact ⟨⟨k + 1, by go_num, by omega, PM.hid (by rw [hsk.out]; exact hin2.out)⟩, by simp only [intOf]; omega⟩
      · rw [heq] at hcc
        have hsk : Hid ((l.take (k + 1)).filter (PM.pS p) = out ++ [z]) := PM.hid (by rw [PM.take_at hzh.out, List.filter_append, ← houth.out, List.filter_cons_of_pos (by show p z.cl z.sub = true; exact heq), List.filter_nil])
        clear heq
        go_wp2_with fail
        refine hcc.mono ?_
        rintro e w5 ⟨rfl, hBn⟩
        clear hcc x0 x1 x2
        replace hO := PM.OR.keep (PM.sbE_lasts w) hBn hO
        replace kx := kx.keep hBn
        replace hBB := PM.hid (PM.chain hBB.out hBn)
        clear hBn
        have x0 : w5.cell? ⟨gx, 0, none⟩ = some (.int .i64 z.cl) := kx.cell 0
        have x1 : w5.cell? ⟨gx, 1, none⟩ = some (.int .u64 (z.sub : Int)) := kx.cell 1
        have x2 : w5.cell? ⟨gx, 2, none⟩ = some (.slice fa zF fc) := kx.cell 2
        have hl16 : (out.length + 1) * 40 ≤ 140737488355328 := by rw [← hPh.out]; omega
        have hl17 : out.length + 1 ≤ maxLen := by rw [← hPh.out]; unfold maxLen; omega
        have hsz := hBB.out.size
        have hRy : PM.sbE w w5 (PM.sbCe z fa zF fc).1 z := zR.out
        rw [hPh.out] at hO
        clear kx
        go_wp2_with (at_builtin; rw [hPh.out]; go_loud (refine PM.wpList_or1 tySb (PM.sbE_stays w _) (PM.sbE_lasts w) w.heap.size w5 rfl _ _ rfl _ out z (PM.sbCe z fa zF fc) _ rfl rfl rfl rfl hRy hO hl16 hl17 hsz ?_); intro v' w' t1 t2 t3; have hE := PM.hid (And.intro t1 (hBB.out.trans t2)); clear t1 t2 t3 hsz hO hRy x0 x1 x2)
        exact ⟨⟨k + 1, by go_num, by omega, PM.hid (by rw [hsk.out]; exact hE.out)⟩, by simp only [intOf]; omega⟩
    · obtain rfl : k = L := by omega
      have hfin : Hid (out = l.filter (PM.pS p)) := PM.hid (by
        have := houth.out
        rw [hLh.out, List.take_length] at this
        exact this)
      have hOh := PM.hid hO
      clear hO hB
      go_wp2_with fail
      go_ret
      exact ⟨_, rfl, by rw [← hfin.out]; exact hOh.out, hBB.out⟩
set_option maxRecDepth 100000 in
set_option maxHeartbeats 4000000 in
theorem keptS_in (p : Int → Nat → Bool) (v : Value) (bf : Nat) (l : List PM.Sb) (w : World) (hv : PM.SbL w v l) (hl : l.length ≤ 1000) (hc : PM.TellsS Tryz.prog 49 bf p w) :
    Calls Tryz.prog 29 #[v, .func (.func 49) #[] #[.pointer (some ⟨bf, 0, none⟩)]] w fun e w' => ∃ u, e = .returned u ∧ PM.OR (PM.sbE w) 3 57 w.heap.size w' u (l.filter (PM.pS p)) ∧ Below w.heap.size w w' := by
  obtain ⟨ad, cap, rfl⟩ := hv.len
  obtain ⟨L, hL⟩ : ∃ L, L = l.length := ⟨_, rfl⟩
  have hLh := PM.hid hL
  rw [← hL] at hv hl ⊢
  have hvh := PM.hid hv
  have hch := PM.hid hc
  clear hL hv hc
  go_enter Tryz.func29, Tryz.ntmps29
  go_wp2_with fail
  go_loopw [5, 7, 10] (fun s _ i wr => ∃ k : Nat, i = .int .i64 k ∧ k ≤ L ∧ Hid (PM.OR (PM.sbE w) 3 57 w.heap.size wr s ((l.take k).filter (PM.pS p)) ∧ Below w.heap.size w wr)) (fun _ _ i _ => L - (intOf i).toNat)
  case atStart => exact ⟨0, rfl, by omega, PM.hid ⟨PM.OR.nilrow _, Below.refl _ _⟩⟩
  case round =>
    obtain ⟨k, rfl, hk, hin⟩ := hrel
    obtain ⟨hO, hB⟩ := hin.out
    have hBB := PM.hid hB
    clear hin
    have hfl : ((l.take k).filter (PM.pS p)).length ≤ k := Nat.le_trans (List.length_filter_le _ _) (by rw [List.length_take]; omega)
    obtain ⟨out, hout⟩ : ∃ x, x = (l.take k).filter (PM.pS p) := ⟨_, rfl⟩
    rw [← hout] at hO hfl
    have houth := PM.hid hout
    clear hout
    obtain ⟨ra, rc, hre⟩ := hO.rr.len
    subst hre
    obtain ⟨P, hP⟩ : ∃ P, P = out.length := ⟨_, rfl⟩
    rw [← hP] at hO hfl ⊢
    have hPh := PM.hid hP
    clear hP
    by_cases hlt : k < L
    · obtain ⟨z, hz⟩ : ∃ z, l[k]? = some z := ⟨l[k]'(by rw [← hLh.out]; exact hlt), List.getElem?_eq_getElem _⟩
      obtain ⟨b, off, hbe, hce⟩ := PM.RR.opn hvh.out (by rw [← hLh.out]; omega)
      subst hbe
      obtain ⟨cs, hl0, hR⟩ := hce k z hz
      obtain ⟨fa, fc, hcs, hzf⟩ := PM.sbR_open hR
      rw [hcs] at hl0 hR
      obtain ⟨zF, hzF⟩ : ∃ P, P = z.fil.length := ⟨_, rfl⟩
      rw [← hzF] at hl0 hR
      replace hl0 := hl0.keep hB
      have d0 : wr.cell? ⟨b, off + k * 3, none⟩ = some (.int .i64 z.cl) := hl0 0 _ rfl
      have d1 : wr.cell? ⟨b, off + k * 3 + 1, none⟩ = some (.int .u64 (z.sub : Int)) := hl0 1 _ rfl
      have d2 : wr.cell? ⟨b, off + k * 3 + 2, none⟩ = some (.slice fa zF fc) := hl0 2 _ rfl
      have hzh := PM.hid hz
      have zR := PM.hid hR
      clear hz hce hl0 hR hcs cs hzf hzF
      clear hB
      go_upto_region 5 with fail
      obtain ⟨gx, hgx⟩ : ∃ g, g = wr.heap.size := ⟨_, rfl⟩
      obtain ⟨w3, hw3⟩ : ∃ W, W = wr.alloc (.cells #[.int .i64 z.cl, .int .u64 (z.sub : Int), .slice fa zF fc] 57) := ⟨_, rfl⟩
      have hBn : Below wr.heap.size wr w3 := by rw [hw3]; exact (Below.refl _ _).alloc (Nat.le_refl _) _
      have kx : PM.BK w3 gx #[.int .i64 z.cl, .int .u64 (z.sub : Int), .slice fa zF fc] 57 := by rw [hw3, hgx]; exact PM.BK.new _ _ _
      rw [← hw3, ← hgx]
      clear hw3 hgx
      clear d0 d1 d2
      replace hO := PM.OR.keep (PM.sbE_lasts w) hBn hO
      replace hBB := PM.hid (PM.chain hBB.out hBn)
      clear hBn
      have hcc := hch.out z.cl z.sub fa zF fc w3 hBB.out
      have x0 : w3.cell? ⟨gx, 0, none⟩ = some (.int .i64 z.cl) := kx.cell 0
      have x1 : w3.cell? ⟨gx, 1, none⟩ = some (.int .u64 (z.sub : Int)) := kx.cell 1
      have x2 : w3.cell? ⟨gx, 2, none⟩ = some (.slice fa zF fc) := kx.cell 2
      cases heq : p z.cl z.sub
      · rw [heq] at hcc
        have hsk : Hid ((l.take (k + 1)).filter (PM.pS p) = out) := PM.hid (by rw [PM.take_at hzh.out, List.filter_append, ← houth.out, List.filter_cons_of_neg (by show ¬ p z.cl z.sub = true; rw [heq]; decide), List.filter_nil, List.append_nil])
        clear heq kx
        go_wp2_with fail
        refine hcc.mono ?_
        rintro e w5 ⟨rfl, hBn⟩
        clear hcc x0 x1 x2
        have hin2 := PM.hid (And.intro (PM.OR.keep (PM.sbE_lasts w) hBn hO) (PM.chain hBB.out hBn))
        clear hBn hO
        go_wp2_with fail
        exact ⟨⟨k + 1, by go_num, by omega, PM.hid (by rw [hsk.out]; exact hin2.out)⟩, by simp only [intOf]; omega⟩
      · rw [heq] at hcc
        have hsk : Hid ((l.take (k + 1)).filter (PM.pS p) = out ++ [z]) := PM.hid (by rw [PM.take_at hzh.out, List.filter_append, ← houth.out, List.filter_cons_of_pos (by show p z.cl z.sub = true; exact heq), List.filter_nil])
        clear heq
        go_wp2_with fail
        refine hcc.mono ?_
        rintro e w5 ⟨rfl, hBn⟩
        clear hcc x0 x1 x2
        replace hO := PM.OR.keep (PM.sbE_lasts w) hBn hO
        replace kx := kx.keep hBn
        replace hBB := PM.hid (PM.chain hBB.out hBn)
        clear hBn
        have x0 : w5.cell? ⟨gx, 0, none⟩ = some (.int .i64 z.cl) := kx.cell 0
        have x1 : w5.cell? ⟨gx, 1, none⟩ = some (.int .u64 (z.sub : Int)) := kx.cell 1
        have x2 : w5.cell? ⟨gx, 2, none⟩ = some (.slice fa zF fc) := kx.cell 2
        have hl16 : (out.length + 1) * 40 ≤ 140737488355328 := by rw [← hPh.out]; omega
        have hl17 : out.length + 1 ≤ maxLen := by rw [← hPh.out]; unfold maxLen; omega
        have hsz := hBB.out.size
        have hRy : PM.sbE w w5 (PM.sbCe z fa zF fc).1 z := zR.out
        rw [hPh.out] at hO
        clear kx
        go_wp2_with (at_builtin; rw [hPh.out]; go_loud (refine PM.wpList_or1 tySb (PM.sbE_stays w _) (PM.sbE_lasts w) w.heap.size w5 rfl _ _ rfl _ out z (PM.sbCe z fa zF fc) _ rfl rfl rfl rfl hRy hO hl16 hl17 hsz ?_); intro v' w' t1 t2 t3; have hE := PM.hid (And.intro t1 (hBB.out.trans t2)); clear t1 t2 t3 hsz hO hRy x0 x1 x2)
        exact ⟨⟨k + 1, by go_num, by omega, PM.hid (by rw [hsk.out]; exact hE.out)⟩, by simp only [intOf]; omega⟩
    · obtain rfl : k = L := by omega
      have hfin : Hid (out = l.filter (PM.pS p)) := PM.hid (by
        have := houth.out
        rw [hLh.out, List.take_length] at this
        exact this)
      have hOh := PM.hid hO
      clear hO hB
      go_wp2_with fail
      go_ret
      exact ⟨_, rfl, by rw [← hfin.out]; exact hOh.out, hBB.out⟩
end Go.Proofs.YtnpbfjkfbobgaaaGreat
