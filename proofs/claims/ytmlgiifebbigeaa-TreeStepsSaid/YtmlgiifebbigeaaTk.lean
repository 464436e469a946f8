/-
  CONTRACT OF tree.Kids: a range over the iterator that kids hands back.
-/
import Derived.RangeFuncBox
import Derived.RangeFuncLeaves
import Derived.Shelf.Abstract
import Derived.OwnWalkIn
import Derived.TacticsInMore
import Derived.LoopNIn
import Derived.LoopIn
import Derived.Maps.AppendAt
import Derived.RangeFuncCalls
import Derived.Deep.RegionWith
import Derived.RegionIn
import Derived.Shelf.RegionOpen
import Derived.Test.YtmlgiifebbigeaaTc
import Derived.Test.YtmlgiifebbigeaaRs
import Derived.Test.YtmlgiifebbigeaaTe
namespace Go.Proofs.Ytmlgiifebbigeaa
open Go.RowKit Go.Shelf
set_option linter.unusedVariables false
attribute [local go_sem] Oper.semAt_some
/-- the kids among the first k -/
def kupto (l : List Int) (n : Int) (k : Nat) : List Int := ((List.range k).filter fun j : Nat => decide (PM.pa l j = n)).map fun j : Nat => (j : Int)
theorem kupto_hit (l : List Int) (n : Int) (k : Nat) (h : PM.pa l k = n) : kupto l n (k + 1) = kupto l n k ++ [(k : Int)] := by
  simp [kupto, List.range_succ, List.filter_append, h]
theorem kupto_miss (l : List Int) (n : Int) (k : Nat) (h : ¬ PM.pa l k = n) : kupto l n (k + 1) = kupto l n k := by
  simp [kupto, List.range_succ, List.filter_append, h]
theorem kupto_len (l : List Int) (n : Int) (k : Nat) : (kupto l n k).length ≤ k := by
  unfold kupto
  have := List.length_filter_le (fun j : Nat => decide (PM.pa l j = n)) (List.range k)
  simp at this ⊢
  exact this
theorem kupto_pre (l : List Int) (n : Int) (k : Nat) : ∀ m, k ≤ m → kupto l n k <+: kupto l n m := by
  intro m
  induction m with
  | zero => intro h; obtain rfl : k = 0 := by omega
            exact List.prefix_refl _
  | succ m ih =>
    intro h
    by_cases h1 : k ≤ m
    · refine (ih h1).trans ?_
      by_cases h2 : PM.pa l m = n
      · rw [kupto_hit l n m h2]; exact List.prefix_append _ _
      · rw [kupto_miss l n m h2]; exact List.prefix_refl _
    · obtain rfl : k = m + 1 := by omega
      exact List.prefix_refl _
/-- what a round keeps: all that lay below n₀, and the two boxes -/
def KpB (n₀ B1 B2 : Nat) (v1 v2 : Value) (A C : World) : Prop :=
  Below n₀ A C ∧ (A.cell? ⟨B1, 0, none⟩ = some v1 → C.cell? ⟨B1, 0, none⟩ = some v1) ∧ (A.cell? ⟨B2, 0, none⟩ = some v2 → C.cell? ⟨B2, 0, none⟩ = some v2)
theorem KpB.refl (n₀ B1 B2 : Nat) (v1 v2 : Value) (A : World) : KpB n₀ B1 B2 v1 v2 A A := ⟨Below.refl _ _, id, id⟩
theorem KpB.trans {n₀ B1 B2 : Nat} {v1 v2 : Value} {A C D : World} (h : KpB n₀ B1 B2 v1 v2 A C) (k : KpB n₀ B1 B2 v1 v2 C D) : KpB n₀ B1 B2 v1 v2 A D :=
  ⟨h.1.trans k.1, fun e => k.2.1 (h.2.1 e), fun e => k.2.2 (h.2.2 e)⟩
theorem KpB.of {n₀ B1 B2 : Nat} {v1 v2 : Value} {A C : World} (h : Below A.heap.size A C) (hn : n₀ ≤ A.heap.size) : KpB n₀ B1 B2 v1 v2 A C :=
  ⟨h.mono hn, fun e => PM.cellB h e, fun e => PM.cellB h e⟩
theorem KpB.put {n₀ B1 B2 : Nat} {v1 v2 : Value} {w : World} (hn : n₀ ≤ w.heap.size) (W : World) (l : Nat) (o o' : Obj) (hl : w.heap.size ≤ l) (h : W.heap[l]? = some o) (hc : o.isCells = false) (hw : o.isWalk = false) : KpB n₀ B1 B2 v1 v2 W (W.putObj l o') := by
  have hx : ∀ (B : Nat) (v : Value), W.cell? ⟨B, 0, none⟩ = some v → (W.putObj l o').cell? ⟨B, 0, none⟩ = some v := by
    intro B v e
    have hne : B ≠ l := by
      intro he
      subst he
      simp only [World.cell?, h] at e
      cases o <;> simp [Obj.isCells] at hc e
    exact (grownBy_putObj' W l o').cell e (by simpa using hne)
  exact ⟨belowK_b hn W l o o' hl h hc hw, hx _ _, hx _ _⟩
set_option maxRecDepth 100000 in
set_option maxHeartbeats 4000000 in
theorem kids1_in (m : Nat) (hn : 1 ≤ m) (lp B1 B2 n₀ b off cap : Nat) (l : List Int) (n : Int) (W : World) (hn₀ : n₀ ≤ W.heap.size) (hb : b < n₀) (J Jx : List Int → World → Prop) (hJm : ∀ s w1 w2, J s w1 → Below w1.heap.size w1 w2 → J s w2)
    (hY : ∀ pre x W, J pre W → pre.length < (kupto l n l.length).length → YieldAt Fence.wide (m - 1) Try.prog lp #[.int .i64 x] W fun e W' =>
      (e = .returned (.bool true) ∧ J (pre ++ [x]) W' ∧ KpB n₀ B1 B2 (.slice (some ⟨b, off, none⟩) l.length cap) (.int .i64 n) W W') ∨ (e = .returned (.bool false) ∧ Jx (pre ++ [x]) W'))
    (hc1 : W.cell? ⟨B1, 0, none⟩ = some (.slice (some ⟨b, off, none⟩) l.length cap)) (hc2 : W.cell? ⟨B2, 0, none⟩ = some (.int .i64 n)) (hP : PT W b off cap l) (h0 : J [] W) :
    CallsIn Fence.wide m Try.prog 21 #[.func (.yield lp) #[] #[], .pointer (some ⟨B1, 0, none⟩), .pointer (some ⟨B2, 0, none⟩)] W fun e W' => (∃ v, e = .returned v) ∧
      ((∃ ys, ys = kupto l n l.length ∧ J ys W') ∨ (∃ pre, pre <+: kupto l n l.length ∧ Jx pre W')) := by
  refine callsIn_of_wp Try.func21 rfl trivial ?_ rfl
  simp only [Try.ntmps21, List.size_toArray, List.length_cons, List.length_nil, Nat.reduceAdd, Nat.reduceSub, Array.replicate_succ, Array.replicate_zero, List.push_toArray, List.append_toArray, List.nil_append, List.cons_append]
  gi_wp2
  gi_loopw [7] (fun i wr => ∃ k : Nat, k ≤ l.length ∧ i = .int .i64 k ∧ J (kupto l n k) wr ∧ KpB n₀ B1 B2 (.slice (some ⟨b, off, none⟩) l.length cap) (.int .i64 n) W wr)
    (fun i _ => l.length - (intOf i).toNat)
  case atStart => exact ⟨0, Nat.zero_le _, rfl, h0, KpB.refl _ _ _ _ _ _⟩
  case round =>
    obtain ⟨k, hk, rfl, hJs, hnx⟩ := hrel
    have hle := hP.1.le
    have hmx : Try.prog.follows .mixedOrders = true := by kernel_rfl
    by_cases hlt : k < l.length
    · have d1 := hnx.2.1 hc1
      have d2 := hnx.2.2 hc2
      have hPr : PT wr b off cap l := ⟨hP.1, hP.2.1, hP.2.2.1, fun i hi => (hnx.1.cell (p := ⟨b, off + i, none⟩) hb).trans (hP.2.2.2 i hi)⟩
      have hcon : ∀ w2 : World, w2.heap = wr.heap → Calls Try.prog 18 #[.slice (some ⟨b, off, none⟩) l.length cap, .int .i64 k] w2 fun e w' => e = .returned (.int .i64 (PM.pa l k)) ∧ w' = w2 := fun w2 h2 => parent_any b off cap l k w2 ⟨hP.1, hP.2.1, hP.2.2.1, fun i hi => by have := hPr.2.2.2 i hi; simp only [World.cell?, h2] at this ⊢; exact this⟩
      by_cases hit : PM.pa l k = n
      · have hpre : (kupto l n k).length < (kupto l n l.length).length := by
          have h1 := (kupto_pre l n (k + 1) l.length (by omega)).length_le
          rw [kupto_hit l n k hit] at h1
          simp at h1
          omega
        obtain ⟨fn, tmps, assign, body, hy, hR⟩ := hY _ (k : Int) wr.drew (hJm _ _ _ hJs (Below.refl _ _).drew) hpre
        have hR2 := hR.mono (R' := fun e W' => ∃ v, e = .returned (.bool v) ∧ ((v = true ∧ J (kupto l n k ++ [(k : Int)]) W' ∧ KpB n₀ B1 B2 (.slice (some ⟨b, off, none⟩) l.length cap) (.int .i64 n) wr.drew W') ∨ (v = false ∧ Jx (kupto l n k ++ [(k : Int)]) W'))) (by
          rintro e W' (⟨rfl, h1, h2⟩ | ⟨rfl, h1⟩)
          · exact ⟨true, rfl, .inl ⟨rfl, h1, h2⟩⟩
          · exact ⟨false, rfl, .inr ⟨rfl, h1⟩⟩)
        clear hY hP hPr hc1 hc2 hR
        rw [hit] at hcon
        have hcon' := hcon wr.drew rfl
        clear hcon
        have hfn : Fence.wide.fn 18 := trivial
        gi_wp2
        gi_region_with_o (first | (gi_at_call 18; refine (callsIn_wide.2 hcon').mono ?_; rintro e w1 ⟨rfl, rfl⟩) | (refine hR2.mono ?_; rintro e W3 ⟨v, rfl, hv⟩))
        all_goals rcases hv with ⟨rfl, hJ3, hk3⟩ | ⟨rfl, hJx3⟩
        all_goals gi_wp2
        all_goals first
          | exact ⟨⟨k + 1, by omega, by simp, by rw [kupto_hit l n k hit]; exact hJ3, (hnx.trans (KpB.of (Below.refl _ _).drew (Nat.le_trans hn₀ hnx.1.size))).trans hk3⟩, by simp [intOf]; omega⟩
          | skip
        all_goals
          refine bodyPost_ret (results_none rfl _ _ _) rfl ?_
          exact ⟨⟨_, rfl⟩, .inr ⟨_, by rw [← kupto_hit l n k hit]; exact kupto_pre l n (k + 1) l.length (by omega), hJx3⟩⟩
      · have hS1 := PM.hid (And.intro hJs hnx)
        have hconH : Hid (∀ w2 : World, Below wr.heap.size wr w2 → Calls Try.prog 18 #[.slice (some ⟨b, off, none⟩) l.length cap, .int .i64 k] w2 fun e w' => e = .returned (.int .i64 (PM.pa l k)) ∧ w' = w2) := PM.hid fun w2 h2 => parent_any b off cap l k w2 (hPr.keep h2)
        clear hY hP hPr hc1 hc2 hcon hJs hnx hmx
        generalize hpa : PM.pa l k = q at *
        have hne : (q == n) = false := beq_eq_false_iff_ne.2 hit
        gi_wp2
        refine wpIn_wide.2 ?_
        refine PM.wp_region_st [some 10, some 11, some 12, some 13, some 14, some 15, some 16, some 17, some 18, some 19, some 20] [fun x _ => x = .slice (some ⟨b, off, none⟩) l.length cap, fun x _ => x = .int .i64 k, fun x _ => x = .int .i64 q, fun x _ => x = .int .i64 n, fun x _ => x = .bool false, fun x _ => x = .bool false, fun _ _ => True, fun _ _ => True, fun _ _ => True, fun _ _ => True, fun x _ => x = .bool false] (by kernel_rfl) (by kernel_rfl) (by kernel_rfl) ?_ ?_ ?_
        · simp only [List.forall_mem_cons]
          refine ⟨?_, ?_, ?_, ?_, ?_, ?_, ?_, ?_, ?_, ?_, ?_, by simp⟩
          all_goals (intro x W W' h hb; first | exact h | exact PM.BS.keep hb h | exact PM.OW.keep hb h)
        · refine ⟨?_, ?_, ?_, ?_, ?_, ?_, ?_, ?_, ?_, ?_, ?_, trivial⟩
          all_goals
            intro a W hB hF hd
            have k0 := hF 0 rfl
            have k1 := hF 1 rfl
            have k2 := hF 2 rfl
            have k4 := hF 4 rfl
            have c1 := PM.cellB hB d1
            have c2 := PM.cellB hB d2
            clear hF
            simp [PM.depsL, PM.spec, PM.sl, Region.binds] at hd k0 k1 k2 k4
            simp only [PM.wantL, PM.spec]
            try simp only [PM.sl]
            go_simp
          all_goals try exact Below.refl _ _
          · refine (hconH.out W hB).mono ?_
            rintro e w' ⟨rfl, rfl⟩
            exact ⟨Below.refl _ _, rfl⟩
        · intro G W hB hF hS
          simp [PM.allSp, PM.spec] at hS
          have q0 := hF 0 rfl
          have q1 := hF 1 rfl
          have q2 := hF 2 rfl
          have q3 := hF 3 rfl
          have q4 := hF 4 rfl
          have q5 := hF 5 rfl
          have q6 := hF 6 rfl
          have q7 := hF 7 rfl
          have q20 : G 20 = .bool false := by simp [hS]
          simp [PM.sl] at q0 q1 q2 q3 q4 q5 q6 q7
          rw [show ((List.range (Array.size _)).map G).toArray = #[G 0, G 1, G 2, G 3, G 4, G 5, G 6, G 7, G 8, G 9, G 10, G 11, G 12, G 13, G 14, G 15, G 16, G 17, G 18, G 19, G 20, G 21] from rfl, q0, q1, q2, q3, q4, q5, q6, q7, q20]
          have hS2 := PM.hid (And.intro (hJm _ _ _ hS1.out.1 hB) (hS1.out.2.trans (KpB.of hB (Nat.le_trans hn₀ hS1.out.2.1.size))))
          clear hF hS q0 q1 q2 q3 q4 q5 q6 q7 q20 hB d1 d2 hconH
          gi_wp2
          exact ⟨⟨k + 1, by omega, by simp, by rw [kupto_miss l n k (by omega)]; exact hS2.out.1, hS2.out.2⟩, by simp [intOf]; omega⟩
    · obtain rfl : k = l.length := by omega
      gi_wp2
      go_end0
      exact ⟨⟨_, rfl⟩, .inl ⟨_, rfl, hJs⟩⟩
set_option maxHeartbeats 1000000 in
theorem kids_in (m b off len cap : Nat) (n : Int) (w : World) :
    CallsIn Fence.wide m Try.prog 20 #[.slice (some ⟨b, off, none⟩) len cap, .int .i64 n] w fun e w' => e = .returned (.func (.func 21) #[] #[.pointer (some ⟨w.heap.size, 0, none⟩), .pointer (some ⟨w.heap.size + 1, 0, none⟩)]) ∧ w' = (w.alloc (.cells #[.slice (some ⟨b, off, none⟩) len cap] 23)).alloc (.cells #[.int .i64 n] 3) := by
  refine callsIn_of_wp Try.func20 rfl trivial ?_ rfl
  simp only [Try.ntmps20, List.size_toArray, List.length_cons, List.length_nil, Nat.reduceAdd, Nat.reduceSub, Array.replicate_succ, Array.replicate_zero, List.push_toArray, List.append_toArray, List.nil_append, List.cons_append]
  gi_wp2
  go_ret
  exact ⟨rfl, rfl⟩
theorem kids_stops (m : Nat) (hn : 1 ≤ m) (B1 B2 n₀ b off cap : Nat) (l : List Int) (n : Int) (w : World) (hn₀ : n₀ ≤ w.heap.size) (hb : b < n₀)
    (hc1 : w.cell? ⟨B1, 0, none⟩ = some (.slice (some ⟨b, off, none⟩) l.length cap)) (hc2 : w.cell? ⟨B2, 0, none⟩ = some (.int .i64 n)) (hP : PT w b off cap l) :
    SeqStopsK Fence.wide m Try.prog 21 #[.pointer (some ⟨B1, 0, none⟩), .pointer (some ⟨B2, 0, none⟩)] (fun x : Int => #[Value.int .i64 x]) (KpB n₀ B1 B2 (.slice (some ⟨b, off, none⟩) l.length cap) (.int .i64 n)) (fun ys => ys = kupto l n l.length) (fun pre => pre <+: kupto l n l.length) (kupto l n l.length).length w := fun lp J Jx W hW hJ hJx hY h0 =>
  kids1_in m hn lp B1 B2 n₀ b off cap l n W (Nat.le_trans hn₀ hW.size) hb J Jx (fun s w1 w2 h1 h2 => hJ s w1 w2 none h1 ⟨h2.os, h2.tape, h2.output, h2.size, fun k hk _ => h2.block k hk⟩ (fun _ e => by cases e)) hY (PM.cellB hW hc1) (PM.cellB hW hc2) (hP.keep hW) h0
set_option maxRecDepth 100000 in
set_option maxHeartbeats 4000000 in
theorem Kids_in (b off cap : Nat) (l : List Int) (n : Int) (w : World) (hP : PT w b off cap l) (h0 : 0 ≤ n ∧ n < l.length) :
    CallsIn Fence.wide 4 Try.prog 13 #[.slice (some ⟨b, off, none⟩) l.length cap, .int .i64 n] w fun e w' => ∃ v, e = .returned v ∧ PM.OE PM.iv 3 w.heap.size w' v (kupto l n l.length) ∧ Below w.heap.size w w' := by
  have hb1 := broker_any b off cap l n w hP
  rw [decide_eq_true h0] at hb1
  have hle := hP.1.le
  have hlen := kupto_len l n l.length
  have hbw : b < w.heap.size := World.block_lt_of_cell? w _ (hP.2.2.2 0 hP.1.pos)
  refine callsIn_of_wp_marks Try.func13 rfl trivial ?_ rfl
  simp only [Try.ntmps13, List.size_toArray, List.length_cons, List.length_nil, Nat.reduceAdd, Nat.reduceSub, Array.replicate_succ, Array.replicate_zero, List.push_toArray, List.append_toArray, List.nil_append, List.cons_append]
  have hf1 : Fence.wide.fn 17 := trivial
  have hf2 : Fence.wide.fn 20 := trivial
  gi_wp2_with (first | (gi_at_call 17; refine (callsIn_wide.2 hb1).mono ?_; rintro e w' ⟨rfl, rfl⟩) | (gi_at_call 20; refine (kids_in 3 _ _ _ _ _ _).mono ?_; rintro e w' ⟨rfl, rfl⟩))
  obtain ⟨w, hw⟩ : ∃ w, w' = w := ⟨_, rfl⟩
  rw [hw] at hP hbw ⊢
  clear hb1
  have bO := Boxed.new w 23 (.slice none 0 0)
  have b1 := Boxed.new (w.alloc (.cells #[.slice none 0 0] 23)) 23 (.slice (some ⟨b, off, none⟩) l.length cap)
  have b2 := Boxed.new ((w.alloc (.cells #[.slice none 0 0] 23)).alloc (.cells #[.slice (some ⟨b, off, none⟩) l.length cap] 23)) 3 (.int .i64 n)
  rw [World.size_alloc] at b1
  rw [World.size_alloc, World.size_alloc] at b2
  have hB0 : Below w.heap.size w (((w.alloc (.cells #[.slice none 0 0] 23)).alloc (.cells #[.slice (some ⟨b, off, none⟩) l.length cap] 23)).alloc (.cells #[.int .i64 n] 3)) := (((Below.refl _ w).alloc (Nat.le_refl _) _).alloc (by simp) _).alloc (by simp; omega) _
  obtain ⟨i0, z0, hi, hz0, hz1, hz2, hz3⟩ := ity.row
  have b1' := b1.alloc (.cells #[.int .i64 n] 3)
  refine wpIn_rangeFunc_ownG rfl (by decide) (gf := 21) (lb := #[.pointer (some ⟨w.heap.size + 1, 0, none⟩), .pointer (some ⟨w.heap.size + 1 + 1, 0, none⟩)]) rfl trivial (enters_of Try.func21 (by kernel_rfl) rfl)
    (kids_stops 3 (by decide) (w.heap.size + 1) (w.heap.size + 1 + 1) w.heap.size b off cap l n _ hB0.size hbw b1'.cell b2.cell (hP.keep hB0)) (fun h k => KpB.trans h k) (fun W l o o' => KpB.put hB0.size W l o o') (Below.refl _ _) (fun _ => rfl)
    (fun pre W => (∃ v, Boxed W w.heap.size 23 v ∧ W.ownsRow (w.heap.size + 3) 3 1 v pre.length (pre.map (Value.int .i64)) ∧ True) ∧ Below w.heap.size w W ∧ w.heap.size + 3 ≤ W.heap.size)
    (fun _ _ _ => False)
    (OwnFrom.and (Own.from (holdsRow_own (w.heap.size + 3) w.heap.size 23 3 1 (fun pre : List Int => pre.length) (fun pre : List Int => pre.map (Value.int .i64)) (fun pre v => True)) _) (OwnFrom.and (ownFrom_below (Nat.le_refl _) hB0.size) (Own.from (fun s A B row hs hg hr => Nat.le_trans hs hg.size) _)))
    (fun _ _ _ _ _ hs _ _ => hs)
    ⟨⟨_, (bO.alloc _).alloc _, World.ownsRow_nil _ _ _ _, trivial⟩, hB0, by simp⟩
    (fun x => { tmps := #[.slice (some ⟨b, off, none⟩) l.length cap, .int .i64 n, undef, undef, .slice none 0 0, .pointer (some ⟨w.heap.size, 0, none⟩), .int .i64 x, .slice (some ⟨b, off, none⟩) l.length cap, .int .i64 n, .bool true, .bool false, .slice (some ⟨b, off, none⟩) l.length cap, .int .i64 n, .func (.func 21) #[] #[.pointer (some ⟨w.heap.size + 1, 0, none⟩), .pointer (some ⟨w.heap.size + 1 + 1, 0, none⟩)], .int .i64 x, undef, undef, undef, undef, undef], defers := [] }) ?assign ?body ?done ?stop
  case assign =>
    intro l x W K hK
    gi_wp2
    exact hK
  case body =>
    rintro lp pre x W ⟨⟨v, hv, hrow, _⟩, hB, hsz⟩ hlt
    have hc := hv.cell
    have hpl : pre.length ≤ 16 := by omega
    have hmono : ∀ {X : World} {v : Value} {k : Nat} {xs : List Value}, X.ownsRow (w.heap.size + 3) 3 1 v k xs → X.ownsRow w.heap.size 3 1 v k xs := fun h => ⟨h.1, h.2.imp id fun ⟨g, c, u, e, hb, r⟩ => ⟨g, c, u, e, by omega, r⟩⟩
    gi_wp2_with (gi_at_builtin; refine wpListIn_append_own _ rfl _ _ 23 rfl (w.heap.size + 3) 3 i0 z0 1 8 Try.underlying23 hi hz0 hz1 hz2 hz3 (by decide) _ _ _ rfl (hrow.alloc _) ⟨W.heap.size, 0, none⟩ 1 1 [.int .i64 x] rfl rfl (cell_one_new _ _ _) (by simp [Value.oneCell']) (by simp only [maxLen]; omega) (by omega) (by simp; omega) ?_; intro v' w1 hown' hgrow _; obtain ⟨g', cap', rfl⟩ := ownsRow_succ hown'; obtain ⟨hv1, hv2, hr2, hk2, hb2⟩ := hv.appended (by decide) (hmono hrow) hB.size (Nat.le_refl _) (hmono hown') hgrow; have hc1 := hv1.cell; have hf1 := hv1.frozen)
    have hlt := hrow.lt
    have hkeep : ∀ (B : Nat) (u : Value), w.heap.size < B → B < w.heap.size + 3 → W.cell? ⟨B, 0, none⟩ = some u → (w1.setCell ⟨w.heap.size, 0, none⟩ (.slice (some ⟨g', 0, none⟩) (pre.length + 1) cap')).cell? ⟨B, 0, none⟩ = some u := by
      intro B u h1 h2 e
      refine (grownBy_setCell' w1 w.heap.size _).cell (hgrow.cell ((World.grownBy_alloc W _ none).cell e (by simp)) ?_) ?_
      · intro he
        have := hlt B he.symm
        omega
      · intro he
        simp at he
        omega
    have hrow2 := hown'.kept (grownBy_setCell' w1 w.heap.size (.slice (some ⟨g', 0, none⟩) (pre.length + 1) cap')) (.inr (by
      intro he
      have := hown'.lt _ he
      omega))
    exact ⟨hk2.from _, ⟨hb2, hkeep _ _ (by omega) (by omega), hkeep _ _ (by omega) (by omega)⟩, ⟨_, hv2, by simpa using hrow2, trivial⟩, hB.trans hb2, Nat.le_trans hsz hb2.size⟩
  case done =>
    rintro D ys W hD rfl ⟨⟨v, hv, hrow, _⟩, hB, hsz⟩ hK
    have hc := hv.cell
    have hmono : ∀ {X : World} {v : Value} {k : Nat} {xs : List Value}, X.ownsRow (w.heap.size + 3) 3 1 v k xs → X.ownsRow w.heap.size 3 1 v k xs := fun h => ⟨h.1, h.2.imp id fun ⟨g, c, u, e, hb, r⟩ => ⟨g, c, u, e, by omega, r⟩⟩
    gi_wp2
    refine ⟨by simp, .inl ⟨_, _, rfl, run_takeDeferred hK, ?_⟩⟩
    refine ⟨_, results_tmp rfl _ _ _, v, rfl, ?_, ?_⟩
    · rw [hw]; exact hmono (ownsRow_putObj hrow _ hK rfl)
    · rw [hw]; exact hB.trans (belowK_b (w := w) (Nat.le_refl _) W D _ _ (by simp at hD; omega) hK rfl rfl)
  case stop =>
    rintro D c pre W _ _ h _
    exact h.elim
theorem Kids_any (b off cap : Nat) (l : List Int) (n : Int) (w : World) (hP : PT w b off cap l) (h0 : 0 ≤ n ∧ n < l.length) :
    Calls Try.prog 13 #[.slice (some ⟨b, off, none⟩) l.length cap, .int .i64 n] w fun e w' => ∃ v, e = .returned v ∧ PM.OE PM.iv 3 w.heap.size w' v (kupto l n l.length) ∧ Below w.heap.size w w' :=
  callsIn_wide.1 (Kids_in b off cap l n w hP h0)
end Go.Proofs.Ytmlgiifebbigeaa
