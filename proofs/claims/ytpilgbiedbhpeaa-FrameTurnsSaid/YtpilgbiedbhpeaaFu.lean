/-
  THE WALKS OF LAYER 3's STATEMENTS: turns, the walk.
-/
import Derived.Test.YtpilgbiedbhpeaaFt
namespace Go.Proofs.Ytpilgbiedbhpeaa
open Go.RowKit
set_option linter.unusedVariables false
theorem u8_of (n : Int) (h : (Lit.int .u8 n).wf = true) : ∃ c : UInt8, n = (c.toNat : Int) := by
  have := Go.bounds_u8 h
  exact ⟨UInt8.ofNat n.toNat, by simp; omega⟩
theorem u8_xor_byte (x y : UInt8) : bits .xor .u8 (x.toNat : Int) (y.toNat : Int) = ((x ^^^ y).toNat : Int) := by
  rw [u8_xor_nat _ _ x.toNat_lt y.toNat_lt, UInt8.toNat_xor]
set_option maxRecDepth 100000 in
set_option maxHeartbeats 4000000 in
theorem frameTurns_walk (va : Value) (la : List UInt8) (vb : Value) (lb : List UInt8) (at' n : Int) (wat : (Lit.int .i64 at').wf = true) (wn : (Lit.int .u8 n).wf = true) (w : World) (ha : PM.BS w va la) (hb : PM.BS w vb lb) :
    Calls Try.prog 6 #[va, vb, .int .i64 at', .int .u8 n] w fun e w' => e = .returned (.bool true) ∧ Below w.heap.size w w' := by
  obtain ⟨c, rfl⟩ := u8_of n wn
  have hat := Go.bounds_i64 wat
  clear wat wn
  obtain ⟨aa, ac, rfl⟩ := ha.len
  obtain ⟨ba, bc, rfl⟩ := hb.len
  have hah := PM.hid ha
  have hbh := PM.hid hb
  obtain ⟨La, hLa⟩ : ∃ L, L = la.length := ⟨_, rfl⟩
  obtain ⟨Lb, hLb⟩ : ∃ L, L = lb.length := ⟨_, rfl⟩
  have hLah := PM.hid hLa
  have hLbh := PM.hid hLb
  rw [← hLa, ← hLb]
  clear hLa hLb ha hb
  by_cases q1 : (1000 : Int) < (La : Int)
  · skip
    go_enter Try.func6, Try.ntmps6
    go_wp2_with (go_at_call 9; refine (awake3 _).mono ?_; rintro e w1 ⟨rfl, hb⟩)
    go_ret
    first | exact ⟨rfl, hb⟩ | exact ⟨PM.ret_b (by simp [*]), hb⟩
  by_cases q2 : (1000 : Int) < (Lb : Int)
  · skip
    go_enter Try.func6, Try.ntmps6
    go_wp2_with (go_at_call 9; refine (awake3 _).mono ?_; rintro e w1 ⟨rfl, hb⟩)
    go_ret
    first | exact ⟨rfl, hb⟩ | exact ⟨PM.ret_b (by simp [*]), hb⟩
  by_cases q3 : ((La : Int) == 0) = true
  · skip
    go_enter Try.func6, Try.ntmps6
    go_wp2_with (go_at_call 9; refine (awake3 _).mono ?_; rintro e w1 ⟨rfl, hb⟩)
    go_ret
    first | exact ⟨rfl, hb⟩ | exact ⟨PM.ret_b (by simp [*]), hb⟩
  by_cases q4 : ((Lb : Int) == 0) = true
  · skip
    have q3' : ((La : Int) == 0) = false := by simpa using q3
    clear q3
    go_enter Try.func6, Try.ntmps6
    go_wp2_with (go_at_call 9; refine (awake3 _).mono ?_; rintro e w1 ⟨rfl, hb⟩)
    go_ret
    first | exact ⟨rfl, hb⟩ | exact ⟨PM.ret_b (by simp [*]), hb⟩
  have q3' : ((La : Int) == 0) = false := by simpa using q3
  have q4' : ((Lb : Int) == 0) = false := by simpa using q4
  have hLa0 : 0 < La := by simp at q3; omega
  have hLb0 : 0 < Lb := by simp at q4; omega
  have hLa1 : La ≤ 1000 := by omega
  have hLb1 : Lb ≤ 1000 := by omega
  clear q3 q4
  have hwa : (PM.wrapL la).length = 6 + La := by rw [PM.wrapL_length, hLah.out]
  have hwb : (PM.wrapL lb).length = 6 + Lb := by rw [PM.wrapL_length, hLbh.out]
  have hwh := PM.hid (And.intro hwa hwb)
  clear hwa hwb
  obtain ⟨A, hA⟩ : ∃ A : Nat, (A : Int) = if at' < 0 then -(at' + 1) else at' := ⟨(if at' < 0 then -(at' + 1) else at').toNat, by split <;> omega⟩
  obtain ⟨I, hI⟩ : ∃ I : Nat, I = A % Lb := ⟨_, rfl⟩
  have hIb : I < Lb := by rw [hI]; exact Nat.mod_lt _ hLb0
  have hrem : (A : Int).tmod (Lb : Int) = (I : Int) := by rw [Int.tmod_eq_emod_of_nonneg (by omega), hI]; rfl
  have hAb : A ≤ 9223372036854775807 := by split at hA <;> omega
  obtain ⟨z, hz⟩ : ∃ z, lb[I]? = some z := ⟨lb[I]'(by rw [← hLbh.out]; exact hIb), List.getElem?_eq_getElem _⟩
  have hsc := PM.scan_turn la lb I z c (by rw [← hLah.out]; exact hLa0) (by rw [← hLah.out]; omega) hz (by rw [← hLbh.out]; omega)
  have hsch := PM.hid hsc
  have hzh := PM.hid hz
  have hxor := u8_xor_byte z c
  have hA2 : at' < 0 → -(at' + 1) = (A : Int) := fun h => by rw [hA, if_pos h]
  have hA3 : ¬ at' < 0 → at' = (A : Int) := fun h => by rw [hA, if_neg h]
  have hA2h := PM.hid (And.intro hA2 hA3)
  clear hsc hz hI hA hA2 hA3
  go_enter Try.func6, Try.ntmps6
  go_wp2_with fail
  refine (awake3 _).mono ?_
  rintro e w1 ⟨rfl, hb⟩
  have hW := Wrap_any _ la w1 (hah.out.keep hb) (by rw [← hLah.out]; exact hLa0) (by rw [← hLah.out]; omega)
  rw [← hLah.out] at hW
  have hb1 := PM.hid hb
  clear hb
  go_wp2_with fail
  refine hW.mono ?_
  rintro e w2 ⟨v2, rfl, ho2, hB2⟩
  have hb2 := PM.hid (PM.chain hb1.out hB2)
  have hs2 := PM.hid ho2.bs
  obtain ⟨a2, c2, hv2⟩ : ∃ a c, v2 = .slice a (6 + La) c := by obtain ⟨a, c, e⟩ := ho2.bs.len; exact ⟨a, c, by rw [e, hwh.out.1]⟩
  subst hv2
  have hW3 := Wrap_any _ lb w2 (hbh.out.keep hb2.out) (by rw [← hLbh.out]; exact hLb0) (by rw [← hLbh.out]; omega)
  rw [← hLbh.out] at hW3
  clear hW hb1 ho2 hB2
  go_wp2_with fail
  refine hW3.mono ?_
  rintro e w3 ⟨v3, rfl, ho3, hB3⟩
  obtain ⟨g, cap, hv3, hgB⟩ := ho3.form (by intro e; have := congrArg List.length e; rw [hwh.out.2] at this; simp at this)
  rw [hwh.out.2] at hv3
  subst hv3
  have ho3h : PM.OE PM.bv 5 w2.heap.size w3 (.slice (some ⟨g, 0, none⟩) (6 + Lb) cap) (PM.wrapL lb) := ho3
  have hcz := ho3h.cellAt (i := 6 + I) z (by
    have : (PM.be lb.length 2 ++ PM.be (PM.crc lb) 4).length = 6 := by simp [PM.be_length]
    rw [PM.wrapL, List.getElem?_append_right (by rw [this]; omega), this, Nat.add_sub_cancel_left]
    exact hzh.out)
  obtain ⟨d1, d2⟩ := hcz
  have d1' : w3.cell? ⟨g, 6 + I, none⟩ = some (.int .u8 (z.toNat : Int)) := d1
  have hcap : 6 + Lb ≤ cap ∧ cap ≤ 9223372036854775807 := by
    rcases ho3.2 with ⟨e, _⟩ | ⟨g', cap', cur, e, _, _, h1, h2, _⟩
    · cases e
    · simp at e
      obtain ⟨_, _, rfl⟩ := e
      rw [hwh.out.2] at h1
      exact ⟨h1, h2⟩
  obtain ⟨hcap1, hcap2⟩ := hcap
  have hset := ho3h.set (i := 6 + I) (by rw [hwh.out.2]; omega) (z ^^^ c)
  have hbve : PM.bv (z ^^^ c) = .int .u8 ((z.toNat ^^^ c.toNat : Nat) : Int) := by simp [PM.bv]
  rw [hbve] at hset
  clear hbve
  have hseth := PM.hid (And.intro hset (And.intro hgB hB3))
  have hI6 : ((6 : Int) + (I : Int)) < ((6 + Lb : Nat) : Int) := by omega
  have hLbn : ¬ Lb = 0 := by omega
  clear ho3 ho3h hset hW3 hB3 hgB d1
  by_cases hneg : at' < 0
  · have hAe := hA2h.out.1 hneg
    go_wp2_with fail
    go_region
    have hB5 : Below w2.heap.size w2 (w3.setCell ⟨g, 6 + I, none⟩ (.int .u8 ((z.toNat ^^^ c.toNat : Nat) : Int))).drew := (hseth.out.2.2.setCell (p := ⟨g, 6 + I, none⟩) hseth.out.2.1 _).drew
    have hy5 : PM.BS (w3.setCell ⟨g, 6 + I, none⟩ (.int .u8 ((z.toNat ^^^ c.toNat : Nat) : Int))).drew (.slice (some ⟨g, 0, none⟩) (6 + Lb) cap) ((PM.wrapL lb).set (6 + I) (z ^^^ c)) := (hseth.out.1.keep (Below.refl _ _).drew).es
    have hx5 := hs2.out.keep hB5
    have hC5 := PM.hid (PM.chain hb2.out hB5)
    generalize (w3.setCell ⟨g, 6 + I, none⟩ (.int .u8 ((z.toNat ^^^ c.toNat : Nat) : Int))).drew = w5 at *
    have om := OW.made 5 w5
    have hal : Below w5.heap.size w5 (w5.alloc (.cells #[] 5)) := (Below.refl _ _).alloc (Nat.le_refl _) _
    have hs5 := hx5.keep hal
    have hz5 := hal.size
    clear hB5 d1' d2 hxor hrem hI6 hLbn hcap1 hcap2
    go_wp2_with (first
      | (at_builtin; refine PM.wpList_app bty w5.heap.size rfl _ _ rfl _ _ [] (PM.wrapL la) rfl rfl om hs5 ?_ hz5 ?_; (rw [hwh.out.1]; simp; omega); intro v6 w6 t1 t2 _; clear om hs5; have t3 := hal.trans t2; have hs6 := hy5.keep t3; have hz6 := t3.size)
      | (at_builtin; refine PM.wpList_app bty w5.heap.size rfl _ _ rfl _ _ _ _ rfl rfl t1 hs6 ?_ hz6 ?_; (rw [List.length_append, hwh.out.1, List.length_set, hwh.out.2]; simp; omega); intro v7 w7 t4 t5 _; clear t1 hs6; have t6 := t3.trans t5))
    rw [List.nil_append] at t4
    have hC7 := PM.hid (PM.chain hC5.out t6)
    refine (Scan_any _ _ w7 t4.bs (by rw [List.length_append, hwh.out.1, List.length_set, hwh.out.2]; omega)).mono ?_
    rintro e w8 ⟨v8, rfl, ho8, hB8⟩
    rw [hsch.out] at ho8 ⊢
    have hb8 := PM.hid (PM.chain hC7.out hB8)
    have hsl : PM.BS w8 (.slice aa La ac) la := by rw [hLah.out]; exact hah.out.keep hb8.out
    clear t4 t5 t6 t3 hB8 hC7 hz6 hx5 hy5 hal hz5 t2
    by_cases hc : c = 0
    · rw [if_pos hc] at ho8 ⊢
      have hc0 : (c.toNat : Int) = 0 := by rw [hc]; rfl
      rw [hc0]
      obtain ⟨b8, off8, c8, rfl, r1, r2, r3⟩ := ho8.rbl.elem (by simp)
      obtain ⟨x8, r4, r5⟩ := r3 0 la rfl
      simp only [maxLen] at r2
      have r4' : w8.cell? ⟨b8, off8, none⟩ = some x8 := r4
      obtain ⟨xa, xc, rfl⟩ := r5.len
      rw [← hLah.out] at r4' r5
      have k1 := PM.run_str bty Try.underlying9 (r5.keep (Below.refl _ _).drew)
      have k2 := PM.run_str bty Try.underlying9 (hsl.keep (Below.refl _ _).drew)
      have r1' : 0 < c8 := by simp at r1; omega
      simp only [List.length_cons, List.length_nil] at r1 ⊢
      clear ho8 r3 r4 r5 hsl hc hc0
      go_wp2_with fail
      go_region
      all_goals go_wp2
      all_goals go_ret
      all_goals first | exact ⟨rfl, hb8.out.drew⟩ | exact ⟨PM.ret_b (by simp), hb8.out.drew⟩
    · rw [if_neg hc] at ho8 ⊢
      have hc0 : ((c.toNat : Int) == 0) = false := beq_eq_false_iff_ne.2 (fun e => hc (UInt8.toNat_inj.1 (by simpa using e)))
      obtain ⟨b8, off8, c8, rfl, r1, r2, r3⟩ := ho8.rbl.elem (by simp)
      obtain ⟨x8, r4, r5⟩ := r3 0 la rfl
      simp only [maxLen] at r2
      have r4' : w8.cell? ⟨b8, off8, none⟩ = some x8 := r4
      obtain ⟨xa, xc, rfl⟩ := r5.len
      rw [← hLah.out] at r4' r5
      have k1 := PM.run_str bty Try.underlying9 (r5.keep (Below.refl _ _).drew)
      have k2 := PM.run_str bty Try.underlying9 (hsl.keep (Below.refl _ _).drew)
      have hsz : ((PM.sizeL [la] : Nat) : Int) = ((6 + La : Nat) : Int) := by rw [hLah.out]; simp [PM.sizeL]
      rw [hsz]
      simp only [List.length_cons, List.length_nil] at r1 ⊢
      clear ho8 r3 r4 r5 hsl hc
      go_wp2_with fail
      go_region
      all_goals go_wp2
      all_goals go_ret
      all_goals first | exact ⟨rfl, hb8.out.drew⟩ | exact ⟨PM.ret_b (by simp), hb8.out.drew⟩
  · obtain rfl : at' = (A : Int) := hA2h.out.2 (by omega)
    go_wp2_with fail
    go_region
    have hB5 : Below w2.heap.size w2 (w3.setCell ⟨g, 6 + I, none⟩ (.int .u8 ((z.toNat ^^^ c.toNat : Nat) : Int))).drew := (hseth.out.2.2.setCell (p := ⟨g, 6 + I, none⟩) hseth.out.2.1 _).drew
    have hy5 : PM.BS (w3.setCell ⟨g, 6 + I, none⟩ (.int .u8 ((z.toNat ^^^ c.toNat : Nat) : Int))).drew (.slice (some ⟨g, 0, none⟩) (6 + Lb) cap) ((PM.wrapL lb).set (6 + I) (z ^^^ c)) := (hseth.out.1.keep (Below.refl _ _).drew).es
    have hx5 := hs2.out.keep hB5
    have hC5 := PM.hid (PM.chain hb2.out hB5)
    generalize (w3.setCell ⟨g, 6 + I, none⟩ (.int .u8 ((z.toNat ^^^ c.toNat : Nat) : Int))).drew = w5 at *
    have om := OW.made 5 w5
    have hal : Below w5.heap.size w5 (w5.alloc (.cells #[] 5)) := (Below.refl _ _).alloc (Nat.le_refl _) _
    have hs5 := hx5.keep hal
    have hz5 := hal.size
    clear hB5 d1' d2 hxor hrem hI6 hLbn hcap1 hcap2
    go_wp2_with (first
      | (at_builtin; refine PM.wpList_app bty w5.heap.size rfl _ _ rfl _ _ [] (PM.wrapL la) rfl rfl om hs5 ?_ hz5 ?_; (rw [hwh.out.1]; simp; omega); intro v6 w6 t1 t2 _; clear om hs5; have t3 := hal.trans t2; have hs6 := hy5.keep t3; have hz6 := t3.size)
      | (at_builtin; refine PM.wpList_app bty w5.heap.size rfl _ _ rfl _ _ _ _ rfl rfl t1 hs6 ?_ hz6 ?_; (rw [List.length_append, hwh.out.1, List.length_set, hwh.out.2]; simp; omega); intro v7 w7 t4 t5 _; clear t1 hs6; have t6 := t3.trans t5))
    rw [List.nil_append] at t4
    have hC7 := PM.hid (PM.chain hC5.out t6)
    refine (Scan_any _ _ w7 t4.bs (by rw [List.length_append, hwh.out.1, List.length_set, hwh.out.2]; omega)).mono ?_
    rintro e w8 ⟨v8, rfl, ho8, hB8⟩
    rw [hsch.out] at ho8 ⊢
    have hb8 := PM.hid (PM.chain hC7.out hB8)
    have hsl : PM.BS w8 (.slice aa La ac) la := by rw [hLah.out]; exact hah.out.keep hb8.out
    clear t4 t5 t6 t3 hB8 hC7 hz6 hx5 hy5 hal hz5 t2
    by_cases hc : c = 0
    · rw [if_pos hc] at ho8 ⊢
      have hc0 : (c.toNat : Int) = 0 := by rw [hc]; rfl
      rw [hc0]
      obtain ⟨b8, off8, c8, rfl, r1, r2, r3⟩ := ho8.rbl.elem (by simp)
      obtain ⟨x8, r4, r5⟩ := r3 0 la rfl
      simp only [maxLen] at r2
      have r4' : w8.cell? ⟨b8, off8, none⟩ = some x8 := r4
      obtain ⟨xa, xc, rfl⟩ := r5.len
      rw [← hLah.out] at r4' r5
      have k1 := PM.run_str bty Try.underlying9 (r5.keep (Below.refl _ _).drew)
      have k2 := PM.run_str bty Try.underlying9 (hsl.keep (Below.refl _ _).drew)
      have r1' : 0 < c8 := by simp at r1; omega
      simp only [List.length_cons, List.length_nil] at r1 ⊢
      clear ho8 r3 r4 r5 hsl hc hc0
      go_wp2_with fail
      go_region
      all_goals go_wp2
      all_goals go_ret
      all_goals first | exact ⟨rfl, hb8.out.drew⟩ | exact ⟨PM.ret_b (by simp), hb8.out.drew⟩
    · rw [if_neg hc] at ho8 ⊢
      have hc0 : ((c.toNat : Int) == 0) = false := beq_eq_false_iff_ne.2 (fun e => hc (UInt8.toNat_inj.1 (by simpa using e)))
      obtain ⟨b8, off8, c8, rfl, r1, r2, r3⟩ := ho8.rbl.elem (by simp)
      obtain ⟨x8, r4, r5⟩ := r3 0 la rfl
      simp only [maxLen] at r2
      have r4' : w8.cell? ⟨b8, off8, none⟩ = some x8 := r4
      obtain ⟨xa, xc, rfl⟩ := r5.len
      rw [← hLah.out] at r4' r5
      have k1 := PM.run_str bty Try.underlying9 (r5.keep (Below.refl _ _).drew)
      have k2 := PM.run_str bty Try.underlying9 (hsl.keep (Below.refl _ _).drew)
      have hsz : ((PM.sizeL [la] : Nat) : Int) = ((6 + La : Nat) : Int) := by rw [hLah.out]; simp [PM.sizeL]
      rw [hsz]
      simp only [List.length_cons, List.length_nil] at r1 ⊢
      clear ho8 r3 r4 r5 hsl hc
      go_wp2_with fail
      go_region
      all_goals go_wp2
      all_goals go_ret
      all_goals first | exact ⟨rfl, hb8.out.drew⟩ | exact ⟨PM.ret_b (by simp), hb8.out.drew⟩
end Go.Proofs.Ytpilgbiedbhpeaa
