import Derived.Test.YtokfookandfemaaP1
import Derived.Test.YtokfookandfemaaR0
import Derived.Laws.OwnMore
import Derived.Test.YtokfookandfemaaP0
/-
  CONTRACTS OF package postilionref02: packing.
-/
namespace Go.Proofs.Ytokfookandfemaa
open Go.RowKit
set_option linter.unusedVariables false
namespace PM
theorem OW.one {E : TypeId} {B : Nat} (W : World) (b : UInt8) (hB : B ≤ W.heap.size) : OW E B (W.alloc (.cells #[.int .u8 (b.toNat : Int)] E)) (.slice (Option.some ⟨W.heap.size, 0, Option.none⟩) 1 1) [b] :=
  World.ownsRow_lit W #[bv b] 1 hB (by unfold maxLen; omega) (by simp)
/-- append onto one byte that was just laid -/
theorem wpList_appl {P : Program} {w : World} {ops : Array Oper} {rest : List Oper} {o : Oper} {a : Act} {Q : Exit → Act → World → Prop} {T E : TypeId} (BT : ByteTy P T E) (B : Nat) (W : World) (hgd : o.guard = none) (s x : Operand)
    (ho : o.op = .call { callee := .builtin .append, args := #[s, x], argTypes := #[T, T] })
    (xv : Value) (l : List UInt8) (c : Int) (b : UInt8) (hs : a.eval s = .slice (Option.some ⟨W.heap.size, 0, Option.none⟩) 1 1) (hx : a.eval x = xv) (hw : w = W.alloc (.cells #[.int .u8 c] E)) (hc : c = (b.toNat : Int))
    (hb : BS W xv l) (hn : 1 + l.length ≤ 140737488355328) (hB : B ≤ W.heap.size)
    (h : ∀ v' w', OW E B w' v' (b :: l) → Below B W w' → wpList P ops Q rest (a.put o.dst v') w') : wpList P ops Q (o :: rest) a w := by
  subst hc
  subst hw
  have hb0 : Below W.heap.size W (W.alloc (.cells #[.int .u8 (b.toNat : Int)] E)) := (Below.refl _ _).alloc (Nat.le_refl _) _
  exact wpList_app BT B hgd s x ho _ _ [b] l hs hx (OW.one W b hB) (hb.keep hb0) (by simpa using hn) (Nat.le_trans hB hb0.size) fun v' w' h1 h2 _ => h v' w' h1 ((hb0.mono hB).trans h2)
theorem u8_mod' (n : Nat) : ((n : Int) % 256) = ((UInt8.ofNat n).toNat : Int) := by rw [u8_nat]; simp
theorem be_more (n j : Nat) : UInt8.ofNat (n / 256 ^ j) :: be n j = be n (j + 1) := by
  have e : be n (j + 1) = UInt8.ofNat (n / 2 ^ (8 * j)) :: be n j := by
    unfold be
    rw [List.range_succ_eq_map, List.map_cons, List.map_map]
    congr 1
    apply List.map_congr_left
    intro i hi
    simp only [Function.comp_def]
    congr 3
    omega
  rw [e, Nat.pow_mul]
end PM
theorem rfnumber_any (n : Nat) (hn : n < 2 ^ 64) (w : World) :
    Calls Try.prog 61 #[.int .u64 n] w (PM.RetB 5 w.heap.size w (PM.numB n)) := by
  have hwl := PM.wid_le n hn
  have H0 : Hid (n / 256 ^ 0 = n) := Lib.hid (by simp)
  go_enter Try.func61, Try.ntmps61
  go_wp2
  go_loopw [0, 3] (fun s0 s3 wr => ∃ k j : Nat, k = n / 256 ^ j ∧ k ≤ n ∧ j ≤ 8 ∧ PM.wid n = PM.wid k + j ∧ s0 = .int .u64 k ∧ PM.OW 5 w.heap.size wr s3 (PM.be n j) ∧ Below w.heap.size w wr) (fun s0 _ _ => (intOf s0).toNat)
  case atStart => exact ⟨n, 0, H0.out.symm, Nat.le_refl _, by omega, rfl, rfl, PM.OW.nilrow _ _ _, Below.refl _ _⟩
  case round =>
    obtain ⟨k, j, hk, hkn, hj, hwid, rfl, ho, hB⟩ := hrel
    have Hk := Lib.hid hk
    have Hw := Lib.hid hwid
    clear hk hwid
    have hs := ho.bs
    by_cases h0 : 0 < k
    · have Hs := Lib.hid (PM.wid_step k h0 (by omega))
      have hj8 : j < 8 := by have := Hw.out; have := Hs.out; omega
      go_wp2_with (at_builtin; refine PM.wpList_appl bty w.heap.size wr rfl _ _ rfl _ (PM.be n j) _ (UInt8.ofNat k) rfl rfl rfl (PM.u8_mod' _) hs (by rw [PM.be_length]; omega) hB.size ?_; intro v4 w4 ho4 hB4; replace hB4 := hB.trans hB4)
      go_roundw
      case rel => exact ⟨k / 256, j + 1, by rw [Hk.out, Nat.pow_succ, Nat.div_div_eq_div_mul], by omega, by omega, by have := Hw.out; have := Hs.out; omega, by go_num, by rw [← PM.be_more, ← Hk.out]; exact ho4, hB4⟩
      case measure => simp [intOf]; omega
    · obtain rfl : k = 0 := by omega
      have hjw : j = PM.wid n := by have := Hw.out; rw [PM.wid_zero] at this; omega
      obtain ⟨a3, cap3, rfl⟩ := hs.len
      have hlen : ((PM.be n j).length : Int) = (j : Int) := by rw [PM.be_length]
      have e8 : ((UInt8.ofNat j).toNat : Int) = (j : Int) := by rw [PM.u8_nat]; omega
      go_wp2_with (at_builtin; go_must (refine PM.wpList_appl bty w.heap.size wr rfl _ _ rfl _ (PM.be n j) _ (UInt8.ofNat j) rfl rfl rfl ?_ hs (by rw [PM.be_length]; omega) hB.size ?_; (rw [e8, PM.be_length]; omega); intro v4 w4 ho4 hB4; replace hB4 := hB.trans hB4))
      go_ret
      exact ⟨v4, rfl, by unfold PM.numB; rw [← hjw]; exact ho4, hB4⟩
theorem rfbytes_any (bv : Value) (m : List UInt8) (w : World) (hb : PM.BS w bv m) (hm : m.length ≤ 35184372088832) :
    Calls Try.prog 63 #[bv] w (PM.RetB 5 w.heap.size w (PM.bytesB m)) := by
  have hw := PM.wid_le m.length (by omega)
  obtain ⟨a', cap', rfl⟩ := hb.len
  go_enter Try.func63, Try.ntmps63
  go_wp2_with fail
  refine (rfnumber_any m.length (by omega) _).mono ?_
  rintro e w2 ⟨v2, rfl, ho2, hB2⟩
  have hs2 := hb.keep hB2
  go_wp2_with (at_builtin; refine PM.wpList_app bty w.heap.size rfl _ _ rfl v2 _ _ m rfl rfl ho2 hs2 (by simp [PM.numB_length]; omega) hB2.size ?_; intro v3 w3 hown3 hB3 _; replace hB3 := hB2.trans hB3)
  go_ret
  exact ⟨v3, rfl, by simpa [PM.bytesB] using hown3, hB3⟩
theorem rfsigned_any (k n : Int) (s : ByteArray) (q : Nat) (hq : q = if k = 1 then PM.foldZ n else PM.u64 n) (h1 : -9223372036854775808 ≤ n) (h2 : n ≤ 9223372036854775807) (w : World) :
    Calls Try.prog 111 #[.agg #[.int .i64 k, .int .i64 n, .string s]] w fun e w' => e = .returned (.int .u64 (q : Nat)) ∧ Below w.heap.size w w' := by
  have Hq := Lib.hid hq
  clear hq
  by_cases hk : k = 1
  · subst hk
    by_cases hn : n < 0
    · go_enter Try.func111, Try.ntmps111
      go_wp2
      go_ret
      refine ⟨PM.ret_int ?_, by go_grown⟩
      rw [Hq.out, if_pos trivial]
      unfold PM.foldZ
      rw [if_pos hn]
      omega
    · go_enter Try.func111, Try.ntmps111
      go_wp2
      go_ret
      refine ⟨PM.ret_int ?_, by go_grown⟩
      rw [Hq.out, if_pos trivial]
      unfold PM.foldZ
      rw [if_neg (by omega)]
      omega
  · go_enter Try.func111, Try.ntmps111
    go_wp2
    go_ret
    refine ⟨PM.ret_int ?_, by go_grown⟩
    rw [Hq.out, if_neg hk, wrap_u64_eq]
set_option maxHeartbeats 1000000 in
theorem rfvalue_any (k n : Int) (s : ByteArray) (w : World) (hs : s.size ≤ 17592186044416)
    (hk1 : -9223372036854775808 ≤ k) (hk2 : k ≤ 9223372036854775807) (h1 : -9223372036854775808 ≤ n) (h2 : n ≤ 9223372036854775807) :
    Calls Try.prog 99 #[.agg #[.int .i64 k, .int .i64 n, .string s]] w (PM.RetB 5 w.heap.size w (PM.valB k n s.data.toList)) := by
  have hs' : s.size ≤ 140737488355328 := by omega
  have hwk := PM.wid_le _ (PM.u64_lt k)
  have hwn := PM.wid_le _ (PM.u64_lt n)
  have hwf := PM.wid_le _ (PM.foldZ_lt n h1 h2)
  obtain ⟨q, hq⟩ : ∃ q : Nat, q = if k = 1 then PM.foldZ n else PM.u64 n := ⟨_, rfl⟩
  have hq64 : q < 2 ^ 64 := by rw [hq]; split; exact PM.foldZ_lt n h1 h2; exact PM.u64_lt _
  have hwq := PM.wid_le q hq64
  have Hq := Lib.hid hq
  clear hq
  go_enter Try.func99, Try.ntmps99
  go_wp2_with fail
  obtain ⟨wa, hwa⟩ : ∃ x, x = w.alloc (.cells #[.int .i64 k, .int .i64 n, .string s] 134) := ⟨_, rfl⟩
  have hBa : Below w.heap.size w wa := by rw [hwa]; go_grown
  have B0 : PM.Blk wa w.heap.size #[.int .i64 k, .int .i64 n, .string s] := by rw [hwa]; exact PM.Blk.new _ _ _ _
  have c0 : wa.cell? ⟨w.heap.size, 0, none⟩ = some (.int .i64 k) := B0.cell 0
  have c1 : wa.cell? ⟨w.heap.size, 1, none⟩ = some (.int .i64 n) := B0.cell 1
  have c2 : wa.cell? ⟨w.heap.size, 2, none⟩ = some (.string s) := B0.cell 2
  rw [← hwa]
  clear hwa
  refine PM.wp_region_st2 7 [some 4, some 5, some 6, some 7, some 8, some 9, some 10, some 11, some 3] [fun x _ => x = .pointer (some ⟨w.heap.size, 0, none⟩), fun x _ => x = .int .i64 k, fun x _ => x = .int .u64 (PM.u64 k : Nat), fun x w' => PM.OW 5 wa.heap.size w' x (PM.numB (PM.u64 k)), fun x _ => x = .agg #[.int .i64 k, .int .i64 n, .string s], fun x _ => x = .int .u64 (q : Nat), fun x w' => PM.BS w' x (PM.numB q)] (by kernel_rfl) (by kernel_rfl) (by kernel_rfl) (by kernel_rfl) (by kernel_rfl) (of_decide_eq_true (by kernel_rfl)) (by kernel_rfl) ?_ ?_ ?_
  · simp only [List.forall_mem_cons]
    refine ⟨?_, ?_, ?_, ?_, ?_, ?_, ?_, by simp⟩
    all_goals (intro x W W' h hb; first | exact h | exact PM.BS.keep hb h | exact PM.OW.keep hb h)
  · refine ⟨?_, ?_, ?_, ?_, ?_, ?_, ?_, trivial⟩
    all_goals
      intro a W hB hF hd
      have k1 := hF 1 rfl
      have c0' := PM.cellB hB c0
      have c1' := PM.cellB hB c1
      have c2' := PM.cellB hB c2
      clear hF
      simp [PM.depsL, PM.spec, PM.sl, Region.binds] at hd k1
      simp only [PM.wantL, PM.spec]
      try simp only [PM.sl]
      go_simp
    all_goals try exact Below.refl _ _
    · exact ⟨Below.refl _ _, by rw [wrap_u64_eq]⟩
    · refine (rfnumber_any (PM.u64 k) (PM.u64_lt _) W).mono ?_
      rintro e w' ⟨v', rfl, ho, hb⟩
      exact ⟨hb, v', rfl, ho.mono hB.size⟩
    · refine (rfsigned_any k n s q Hq.out h1 h2 W).mono ?_
      rintro e w' ⟨rfl, hb⟩
      first | exact ⟨hb, rfl⟩ | exact ⟨hb, _, rfl, rfl⟩ | exact hb
    · refine (rfnumber_any q hq64 W).mono ?_
      rintro e w' ⟨v', rfl, ho, hb⟩
      exact ⟨hb, v', rfl, ho.bs⟩
  · intro G W hB hF hS
    simp [PM.allSp, PM.spec] at hS
    have q1 := hF 1 rfl
    simp [PM.sl] at q1
    obtain ⟨_, _, _, ho7, _, _, hb10⟩ := hS
    have hC := PM.chain hBa hB
    have c2' := PM.cellB hB c2
    rw [show ((List.range (Array.size _)).map G).toArray = #[G 0, G 1, G 2, G 3, G 4, G 5, G 6, G 7, G 8, G 9, G 10, G 11, G 12, G 13, G 14, G 15, G 16, G 17] from rfl, q1]
    clear hF q1
    refine PM.wpList_app bty wa.heap.size rfl _ _ rfl _ _ _ _ rfl rfl ho7 hb10 (by simp [PM.numB_length]; omega) hB.size ?_
    intro v3 w3 ho3 hB3 hg3
    have kc := PM.run_conv bty Try.underlying9
    have hC3 := PM.chain hBa (hB.trans hB3)
    have c2'' : w3.cell? ⟨w.heap.size, 2, none⟩ = some (.string s) := by rw [hB3.cell (World.block_lt_of_cell? wa _ c2)]; exact c2'
    go_wp2_with fail
    refine (rfbytes_any _ _ _ (PM.convW_bs _ _ _ hs') (by rw [← PM.size_len]; omega)).mono ?_
    rintro e w4 ⟨v4, rfl, ho4, hB4⟩
    have hB4' := PM.chain (PM.convW_below 5 w3 s) hB4
    have hC4 := PM.chain hC3 hB4'
    have ho3' := ho3.keep hB4'
    have hs4 := ho4.bs
    have hz4 : wa.heap.size ≤ w4.heap.size := Nat.le_trans (Nat.le_trans hB.size hB3.size) hB4'.size
    clear hg3
    have hlen : (PM.numB (PM.u64 k) ++ PM.numB q).length + (PM.bytesB s.data.toList).length ≤ 140737488355328 := by
      have h9 := PM.wid_le s.data.toList.length (by rw [← PM.size_len]; omega)
      rw [← PM.size_len] at h9
      unfold PM.bytesB
      rw [List.length_append, PM.numB_length, PM.numB_length, List.length_append, PM.numB_length, ← PM.size_len]
      omega
    go_wp2_with (at_builtin; refine PM.wpList_app bty wa.heap.size rfl _ _ rfl v3 _ _ _ rfl rfl ho3' hs4 hlen hz4 ?_; intro v5 w5 ho5 hB5 _)
    go_ret
    exact ⟨v5, rfl, by have := ho5.mono hBa.size; have h := Hq.out; unfold PM.valB; rw [← h]; exact this, hC4.trans (hB5.mono hBa.size)⟩

end Go.Proofs.Ytokfookandfemaa

/-
  CONTRACTS OF package postilionref02: unpacking.
-/
namespace Go.Proofs.Ytokfookandfemaa
open Go.RowKit
set_option linter.unusedVariables false
namespace PM
/-- the number that bytes begin with, and how many bytes it has -/
def getK (l : List UInt8) : Nat × Nat := match getN l with | some (n, r) => (n, l.length - r.length) | none => (0, 0)
theorem getK_nil : getK [] = (0, 0) := rfl
theorem getK_no (s : UInt8) (r : List UInt8) (h : ¬ (s.toNat ≤ 8 ∧ s.toNat ≤ r.length ∧ wid (bval (r.take s.toNat)) = s.toNat)) : getK (s :: r) = (0, 0) := by
  unfold getK getN
  simp only [h, if_false]
theorem getK_yes (s : UInt8) (r : List UInt8) (h8 : s.toNat ≤ 8) (hr : s.toNat ≤ r.length) (hw : wid (bval (r.take s.toNat)) = s.toNat) : getK (s :: r) = (bval (r.take s.toNat), 1 + s.toNat) := by
  unfold getK getN
  simp only [h8, hr, hw, and_self, if_true]
  congr 1
  simp; omega
theorem numB_take (s : UInt8) (r : List UInt8) (h8 : s.toNat ≤ 8) (hr : s.toNat ≤ r.length) : numB (bval (r.take s.toNat)) = (s :: r).take (1 + s.toNat) ↔ wid (bval (r.take s.toNat)) = s.toNat := by
  have hlt := bval_lt (r.take s.toNat)
  have hle : (r.take s.toNat).length = s.toNat := List.length_take_of_le hr
  have hp : (256 : Nat) ^ (r.take s.toNat).length ≤ 256 ^ 8 := Nat.pow_le_pow_right (by omega) (by omega)
  constructor
  · intro h
    have h1 := congrArg List.length h
    rw [numB_length, List.length_take] at h1
    simp at h1
    omega
  · intro h
    have hg : getN (s :: r) = some (bval (r.take s.toNat), r.drop s.toNat) := by
      unfold getN; simp only [h8, hr, h, and_self, if_true]
    have h2 := getN_back hg
    have h3 : (numB (bval (r.take s.toNat))).length = 1 + s.toNat := by rw [numB_length, h]; omega
    rw [h2, ← h3, List.take_left]
end PM
set_option maxHeartbeats 1000000 in
theorem rget_any (v : Value) (l : List UInt8) (w : World) (hv : PM.BS w v l) (hl : l.length ≤ 70368744177664) :
    Calls Try.prog 70 #[v] w fun e w' => e = .returned (.tuple #[.int .u64 ((PM.getK l).1 : Nat), .int .i64 ((PM.getK l).2 : Nat)]) ∧ Below w.heap.size w w' := by
  rcases l with _ | ⟨s, r⟩
  · obtain ⟨a, cap, rfl⟩ := hv.len
    go_enter Try.func70, Try.ntmps70
    go_wp2
    go_ret2
    exact ⟨rfl, Below.refl _ _⟩
  rcases hv with ⟨_, hc⟩ | ⟨vb, off, cap, rfl, hcap, hmax, hcell⟩ | ⟨_, _, _, hc, _⟩
  · cases hc
  case inr.inr => cases hc
  have e0 : w.cell? ⟨vb, off, none⟩ = some (.int .u8 (s.toNat : Int)) := hcell 0 s rfl
  have hne : (((s :: r).length : Int) == 0) = false := by simp; omega
  have hs256 := s.toNat_lt
  have hL : ((s :: r).length : Int) = (r.length : Int) + 1 := by simp
  have hne2 : (((r.length : Int) + 1) == 0) = false := by rw [beq_eq_false_iff_ne]; omega
  have hp0 : (0 : Int) < ((s :: r).length : Int) := by rw [hL]; omega
  unfold maxLen at hmax
  have hrl : r.length < 9223372036854775807 := by simp at hcap; omega
  by_cases h8 : s.toNat ≤ 8
  case neg =>
    have h8' : (8 : Int) < (s.toNat : Int) := by omega
    rw [PM.getK_no s r (fun h => h8 h.1)]
    go_enter Try.func70, Try.ntmps70
    go_wp2
    go_ret2
    exact ⟨rfl, Below.refl _ _⟩
  have h8' : ¬ ((8 : Int) < (s.toNat : Int)) := by omega
  by_cases hr : s.toNat ≤ r.length
  case neg =>
    have hr' : ((s :: r).length : Int) < 1 + (s.toNat : Int) := by rw [hL]; omega
    have hr2 : (r.length : Int) + 1 < 1 + (s.toNat : Int) := by omega
    rw [PM.getK_no s r (fun h => hr h.2.1)]
    go_enter Try.func70, Try.ntmps70
    go_wp2
    go_ret2
    exact ⟨rfl, Below.refl _ _⟩
  have hr' : ¬ (((s :: r).length : Int) < 1 + (s.toNat : Int)) := by rw [hL]; omega
  have hr2 : ¬ ((r.length : Int) + 1 < 1 + (s.toNat : Int)) := by omega
  have hpow : (256 : Nat) ^ s.toNat ≤ 256 ^ 8 := Nat.pow_le_pow_right (by omega) h8
  have hbl : ∀ k, k ≤ s.toNat → PM.bval (r.take k) < 256 ^ k := fun k hk => by
    have := PM.bval_lt (r.take k)
    rwa [List.length_take_of_le (by omega)] at this
  have HBL := Lib.hid hbl
  have Hcmp : Hid ((PM.numB (PM.bval (r.take s.toNat)) == (s :: r).take (1 + s.toNat)) = decide (PM.wid (PM.bval (r.take s.toNat)) = s.toNat)) := Lib.hid (by rw [Bool.eq_iff_iff, beq_iff_eq, decide_eq_true_eq]; exact PM.numB_take s r h8 hr)
  have hcap2 : r.length + 1 ≤ cap := by simpa using hcap
  have Htake := Lib.hid (PM.BS.take (w := w) (k := 1 + s.toNat) hcap (by unfold maxLen; exact hmax) hcell (by simp; omega))
  have HC := Lib.hid hcell
  clear hbl hcell
  go_enter Try.func70, Try.ntmps70
  go_wp2_with fail
  go_loop [4, 5] (fun n i => ∃ k : Nat, k ≤ s.toNat ∧ i = .int .i64 (1 + (k : Int)) ∧ n = .int .u64 (PM.bval (r.take k) : Nat)) (fun _ i => 1 + s.toNat - (intOf i).toNat)
  case atStart => exact ⟨0, by omega, rfl, rfl⟩
  case round =>
    obtain ⟨k, hk, rfl, rfl⟩ := hrel
    by_cases hlt : k < s.toNat
    · have hb1 := HBL.out k hk
      have hp : (256 : Nat) ^ k ≤ 256 ^ 7 := Nat.pow_le_pow_right (by omega) (by omega)
      have hb2 : PM.bval (r.take k) < 72057594037927936 := by omega
      clear hb1 hp
      have hkr : k < r.length := by omega
      have hck : w.cell? ⟨vb, off + (1 + k), none⟩ = some (.int .u8 ((r[k]).toNat : Int)) := HC.out (1 + k) r[k] (by rw [Nat.add_comm 1 k]; simp [hkr])
      have hx := (r[k]).toNat_lt
      have hi1 : (1 + (k : Int)).toNat = 1 + k := by omega
      have hi2 : 1 + (k : Int) ≤ (s.toNat : Int) := by omega
      have hi3 : 1 + (k : Int) < (r.length : Int) + 1 := by omega
      go_wp2_with fail
      go_round
      case rel => exact ⟨k + 1, by omega, by go_num, by rw [PM.take_snoc r k hkr, PM.bval_snoc]; go_num⟩
      case measure => simp [intOf]; omega
    · obtain rfl : k = s.toNat := by omega
      have hb1 := HBL.out s.toNat (by omega)
      have hb64 : PM.bval (r.take s.toNat) < 2 ^ 64 := by omega
      have hi2 : ¬ (1 + (s.toNat : Int) ≤ (s.toNat : Int)) := by omega
      clear hb1 hpow
      go_wp2_with fail
      refine PM.wp_region_st [some 47, some 48, some 49, some 50, some 51, some 52, some 53, some 54] [fun x _ => x = .int .u64 (PM.bval (r.take s.toNat) : Nat), fun x w' => PM.BS w' x (PM.numB (PM.bval (r.take s.toNat))), fun x _ => x = .string ⟨(PM.numB (PM.bval (r.take s.toNat))).toArray⟩, fun x _ => x = .slice (some ⟨vb, off, none⟩) (s :: r).length cap, fun x _ => x = .int .i64 (1 + (s.toNat : Int)), fun x w' => PM.BS w' x ((s :: r).take (1 + s.toNat)), fun x _ => x = .string ⟨((s :: r).take (1 + s.toNat)).toArray⟩, fun x _ => x = .bool (!decide (PM.wid (PM.bval (r.take s.toNat)) = s.toNat))] (by kernel_rfl) (by kernel_rfl) (by kernel_rfl) ?_ ?_ ?_
      · simp only [List.forall_mem_cons]
        refine ⟨?_, ?_, ?_, ?_, ?_, ?_, ?_, ?_, by simp⟩
        all_goals (intro x W W' h hb; first | exact h | exact PM.BS.keep hb h | exact PM.OW.keep hb h)
      · refine ⟨?_, ?_, ?_, ?_, ?_, ?_, ?_, ?_, trivial⟩
        all_goals
          intro a W hB hF hd
          have k0 := hF 0 rfl
          have k4 := hF 4 rfl
          have k6 := hF 6 rfl
          clear hF
          simp [PM.depsL, PM.spec, PM.sl, Region.binds] at hd k0 k4 k6
          simp only [PM.wantL, PM.spec]
          try simp only [PM.sl]
          first | (have kc := PM.run_str bty Try.underlying9 hd) | (have kc := PM.run_str bty Try.underlying9 hd.1) | skip
          go_simp
        all_goals try exact Below.refl _ _
        · refine (rfnumber_any _ hb64 W).mono ?_
          rintro e w' ⟨v', rfl, ho, hb⟩
          exact ⟨hb, v', rfl, ho.bs⟩
        · have hT := (Htake.out).keep hB
          have e1 : (1 + (s.toNat : Int)) = ((1 + s.toNat : Nat) : Int) := by omega
          rw [if_pos (show 0 ≤ 1 + (s.toNat : Int) ∧ 1 + (s.toNat : Int) ≤ (cap : Int) from by omega), show (1 + (s.toNat : Int)).toNat = 1 + s.toNat from by omega]
          exact ⟨Below.refl _ _, _, rfl, hT⟩
        · refine ⟨Below.refl _ _, ?_⟩
          rw [Hcmp.out]
      · intro G W hB hF hS
        simp [PM.allSp, PM.spec] at hS
        have q4 := hF 4 rfl
        have q6 := hF 6 rfl
        have q54 : G 54 = .bool (!decide (PM.wid (PM.bval (r.take s.toNat)) = s.toNat)) := by simp [hS]
        simp [PM.sl] at q4 q6
        rw [show ((List.range (Array.size _)).map G).toArray = #[G 0, G 1, G 2, G 3, G 4, G 5, G 6, G 7, G 8, G 9, G 10, G 11, G 12, G 13, G 14, G 15, G 16, G 17, G 18, G 19, G 20, G 21, G 22, G 23, G 24, G 25, G 26, G 27, G 28, G 29, G 30, G 31, G 32, G 33, G 34, G 35, G 36, G 37, G 38, G 39, G 40, G 41, G 42, G 43, G 44, G 45, G 46, G 47, G 48, G 49, G 50, G 51, G 52, G 53, G 54, G 55, G 56] from rfl, q4, q6, q54]
        clear hF hS q4 q6 q54
        by_cases hw : PM.wid (PM.bval (r.take s.toNat)) = s.toNat
        · have hwB : (!decide (PM.wid (PM.bval (r.take s.toNat)) = s.toNat)) = false := by simp [hw]
          rw [hwB]
          go_wp2
          go_ret2
          rw [PM.getK_yes s r h8 hr hw]
          exact ⟨by simp, hB⟩
        · have hwB : (!decide (PM.wid (PM.bval (r.take s.toNat)) = s.toNat)) = true := by simp [hw]
          rw [hwB]
          go_wp2
          go_ret2
          rw [PM.getK_no s r (fun h => hw h.2.2)]
          exact ⟨rfl, hB⟩

end Go.Proofs.Ytokfookandfemaa

/-
  CONTRACTS OF package postilionref02: bytes that are unpacked.
-/
namespace Go.Proofs.Ytokfookandfemaa
open Go.RowKit
set_option linter.unusedVariables false
namespace PM
theorem BS.sub {w : World} {b off cap k n : Nat} {l : List UInt8} (h1 : l.length ≤ cap) (h2 : cap ≤ maxLen) (h3 : ∀ i x, l[i]? = Option.some x → w.cell? ⟨b, off + i, Option.none⟩ = Option.some (bv x)) (hk : k + n ≤ l.length) :
    BS w (.slice (Option.some ⟨b, off + k, Option.none⟩) n (cap - k)) ((l.drop k).take n) ∧ (cap = k → BS w (.slice (Option.some ⟨b, off, Option.none⟩) n (cap - k)) ((l.drop k).take n)) := by
  have hlen : ((l.drop k).take n).length = n := by rw [List.length_take, List.length_drop]; omega
  constructor
  · refine .inr (.inl ⟨b, off + k, cap - k, by rw [hlen], by rw [hlen]; omega, by omega, fun i x hi => ?_⟩)
    have hi' := (List.getElem?_eq_some_iff.1 hi).1
    rw [hlen] at hi'
    rw [List.getElem?_take_of_lt hi', List.getElem?_drop] at hi
    rw [Nat.add_assoc]
    exact h3 _ _ hi
  · intro e
    have hn : n = 0 := by omega
    subst hn
    exact .inr (.inr ⟨_, _, rfl, by simp, by omega⟩)
theorem getK_lt (l : List UInt8) : (getK l).1 < 2 ^ 64 ∧ (getK l).2 ≤ l.length := by
  unfold getK
  cases hg : getN l with
  | none => simp
  | some p => obtain ⟨n, r⟩ := p; have := getN_lt hg; simp only; omega
/-- the bytes that bytes begin with, and how many these have in all -/
def getB (l : List UInt8) (most : Int) : List UInt8 × Nat :=
  if (getK l).2 = 0 ∨ most < 0 ∨ most.toNat < (getK l).1 ∨ l.length - (getK l).2 < (getK l).1 then ([], 0) else ((l.drop (getK l).2).take (getK l).1, (getK l).2 + (getK l).1)
end PM
set_option maxHeartbeats 1000000 in
theorem rgetB_any (v : Value) (l : List UInt8) (most : Int) (w : World) (hv : PM.BS w v l) (hl : l.length ≤ 70368744177664) (hm1 : -9223372036854775808 ≤ most) (hm2 : most ≤ 9223372036854775807) :
    Calls Try.prog 73 #[v, .int .i64 most] w fun e w' => ∃ x, e = .returned (.tuple #[x, .int .i64 ((PM.getB l most).2 : Nat)]) ∧ PM.BS w' x (PM.getB l most).1 ∧ Below w.heap.size w w' := by
  have hv0 := hv
  have hlt := PM.getK_lt l
  have HE : Hid (PM.getB l most = if (PM.getK l).2 = 0 ∨ most < 0 ∨ most.toNat < (PM.getK l).1 ∨ l.length - (PM.getK l).2 < (PM.getK l).1 then ([], 0) else ((l.drop (PM.getK l).2).take (PM.getK l).1, (PM.getK l).2 + (PM.getK l).1)) := Lib.hid rfl
  obtain ⟨a, cap, rfl⟩ := hv.len
  go_enter Try.func73, Try.ntmps73
  go_wp2_with fail
  refine (rget_any _ l _ hv0 hl).mono ?_
  rintro e w1 ⟨rfl, hB⟩
  generalize PM.getK l = g at *
  obtain ⟨n, k⟩ := g
  simp only at hlt ⊢
  obtain ⟨hn, hk⟩ := hlt
  by_cases c1 : k = 0
  · subst c1
    have Hst : Hid (PM.getB l most = ([], 0)) := Lib.hid (by rw [HE.out]; simp)
    go_wp2
    go_ret2
    rw [Hst.out]
    exact ⟨_, rfl, PM.BS.nil _, hB⟩
  have c1' : ((k : Int) == 0) = false := by rw [beq_eq_false_iff_ne]; omega
  by_cases c2 : most < 0
  · have Hst : Hid (PM.getB l most = ([], 0)) := Lib.hid (by rw [HE.out]; simp [c2])
    go_wp2
    go_ret2
    rw [Hst.out]
    exact ⟨_, rfl, PM.BS.nil _, hB⟩
  obtain ⟨m, rfl⟩ := Int.eq_ofNat_of_zero_le (show 0 ≤ most by omega)
  by_cases c3 : m < n
  · have c3' : (m : Int) < (n : Int) := by omega
    have Hst : Hid (PM.getB l m = ([], 0)) := Lib.hid (by rw [HE.out]; simp [c3])
    go_wp2
    go_ret2
    rw [Hst.out]
    exact ⟨_, rfl, PM.BS.nil _, hB⟩
  have c3' : ¬ ((m : Int) < (n : Int)) := by omega
  by_cases c4 : l.length - k < n
  · have c4' : (l.length : Int) - (k : Int) < (n : Int) := by omega
    have Hst : Hid (PM.getB l m = ([], 0)) := Lib.hid (by rw [HE.out]; simp [c4])
    go_wp2
    go_ret2
    rw [Hst.out]
    exact ⟨_, rfl, PM.BS.nil _, hB⟩
  have c4' : ¬ ((l.length : Int) - (k : Int) < (n : Int)) := by omega
  have Hst : Hid (PM.getB l m = ((l.drop k).take n, k + n)) := Lib.hid (by rw [HE.out, if_neg (by simp only [Int.toNat_natCast]; omega)])
  rcases hv with ⟨he, rfl⟩ | ⟨vb, off, cap', he, hcap, hmax, hcell⟩ | ⟨x0, cap', he, rfl, hmax⟩
  · exact absurd (by simpa using hk) c1
  case inr.inr => exact absurd (by simpa using hk) c1
  simp at he
  obtain ⟨rfl, rfl⟩ := he
  have Hsub := Lib.hid (PM.BS.sub hcap hmax hcell (k := k) (n := n) (by omega))
  unfold maxLen at hmax
  clear hcell
  have e1 : wrap64 (n : Int) = (n : Int) := by unfold wrap64; omega
  have hn63 : n ≤ 70368744177664 := by omega
  by_cases hc : cap = k
  · have Hc := Lib.hid hc
    subst hc
    go_wp2
    go_ret2
    rw [Hst.out]
    have := (Hsub.out.2 (by first | trivial | rfl)).keep hB
    exact ⟨_, rfl, by simpa using this, hB⟩
  · go_wp2
    go_ret2
    rw [Hst.out]
    have := (Hsub.out.1).keep hB
    exact ⟨_, rfl, by simpa using this, hB⟩
end Go.Proofs.Ytokfookandfemaa

/-
  CONTRACTS OF package postilionref02: a value that is unpacked.
-/
namespace Go.Proofs.Ytokfookandfemaa
open Go.RowKit
set_option linter.unusedVariables false
namespace PM
/-- the value that bytes begin with, and how many bytes it has in all -/
def getV (l : List UInt8) : (Int × Int × List UInt8) × Nat :=
  let a := getK l
  let c := getK (l.drop a.2)
  let d := getB (l.drop (a.2 + c.2)) 40
  if a.2 = 0 ∨ 3 < a.1 ∨ c.2 = 0 ∨ d.2 = 0 then ((0, 0, []), 0)
  else if may a.1 (pickZ a.1 c.1) d.1 = true then (((a.1 : Int), pickZ a.1 c.1, d.1), a.2 + c.2 + d.2) else ((0, 0, []), 0)
theorem getV_eq (l s : List UInt8) (n1 k1 n2 k2 k3 : Nat) (h1 : getK l = (n1, k1)) (h2 : getK (l.drop k1) = (n2, k2)) (h3 : getB (l.drop (k1 + k2)) 40 = (s, k3)) :
    getV l = if k1 = 0 ∨ 3 < n1 ∨ k2 = 0 ∨ k3 = 0 then ((0, 0, []), 0) else if may n1 (pickZ n1 n2) s = true then (((n1 : Int), pickZ n1 n2, s), k1 + k2 + k3) else ((0, 0, []), 0) := by
  unfold getV
  simp only [h1, h2, h3]
theorem getB_lt (l : List UInt8) (m : Int) : (getB l m).2 ≤ l.length ∧ (getB l m).1.length ≤ l.length := by
  have h := getK_lt l
  unfold getB
  split
  · simp
  · simp only [List.length_take, List.length_drop]; omega
end PM
end Go.Proofs.Ytokfookandfemaa

/-
  CONTRACT OF postilionref02.GetValue.
-/
namespace Go.Proofs.Ytokfookandfemaa
open Go.RowKit
set_option linter.unusedVariables false
set_option maxRecDepth 100000 in
set_option maxHeartbeats 4000000 in
theorem rgetV_any (v : Value) (l : List UInt8) (w : World) (hv : PM.BS w v l) (hl : l.length ≤ 70368744177664) :
    Calls Try.prog 113 #[v] w fun e w' => e = .returned (.tuple #[.agg #[.int .i64 (PM.getV l).1.1, .int .i64 (PM.getV l).1.2.1, .string ⟨(PM.getV l).1.2.2.toArray⟩], .int .i64 ((PM.getV l).2 : Nat)]) ∧ Below w.heap.size w w' := by
  have hv0 := hv
  obtain ⟨n1, k1, g1⟩ : ∃ n k, PM.getK l = (n, k) := ⟨_, _, rfl⟩
  obtain ⟨n2, k2, g2⟩ : ∃ n k, PM.getK (l.drop k1) = (n, k) := ⟨_, _, rfl⟩
  obtain ⟨s3, k3, g3⟩ : ∃ s k, PM.getB (l.drop (k1 + k2)) 40 = (s, k) := ⟨_, _, rfl⟩
  have lt1 := PM.getK_lt l
  have lt2 := PM.getK_lt (l.drop k1)
  have lt3 := PM.getB_lt (l.drop (k1 + k2)) 40
  rw [g1] at lt1
  rw [g2, List.length_drop] at lt2
  rw [g3, List.length_drop] at lt3
  simp only at lt1 lt2 lt3
  obtain ⟨hn1, hk1⟩ := lt1
  obtain ⟨hn2, hk2⟩ := lt2
  obtain ⟨hk3, hs3⟩ := lt3
  have HE := Lib.hid (PM.getV_eq l s3 n1 k1 n2 k2 k3 g1 g2 g3)
  have G1 := Lib.hid g1
  have G2 := Lib.hid g2
  have G3 := Lib.hid g3
  clear g1 g2 g3
  obtain ⟨a, cap, rfl⟩ := hv.len
  go_enter Try.func113, Try.ntmps113
  go_wp2_with fail
  obtain ⟨wa, hwa⟩ : ∃ x, x = w.alloc (.cells #[.int .i64 0, .int .i64 0, .string ⟨#[]⟩] 134) := ⟨_, rfl⟩
  have hBa : Below w.heap.size w wa := by rw [hwa]; go_grown
  have ZR : PM.BK wa w.heap.size #[.int .i64 0, .int .i64 0, .string ⟨#[]⟩] 134 := by rw [hwa]; exact PM.BK.new _ _ _
  have hza : wa.heap.size = w.heap.size + 1 := by rw [hwa]; simp
  rw [← hwa]
  clear hwa
  refine (rget_any _ l _ (hv0.keep hBa) hl).mono ?_
  rintro e w1 ⟨rfl, hB1⟩
  replace ZR := ZR.keep hB1
  have hz1 : w.heap.size + 1 ≤ w1.heap.size := by have := hB1.size; omega
  replace hB1 := PM.chain hBa hB1
  clear hBa hza
  rw [G1.out]
  have z0 := ZR.cell 0
  have z1 := ZR.cell 1
  have z2 := ZR.cell 2
  have y0 := ZR.free 0
  have y1 := ZR.free 1
  have y2 := ZR.free 2
  by_cases c1 : k1 = 0
  · subst c1
    have Hst : Hid (PM.getV l = ((0, 0, []), 0)) := Lib.hid (by rw [HE.out]; simp)
    go_wp2
    have ZF := ZR.set3 (.int .i64 0) (.int .i64 0) (.string ⟨#[]⟩)
    have hBF := ((hB1.setCell (p := ⟨w.heap.size, 0, none⟩) (Nat.le_refl _) (.int .i64 0)).setCell (p := ⟨w.heap.size, 1, none⟩) (Nat.le_refl _) (.int .i64 0)).setCell (p := ⟨w.heap.size, 2, none⟩) (Nat.le_refl _) (.string ⟨#[]⟩)
    generalize (((w1.setCell ⟨w.heap.size, 0, none⟩ (.int .i64 0)).setCell ⟨w.heap.size, 1, none⟩ (.int .i64 0)).setCell ⟨w.heap.size, 2, none⟩ (.string ⟨#[]⟩)) = wf at *
    have q0 := ZF.cell 0
    have q1 := ZF.cell 1
    have q2 := ZF.cell 2
    rw [Hst.out]
    exact bodyPost_ret (v := .tuple #[.agg #[.int .i64 0, .int .i64 0, .string ⟨[].toArray⟩], .int .i64 0]) (by simp [results, Try.results113, go_sem, q0, q1, q2]) rfl ⟨rfl, hBF⟩
  have c1' : ((k1 : Int) == 0) = false := by rw [beq_eq_false_iff_ne]; omega
  by_cases c2 : 3 < n1
  · have c2' : (3 : Int) < (n1 : Int) := by omega
    have Hst : Hid (PM.getV l = ((0, 0, []), 0)) := Lib.hid (by rw [HE.out]; simp [c2])
    go_wp2
    have ZF := ZR.set3 (.int .i64 0) (.int .i64 0) (.string ⟨#[]⟩)
    have hBF := ((hB1.setCell (p := ⟨w.heap.size, 0, none⟩) (Nat.le_refl _) (.int .i64 0)).setCell (p := ⟨w.heap.size, 1, none⟩) (Nat.le_refl _) (.int .i64 0)).setCell (p := ⟨w.heap.size, 2, none⟩) (Nat.le_refl _) (.string ⟨#[]⟩)
    generalize (((w1.setCell ⟨w.heap.size, 0, none⟩ (.int .i64 0)).setCell ⟨w.heap.size, 1, none⟩ (.int .i64 0)).setCell ⟨w.heap.size, 2, none⟩ (.string ⟨#[]⟩)) = wf at *
    have q0 := ZF.cell 0
    have q1 := ZF.cell 1
    have q2 := ZF.cell 2
    rw [Hst.out]
    exact bodyPost_ret (v := .tuple #[.agg #[.int .i64 0, .int .i64 0, .string ⟨[].toArray⟩], .int .i64 0]) (by simp [results, Try.results113, go_sem, q0, q1, q2]) rfl ⟨rfl, hBF⟩
  have c2' : ¬ ((3 : Int) < (n1 : Int)) := by omega
  rcases hv with ⟨he, rfl⟩ | ⟨vb, off, cap', he, hcap, hmax, hcell⟩ | ⟨x0, cap', he, rfl, hmax⟩
  · exact absurd (by simpa using hk1) c1
  case inr.inr => exact absurd (by simpa using hk1) c1
  simp at he
  obtain ⟨rfl, rfl⟩ := he
  have Hcut := Lib.hid (PM.BS.cut hcap hmax hcell hk1)
  have Hcut2 := Lib.hid (PM.BS.cut hcap hmax hcell (show k1 + k2 ≤ l.length by omega))
  unfold maxLen at hmax
  clear hcell
  clear z0 z1 z2 y0 y1 y2
  have HS : Hid (∀ (x : Value) (W : World) (_ : Below w.heap.size w W) (_ : PM.BS W x (l.drop k1)), Calls Try.prog 70 #[x] W fun e w' => e = .returned (.tuple #[.int .u64 (n2 : Nat), .int .i64 (k2 : Nat)]) ∧ Below W.heap.size W w') := Lib.hid fun x W _ hx => by
    have := rget_any x (l.drop k1) W hx (by rw [List.length_drop]; omega)
    rw [G2.out] at this
    exact this
  by_cases hc : cap = k1
  · have hlk : k1 = l.length := by omega
    have hk20 : k2 = 0 := by omega
    have Hc := Lib.hid hc
    have Hlk := Lib.hid hlk
    have hx := (Hcut.out.2 hlk).keep hB1
    clear hlk
    subst hc
    go_wp2_with fail
    refine (HS.out _ _ hB1 (by rw [show l.length - cap = 0 from by omega] at hx; simpa using hx)).mono ?_
    rintro e w2 ⟨rfl, hB2⟩
    replace ZR := ZR.keep hB2
    have hB2' := PM.chain hB1 hB2
    clear hx
    subst hk20
    have z0 := ZR.cell 0
    have z1 := ZR.cell 1
    have z2 := ZR.cell 2
    have y0 := ZR.free 0
    have y1 := ZR.free 1
    have y2 := ZR.free 2
    have Hst : Hid (PM.getV l = ((0, 0, []), 0)) := Lib.hid (by rw [HE.out]; simp)
    go_wp2
    have ZF := ZR.set3 (.int .i64 0) (.int .i64 0) (.string ⟨#[]⟩)
    have hBF := ((hB2'.setCell (p := ⟨w.heap.size, 0, none⟩) (Nat.le_refl _) (.int .i64 0)).setCell (p := ⟨w.heap.size, 1, none⟩) (Nat.le_refl _) (.int .i64 0)).setCell (p := ⟨w.heap.size, 2, none⟩) (Nat.le_refl _) (.string ⟨#[]⟩)
    generalize (((w2.setCell ⟨w.heap.size, 0, none⟩ (.int .i64 0)).setCell ⟨w.heap.size, 1, none⟩ (.int .i64 0)).setCell ⟨w.heap.size, 2, none⟩ (.string ⟨#[]⟩)) = wf at *
    have q0 := ZF.cell 0
    have q1 := ZF.cell 1
    have q2 := ZF.cell 2
    rw [Hst.out]
    exact bodyPost_ret (v := .tuple #[.agg #[.int .i64 0, .int .i64 0, .string ⟨[].toArray⟩], .int .i64 0]) (by simp [results, Try.results113, go_sem, q0, q1, q2]) rfl ⟨rfl, hBF⟩
  have hx := (Hcut.out.1).keep hB1
  go_wp2_with fail
  refine (HS.out _ _ hB1 (by simpa using hx)).mono ?_
  rintro e w2 ⟨rfl, hB2⟩
  replace ZR := ZR.keep hB2
  have hz2 : w.heap.size + 1 ≤ w2.heap.size := Nat.le_trans hz1 hB2.size
  replace hB2 := PM.chain hB1 hB2
  clear hx hB1 hz1
  have z0 := ZR.cell 0
  have z1 := ZR.cell 1
  have z2 := ZR.cell 2
  have y0 := ZR.free 0
  have y1 := ZR.free 1
  have y2 := ZR.free 2
  by_cases c3 : k2 = 0
  · subst c3
    have Hst : Hid (PM.getV l = ((0, 0, []), 0)) := Lib.hid (by rw [HE.out]; simp)
    go_wp2
    have ZF := ZR.set3 (.int .i64 0) (.int .i64 0) (.string ⟨#[]⟩)
    have hBF := ((hB2.setCell (p := ⟨w.heap.size, 0, none⟩) (Nat.le_refl _) (.int .i64 0)).setCell (p := ⟨w.heap.size, 1, none⟩) (Nat.le_refl _) (.int .i64 0)).setCell (p := ⟨w.heap.size, 2, none⟩) (Nat.le_refl _) (.string ⟨#[]⟩)
    generalize (((w2.setCell ⟨w.heap.size, 0, none⟩ (.int .i64 0)).setCell ⟨w.heap.size, 1, none⟩ (.int .i64 0)).setCell ⟨w.heap.size, 2, none⟩ (.string ⟨#[]⟩)) = wf at *
    have q0 := ZF.cell 0
    have q1 := ZF.cell 1
    have q2 := ZF.cell 2
    rw [Hst.out]
    exact bodyPost_ret (v := .tuple #[.agg #[.int .i64 0, .int .i64 0, .string ⟨[].toArray⟩], .int .i64 0]) (by simp [results, Try.results113, go_sem, q0, q1, q2]) rfl ⟨rfl, hBF⟩
  have c3' : ((k2 : Int) == 0) = false := by rw [beq_eq_false_iff_ne]; omega
  clear z0 z1 z2 y0 y1 y2
  have HB3 : Hid (∀ (x : Value) (W : World) (_ : PM.BS W x (l.drop (k1 + k2))), Calls Try.prog 73 #[x, .int .i64 40] W fun e w' => ∃ x, e = .returned (.tuple #[x, .int .i64 (k3 : Nat)]) ∧ PM.BS w' x s3 ∧ Below W.heap.size W w') := Lib.hid fun x W hx => by
    have := rgetB_any x (l.drop (k1 + k2)) 40 W hx (by rw [List.length_drop]; omega) (by omega) (by omega)
    rw [G3.out] at this
    exact this
  by_cases hc2 : cap = k1 + k2
  · have hl2 : k1 + k2 = l.length := by omega
    have h30 : k3 = 0 := by omega
    have hx := (Hcut2.out.2 hl2).keep hB2
    clear hl2
    subst hc2
    subst h30
    go_wp2_with fail
    refine (HB3.out _ _ (by rw [show l.length - (k1 + k2) = 0 from by omega] at hx; simpa using hx)).mono ?_
    rintro e w3 ⟨x3, rfl, h3, hB3⟩
    replace ZR := ZR.keep hB3
    replace hB3 := PM.chain hB2 hB3
    clear hx
    have z0 := ZR.cell 0
    have z1 := ZR.cell 1
    have z2 := ZR.cell 2
    have y0 := ZR.free 0
    have y1 := ZR.free 1
    have y2 := ZR.free 2
    have Hst : Hid (PM.getV l = ((0, 0, []), 0)) := Lib.hid (by rw [HE.out]; simp)
    go_wp2
    have ZF := ZR.set3 (.int .i64 0) (.int .i64 0) (.string ⟨#[]⟩)
    have hBF := ((hB3.setCell (p := ⟨w.heap.size, 0, none⟩) (Nat.le_refl _) (.int .i64 0)).setCell (p := ⟨w.heap.size, 1, none⟩) (Nat.le_refl _) (.int .i64 0)).setCell (p := ⟨w.heap.size, 2, none⟩) (Nat.le_refl _) (.string ⟨#[]⟩)
    generalize (((w3.setCell ⟨w.heap.size, 0, none⟩ (.int .i64 0)).setCell ⟨w.heap.size, 1, none⟩ (.int .i64 0)).setCell ⟨w.heap.size, 2, none⟩ (.string ⟨#[]⟩)) = wf at *
    have q0 := ZF.cell 0
    have q1 := ZF.cell 1
    have q2 := ZF.cell 2
    rw [Hst.out]
    exact bodyPost_ret (v := .tuple #[.agg #[.int .i64 0, .int .i64 0, .string ⟨[].toArray⟩], .int .i64 0]) (by simp [results, Try.results113, go_sem, q0, q1, q2]) rfl ⟨rfl, hBF⟩
  have hx := (Hcut2.out.1).keep hB2
  go_wp2_with fail
  refine (HB3.out _ _ (by simpa using hx)).mono ?_
  rintro e w3 ⟨x3, rfl, h3, hB3⟩
  replace ZR := ZR.keep hB3
  have hz3 : w.heap.size + 1 ≤ w3.heap.size := Nat.le_trans hz2 hB3.size
  replace hB3 := PM.chain hB2 hB3
  clear hx hB2 hz2
  have z0 := ZR.cell 0
  have z1 := ZR.cell 1
  have z2 := ZR.cell 2
  have y0 := ZR.free 0
  have y1 := ZR.free 1
  have y2 := ZR.free 2
  by_cases c4 : k3 = 0
  · subst c4
    have Hst : Hid (PM.getV l = ((0, 0, []), 0)) := Lib.hid (by rw [HE.out]; simp)
    go_wp2
    have ZF := ZR.set3 (.int .i64 0) (.int .i64 0) (.string ⟨#[]⟩)
    have hBF := ((hB3.setCell (p := ⟨w.heap.size, 0, none⟩) (Nat.le_refl _) (.int .i64 0)).setCell (p := ⟨w.heap.size, 1, none⟩) (Nat.le_refl _) (.int .i64 0)).setCell (p := ⟨w.heap.size, 2, none⟩) (Nat.le_refl _) (.string ⟨#[]⟩)
    generalize (((w3.setCell ⟨w.heap.size, 0, none⟩ (.int .i64 0)).setCell ⟨w.heap.size, 1, none⟩ (.int .i64 0)).setCell ⟨w.heap.size, 2, none⟩ (.string ⟨#[]⟩)) = wf at *
    have q0 := ZF.cell 0
    have q1 := ZF.cell 1
    have q2 := ZF.cell 2
    rw [Hst.out]
    exact bodyPost_ret (v := .tuple #[.agg #[.int .i64 0, .int .i64 0, .string ⟨[].toArray⟩], .int .i64 0]) (by simp [results, Try.results113, go_sem, q0, q1, q2]) rfl ⟨rfl, hBF⟩
  have c4' : ((k3 : Int) == 0) = false := by rw [beq_eq_false_iff_ne]; omega
  clear z0 z1 z2 y0 y1 y2
  have kc := PM.run_str bty Try.underlying9 h3
  have e64 : wrap64 (n2 : Int) = PM.toI n2 := wrap64_toI n2 hn2
  by_cases p1 : n1 = 1
  · subst p1
    by_cases p2 : n2 % 2 = 1
    · have b2 : (((n2 : Int) % 2) == 1) = true := by rw [beq_iff_eq]; omega
      go_wp2_with fail
      have hpz : PM.pickZ 1 n2 = -((n2 : Int) / 2) - 1 := by unfold PM.pickZ PM.unfoldZ; rw [if_pos rfl, if_pos p2]; omega
      have Hpz := Lib.hid hpz
      clear hpz
      obtain ⟨w4, hw4⟩ : ∃ x, x = w3.alloc (.cells #[.int .i64 1, .int .i64 (-((n2 : Int) / 2) - 1), .string ⟨s3.toArray⟩] 134) := ⟨_, rfl⟩
      have hB4 : Below w3.heap.size w3 w4 := by rw [hw4]; go_grown
      have ZV : PM.BK w4 w3.heap.size #[.int .i64 1, .int .i64 (-((n2 : Int) / 2) - 1), .string ⟨s3.toArray⟩] 134 := by rw [hw4]; exact PM.BK.new _ _ _
      rw [← hw4]
      clear hw4
      replace ZR := ZR.keep hB4
      replace hB4 := PM.chain hB3 hB4
      refine (rcheck_any 1 (-((n2 : Int) / 2) - 1) ⟨s3.toArray⟩ _).mono ?_
      rintro e w5 ⟨rfl, hB5⟩
      replace ZR := ZR.keep hB5
      replace ZV := ZV.keep hB5
      replace hB5 := PM.chain hB4 hB5
      have r0 := ZV.cell 0
      have r1 := ZV.cell 1
      have r2 := ZV.cell 2
      have z0 := ZR.cell 0
      have z1 := ZR.cell 1
      have z2 := ZR.cell 2
      have y0 := ZR.free 0
      have y1 := ZR.free 1
      have y2 := ZR.free 2
      clear hB4
      by_cases hmay : PM.may 1 (-((n2 : Int) / 2) - 1) s3 = true
      · have hE : PM.mayE 1 (-((n2 : Int) / 2) - 1) s3 = 0 := by unfold PM.mayE; rw [if_pos hmay]
        have Hst : Hid (PM.getV l = ((1, -((n2 : Int) / 2) - 1, s3), k1 + k2 + k3)) := Lib.hid (by rw [HE.out, if_neg (by omega), if_pos (by rw [Hpz.out]; simpa using hmay), Hpz.out] <;> rfl)
        clear hmay
        go_wp2
        have ZF := ZR.set3 (.int .i64 1) (.int .i64 (-((n2 : Int) / 2) - 1)) (.string ⟨s3.toArray⟩)
        have hBF := ((hB5.setCell (p := ⟨w.heap.size, 0, none⟩) (Nat.le_refl _) (.int .i64 1)).setCell (p := ⟨w.heap.size, 1, none⟩) (Nat.le_refl _) (.int .i64 (-((n2 : Int) / 2) - 1))).setCell (p := ⟨w.heap.size, 2, none⟩) (Nat.le_refl _) (.string ⟨s3.toArray⟩)
        generalize (((w5.setCell ⟨w.heap.size, 0, none⟩ (.int .i64 1)).setCell ⟨w.heap.size, 1, none⟩ (.int .i64 (-((n2 : Int) / 2) - 1))).setCell ⟨w.heap.size, 2, none⟩ (.string ⟨s3.toArray⟩)) = wf at *
        have q0 := ZF.cell 0
        have q1 := ZF.cell 1
        have q2 := ZF.cell 2
        rw [Hst.out]
        exact bodyPost_ret (v := .tuple #[.agg #[.int .i64 1, .int .i64 (-((n2 : Int) / 2) - 1), .string ⟨s3.toArray⟩], .int .i64 ((k1 : Int) + k2 + k3)]) (by simp [results, Try.results113, go_sem, q0, q1, q2]) rfl ⟨by rw [show ((k1 + k2 + k3 : Nat) : Int) = (k1 : Int) + k2 + k3 from by omega], hBF⟩
      · have hE : PM.mayE 1 (-((n2 : Int) / 2) - 1) s3 = 10 := by unfold PM.mayE; rw [if_neg hmay]
        have Hst : Hid (PM.getV l = ((0, 0, []), 0)) := Lib.hid (by rw [HE.out, if_neg (by omega), if_neg (by rw [Hpz.out]; simpa using hmay)])
        go_wp2
        have ZF := ZR.set3 (.int .i64 0) (.int .i64 0) (.string ⟨#[]⟩)
        have hBF := ((hB5.setCell (p := ⟨w.heap.size, 0, none⟩) (Nat.le_refl _) (.int .i64 0)).setCell (p := ⟨w.heap.size, 1, none⟩) (Nat.le_refl _) (.int .i64 0)).setCell (p := ⟨w.heap.size, 2, none⟩) (Nat.le_refl _) (.string ⟨#[]⟩)
        generalize (((w5.setCell ⟨w.heap.size, 0, none⟩ (.int .i64 0)).setCell ⟨w.heap.size, 1, none⟩ (.int .i64 0)).setCell ⟨w.heap.size, 2, none⟩ (.string ⟨#[]⟩)) = wf at *
        have q0 := ZF.cell 0
        have q1 := ZF.cell 1
        have q2 := ZF.cell 2
        rw [Hst.out]
        exact bodyPost_ret (v := .tuple #[.agg #[.int .i64 0, .int .i64 0, .string ⟨[].toArray⟩], .int .i64 0]) (by simp [results, Try.results113, go_sem, q0, q1, q2]) rfl ⟨rfl, hBF⟩
    · have b2 : (((n2 : Int) % 2) == 1) = false := by rw [beq_eq_false_iff_ne]; omega
      go_wp2_with fail
      have hpz : PM.pickZ 1 n2 = ((n2 : Int) / 2) := by unfold PM.pickZ PM.unfoldZ; rw [if_pos rfl, if_neg p2]; omega
      have Hpz := Lib.hid hpz
      clear hpz
      obtain ⟨w4, hw4⟩ : ∃ x, x = w3.alloc (.cells #[.int .i64 1, .int .i64 (((n2 : Int) / 2)), .string ⟨s3.toArray⟩] 134) := ⟨_, rfl⟩
      have hB4 : Below w3.heap.size w3 w4 := by rw [hw4]; go_grown
      have ZV : PM.BK w4 w3.heap.size #[.int .i64 1, .int .i64 (((n2 : Int) / 2)), .string ⟨s3.toArray⟩] 134 := by rw [hw4]; exact PM.BK.new _ _ _
      rw [← hw4]
      clear hw4
      replace ZR := ZR.keep hB4
      replace hB4 := PM.chain hB3 hB4
      refine (rcheck_any 1 (((n2 : Int) / 2)) ⟨s3.toArray⟩ _).mono ?_
      rintro e w5 ⟨rfl, hB5⟩
      replace ZR := ZR.keep hB5
      replace ZV := ZV.keep hB5
      replace hB5 := PM.chain hB4 hB5
      have r0 := ZV.cell 0
      have r1 := ZV.cell 1
      have r2 := ZV.cell 2
      have z0 := ZR.cell 0
      have z1 := ZR.cell 1
      have z2 := ZR.cell 2
      have y0 := ZR.free 0
      have y1 := ZR.free 1
      have y2 := ZR.free 2
      clear hB4
      by_cases hmay : PM.may 1 (((n2 : Int) / 2)) s3 = true
      · have hE : PM.mayE 1 (((n2 : Int) / 2)) s3 = 0 := by unfold PM.mayE; rw [if_pos hmay]
        have Hst : Hid (PM.getV l = ((1, ((n2 : Int) / 2), s3), k1 + k2 + k3)) := Lib.hid (by rw [HE.out, if_neg (by omega), if_pos (by rw [Hpz.out]; simpa using hmay), Hpz.out] <;> rfl)
        clear hmay
        go_wp2
        have ZF := ZR.set3 (.int .i64 1) (.int .i64 (((n2 : Int) / 2))) (.string ⟨s3.toArray⟩)
        have hBF := ((hB5.setCell (p := ⟨w.heap.size, 0, none⟩) (Nat.le_refl _) (.int .i64 1)).setCell (p := ⟨w.heap.size, 1, none⟩) (Nat.le_refl _) (.int .i64 (((n2 : Int) / 2)))).setCell (p := ⟨w.heap.size, 2, none⟩) (Nat.le_refl _) (.string ⟨s3.toArray⟩)
        generalize (((w5.setCell ⟨w.heap.size, 0, none⟩ (.int .i64 1)).setCell ⟨w.heap.size, 1, none⟩ (.int .i64 (((n2 : Int) / 2)))).setCell ⟨w.heap.size, 2, none⟩ (.string ⟨s3.toArray⟩)) = wf at *
        have q0 := ZF.cell 0
        have q1 := ZF.cell 1
        have q2 := ZF.cell 2
        rw [Hst.out]
        exact bodyPost_ret (v := .tuple #[.agg #[.int .i64 1, .int .i64 (((n2 : Int) / 2)), .string ⟨s3.toArray⟩], .int .i64 ((k1 : Int) + k2 + k3)]) (by simp [results, Try.results113, go_sem, q0, q1, q2]) rfl ⟨by rw [show ((k1 + k2 + k3 : Nat) : Int) = (k1 : Int) + k2 + k3 from by omega], hBF⟩
      · have hE : PM.mayE 1 (((n2 : Int) / 2)) s3 = 10 := by unfold PM.mayE; rw [if_neg hmay]
        have Hst : Hid (PM.getV l = ((0, 0, []), 0)) := Lib.hid (by rw [HE.out, if_neg (by omega), if_neg (by rw [Hpz.out]; simpa using hmay)])
        go_wp2
        have ZF := ZR.set3 (.int .i64 0) (.int .i64 0) (.string ⟨#[]⟩)
        have hBF := ((hB5.setCell (p := ⟨w.heap.size, 0, none⟩) (Nat.le_refl _) (.int .i64 0)).setCell (p := ⟨w.heap.size, 1, none⟩) (Nat.le_refl _) (.int .i64 0)).setCell (p := ⟨w.heap.size, 2, none⟩) (Nat.le_refl _) (.string ⟨#[]⟩)
        generalize (((w5.setCell ⟨w.heap.size, 0, none⟩ (.int .i64 0)).setCell ⟨w.heap.size, 1, none⟩ (.int .i64 0)).setCell ⟨w.heap.size, 2, none⟩ (.string ⟨#[]⟩)) = wf at *
        have q0 := ZF.cell 0
        have q1 := ZF.cell 1
        have q2 := ZF.cell 2
        rw [Hst.out]
        exact bodyPost_ret (v := .tuple #[.agg #[.int .i64 0, .int .i64 0, .string ⟨[].toArray⟩], .int .i64 0]) (by simp [results, Try.results113, go_sem, q0, q1, q2]) rfl ⟨rfl, hBF⟩
  · have b1 : ((n1 : Int) == 1) = false := by rw [beq_eq_false_iff_ne]; omega
    go_wp2_with fail
    have hpz : PM.pickZ n1 n2 = PM.toI n2 := by unfold PM.pickZ; rw [if_neg p1]
    have Hpz := Lib.hid hpz
    clear hpz
    obtain ⟨w4, hw4⟩ : ∃ x, x = w3.alloc (.cells #[.int .i64 (n1 : Int), .int .i64 (PM.toI n2), .string ⟨s3.toArray⟩] 134) := ⟨_, rfl⟩
    have hB4 : Below w3.heap.size w3 w4 := by rw [hw4]; go_grown
    have ZV : PM.BK w4 w3.heap.size #[.int .i64 (n1 : Int), .int .i64 (PM.toI n2), .string ⟨s3.toArray⟩] 134 := by rw [hw4]; exact PM.BK.new _ _ _
    rw [← hw4]
    clear hw4
    replace ZR := ZR.keep hB4
    replace hB4 := PM.chain hB3 hB4
    refine (rcheck_any (n1 : Int) (PM.toI n2) ⟨s3.toArray⟩ _).mono ?_
    rintro e w5 ⟨rfl, hB5⟩
    replace ZR := ZR.keep hB5
    replace ZV := ZV.keep hB5
    replace hB5 := PM.chain hB4 hB5
    have r0 := ZV.cell 0
    have r1 := ZV.cell 1
    have r2 := ZV.cell 2
    have z0 := ZR.cell 0
    have z1 := ZR.cell 1
    have z2 := ZR.cell 2
    have y0 := ZR.free 0
    have y1 := ZR.free 1
    have y2 := ZR.free 2
    clear hB4
    by_cases hmay : PM.may (n1 : Int) (PM.toI n2) s3 = true
    · have hE : PM.mayE (n1 : Int) (PM.toI n2) s3 = 0 := by unfold PM.mayE; rw [if_pos hmay]
      have Hst : Hid (PM.getV l = (((n1 : Int), PM.toI n2, s3), k1 + k2 + k3)) := Lib.hid (by rw [HE.out, if_neg (by omega), if_pos (by rw [Hpz.out]; simpa using hmay), Hpz.out] <;> rfl)
      clear hmay
      go_wp2
      have ZF := ZR.set3 (.int .i64 (n1 : Int)) (.int .i64 (PM.toI n2)) (.string ⟨s3.toArray⟩)
      have hBF := ((hB5.setCell (p := ⟨w.heap.size, 0, none⟩) (Nat.le_refl _) (.int .i64 (n1 : Int))).setCell (p := ⟨w.heap.size, 1, none⟩) (Nat.le_refl _) (.int .i64 (PM.toI n2))).setCell (p := ⟨w.heap.size, 2, none⟩) (Nat.le_refl _) (.string ⟨s3.toArray⟩)
      generalize (((w5.setCell ⟨w.heap.size, 0, none⟩ (.int .i64 (n1 : Int))).setCell ⟨w.heap.size, 1, none⟩ (.int .i64 (PM.toI n2))).setCell ⟨w.heap.size, 2, none⟩ (.string ⟨s3.toArray⟩)) = wf at *
      have q0 := ZF.cell 0
      have q1 := ZF.cell 1
      have q2 := ZF.cell 2
      rw [Hst.out]
      exact bodyPost_ret (v := .tuple #[.agg #[.int .i64 (n1 : Int), .int .i64 (PM.toI n2), .string ⟨s3.toArray⟩], .int .i64 ((k1 : Int) + k2 + k3)]) (by simp [results, Try.results113, go_sem, q0, q1, q2]) rfl ⟨by rw [show ((k1 + k2 + k3 : Nat) : Int) = (k1 : Int) + k2 + k3 from by omega], hBF⟩
    · have hE : PM.mayE (n1 : Int) (PM.toI n2) s3 = 10 := by unfold PM.mayE; rw [if_neg hmay]
      have Hst : Hid (PM.getV l = ((0, 0, []), 0)) := Lib.hid (by rw [HE.out, if_neg (by omega), if_neg (by rw [Hpz.out]; simpa using hmay)])
      go_wp2
      have ZF := ZR.set3 (.int .i64 0) (.int .i64 0) (.string ⟨#[]⟩)
      have hBF := ((hB5.setCell (p := ⟨w.heap.size, 0, none⟩) (Nat.le_refl _) (.int .i64 0)).setCell (p := ⟨w.heap.size, 1, none⟩) (Nat.le_refl _) (.int .i64 0)).setCell (p := ⟨w.heap.size, 2, none⟩) (Nat.le_refl _) (.string ⟨#[]⟩)
      generalize (((w5.setCell ⟨w.heap.size, 0, none⟩ (.int .i64 0)).setCell ⟨w.heap.size, 1, none⟩ (.int .i64 0)).setCell ⟨w.heap.size, 2, none⟩ (.string ⟨#[]⟩)) = wf at *
      have q0 := ZF.cell 0
      have q1 := ZF.cell 1
      have q2 := ZF.cell 2
      rw [Hst.out]
      exact bodyPost_ret (v := .tuple #[.agg #[.int .i64 0, .int .i64 0, .string ⟨[].toArray⟩], .int .i64 0]) (by simp [results, Try.results113, go_sem, q0, q1, q2]) rfl ⟨rfl, hBF⟩
end Go.Proofs.Ytokfookandfemaa

/-
  PLAIN FACTS: a reader's steps are what the document's answers say.
-/
namespace Go.Proofs.Ytokfookandfemaa
namespace PM
theorem getK_none {l : List UInt8} (h : (getK l).2 = 0) : getN l = none ∧ getK l = (0, 0) := by
  unfold getK at *
  cases hg : getN l with
  | none => exact ⟨rfl, rfl⟩
  | some p =>
    obtain ⟨n, r⟩ := p
    have := getN_lt hg
    rw [hg] at h
    simp only at h
    omega
theorem getK_some {l : List UInt8} (h : (getK l).2 ≠ 0) : getN l = some ((getK l).1, l.drop (getK l).2) := by
  unfold getK at *
  cases hg : getN l with
  | none => rw [hg] at h; simp at h
  | some p =>
    obtain ⟨n, r⟩ := p
    have hb := getN_back hg
    simp only
    congr 2
    have hl : l.length = (numB n).length + r.length := by rw [hb, List.length_append]
    rw [show l.length - r.length = (numB n).length from by omega, hb, List.drop_left]
theorem stepN_getK (l : List UInt8) : stepN l false = if (getK l).2 = 0 then (0, [], true) else ((getK l).1, l.drop (getK l).2, false) := by
  unfold stepN
  by_cases h : (getK l).2 = 0
  · rw [(getK_none h).1, if_pos h]; rfl
  · rw [getK_some h, if_neg h]; rfl
theorem stepB_getB (l : List UInt8) (most : Int) : stepB l false most = if (getB l most).2 = 0 then ([], [], true) else ((getB l most).1, l.drop (getB l most).2, false) := by
  unfold stepB
  rw [stepN_getK]
  by_cases h : (getK l).2 = 0
  · rw [if_pos h]
    have hb : getB l most = ([], 0) := by unfold getB; rw [if_pos (Or.inl h)]
    rw [hb]; simp
  · rw [if_neg h]
    by_cases hc : most < 0 ∨ most.toNat < (getK l).1 ∨ l.length - (getK l).2 < (getK l).1
    · have hb : getB l most = ([], 0) := by unfold getB; rw [if_pos (Or.inr hc)]
      rw [hb, if_pos (by simpa using hc)]; simp
    · have hb : getB l most = ((l.drop (getK l).2).take (getK l).1, (getK l).2 + (getK l).1) := by unfold getB; rw [if_neg (by simp only [h, false_or]; exact hc)]
      rw [hb, if_neg (by simpa using hc), if_neg (by simp only; omega)]
      simp only [List.drop_drop]
theorem getB_none {l : List UInt8} {most : Int} (h : (getB l most).2 = 0) : getB l most = ([], 0) := by
  unfold getB at *
  split
  · rfl
  · rename_i hc
    rw [if_neg hc] at h
    simp only at h
    omega
theorem may_big {n : Nat} {z : Int} {s : List UInt8} (h : 3 < n) : may (n : Int) z s = false := by
  unfold may
  rw [if_neg (by omega), if_neg (by omega), if_neg (by omega)]
theorem stepV_getV (l : List UInt8) : stepV l false = if (getV l).2 = 0 then ((0, 0, []), [], true) else ((getV l).1, l.drop (getV l).2, false) := by
  obtain ⟨n1, k1, g1⟩ : ∃ n k, getK l = (n, k) := ⟨_, _, rfl⟩
  obtain ⟨n2, k2, g2⟩ : ∃ n k, getK (l.drop k1) = (n, k) := ⟨_, _, rfl⟩
  obtain ⟨s3, k3, g3⟩ : ∃ s k, getB (l.drop (k1 + k2)) 40 = (s, k) := ⟨_, _, rfl⟩
  have hv := getV_eq l s3 n1 k1 n2 k2 k3 g1 g2 g3
  have e1 := stepN_getK l
  rw [g1] at e1
  have e2 := stepN_getK (l.drop k1)
  rw [g2, List.drop_drop] at e2
  have e3 := stepB_getB (l.drop (k1 + k2)) 40
  rw [g3, List.drop_drop] at e3
  simp only at e1 e2 e3
  by_cases c1 : k1 = 0
  · have hs := stepV_eq l false 0 0 [] [] [] [] true true true (by rw [e1, if_pos c1]) rfl (stepB_wr _ _)
    rw [hs, hv]
    simp [c1]
  rw [if_neg c1] at e1
  by_cases c2 : k2 = 0
  · have hs := stepV_eq l false n1 0 (l.drop k1) [] [] [] false true true e1 (by rw [e2, if_pos c2]) (stepB_wr _ _)
    rw [hs, hv]
    simp [c2]
  rw [if_neg c2] at e2
  by_cases c3 : k3 = 0
  · have hs := stepV_eq l false n1 n2 (l.drop k1) (l.drop (k1 + k2)) [] [] false false true e1 e2 (by rw [e3, if_pos c3])
    rw [hs, hv]
    simp [c3]
  rw [if_neg c3] at e3
  have hs := stepV_eq l false n1 n2 (l.drop k1) (l.drop (k1 + k2)) (l.drop (k1 + k2 + k3)) s3 false false false e1 e2 e3
  rw [hs, hv]
  by_cases c4 : 3 < n1
  · rw [if_pos (show k1 = 0 ∨ 3 < n1 ∨ k2 = 0 ∨ k3 = 0 from by omega), may_big c4]
    simp
  · rw [if_neg (show ¬ (false = true ∨ 2147483647 < n1) from by simp; omega), if_neg (show ¬ (k1 = 0 ∨ 3 < n1 ∨ k2 = 0 ∨ k3 = 0) from by omega)]
    by_cases hm : may n1 (pickZ n1 n2) s3 = true
    · simp only [if_pos hm]
      rw [if_neg (by omega)]
    · simp [hm]
end PM
end Go.Proofs.Ytokfookandfemaa
