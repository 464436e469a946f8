/-
  CONTRACTS OF package postilionref02: packing.
-/
import Derived.Test.YtocggnaekajdbaaPv
import Derived.Test.YtocggnaekajdbaaRt
import Derived.Laws.OwnMore
namespace Go.Proofs.Ytocggnaekajdbaa
open Go.RowKit
set_option linter.unusedVariables false
namespace PM
theorem OW.one {E : TypeId} {B : Nat} (W : World) (b : UInt8) (hB : B ≤ W.heap.size) : OW E B (W.alloc (.cells #[.int .u8 (b.toNat : Int)] E)) (.slice (Option.some ⟨W.heap.size, 0, Option.none⟩) 1 1) [b] :=
  World.ownsRow_lit W #[bv b] 1 hB (by unfold maxLen; omega) (by simp)
/-- append onto one byte that was just laid -/
theorem wpList_appl {P : Program} {w : World} {ops : Array Oper} {rest : List Oper} {o : Oper} {a : Act} {Q : Exit → Act → World → Prop} {T E : TypeId} (BT : ByteTy P T E) (B : Nat) (W : World) (hgd : o.guard = none) (s x : Operand)
    (ho : o.op = .call { callee := .builtin .append, args := #[s, x], argTypes := #[T, T] })
    (xv : Value) (l : List UInt8) (c : Int) (b : UInt8) (hs : a.eval s = .slice (Option.some ⟨W.heap.size, 0, Option.none⟩) 1 1) (hx : a.eval x = xv) (hw : w = W.alloc (.cells #[.int .u8 c] E)) (hc : c = (b.toNat : Int))
    (hb : BS W xv l) (hn : 1 + l.length ≤ 140737488355328) (hB : B ≤ W.heap.size)
    (h : ∀ v' w', OW E B w' v' (b :: l) → Below B W w' → wpList P ops Q rest (a.put o.dst v') w') : wpList P ops Q (o :: rest) a w := by
  subst hc
  subst hw
  have hb0 : Below W.heap.size W (W.alloc (.cells #[.int .u8 (b.toNat : Int)] E)) := (Below.refl _ _).alloc (Nat.le_refl _) _
  exact wpList_app BT B hgd s x ho _ _ [b] l hs hx (OW.one W b hB) (hb.keep hb0) (by simpa using hn) (Nat.le_trans hB hb0.size) fun v' w' h1 h2 _ => h v' w' h1 ((hb0.mono hB).trans h2)
theorem u8_mod' (n : Nat) : ((n : Int) % 256) = ((UInt8.ofNat n).toNat : Int) := by rw [u8_nat]; simp
theorem be_more (n j : Nat) : UInt8.ofNat (n / 256 ^ j) :: be n j = be n (j + 1) := by
  have e : be n (j + 1) = UInt8.ofNat (n / 2 ^ (8 * j)) :: be n j := by
    unfold be
    rw [List.range_succ_eq_map, List.map_cons, List.map_map]
    congr 1
    apply List.map_congr_left
    intro i hi
    simp only [Function.comp_def]
    congr 3
    omega
  rw [e, Nat.pow_mul]
end PM
theorem rfnumber_any (n : Nat) (hn : n < 2 ^ 64) (w : World) :
    Calls Try.prog 33 #[.int .u64 n] w (PM.RetB 5 w.heap.size w (PM.numB n)) := by
  have hwl := PM.wid_le n hn
  have H0 : Hid (n / 256 ^ 0 = n) := Lib.hid (by simp)
  go_enter Try.func33, Try.ntmps33
  go_wp2
  go_loopw [0, 3] (fun s0 s3 wr => ∃ k j : Nat, k = n / 256 ^ j ∧ k ≤ n ∧ j ≤ 8 ∧ PM.wid n = PM.wid k + j ∧ s0 = .int .u64 k ∧ PM.OW 5 w.heap.size wr s3 (PM.be n j) ∧ Below w.heap.size w wr) (fun s0 _ _ => (intOf s0).toNat)
  case atStart => exact ⟨n, 0, H0.out.symm, Nat.le_refl _, by omega, rfl, rfl, PM.OW.nilrow _ _ _, Below.refl _ _⟩
  case round =>
    obtain ⟨k, j, hk, hkn, hj, hwid, rfl, ho, hB⟩ := hrel
    have Hk := Lib.hid hk
    have Hw := Lib.hid hwid
    clear hk hwid
    have hs := ho.bs
    by_cases h0 : 0 < k
    · have Hs := Lib.hid (PM.wid_step k h0 (by omega))
      have hj8 : j < 8 := by have := Hw.out; have := Hs.out; omega
      go_wp2_with (at_builtin; refine PM.wpList_appl bty w.heap.size wr rfl _ _ rfl _ (PM.be n j) _ (UInt8.ofNat k) rfl rfl rfl (PM.u8_mod' _) hs (by rw [PM.be_length]; omega) hB.size ?_; intro v4 w4 ho4 hB4; replace hB4 := hB.trans hB4)
      go_roundw
      case rel => exact ⟨k / 256, j + 1, by rw [Hk.out, Nat.pow_succ, Nat.div_div_eq_div_mul], by omega, by omega, by have := Hw.out; have := Hs.out; omega, by go_num, by rw [← PM.be_more, ← Hk.out]; exact ho4, hB4⟩
      case measure => simp [intOf]; omega
    · obtain rfl : k = 0 := by omega
      have hjw : j = PM.wid n := by have := Hw.out; rw [PM.wid_zero] at this; omega
      obtain ⟨a3, cap3, rfl⟩ := hs.len
      have hlen : ((PM.be n j).length : Int) = (j : Int) := by rw [PM.be_length]
      have e8 : ((UInt8.ofNat j).toNat : Int) = (j : Int) := by rw [PM.u8_nat]; omega
      go_wp2_with (at_builtin; go_must (refine PM.wpList_appl bty w.heap.size wr rfl _ _ rfl _ (PM.be n j) _ (UInt8.ofNat j) rfl rfl rfl ?_ hs (by rw [PM.be_length]; omega) hB.size ?_; (rw [e8, PM.be_length]; omega); intro v4 w4 ho4 hB4; replace hB4 := hB.trans hB4))
      go_ret
      exact ⟨v4, rfl, by unfold PM.numB; rw [← hjw]; exact ho4, hB4⟩
theorem rfbytes_any (bv : Value) (m : List UInt8) (w : World) (hb : PM.BS w bv m) (hm : m.length ≤ 35184372088832) :
    Calls Try.prog 34 #[bv] w (PM.RetB 5 w.heap.size w (PM.bytesB m)) := by
  have hw := PM.wid_le m.length (by omega)
  obtain ⟨a', cap', rfl⟩ := hb.len
  go_enter Try.func34, Try.ntmps34
  go_wp2_with fail
  refine (rfnumber_any m.length (by omega) _).mono ?_
  rintro e w2 ⟨v2, rfl, ho2, hB2⟩
  have hs2 := hb.keep hB2
  go_wp2_with (at_builtin; refine PM.wpList_app bty w.heap.size rfl _ _ rfl v2 _ _ m rfl rfl ho2 hs2 (by simp [PM.numB_length]; omega) hB2.size ?_; intro v3 w3 hown3 hB3 _; replace hB3 := hB2.trans hB3)
  go_ret
  exact ⟨v3, rfl, by simpa [PM.bytesB] using hown3, hB3⟩
theorem rfsigned_any (k n : Int) (s : ByteArray) (q : Nat) (hq : q = if k = 1 then PM.foldZ n else PM.u64 n) (h1 : -9223372036854775808 ≤ n) (h2 : n ≤ 9223372036854775807) (w : World) :
    Calls Try.prog 53 #[.agg #[.int .i64 k, .int .i64 n, .string s]] w fun e w' => e = .returned (.int .u64 (q : Nat)) ∧ Below w.heap.size w w' := by
  have Hq := Lib.hid hq
  clear hq
  by_cases hk : k = 1
  · subst hk
    by_cases hn : n < 0
    · go_enter Try.func53, Try.ntmps53
      go_wp2
      go_ret
      refine ⟨PM.ret_int ?_, by go_grown⟩
      rw [Hq.out, if_pos trivial]
      unfold PM.foldZ
      rw [if_pos hn]
      omega
    · go_enter Try.func53, Try.ntmps53
      go_wp2
      go_ret
      refine ⟨PM.ret_int ?_, by go_grown⟩
      rw [Hq.out, if_pos trivial]
      unfold PM.foldZ
      rw [if_neg (by omega)]
      omega
  · go_enter Try.func53, Try.ntmps53
    go_wp2
    go_ret
    refine ⟨PM.ret_int ?_, by go_grown⟩
    rw [Hq.out, if_neg hk, wrap_u64_eq]
set_option maxHeartbeats 1000000 in
theorem rfvalue_any (k n : Int) (s : ByteArray) (w : World) (hs : s.size ≤ 17592186044416)
    (hk1 : -9223372036854775808 ≤ k) (hk2 : k ≤ 9223372036854775807) (h1 : -9223372036854775808 ≤ n) (h2 : n ≤ 9223372036854775807) :
    Calls Try.prog 35 #[.agg #[.int .i64 k, .int .i64 n, .string s]] w (PM.RetB 5 w.heap.size w (PM.valB k n s.data.toList)) := by
  have hs' : s.size ≤ 140737488355328 := by omega
  have hwk := PM.wid_le _ (PM.u64_lt k)
  have hwn := PM.wid_le _ (PM.u64_lt n)
  have hwf := PM.wid_le _ (PM.foldZ_lt n h1 h2)
  obtain ⟨q, hq⟩ : ∃ q : Nat, q = if k = 1 then PM.foldZ n else PM.u64 n := ⟨_, rfl⟩
  have hq64 : q < 2 ^ 64 := by rw [hq]; split; exact PM.foldZ_lt n h1 h2; exact PM.u64_lt _
  have hwq := PM.wid_le q hq64
  have Hq := Lib.hid hq
  clear hq
  go_enter Try.func35, Try.ntmps35
  go_wp2_with fail
  obtain ⟨wa, hwa⟩ : ∃ x, x = w.alloc (.cells #[.int .i64 k, .int .i64 n, .string s] 28) := ⟨_, rfl⟩
  have hBa : Below w.heap.size w wa := by rw [hwa]; go_grown
  have B0 : PM.Blk wa w.heap.size #[.int .i64 k, .int .i64 n, .string s] := by rw [hwa]; exact PM.Blk.new _ _ _ _
  have c0 : wa.cell? ⟨w.heap.size, 0, none⟩ = some (.int .i64 k) := B0.cell 0
  have c1 : wa.cell? ⟨w.heap.size, 1, none⟩ = some (.int .i64 n) := B0.cell 1
  have c2 : wa.cell? ⟨w.heap.size, 2, none⟩ = some (.string s) := B0.cell 2
  rw [← hwa]
  clear hwa
  refine PM.wp_region_st2 7 [some 4, some 5, some 6, some 7, some 8, some 9, some 10, some 11, some 3] [fun x _ => x = .pointer (some ⟨w.heap.size, 0, none⟩), fun x _ => x = .int .i64 k, fun x _ => x = .int .u64 (PM.u64 k : Nat), fun x w' => PM.OW 5 wa.heap.size w' x (PM.numB (PM.u64 k)), fun x _ => x = .agg #[.int .i64 k, .int .i64 n, .string s], fun x _ => x = .int .u64 (q : Nat), fun x w' => PM.BS w' x (PM.numB q)] (by kernel_rfl) (by kernel_rfl) (by kernel_rfl) (by kernel_rfl) (by kernel_rfl) (of_decide_eq_true (by kernel_rfl)) (by kernel_rfl) ?_ ?_ ?_
  · simp only [List.forall_mem_cons]
    refine ⟨?_, ?_, ?_, ?_, ?_, ?_, ?_, by simp⟩
    all_goals (intro x W W' h hb; first | exact h | exact PM.BS.keep hb h | exact PM.OW.keep hb h)
  · refine ⟨?_, ?_, ?_, ?_, ?_, ?_, ?_, trivial⟩
    all_goals
      intro a W hB hF hd
      have k1 := hF 1 rfl
      have c0' := PM.cellB hB c0
      have c1' := PM.cellB hB c1
      have c2' := PM.cellB hB c2
      clear hF
      simp [PM.depsL, PM.spec, PM.sl, Region.binds] at hd k1
      simp only [PM.wantL, PM.spec]
      try simp only [PM.sl]
      go_simp
    all_goals try exact Below.refl _ _
    · exact ⟨Below.refl _ _, by rw [wrap_u64_eq]⟩
    · refine (rfnumber_any (PM.u64 k) (PM.u64_lt _) W).mono ?_
      rintro e w' ⟨v', rfl, ho, hb⟩
      exact ⟨hb, v', rfl, ho.mono hB.size⟩
    · refine (rfsigned_any k n s q Hq.out h1 h2 W).mono ?_
      rintro e w' ⟨rfl, hb⟩
      first | exact ⟨hb, rfl⟩ | exact ⟨hb, _, rfl, rfl⟩ | exact hb
    · refine (rfnumber_any q hq64 W).mono ?_
      rintro e w' ⟨v', rfl, ho, hb⟩
      exact ⟨hb, v', rfl, ho.bs⟩
  · intro G W hB hF hS
    simp [PM.allSp, PM.spec] at hS
    have q1 := hF 1 rfl
    simp [PM.sl] at q1
    obtain ⟨_, _, _, ho7, _, _, hb10⟩ := hS
    have hC := PM.chain hBa hB
    have c2' := PM.cellB hB c2
    rw [show ((List.range (Array.size _)).map G).toArray = #[G 0, G 1, G 2, G 3, G 4, G 5, G 6, G 7, G 8, G 9, G 10, G 11, G 12, G 13, G 14, G 15, G 16, G 17] from rfl, q1]
    clear hF q1
    refine PM.wpList_app bty wa.heap.size rfl _ _ rfl _ _ _ _ rfl rfl ho7 hb10 (by simp [PM.numB_length]; omega) hB.size ?_
    intro v3 w3 ho3 hB3 hg3
    have kc := PM.run_conv bty Try.underlying9
    have hC3 := PM.chain hBa (hB.trans hB3)
    have c2'' : w3.cell? ⟨w.heap.size, 2, none⟩ = some (.string s) := by rw [hB3.cell (World.block_lt_of_cell? wa _ c2)]; exact c2'
    go_wp2_with fail
    refine (rfbytes_any _ _ _ (PM.convW_bs _ _ _ hs') (by rw [← PM.size_len]; omega)).mono ?_
    rintro e w4 ⟨v4, rfl, ho4, hB4⟩
    have hB4' := PM.chain (PM.convW_below 5 w3 s) hB4
    have hC4 := PM.chain hC3 hB4'
    have ho3' := ho3.keep hB4'
    have hs4 := ho4.bs
    have hz4 : wa.heap.size ≤ w4.heap.size := Nat.le_trans (Nat.le_trans hB.size hB3.size) hB4'.size
    clear hg3
    have hlen : (PM.numB (PM.u64 k) ++ PM.numB q).length + (PM.bytesB s.data.toList).length ≤ 140737488355328 := by
      have h9 := PM.wid_le s.data.toList.length (by rw [← PM.size_len]; omega)
      rw [← PM.size_len] at h9
      unfold PM.bytesB
      rw [List.length_append, PM.numB_length, PM.numB_length, List.length_append, PM.numB_length, ← PM.size_len]
      omega
    go_wp2_with (at_builtin; refine PM.wpList_app bty wa.heap.size rfl _ _ rfl v3 _ _ _ rfl rfl ho3' hs4 hlen hz4 ?_; intro v5 w5 ho5 hB5 _)
    go_ret
    exact ⟨v5, rfl, by have := ho5.mono hBa.size; have h := Hq.out; unfold PM.valB; rw [← h]; exact this, hC4.trans (hB5.mono hBa.size)⟩

end Go.Proofs.Ytocggnaekajdbaa
