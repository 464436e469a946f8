/-
  THE WALK OF LAYER 2's STATEMENT ON THE RISE.
-/
import Derived.Test.YtfmbnndpjjjdiaaPa
import Derived.Test.YtfmbnndpjjjdiaaPm
import Derived.OpenShut
namespace Go.Proofs.Ytfmbnndpjjjdiaa
open Go.RowKit
set_option linter.unusedVariables false
theorem packRises_walk (n m : Int) (hn : (Lit.int .u64 n).wf = true) (hm : (Lit.int .u64 m).wf = true) (w : World) :
    Calls Try.prog 14 #[.int .u64 n, .int .u64 m] w fun e w' => e = .returned (.bool true) ∧ Below w.heap.size w w' := by
  have bn := Go.bounds_u64 hn
  have bm := Go.bounds_u64 hm
  obtain ⟨n, rfl⟩ := Int.eq_ofNat_of_zero_le bn.1
  obtain ⟨m, rfl⟩ := Int.eq_ofNat_of_zero_le bm.1
  have hn' : n < 2 ^ 64 := by omega
  have hm' : m < 2 ^ 64 := by omega
  clear hn hm
  go_enter Try.func14, Try.ntmps14
  go_wp2_with fail
  refine (awake2 _).mono ?_
  rintro e w1 ⟨rfl, hB1⟩
  go_wp2_with fail
  refine (number_any _ [] n hn' _ (PM.BS.nil _) (by simp)).mono ?_
  rintro e w2 ⟨v2, rfl, ho2, hb2⟩
  have hB2 := PM.chain hB1 hb2
  have k2 := PM.run_str bty Try.underlying9 ho2.bs
  obtain ⟨s, hs⟩ : ∃ s : ByteArray, s = ⟨([] ++ PM.numB n).toArray⟩ := ⟨_, rfl⟩
  rw [← hs] at k2
  have Hs := Lib.hid hs
  clear hs
  go_wp2_with fail
  refine (number_any _ [] m hm' _ (PM.BS.nil _) (by simp)).mono ?_
  rintro e w3 ⟨v3, rfl, ho3, hb3⟩
  have hB3 := PM.chain hB2 hb3
  have k3 := PM.run_str bty Try.underlying9 ho3.bs
  obtain ⟨t, ht⟩ : ∃ t : ByteArray, t = ⟨([] ++ PM.numB m).toArray⟩ := ⟨_, rfl⟩
  rw [← ht] at k3
  have hs2 : s.data.toList = PM.numB n := by rw [Hs.out]; simp
  have ht2 : t.data.toList = PM.numB m := by rw [ht]; simp
  have ls : s.size = PM.wid n + 1 := by rw [PM.size_len, hs2, PM.numB_length]
  have lt : t.size = PM.wid m + 1 := by rw [PM.size_len, ht2, PM.numB_length]
  have z1 : ((s.size : Int) == 0) = false := by rw [beq_eq_false_iff_ne]; omega
  have z2 : ((t.size : Int) == 0) = false := by rw [beq_eq_false_iff_ne]; omega
  have e1 : Op.bytesLess s.toList t.toList = decide ((n : Int) < (m : Int)) := by
    rw [PM.bytesLess_eq, ByteArray.toList_eq, ByteArray.toList_eq, hs2, ht2]
    have := PM.numB_lt n m hn' hm'
    simp [this]
  have e2 : (s.toList == t.toList) = ((n : Int) == (m : Int)) := by
    rw [ByteArray.toList_eq, ByteArray.toList_eq, hs2, ht2, Bool.eq_iff_iff]
    simp only [beq_iff_eq]
    exact ⟨fun h => by rw [PM.numB_inj n m hn' hm' h], fun h => by rw [show n = m by omega]⟩
  have e3 : ((t.extract 0 s.size).toList == s.toList) = ((n : Int) == (m : Int)) := by
    rw [PM.extract_toList, ByteArray.toList_eq, hs2, ht2, ls, Bool.eq_iff_iff]
    simp only [beq_iff_eq]
    constructor
    · intro h
      have := PM.numB_prefix n m hn' hm' ((PM.numB m).drop (PM.wid n + 1)) (by rw [← h]; exact List.take_append_drop _ _)
      omega
    · intro h
      rw [show n = m by omega, ← PM.numB_length]
      simp
  have z0 : (0 : Int) < (s.size : Int) := by omega
  have H1 := Lib.hid hs2
  have H2 := Lib.hid ls
  have H3 := Lib.hid lt
  clear ht hs2 ht2 ls lt
  by_cases hle : s.size ≤ t.size
  · have hle' : (s.size : Int) ≤ (t.size : Int) := by omega
    go_wp2_with fail
    go_ret
    refine ⟨PM.ret_bool ?_, hB3⟩
    have hz : 0 < s.size := by omega
    have h0 := PM.get_zero s hz _ _ H1.out
    have h8 := PM.wid_le n hn'
    have h9 : (s[0]).toNat = PM.wid n := by rw [h0]; exact PM.wid_u8 n hn'
    have h10 := H2.out
    rw [beq_iff_eq, h9]
    unfold wrap64
    omega
  · have hle' : decide ((s.size : Int) ≤ (t.size : Int)) = false := by simpa using hle
    have en : ((n : Int) == (m : Int)) = false := by
      rw [beq_eq_false_iff_ne]
      intro h
      obtain rfl : n = m := by omega
      have := H2.out; have := H3.out; omega
    go_wp2_with fail
    go_ret
    refine ⟨PM.ret_bool ?_, hB3⟩
    have hz : 0 < s.size := by omega
    have h0 := PM.get_zero s hz _ _ H1.out
    have h8 := PM.wid_le n hn'
    have h9 : (s[0]).toNat = PM.wid n := by rw [h0]; exact PM.wid_u8 n hn'
    have h10 := H2.out
    rw [beq_iff_eq, h9]
    unfold wrap64
    omega
end Go.Proofs.Ytfmbnndpjjjdiaa
