/-
  CONTRACTS OF package frame: Sum; digits.
-/
import Derived.Test.YtpilgbiedbhpeaaChecked
import Derived.WalkKit
import Derived.WalkLawsBesides
import Derived.Handy
import Derived.Test.YtpilgbiedbhpeaaFp
import Derived.Test.YtpilgbiedbhpeaaBk
import Derived.Test.YtpilgbiedbhpeaaGs
import Derived.Laws.BitsAllLaws
namespace Go.Proofs.Ytpilgbiedbhpeaa
open Go.RowKit
set_option linter.unusedVariables false
namespace PM
theorem u32_one {x : Nat} (h : x < 4294967296) : bits .and .u32 (x : Int) 1 = ((x % 2 : Nat) : Int) := by
  have := u32_and_nat x 1 h (by decide)
  rw [Nat.and_one_is_mod] at this
  exact this
theorem u32_pol {x : Nat} (h : x < 4294967296) : bits .xor .u32 ((x : Int) / 2) 3945912366 = ((x / 2 ^^^ 3945912366 : Nat) : Int) := by
  have := u32_xor_nat (x / 2) 3945912366 (by omega) (by decide)
  rw [Int.natCast_ediv] at this
  exact this
theorem u32_byte {n : Nat} (h : n < 4294967296) (z : UInt8) : bits .xor .u32 (n : Int) ((z.toNat : Int) % 4294967296) = ((n ^^^ z.toNat : Nat) : Int) := by
  have hz := z.toNat_lt
  rw [Int.emod_eq_of_lt (by omega) (by omega)]
  exact u32_xor_nat n z.toNat h (by omega)
theorem u32_not {n : Nat} (h : n < 4294967296) : bits .xor .u32 IntKind.u32.max (n : Int) = ((4294967295 - n : Nat) : Int) := by
  have e : (4294967295 : Nat) ^^^ n = 4294967295 - n := by
    have := congrArg BitVec.toNat (BitVec.allOnes_xor (x := BitVec.ofNat 32 n))
    rw [BitVec.toNat_xor, BitVec.toNat_not, BitVec.toNat_allOnes, BitVec.toNat_ofNat, Nat.mod_eq_of_lt (by omega)] at this
    exact this
  have := u32_xor_nat 4294967295 n (by decide) h
  rw [e] at this
  exact this
end PM
theorem Sum_any (v : Value) (l : List UInt8) (w : World) (h : PM.BS w v l) :
    Calls Try.prog 15 #[v] w fun e w' => e = .returned (.int .u32 (PM.crc l : Nat)) ∧ w' = w := by
  have hbd := h.bound
  simp only [maxLen] at hbd
  rcases h with ⟨rfl, rfl⟩ | ⟨b, off, cap, rfl, h1, h2, h3⟩ | ⟨x, cap, rfl, rfl, _⟩
  · go_enter Try.func15, Try.ntmps15
    go_wp2
    go_loop [3, 9] (fun s i => i = .int .i64 0 ∧ s = .int .u32 4294967295) (fun _ _ => 0)
    case atStart => exact ⟨rfl, rfl⟩
    case round =>
      obtain ⟨rfl, rfl⟩ := hrel
      go_wp2
      go_ret
      exact ⟨rfl, rfl⟩
  · have hc : ∀ k : Nat, k < l.length → ∃ z, l[k]? = some z ∧ w.cell? ⟨b, off + k, none⟩ = some (.int .u8 (z.toNat : Int)) := fun k hk => ⟨l[k], List.getElem?_eq_getElem hk, h3 k _ (List.getElem?_eq_getElem hk)⟩
    obtain ⟨L, hL⟩ : ∃ L, L = l.length := ⟨_, rfl⟩
    rw [← hL] at hc hbd h1 ⊢
    have hLh := PM.hid hL
    clear hL h3
    go_enter Try.func15, Try.ntmps15
    go_wp2
    go_loop [3, 9] (fun s i => ∃ k : Nat, i = .int .i64 k ∧ k ≤ L ∧ s = .int .u32 (PM.crcF (l.take k) 4294967295 : Nat)) (fun _ i => L - (intOf i).toNat)
    case atStart => exact ⟨0, rfl, by omega, rfl⟩
    case round =>
      obtain ⟨k, rfl, hk, rfl⟩ := hrel
      by_cases hlt : k < L
      · obtain ⟨z, hz, d⟩ := hc k hlt
        have hzh := PM.hid hz
        clear hc hz
        have hb := PM.crcF_lt (l.take k) (show (4294967295 : Nat) < 4294967296 by decide)
        generalize hn : PM.crcF (l.take k) 4294967295 = n at *
        have hnh := PM.hid hn
        clear hn
        have e0 := PM.u32_byte hb z
        have hx0 := PM.xor_byte_lt hb z
        go_wp2
        generalize hm : n ^^^ z.toNat = m at *
        have hmh := PM.hid hm
        clear hm e0
        go_loop [3, 17] (fun s i => ∃ (j x : Nat), i = .int .i64 j ∧ j ≤ 8 ∧ s = .int .u32 x ∧ x < 4294967296 ∧ x = PM.bN j m) (fun _ i => 8 - (intOf i).toNat)
        case atStart => exact ⟨0, m, rfl, by omega, rfl, hx0, rfl⟩
        case round =>
          obtain ⟨j, x, rfl, hj, rfl, hx, hxj⟩ := hrel
          have hxh := PM.hid hxj
          clear hxj
          by_cases hj8 : j < 8
          · have e1 := PM.u32_one hx
            have e2 := PM.u32_pol hx
            by_cases hp : x % 2 = 1
            · rw [hp] at e1
              have hph := PM.hid hp
              clear hp
              go_wp2
              refine ⟨⟨j + 1, x / 2 ^^^ 3945912366, by go_num, by omega, ?_, ?_, ?_⟩, by simp only [intOf]; omega⟩
              · first | rfl | (congr 1)
              · exact Nat.xor_lt_two_pow (n := 32) (by omega) (by decide)
              · rw [PM.bN_succ, ← hxh.out, PM.b1, if_pos hph.out]
            · have hp0 : x % 2 = 0 := by omega
              rw [hp0] at e1
              have hph := PM.hid hp
              clear hp hp0
              go_wp2
              refine ⟨⟨j + 1, x / 2, by go_num, by omega, ?_, by omega, ?_⟩, by simp only [intOf]; omega⟩
              · first | rfl | (congr 1)
              · rw [PM.bN_succ, ← hxh.out, PM.b1, if_neg hph.out]
          · have : j = 8 := by omega
            subst this
            go_wp2
            refine ⟨⟨k + 1, by go_num, by omega, ?_⟩, by simp only [intOf]; omega⟩
            rw [List.take_add_one, hzh.out]
            simp only [Option.toList_some]
            rw [PM.crcF_snoc, hnh.out, PM.crcB, hmh.out, ← hxh.out]
      · have : k = L := by omega
        subst this
        clear hc
        have hb := PM.crcF_lt (l.take k) (show (4294967295 : Nat) < 4294967296 by decide)
        have hck : PM.crc l = 4294967295 - PM.crcF (l.take k) 4294967295 := by rw [hLh.out, List.take_length]; rfl
        have hckh := PM.hid hck
        clear hck
        generalize hn : PM.crcF (l.take k) 4294967295 = n at *
        have hnh := PM.hid hn
        clear hn
        go_wp2
        go_ret
        exact ⟨PM.ret_i (by rw [hckh.out]; exact PM.u32_not hb), rfl⟩
  · go_enter Try.func15, Try.ntmps15
    go_wp2
    go_loop [3, 9] (fun s i => i = .int .i64 0 ∧ s = .int .u32 4294967295) (fun _ _ => 0)
    case atStart => exact ⟨rfl, rfl⟩
    case round =>
      obtain ⟨rfl, rfl⟩ := hrel
      go_wp2
      go_ret
      exact ⟨rfl, rfl⟩
end Go.Proofs.Ytpilgbiedbhpeaa
