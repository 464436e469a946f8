/-
  CONTRACT OF filter.Encode.
-/
import Derived.Test.YtklgibkdbdhaiaaIc
import Derived.Test.YtklgibkdbdhaiaaQf
import Derived.Test.YtklgibkdbdhaiaaPv
import Derived.Test.YtklgibkdbdhaiaaRt
import Derived.Deep.RegionWith
import Derived.Deep.CutRange
namespace Go.Proofs.Ytklgibkdbdhaiaa
open Go.RowKit
set_option linter.unusedVariables false
theorem PM.tesB_is {z : PM.Te} (h : 1 ≤ z.op) (h' : z.op ≤ 8) (h8 : z.op = 8) : PM.tesB z = PM.bytesB z.name.data.toList ++ PM.numB z.op.toNat := by
  have hu : PM.u64 z.op = z.op.toNat := by unfold PM.u64; omega
  unfold PM.tesB
  rw [if_pos h8, List.append_nil, hu]
theorem PM.tesB_not {z : PM.Te} (h : 1 ≤ z.op) (h' : z.op ≤ 8) (h8 : ¬ z.op = 8) : PM.tesB z = PM.bytesB z.name.data.toList ++ PM.numB z.op.toNat ++ PM.valB z.k z.n z.s.data.toList := by
  have hu : PM.u64 z.op = z.op.toNat := by unfold PM.u64; omega
  unfold PM.tesB
  rw [if_neg h8, hu]
theorem PM.row_more {es : List PM.Te} {k : Nat} {z : PM.Te} {l5 X : List UInt8} {L : Nat} (hl : l5 = PM.numB L ++ ((es.take k).map PM.tesB).flatten) (hz : es[k]? = some z) (hX : PM.tesB z = X) : PM.numB L ++ ((es.take (k + 1)).map PM.tesB).flatten = l5 ++ X := by
  rw [hl, List.take_add_one, hz, ← hX]
  simp [List.append_assoc]
/-- what Encode answers: the bytes, and the number of the error -/
def RetFE (E : TypeId) (W : World) (es : List PM.Te) (e : Ending) (w' : World) : Prop :=
  ∃ o, e = .returned (.tuple #[o, .int .i64 (PM.filE es)]) ∧ (PM.filP es → PM.OW E W.heap.size w' o (PM.filB es)) ∧ (¬ PM.filP es → o = .slice none 0 0) ∧ Below W.heap.size W w'
set_option maxRecDepth 100000 in
set_option maxHeartbeats 8000000 in
theorem fencode_any (v : Value) (es : List PM.Te) (w : World) (hv : PM.TV w v es) (hw : ∀ x ∈ es, x.wf) :
    Calls Try.prog 24 #[v] w (RetFE 5 w es) := by
  have hck := fcheck_any v es w hv
  by_cases hc : PM.filP es
  case neg =>
    rw [PM.filE_no hc] at hck
    have hch := PM.hid hc
    obtain ⟨ad, cap, rfl, _⟩ := hv
    clear hc
    go_enter Try.func24, Try.ntmps24
    go_wp2_with fail
    refine hck.mono ?_
    rintro e w1 ⟨rfl, hB1⟩
    have hB := PM.hid hB1
    clear hB1 hck
    go_wp2_with fail
    go_ret2
    exact ⟨.slice none 0 0, by rw [PM.filE_no hch.out]; rfl, fun h => absurd h hch.out, fun _ => rfl, hB.out⟩
  rw [PM.filE_yes hc] at hck
  have hlen := hc.1
  have hvh := PM.hid hv
  obtain ⟨ad, cap, rfl, hcap, hmax, hel⟩ := hv
  unfold maxLen at hmax
  obtain ⟨L, hL⟩ : ∃ L, L = es.length := ⟨_, rfl⟩
  have hLh := PM.hid hL
  rw [← hL] at hcap hck hlen ⊢
  have hch := PM.hid hc
  have hwh := PM.hid hw
  clear hel hL hc hw
  go_enter Try.func24, Try.ntmps24
  go_wp2_with fail
  refine hck.mono ?_
  rintro e w1 ⟨rfl, hB1⟩
  go_wp2_with fail
  refine (number_c _ [] _ L (by first | rfl | omega | (simp; omega)) (by omega) w1 (PM.BS.nil _) (by simp)).mono ?_
  rintro e w2 ⟨o2, rfl, ho2, hB2⟩
  have hC2 := PM.chain hB1 hB2
  have ho2' := ho2.mono hB1.size
  have hin := PM.hid (And.intro ho2' hC2)
  clear ho2 ho2' hB1 hB2 hC2 hck
  go_wp2_with fail
  go_loopw [5, 19] (fun o i wr => ∃ k : Nat, i = .int .i64 k ∧ k ≤ L ∧ PM.OW 5 w.heap.size wr o (PM.numB L ++ ((es.take k).map PM.tesB).flatten) ∧ Below w.heap.size w wr) (fun _ i _ => L - (intOf i).toNat)
  case atStart => exact ⟨0, rfl, by omega, by simpa using hin.out.1, hin.out.2⟩
  case round =>
    obtain ⟨k, rfl, hk, ho, hB⟩ := hrel
    by_cases hlt : k < L
    · obtain ⟨z, hz⟩ : ∃ z, es[k]? = some z := ⟨es[k]'(by rw [← hLh.out]; exact hlt), List.getElem?_eq_getElem _⟩
      obtain ⟨_, _, he, _, _, hel⟩ := hvh.out
      obtain ⟨b, off, rfl, hce⟩ := hel (by rw [← hLh.out]; omega)
      cases he
      have hli := hce k z hz
      have d0 := PM.cellA hB (hli 0 _ rfl)
      have d1 := PM.cellA hB (hli 1 _ rfl)
      have d2 := PM.cellA hB (hli 2 _ rfl)
      have d3 := PM.cellA hB (hli 3 _ rfl)
      have d4 := PM.cellA hB (hli 4 _ rfl)
      rw [Nat.add_zero] at d0
      have hzh := PM.hid hz
      obtain ⟨l5, hl5⟩ : ∃ l5, l5 = PM.numB L ++ ((es.take k).map PM.tesB).flatten := ⟨_, rfl⟩
      rw [← hl5] at ho
      have hS := PM.hid (And.intro ho hB)
      have hl5h := PM.hid hl5
      clear hz hce hel hli ho hB hl5
      have hnb := (hwh.out z (List.mem_of_getElem? hzh.out))
      have hok := hch.out.2 z (List.mem_of_getElem? hzh.out)
      have hop := PM.teOk_parts hok
      have hbd : l5.length ≤ 10000 ∧ z.name.size ≤ 100 ∧ z.s.size ≤ 100 := by
        have g1 := PM.frow_le hch.out hwh.out k (by rw [← hLh.out]; omega)
        have g2 := PM.tesB_le z hok hnb
        have g3 := PM.wid_le L (by omega)
        refine ⟨?_, g2.2⟩
        rw [hl5h.out, List.length_append, PM.numB_length]
        omega
      obtain ⟨op1, op8⟩ : 1 ≤ z.op ∧ z.op ≤ 8 := ⟨hop.2.1, hop.2.2.1⟩
      have hwo : IntKind.u64.wrap z.op = z.op := by rw [IntKind.wrap_u64]; omega
      clear hok hop
      go_upto_region 8 with fail
      obtain ⟨W0, hW0⟩ : ∃ W0, W0 = wr.alloc (.cells #[.string z.name, .int .i64 z.op, .int .i64 z.k, .int .i64 z.n, .string z.s] 81) := ⟨_, rfl⟩
      obtain ⟨g7, hg7⟩ : ∃ g, g = wr.heap.size := ⟨_, rfl⟩
      have hB0 : Below wr.heap.size wr W0 := by rw [hW0]; exact (Below.refl _ _).alloc (Nat.le_refl _) _
      have hzb : PM.BK W0 g7 #[.string z.name, .int .i64 z.op, .int .i64 z.k, .int .i64 z.n, .string z.s] 81 := by rw [hW0, hg7]; exact PM.BK.new wr _ _
      have hu5 : PM.BS W0 u5 l5 := (hS.out.1.keep hB0).bs
      rw [← hW0, ← hg7]
      clear hW0 hg7 d0 d1 d2 d3 d4
      have c0 : W0.cell? ⟨g7, 0, none⟩ = some (.string z.name) := hzb.cell 0
      have c1 : W0.cell? ⟨g7, 1, none⟩ = some (.int .i64 z.op) := hzb.cell 1
      have kc := PM.run_conv bty Try.underlying9 W0.drew z.name
      have hBc : Below W0.heap.size W0 (PM.convW 5 W0.drew z.name) := (Below.refl _ _).drew.trans (PM.convW_below _ W0.drew _)
      have hBc' := PM.chain hB0 hBc
      have hub := hu5.keep hBc
      have hcv := PM.convW_bs 5 W0.drew z.name (by omega)
      have h3 := PM.size_len z.name
      have h3' := PM.size_len z.s
      have hb1 := Go.bounds_i64 hnb.2.2.1
      have hb2 := Go.bounds_i64 hnb.2.2.2.1
      have hz2 := PM.hid (hzb.keep hBc)
      have m1 : (PM.convW 5 W0.drew z.name).cell? ⟨g7, 1, none⟩ = some (.int .i64 z.op) := hz2.out.cell 1
      have hBch := PM.hid hBc'
      clear hBc hBc' hu5 hzb
      go_region_with (first
        | (go_at_call 25; have hv3 := bytes_any _ _ l5 z.name.data.toList _ hub hcv (by omega) (by omega); refine hv3.mono ?_; clear hv3; rintro e w3 ⟨v3, rfl, ho3, hB3⟩; have hz3 := PM.hid (hz2.out.keep hB3); have k1 : w3.cell? ⟨g7, 1, none⟩ = some (.int .i64 z.op) := hz3.out.cell 1; clear c0 c1 m1; have hE3 := PM.hid (PM.chain hBch.out hB3); have hl3 : (l5 ++ PM.bytesB z.name.data.toList).length ≤ 20000 := (by have := PM.wid_le z.name.data.toList.length (by omega); rw [List.length_append, PM.bytesB, List.length_append, PM.numB_length]; omega); have hs3 := ho3.bs; clear hub hcv kc ho3 hB3)
        | (go_at_call 22; have hv4 := number_c _ _ z.op z.op.toNat (by omega) (by omega) _ hs3 (by omega); refine hv4.mono ?_; clear hv4; rintro e w4 ⟨v4, rfl, ho4, hB4⟩; have hE4 := PM.hid (And.intro (ho4.mono hE3.out.size) (And.intro (PM.chain hE3.out hB4) (hz3.out.keep hB4))); clear ho4 hB4 hs3))
      all_goals
        have j1 : w4.cell? ⟨g7, 1, none⟩ = some (.int .i64 z.op) := hE4.out.2.2.cell 1
        have j2 : w4.cell? ⟨g7, 2, none⟩ = some (.int .i64 z.k) := hE4.out.2.2.cell 2
        have j3 : w4.cell? ⟨g7, 3, none⟩ = some (.int .i64 z.n) := hE4.out.2.2.cell 3
        have j4 : w4.cell? ⟨g7, 4, none⟩ = some (.string z.s) := hE4.out.2.2.cell 4
        have hl4 : (l5 ++ PM.bytesB z.name.data.toList ++ PM.numB z.op.toNat).length ≤ 30000 := by
          have := PM.wid_le z.op.toNat (by omega)
          rw [List.length_append, PM.numB_length]; omega
        by_cases h8 : z.op = 8
        · have q8 : (z.op != 8) = false := by simpa using h8
          have h8h := PM.hid h8
          clear h8
          go_wp2_with fail
          refine ⟨⟨k + 1, by go_num, by omega, ?_, PM.chain hS.out.2 hE4.out.2.1⟩, by simp only [intOf]; omega⟩
          rw [PM.row_more hl5h.out hzh.out (PM.tesB_is op1 op8 h8h.out), ← List.append_assoc]
          exact hE4.out.1.mono hS.out.2.size
        · have q8 : (z.op != 8) = true := by simpa using h8
          have h8h := PM.hid h8
          have hs4 := hE4.out.1.bs
          clear h8
          go_wp2_with fail
          refine (value_any _ _ z.k z.n z.s _ hs4 (by omega) (by omega) hb1.1 hb1.2 hb2.1 hb2.2).mono ?_
          rintro e w5 ⟨v5, rfl, ho5, hB5⟩
          have hE5 := PM.hid (And.intro (ho5.mono (Nat.le_trans hS.out.2.size hE4.out.2.1.size)) (PM.chain (PM.chain hS.out.2 hE4.out.2.1) hB5))
          clear ho5 hB5 hs4 j1 j2 j3 j4
          go_wp2_with fail
          refine ⟨⟨k + 1, by go_num, by omega, ?_, hE5.out.2⟩, by simp only [intOf]; omega⟩
          rw [PM.row_more hl5h.out hzh.out (PM.tesB_not op1 op8 h8h.out), ← List.append_assoc, ← List.append_assoc]
          exact hE5.out.1
    · have hkL : k = L := by omega
      subst hkL
      rw [List.take_of_length_le (by rw [← hLh.out]; omega)] at ho
      obtain ⟨ya, yc, rfl⟩ := ho.bs.len
      have hE := PM.hid (And.intro ho hB)
      clear ho hB
      go_wp2_with fail
      go_ret2
      refine ⟨.slice ya (PM.numB k ++ (es.map PM.tesB).flatten).length yc, by rw [PM.filE_yes hch.out]; rfl, fun _ => ?_, fun h => absurd hch.out h, hE.out.2⟩
      have := hE.out.1
      rw [PM.filB, ← hLh.out]
      exact this
end Go.Proofs.Ytklgibkdbdhaiaa
