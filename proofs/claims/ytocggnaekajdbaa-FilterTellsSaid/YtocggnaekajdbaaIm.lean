/-
  CONTRACT OF postilionref05.Encode.
-/
import Derived.Test.YtocggnaekajdbaaIf
import Derived.Test.YtocggnaekajdbaaIl
import Derived.Test.YtocggnaekajdbaaPt
namespace Go.Proofs.Ytocggnaekajdbaa
open Go.RowKit
set_option linter.unusedVariables false
theorem rfnumber_c (c : Int) (n : Nat) (hc : c = (n : Int)) (hn : n < 2 ^ 64) (w : World) :
    Calls Try.prog 33 #[.int .u64 c] w (PM.RetB 5 w.heap.size w (PM.numB n)) := by
  subst hc
  exact rfnumber_any n hn w
set_option maxHeartbeats 2000000 in
theorem rfencode_any (v : Value) (es : List PM.Te) (w : World) (hv : PM.TV w v es) (hw : ∀ x ∈ es, x.wf) :
    Calls Try.prog 14 #[v] w (RetFE 5 w es) := by
  have hck := rfcheck_any v es w hv (fun x hx => (hw x hx).1)
  by_cases hc : PM.filP es
  case neg =>
    rw [PM.filE_no hc] at hck
    have hch := PM.hid hc
    obtain ⟨ad, cap, rfl, _⟩ := hv
    clear hc
    go_enter Try.func14, Try.ntmps14
    go_wp2_with fail
    refine hck.mono ?_
    rintro e w1 ⟨rfl, hB1⟩
    have hB := PM.hid hB1
    clear hB1 hck
    go_wp2_with fail
    go_ret2
    exact ⟨.slice none 0 0, by rw [PM.filE_no hch.out]; rfl, fun h => absurd h hch.out, fun _ => rfl, hB.out⟩
  rw [PM.filE_yes hc] at hck
  have hlen := hc.1
  have hvh := PM.hid hv
  obtain ⟨ad, cap, rfl, hcap, hmax, hel⟩ := hv
  unfold maxLen at hmax
  obtain ⟨L, hL⟩ : ∃ L, L = es.length := ⟨_, rfl⟩
  have hLh := PM.hid hL
  rw [← hL] at hcap hck hlen ⊢
  have hch := PM.hid hc
  have hwh := PM.hid hw
  clear hel hL hc hw
  go_enter Try.func14, Try.ntmps14
  go_wp2_with fail
  refine hck.mono ?_
  rintro e w1 ⟨rfl, hB1⟩
  have hi : IntKind.u64.wrap (L : Int) = (L : Int) := by rw [IntKind.wrap_u64]; omega
  go_wp2_with fail
  refine (rfnumber_any L (by omega) w1).mono ?_
  rintro e w2 ⟨o2, rfl, ho2, hB2⟩
  have hin := PM.hid (And.intro (ho2.mono hB1.size) (PM.chain hB1 hB2))
  clear ho2 hB1 hB2 hck
  go_wp2_with fail
  go_loopw [4, 5] (fun o i wr => ∃ k : Nat, i = .int .i64 k ∧ k ≤ L ∧ PM.OW 5 w.heap.size wr o (PM.numB L ++ ((es.take k).map PM.tesB).flatten) ∧ Below w.heap.size w wr) (fun _ i _ => L - (intOf i).toNat)
  case atStart => exact ⟨0, rfl, by omega, by simpa using hin.out.1, hin.out.2⟩
  case round =>
    obtain ⟨k, rfl, hk, ho, hB⟩ := hrel
    by_cases hlt : k < L
    · obtain ⟨z, hz⟩ : ∃ z, es[k]? = some z := ⟨es[k]'(by rw [← hLh.out]; exact hlt), List.getElem?_eq_getElem _⟩
      obtain ⟨_, _, he, _, _, hel⟩ := hvh.out
      obtain ⟨b, off, rfl, hce⟩ := hel (by rw [← hLh.out]; omega)
      cases he
      have hli := hce k z hz
      have d0 := hli 0 _ rfl
      have d1 := hli 1 _ rfl
      have d2 := hli 2 _ rfl
      have d3 := hli 3 _ rfl
      have d4 := hli 4 _ rfl
      rw [Nat.add_zero] at d0
      have e1 := PM.hid d1
      have e2 := PM.hid d2
      have e3 := PM.hid d3
      have e4 := PM.hid d4
      replace d0 := PM.cellA hB d0
      clear d1 d2 d3 d4 hli
      have hzh := PM.hid hz
      obtain ⟨l5, hl5⟩ : ∃ l5, l5 = PM.numB L ++ ((es.take k).map PM.tesB).flatten := ⟨_, rfl⟩
      rw [← hl5] at ho
      have hl5h := PM.hid hl5
      clear hz hce hel hl5
      have hnb := (hwh.out z (List.mem_of_getElem? hzh.out))
      have hok := hch.out.2 z (List.mem_of_getElem? hzh.out)
      have hop := PM.teOk_parts hok
      have hbd : l5.length ≤ 10000 ∧ z.name.size ≤ 100 ∧ z.s.size ≤ 100 := by
        have g1 := PM.frow_le hch.out hwh.out k (by rw [← hLh.out]; omega)
        have g2 := PM.tesB_le z hok hnb
        have g3 := PM.wid_le L (by omega)
        refine ⟨?_, g2.2⟩
        rw [hl5h.out, List.length_append, PM.numB_length]
        omega
      have hvl : (PM.valB z.k z.n z.s.data.toList).length ≤ 20000 := by
        have hb := Go.bounds_i64 hnb.2.2.2.1
        have := PM.size_len z.s
        have w3 := PM.wid_le (PM.u64 z.k) (PM.u64_lt _)
        have w4 : PM.wid (if z.k = 1 then PM.foldZ z.n else PM.u64 z.n) ≤ 8 := by
          split
          · exact PM.wid_le _ (PM.foldZ_lt _ hb.1 hb.2)
          · exact PM.wid_le _ (PM.u64_lt _)
        have w5 := PM.wid_le z.s.data.toList.length (by omega)
        unfold PM.valB PM.bytesB
        simp only [List.length_append, PM.numB_length]
        omega
      obtain ⟨op1, op8⟩ : 1 ≤ z.op ∧ z.op ≤ 8 := ⟨hop.2.1, hop.2.2.1⟩
      have hwo : IntKind.u64.wrap z.op = z.op := by rw [IntKind.wrap_u64]; omega
      have hon : z.op.toNat < 2 ^ 64 := by omega
      clear hok hop
      have kc := PM.run_conv bty Try.underlying9 wr z.name
      have hBc := PM.convW_below 5 wr z.name
      have hcv := PM.convW_bs 5 wr z.name (by omega)
      have h3 := PM.size_len z.name
      have h3' := PM.size_len z.s
      have hb1 := Go.bounds_i64 hnb.2.2.1
      have hb2 := Go.bounds_i64 hnb.2.2.2.1
      have hoc := ho.keep hBc
      have hBs := Nat.le_trans hB.size hBc.size
      have hBh := PM.hid (And.intro hB hBc)
      clear ho hB hBc
      go_wp2_with fail
      refine (rfbytes_any _ _ _ hcv (by omega)).mono ?_
      rintro e w3 ⟨v3, rfl, ho3, hB3⟩
      have hs3 := ho3.bs
      have ho5 := hoc.keep hB3
      have hbl : (l5 ++ PM.bytesB z.name.data.toList).length ≤ 20000 := by
        have := PM.wid_le z.name.data.toList.length (by omega)
        rw [List.length_append, PM.bytesB, List.length_append, PM.numB_length]; omega
      have hn1 : l5.length + (PM.bytesB z.name.data.toList).length ≤ 140737488355328 := by rw [List.length_append] at hbl; omega
      replace hBh := PM.hid (PM.chain (PM.chain hBh.out.1 hBh.out.2) hB3)
      clear hoc hB3 ho3 d0 hcv kc
      have hz3 := hBh.out.size
      go_wp2_with (at_builtin; refine PM.wpList_app bty w.heap.size rfl _ _ rfl _ _ l5 (PM.bytesB z.name.data.toList) rfl rfl ho5 hs3 hn1 hz3 ?_; intro v6 w6 q1 q2 _; have hB6 := hBh.out.trans q2; have d1 := PM.cellA hB6 e1.out; have hB6h := PM.hid hB6; clear ho5 hs3 hn1 hz3 hBh q2 hB6)
      refine (rfnumber_c z.op z.op.toNat (by omega) hon w6).mono ?_
      rintro e w7 ⟨v7, rfl, ho7, hB7⟩
      have q7 := q1.keep hB7
      have hs7 := ho7.bs
      have hB7h := PM.hid (PM.chain hB6h.out hB7)
      have hz7 := hB7h.out.size
      have hol : (PM.numB z.op.toNat).length ≤ 10 := by have := PM.wid_le z.op.toNat hon; rw [PM.numB_length]; omega
      have hn7 : (l5 ++ PM.bytesB z.name.data.toList).length + (PM.numB z.op.toNat).length ≤ 140737488355328 := by omega
      have hbl7 : (l5 ++ PM.bytesB z.name.data.toList ++ PM.numB z.op.toNat).length ≤ 30000 := by rw [List.length_append]; omega
      clear q1 hB6h hB7 ho7 d1
      by_cases h8 : z.op = 8
      · have q8 : (z.op != 8) = false := by simpa using h8
        have h8h := PM.hid h8
        clear h8
        go_wp2_with (at_builtin; refine PM.wpList_app bty w.heap.size rfl _ _ rfl _ _ _ (PM.numB z.op.toNat) rfl rfl q7 hs7 hn7 hz7 ?_; intro v8 w8 q1 q2 _; have hB8 := hB7h.out.trans q2; have d1 := PM.cellA hB8 e1.out; have hE := PM.hid (And.intro q1 hB8); clear q7 hs7 hn7 hz7 hB7h q1 q2 hB8)
        refine ⟨⟨k + 1, by go_num, by omega, ?_, hE.out.2⟩, by simp only [intOf]; omega⟩
        rw [PM.row_more hl5h.out hzh.out (PM.tesB_is op1 op8 h8h.out), ← List.append_assoc]
        exact hE.out.1
      · have q8 : (z.op != 8) = true := by simpa using h8
        have h8h := PM.hid h8
        clear h8
        go_wp2_with (at_builtin; refine PM.wpList_app bty w.heap.size rfl _ _ rfl _ _ _ (PM.numB z.op.toNat) rfl rfl q7 hs7 hn7 hz7 ?_; intro v8 w8 q1 q2 _; have hB8 := hB7h.out.trans q2; have d1 := PM.cellA hB8 e1.out; have d2 := PM.cellA hB8 e2.out; have d3 := PM.cellA hB8 e3.out; have d4 := PM.cellA hB8 e4.out; have hE := PM.hid (And.intro q1 hB8); clear q7 hs7 hn7 hz7 hB7h q1 q2 hB8)
        refine (rfvalue_any z.k z.n z.s w8 (by omega) hb1.1 hb1.2 hb2.1 hb2.2).mono ?_
        rintro e w9 ⟨v9, rfl, ho9, hB9⟩
        have q9 := hE.out.1.keep hB9
        have hs9 := ho9.bs
        have hB9h := PM.hid (PM.chain hE.out.2 hB9)
        have hz9 := hB9h.out.size
        have hn9 : (l5 ++ PM.bytesB z.name.data.toList ++ PM.numB z.op.toNat).length + (PM.valB z.k z.n z.s.data.toList).length ≤ 140737488355328 := by omega
        clear hE hB9 ho9 d1 d2 d3 d4
        go_wp2_with (at_builtin; refine PM.wpList_app bty w.heap.size rfl _ _ rfl _ _ _ (PM.valB z.k z.n z.s.data.toList) rfl rfl q9 hs9 hn9 hz9 ?_; intro va wa q1 q2 _; have hF := PM.hid (And.intro q1 (hB9h.out.trans q2)); clear q9 hs9 hn9 hz9 hB9h q1 q2)
        refine ⟨⟨k + 1, by go_num, by omega, ?_, hF.out.2⟩, by simp only [intOf]; omega⟩
        rw [PM.row_more hl5h.out hzh.out (PM.tesB_not op1 op8 h8h.out), ← List.append_assoc, ← List.append_assoc]
        exact hF.out.1
    · have hkL : k = L := by omega
      subst hkL
      rw [List.take_of_length_le (by rw [← hLh.out]; omega)] at ho
      obtain ⟨ya, yc, rfl⟩ := ho.bs.len
      have hE := PM.hid (And.intro ho hB)
      clear ho hB
      go_wp2_with fail
      go_ret2
      refine ⟨.slice ya (PM.numB k ++ (es.map PM.tesB).flatten).length yc, by rw [PM.filE_yes hch.out]; rfl, fun _ => ?_, fun h => absurd hch.out h, hE.out.2⟩
      have := hE.out.1
      rw [PM.filB, ← hLh.out]
      exact this
end Go.Proofs.Ytocggnaekajdbaa
