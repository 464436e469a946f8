/-
  CONTRACT OF postilionref04.Encode.
-/
import Derived.Test.YtfanfkocmdkllaaEk
import Derived.Test.YtfanfkocmdkllaaEd
import Derived.Test.YtfanfkocmdkllaaPt
namespace Go.Proofs.Ytfanfkocmdkllaa
open Go.RowKit
set_option linter.unusedVariables false
set_option maxHeartbeats 4000000 in
theorem rencode_any (v : Value) (es : List PM.At) (w : World) (hv : PM.EV w v es) (hw : ∀ x ∈ es, x.wf) :
    Calls Try.prog 13 #[v] w (RetE 5 w es) := by
  have hck := recheck_any v es w hv hw
  by_cases hc : PM.chkP es
  case neg =>
    rw [PM.chk_no hc] at hck
    have hch := PM.hid hc
    obtain ⟨ad, cap, rfl, _⟩ := hv
    clear hc
    go_enter Try.func13, Try.ntmps13
    go_wp2_with fail
    refine hck.mono ?_
    rintro e w1 ⟨rfl, hB1⟩
    have hB := PM.hid hB1
    clear hB1 hck
    go_wp2_with fail
    go_ret2
    exact ⟨.slice none 0 0, by rw [PM.chk_no hch.out]; rfl, fun h => absurd h hch.out, fun _ => rfl, hB.out⟩
  rw [PM.chk_yes hc] at hck
  have hlen := hc.2.1
  have hvh := PM.hid hv
  obtain ⟨ad, cap, rfl, hcap, hmax, hel⟩ := hv
  unfold maxLen at hmax
  obtain ⟨L, hL⟩ : ∃ L, L = es.length := ⟨_, rfl⟩
  have hLh := PM.hid hL
  rw [← hL] at hcap hck hlen ⊢
  have hch := PM.hid hc
  have hwh := PM.hid hw
  clear hel hL hc hw
  go_enter Try.func13, Try.ntmps13
  go_wp2_with fail
  refine hck.mono ?_
  rintro e w1 ⟨rfl, hB1⟩
  have hi : IntKind.u64.wrap (L : Int) = (L : Int) := by rw [IntKind.wrap_u64]; omega
  go_wp2_with fail
  refine (rfnumber_any L (by omega) w1).mono ?_
  rintro e w2 ⟨o2, rfl, ho2, hB2⟩
  have hin := PM.hid (And.intro (ho2.mono hB1.size) (PM.chain hB1 hB2))
  clear ho2 hB1 hB2 hck
  go_wp2_with fail
  go_loopw [4, 5] (fun o i wr => ∃ k : Nat, i = .int .i64 k ∧ k ≤ L ∧ PM.OW 5 w.heap.size wr o (PM.numB L ++ ((es.take k).map PM.attB).flatten) ∧ Below w.heap.size w wr) (fun _ i _ => L - (intOf i).toNat)
  case atStart => exact ⟨0, rfl, by omega, by simpa using hin.out.1, hin.out.2⟩
  case round =>
    obtain ⟨k, rfl, hk, ho, hB⟩ := hrel
    by_cases hlt : k < L
    · obtain ⟨z, hz⟩ : ∃ z, es[k]? = some z := ⟨es[k]'(by rw [← hLh.out]; exact hlt), List.getElem?_eq_getElem _⟩
      obtain ⟨_, _, he, _, _, hel⟩ := hvh.out
      obtain ⟨b, off, rfl, hce⟩ := hel (by rw [← hLh.out]; omega)
      cases he
      obtain ⟨d0, d1, d2, d3⟩ := hce k z hz
      have e1 := PM.hid d1
      have e2 := PM.hid d2
      have e3 := PM.hid d3
      replace d0 := PM.cellA hB d0
      replace d1 := PM.cellA hB d1
      replace d2 := PM.cellA hB d2
      replace d3 := PM.cellA hB d3
      have hzh := PM.hid hz
      obtain ⟨l5, hl5⟩ : ∃ l5, l5 = PM.numB L ++ ((es.take k).map PM.attB).flatten := ⟨_, rfl⟩
      rw [← hl5] at ho
      have hl5h := PM.hid hl5
      clear hz hce hel hl5
      have hnb := (hwh.out z (List.mem_of_getElem? hzh.out))
      have hbd : l5.length ≤ 10000 ∧ z.name.size ≤ 100 ∧ z.s.size ≤ 100 := by
        have g1 := PM.row_le hch.out hwh.out k (by rw [← hLh.out]; omega)
        have g2 := PM.attB_le z ((hch.out.2.2 k (by rw [← hLh.out]; exact hlt)) z hzh.out).1 hnb
        have g3 := PM.wid_le L (by omega)
        refine ⟨?_, g2.2⟩
        rw [hl5h.out, List.length_append, PM.numB_length]
        omega
      have hbw : b < wr.heap.size := World.block_lt_of_cell? wr _ d0
      have kc := PM.run_conv bty Try.underlying9 wr z.name
      have hBc := PM.convW_below 5 wr z.name
      have hcv := PM.convW_bs 5 wr z.name (by omega)
      have h3 := PM.size_len z.name
      have h3' := PM.size_len z.s
      have hb1 := Go.bounds_i64 hnb.2.1
      have hb2 := Go.bounds_i64 hnb.2.2.1
      have hoc := ho.keep hBc
      have hBs := Nat.le_trans hB.size hBc.size
      have hBh := PM.hid (And.intro hB hBc)
      clear ho hB hBc
      go_wp2_with fail
      refine (rfbytes_any _ _ _ hcv (by omega)).mono ?_
      rintro e w3 ⟨v3, rfl, ho3, hB3⟩
      have hs3 := ho3.bs
      have ho5 := hoc.keep hB3
      have hz3 := Nat.le_trans hBs hB3.size
      have hbl : (l5 ++ PM.bytesB z.name.data.toList).length ≤ 20000 := by
        have := PM.wid_le z.name.data.toList.length (by omega)
        rw [List.length_append, PM.bytesB, List.length_append, PM.numB_length]; omega
      have hn1 : l5.length + (PM.bytesB z.name.data.toList).length ≤ 140737488355328 := by rw [List.length_append] at hbl; omega
      replace hBh := PM.hid (PM.chain (PM.chain hBh.out.1 hBh.out.2) hB3)
      clear hoc hz3 hB3 ho3 d0 d1 d2 d3 hcv kc
      have hz3 := hBh.out.size
      go_wp2_with (at_builtin; refine PM.wpList_app bty w.heap.size rfl _ _ rfl _ _ l5 (PM.bytesB z.name.data.toList) rfl rfl ho5 hs3 hn1 hz3 ?_; intro v6 w6 q1 q2 _; have hB6 := hBh.out.trans q2; have d1 := PM.cellA hB6 e1.out; have d2 := PM.cellA hB6 e2.out; have d3 := PM.cellA hB6 e3.out; have hB6h := PM.hid hB6; clear ho5 hs3 hn1 hz3 hBh q2 hB6)
      refine (rfvalue_any z.k z.n z.s w6 (by omega) hb1.1 hb1.2 hb2.1 hb2.2).mono ?_
      rintro e w7 ⟨v7, rfl, ho7, hB7⟩
      have q7 := q1.keep hB7
      have hs7 := ho7.bs
      have hB7h := PM.hid (PM.chain hB6h.out hB7)
      have hz7 := hB7h.out.size
      have hvl : (PM.valB z.k z.n z.s.data.toList).length ≤ 20000 := by
        have g2 := PM.attB_le z ((hch.out.2.2 k (by rw [← hLh.out]; exact hlt)) z hzh.out).1 hnb
        have := g2.1
        unfold PM.attB at this
        rw [List.length_append] at this
        omega
      have hn7 : (l5 ++ PM.bytesB z.name.data.toList).length + (PM.valB z.k z.n z.s.data.toList).length ≤ 140737488355328 := by omega
      clear q1 hB6h hB7 ho7 d1 d2 d3
      go_wp2_with (at_builtin; refine PM.wpList_app bty w.heap.size rfl _ _ rfl _ _ _ (PM.valB z.k z.n z.s.data.toList) rfl rfl q7 hs7 hn7 hz7 ?_; intro v8 w8 q1 q2 _; have hE := PM.hid (And.intro q1 (hB7h.out.trans q2)); clear q7 hs7 hn7 hz7 hB7h q1 q2)
      refine ⟨⟨k + 1, by go_num, by omega, ?_, hE.out.2⟩, by simp only [intOf]; omega⟩
      have hlist : PM.numB L ++ ((es.take (k + 1)).map PM.attB).flatten = l5 ++ PM.bytesB z.name.data.toList ++ PM.valB z.k z.n z.s.data.toList := by rw [hl5h.out, List.take_add_one, hzh.out]; simp [PM.attB, List.append_assoc]
      rw [hlist]
      exact hE.out.1
    · have hkL : k = L := by omega
      subst hkL
      rw [List.take_of_length_le (by rw [← hLh.out]; omega)] at ho
      obtain ⟨ya, yc, rfl⟩ := ho.bs.len
      have hE := PM.hid (And.intro ho hB)
      clear ho hB
      go_wp2_with fail
      go_ret2
      refine ⟨.slice ya (PM.numB k ++ (es.map PM.attB).flatten).length yc, by rw [PM.chk_yes hch.out]; rfl, fun _ => ?_, fun h => absurd hch.out h, hE.out.2⟩
      have := hE.out.1
      rw [PM.encB, ← hLh.out]
      exact this
end Go.Proofs.Ytfanfkocmdkllaa
