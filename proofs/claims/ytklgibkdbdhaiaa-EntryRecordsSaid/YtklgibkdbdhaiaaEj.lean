/-
  CONTRACT OF event.Encode.
-/
import Derived.Test.YtklgibkdbdhaiaaEc
import Derived.Test.YtklgibkdbdhaiaaPv
import Derived.Test.YtklgibkdbdhaiaaRt
import Derived.Deep.RegionWith
namespace Go.Proofs.Ytklgibkdbdhaiaa
open Go.RowKit
set_option linter.unusedVariables false
namespace PM
def attB (z : At) : List UInt8 := bytesB z.name.data.toList ++ valB z.k z.n z.s.data.toList
def encB (es : List At) : List UInt8 := numB es.length ++ (es.map attB).flatten
theorem may_text {k n : Int} {s : List UInt8} (h : may k n s = true) : s.length ≤ 40 := by
  unfold may at h
  split at h
  · simp at h; subst h; simp
  · split at h
    · simp at h; exact h.2
    · split at h
      · simp at h; rw [h.2]; simp
      · cases h
theorem attB_le (z : At) (h : atOk z = true) (hw : z.wf) : (attB z).length ≤ 200 ∧ z.name.size ≤ 100 ∧ z.s.size ≤ 100 := by
  unfold atOk at h
  simp only [Bool.and_eq_true] at h
  obtain ⟨h1, h2⟩ := h
  have hn : z.name.data.toList.length ≤ 16 := by
    unfold nameL at h1
    simp only [Bool.and_eq_true, decide_eq_true_eq] at h1
    exact h1.1.2
  have hs : z.s.data.toList.length ≤ 40 := may_text h2
  have e1 := size_len' z.name
  have e2 := size_len' z.s
  have hf : ∀ n, foldZ n < 2 ^ 64 → wid (foldZ n) ≤ 8 := fun n h => wid_le _ h
  have hb := Go.bounds_i64 hw.2.2.1
  refine ⟨?_, by omega, by omega⟩
  unfold attB valB bytesB
  simp only [List.length_append, numB_length]
  have w1 := wid_le z.name.data.toList.length (by omega)
  have w2 := wid_le (u64 z.k) (u64_lt _)
  have w3 := wid_le z.s.data.toList.length (by omega)
  have w4 : wid (if z.k = 1 then foldZ z.n else u64 z.n) ≤ 8 := by
    split
    · exact wid_le _ (foldZ_lt _ hb.1 hb.2)
    · exact wid_le _ (u64_lt _)
  omega
theorem row_le {es : List At} (hc : chkP es) (hw : ∀ x ∈ es, x.wf) : ∀ k, k ≤ es.length → (((es.take k).map attB).flatten).length ≤ k * 200
  | 0, _ => by simp
  | k + 1, hk => by
    have ih := row_le hc hw k (by omega)
    have hz : es[k]? = some es[k] := List.getElem?_eq_getElem (by omega)
    have := (attB_le es[k] ((hc.2.2 k (by omega)) _ hz).1 (hw _ (List.getElem_mem _))).1
    rw [List.take_add_one, hz]
    simp only [Option.toList, List.map_append, List.flatten_append, List.length_append, List.map_cons, List.map_nil, List.flatten_cons, List.flatten_nil, List.append_nil]
    omega
end PM
set_option maxHeartbeats 4000000 in
theorem encode_ok (v : Value) (es : List PM.At) (w : World) (hv : PM.EV w v es) (hc : PM.chkP es) (hw : ∀ x ∈ es, x.wf) :
    Calls Try.prog 42 #[v] w fun e w' => ∃ o, e = .returned (.tuple #[o, .int .i64 0]) ∧ PM.OW 5 w.heap.size w' o (PM.encB es) ∧ Below w.heap.size w w' := by
  have hck := echeck_any v es w hv
  rw [PM.chk_yes hc] at hck
  have hlen := hc.2.1
  have hvh := PM.hid hv
  obtain ⟨ad, cap, rfl, hcap, hmax, hel⟩ := hv
  unfold maxLen at hmax
  obtain ⟨L, hL⟩ : ∃ L, L = es.length := ⟨_, rfl⟩
  have hLh := PM.hid hL
  rw [← hL] at hcap hck hlen ⊢
  have hch := PM.hid hc
  have hwh := PM.hid hw
  clear hel hL hc hw
  go_enter Try.func42, Try.ntmps42
  go_wp2_with fail
  refine hck.mono ?_
  rintro e w1 ⟨rfl, hB1⟩
  go_wp2_with fail
  refine (number_c _ [] _ L (by first | rfl | omega | (simp; omega)) (by omega) w1 (PM.BS.nil _) (by simp)).mono ?_
  rintro e w2 ⟨o2, rfl, ho2, hB2⟩
  have hC2 := PM.chain hB1 hB2
  have ho2' := ho2.mono hB1.size
  have hin := PM.hid (And.intro ho2' hC2)
  clear ho2 ho2' hB1 hB2 hC2 hck
  go_wp2_with fail
  go_loopw [5, 19] (fun o i wr => ∃ k : Nat, i = .int .i64 k ∧ k ≤ L ∧ PM.OW 5 w.heap.size wr o (PM.numB L ++ ((es.take k).map PM.attB).flatten) ∧ Below w.heap.size w wr) (fun _ i _ => L - (intOf i).toNat)
  case atStart => exact ⟨0, rfl, by omega, by simpa using hin.out.1, hin.out.2⟩
  case round =>
    obtain ⟨k, rfl, hk, ho, hB⟩ := hrel
    by_cases hlt : k < L
    · obtain ⟨z, hz⟩ : ∃ z, es[k]? = some z := ⟨es[k]'(by rw [← hLh.out]; exact hlt), List.getElem?_eq_getElem _⟩
      obtain ⟨_, _, he, _, _, hel⟩ := hvh.out
      obtain ⟨b, off, rfl, hce⟩ := hel (by rw [← hLh.out]; omega)
      cases he
      obtain ⟨d0, d1, d2, d3⟩ := hce k z hz
      replace d0 := PM.cellA hB d0
      replace d1 := PM.cellA hB d1
      replace d2 := PM.cellA hB d2
      replace d3 := PM.cellA hB d3
      have hzh := PM.hid hz
      obtain ⟨l5, hl5⟩ : ∃ l5, l5 = PM.numB L ++ ((es.take k).map PM.attB).flatten := ⟨_, rfl⟩
      rw [← hl5] at ho
      have hS := PM.hid (And.intro ho hB)
      have hl5h := PM.hid hl5
      clear hz hce hel ho hB hl5
      have hnb := (hwh.out z (List.mem_of_getElem? hzh.out))
      have hbd : l5.length ≤ 10000 ∧ z.name.size ≤ 100 ∧ z.s.size ≤ 100 := by
        have g1 := PM.row_le hch.out hwh.out k (by rw [← hLh.out]; omega)
        have g2 := PM.attB_le z ((hch.out.2.2 k (by rw [← hLh.out]; exact hlt)) z hzh.out).1 hnb
        have g3 := PM.wid_le L (by omega)
        refine ⟨?_, g2.2⟩
        rw [hl5h.out, List.length_append, PM.numB_length]
        omega
      go_wp2_with fail
      obtain ⟨W0, hW0⟩ : ∃ W0, W0 = wr.alloc (.cells #[.string z.name, .int .i64 z.k, .int .i64 z.n, .string z.s] 79) := ⟨_, rfl⟩
      have hB0 : Below wr.heap.size wr W0 := by rw [hW0]; exact (Below.refl _ _).alloc (Nat.le_refl _) _
      have hzb : PM.BK W0 wr.heap.size #[.string z.name, .int .i64 z.k, .int .i64 z.n, .string z.s] 79 := by rw [hW0]; exact PM.BK.new wr _ _
      have hu5 : PM.BS W0 u5 l5 := (hS.out.1.keep hB0).bs
      rw [← hW0]
      clear hW0 d0 d1 d2 d3
      have hS0 := hS
      have c0 := hzb.cell 0
      have c1 := hzb.cell 1
      have c2 := hzb.cell 2
      have c3 := hzb.cell 3
      replace c0 : W0.cell? ⟨wr.heap.size, 0, none⟩ = some (.string z.name) := c0
      replace c1 : W0.cell? ⟨wr.heap.size, 1, none⟩ = some (.int .i64 z.k) := c1
      replace c2 : W0.cell? ⟨wr.heap.size, 2, none⟩ = some (.int .i64 z.n) := c2
      replace c3 : W0.cell? ⟨wr.heap.size, 3, none⟩ = some (.string z.s) := c3
      have kc := PM.run_conv bty Try.underlying9 W0.drew z.name
      have hBc : Below W0.heap.size W0 (PM.convW 5 W0.drew z.name) := (Below.refl _ _).drew.trans (PM.convW_below _ W0.drew _)
      have hBc' := PM.chain hB0 hBc
      have hub := hu5.keep hBc
      have hcv := PM.convW_bs 5 W0.drew z.name (by omega)
      have h3 := PM.size_len z.name
      have hb1 := Go.bounds_i64 hnb.2.1
      have hb2 := Go.bounds_i64 hnb.2.2.1
      have hz2 := PM.hid (hzb.keep hBc)
      have m1 : (PM.convW 5 W0.drew z.name).cell? ⟨wr.heap.size, 1, none⟩ = some (.int .i64 z.k) := hz2.out.cell 1
      have m2 : (PM.convW 5 W0.drew z.name).cell? ⟨wr.heap.size, 2, none⟩ = some (.int .i64 z.n) := hz2.out.cell 2
      have m3 : (PM.convW 5 W0.drew z.name).cell? ⟨wr.heap.size, 3, none⟩ = some (.string z.s) := hz2.out.cell 3
      have hBch := PM.hid hBc'
      clear hBc hBc' hu5
      go_region_with (first
        | (go_at_call 25; have hv3 := bytes_any _ _ l5 z.name.data.toList _ hub hcv (by omega) (by omega); refine hv3.mono ?_; clear hv3; rintro e w3 ⟨v3, rfl, ho3, hB3⟩; have hz3 := hz2.out.keep hB3; have k0 : w3.cell? ⟨wr.heap.size, 0, none⟩ = some (.string z.name) := hz3.cell 0; have k1 : w3.cell? ⟨wr.heap.size, 1, none⟩ = some (.int .i64 z.k) := hz3.cell 1; have k2 : w3.cell? ⟨wr.heap.size, 2, none⟩ = some (.int .i64 z.n) := hz3.cell 2; have k3 : w3.cell? ⟨wr.heap.size, 3, none⟩ = some (.string z.s) := hz3.cell 3; clear c0 c1 c2 c3 m1 m2 m3; have hE3 := PM.hid (PM.chain hBch.out hB3); have hl3 : (l5 ++ PM.bytesB z.name.data.toList).length ≤ 20000 := (by have := PM.wid_le z.name.data.toList.length (by omega); rw [List.length_append, PM.bytesB, List.length_append, PM.numB_length]; omega); have hs3 := ho3.bs; have hg3 := Nat.le_trans hB0.size (Nat.le_refl W0.heap.size); clear hub hcv kc ho3 hB3 hz3)
        | (go_at_call 44; have hv4 := value_any _ _ z.k z.n z.s _ hs3 (by omega) (by omega) hb1.1 hb1.2 hb2.1 hb2.2; refine hv4.mono ?_; clear hv4; rintro e w4 ⟨v4, rfl, ho4, hB4⟩; have hE4 := PM.hid (And.intro (ho4.mono hE3.out.size) (PM.chain hE3.out hB4)); clear ho4 hB4 hs3))
      all_goals
        obtain ⟨ya, yc, rfl⟩ := hE4.out.1.bs.len
        go_wp2_with fail
        refine ⟨⟨k + 1, by go_num, by omega, ?_, PM.chain hS0.out.2 hE4.out.2⟩, by simp only [intOf]; omega⟩
        have hlist : PM.numB L ++ ((es.take (k + 1)).map PM.attB).flatten = l5 ++ PM.bytesB z.name.data.toList ++ PM.valB z.k z.n z.s.data.toList := by rw [hl5h.out, List.take_add_one, hzh.out]; simp [PM.attB, List.append_assoc]
        have hfin := hE4.out.1.mono hS0.out.2.size
        rw [hlist]
        simp only [List.append_assoc, List.length_append] at hfin ⊢
        exact hfin
    · have hkL : k = L := by omega
      subst hkL
      rw [List.take_of_length_le (by rw [← hLh.out]; omega)] at ho
      obtain ⟨ya, yc, rfl⟩ := ho.bs.len
      have hE := PM.hid (And.intro ho hB)
      clear ho hB
      go_wp2_with fail
      go_ret2
      refine ⟨_, rfl, ?_, hE.out.2⟩
      have := hE.out.1
      rw [PM.encB, ← hLh.out]
      exact this
end Go.Proofs.Ytklgibkdbdhaiaa
