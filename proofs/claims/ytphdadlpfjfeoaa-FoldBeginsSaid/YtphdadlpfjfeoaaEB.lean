import Derived.Test.YtphdadlpfjfeoaaEA
import Derived.Test.YtphdadlpfjfeoaaP1
import Derived.Test.YtphdadlpfjfeoaaR0
import Derived.Deep.RegionWith
import Derived.Test.YtphdadlpfjfeoaaG0
import Derived.Test.YtphdadlpfjfeoaaP0
/-
  CONTRACT OF event.Encode.
-/
namespace Go.Proofs.Ytphdadlpfjfeoaa
open Go.RowKit
set_option linter.unusedVariables false
namespace PM
def attB (z : At) : List UInt8 := bytesB z.name.data.toList ++ valB z.k z.n z.s.data.toList
def encB (es : List At) : List UInt8 := numB es.length ++ (es.map attB).flatten
theorem may_text {k n : Int} {s : List UInt8} (h : may k n s = true) : s.length ≤ 40 := by
  unfold may at h
  split at h
  · simp at h; subst h; simp
  · split at h
    · simp at h; exact h.2
    · split at h
      · simp at h; rw [h.2]; simp
      · cases h
theorem attB_le (z : At) (h : atOk z = true) (hw : z.wf) : (attB z).length ≤ 200 ∧ z.name.size ≤ 100 ∧ z.s.size ≤ 100 := by
  unfold atOk at h
  simp only [Bool.and_eq_true] at h
  obtain ⟨h1, h2⟩ := h
  have hn : z.name.data.toList.length ≤ 16 := by
    unfold nameL at h1
    simp only [Bool.and_eq_true, decide_eq_true_eq] at h1
    exact h1.1.2
  have hs : z.s.data.toList.length ≤ 40 := may_text h2
  have e1 := size_len' z.name
  have e2 := size_len' z.s
  have hf : ∀ n, foldZ n < 2 ^ 64 → wid (foldZ n) ≤ 8 := fun n h => wid_le _ h
  have hb := Go.bounds_i64 hw.2.2.1
  refine ⟨?_, by omega, by omega⟩
  unfold attB valB bytesB
  simp only [List.length_append, numB_length]
  have w1 := wid_le z.name.data.toList.length (by omega)
  have w2 := wid_le (u64 z.k) (u64_lt _)
  have w3 := wid_le z.s.data.toList.length (by omega)
  have w4 : wid (if z.k = 1 then foldZ z.n else u64 z.n) ≤ 8 := by
    split
    · exact wid_le _ (foldZ_lt _ hb.1 hb.2)
    · exact wid_le _ (u64_lt _)
  omega
theorem row_le {es : List At} (hc : chkP es) (hw : ∀ x ∈ es, x.wf) : ∀ k, k ≤ es.length → (((es.take k).map attB).flatten).length ≤ k * 200
  | 0, _ => by simp
  | k + 1, hk => by
    have ih := row_le hc hw k (by omega)
    have hz : es[k]? = some es[k] := List.getElem?_eq_getElem (by omega)
    have := (attB_le es[k] ((hc.2.2 k (by omega)) _ hz).1 (hw _ (List.getElem_mem _))).1
    rw [List.take_add_one, hz]
    simp only [Option.toList, List.map_append, List.flatten_append, List.length_append, List.map_cons, List.map_nil, List.flatten_cons, List.flatten_nil, List.append_nil]
    omega
end PM
set_option maxHeartbeats 4000000 in
theorem encode_ok (v : Value) (es : List PM.At) (w : World) (hv : PM.EV w v es) (hc : PM.chkP es) (hw : ∀ x ∈ es, x.wf) :
    Calls Try.prog 75 #[v] w fun e w' => ∃ o, e = .returned (.tuple #[o, .int .i64 0]) ∧ PM.OW 5 w.heap.size w' o (PM.encB es) ∧ Below w.heap.size w w' := by
  have hck := echeck_any v es w hv
  rw [PM.chk_yes hc] at hck
  have hlen := hc.2.1
  have hvh := PM.hid hv
  obtain ⟨ad, cap, rfl, hcap, hmax, hel⟩ := hv
  unfold maxLen at hmax
  obtain ⟨L, hL⟩ : ∃ L, L = es.length := ⟨_, rfl⟩
  have hLh := PM.hid hL
  rw [← hL] at hcap hck hlen ⊢
  have hch := PM.hid hc
  have hwh := PM.hid hw
  clear hel hL hc hw
  go_enter Try.func75, Try.ntmps75
  go_wp2_with fail
  refine hck.mono ?_
  rintro e w1 ⟨rfl, hB1⟩
  go_wp2_with fail
  refine (number_c _ [] _ L (by first | rfl | omega | (simp; omega)) (by omega) w1 (PM.BS.nil _) (by simp)).mono ?_
  rintro e w2 ⟨o2, rfl, ho2, hB2⟩
  have hC2 := PM.chain hB1 hB2
  have ho2' := ho2.mono hB1.size
  have hin := PM.hid (And.intro ho2' hC2)
  clear ho2 ho2' hB1 hB2 hC2 hck
  go_wp2_with fail
  go_loopw [5, 19] (fun o i wr => ∃ k : Nat, i = .int .i64 k ∧ k ≤ L ∧ PM.OW 5 w.heap.size wr o (PM.numB L ++ ((es.take k).map PM.attB).flatten) ∧ Below w.heap.size w wr) (fun _ i _ => L - (intOf i).toNat)
  case atStart => exact ⟨0, rfl, by omega, by simpa using hin.out.1, hin.out.2⟩
  case round =>
    obtain ⟨k, rfl, hk, ho, hB⟩ := hrel
    by_cases hlt : k < L
    · obtain ⟨z, hz⟩ : ∃ z, es[k]? = some z := ⟨es[k]'(by rw [← hLh.out]; exact hlt), List.getElem?_eq_getElem _⟩
      obtain ⟨_, _, he, _, _, hel⟩ := hvh.out
      obtain ⟨b, off, rfl, hce⟩ := hel (by rw [← hLh.out]; omega)
      cases he
      obtain ⟨d0, d1, d2, d3⟩ := hce k z hz
      replace d0 := PM.cellA hB d0
      replace d1 := PM.cellA hB d1
      replace d2 := PM.cellA hB d2
      replace d3 := PM.cellA hB d3
      have hzh := PM.hid hz
      obtain ⟨l5, hl5⟩ : ∃ l5, l5 = PM.numB L ++ ((es.take k).map PM.attB).flatten := ⟨_, rfl⟩
      rw [← hl5] at ho
      have hS := PM.hid (And.intro ho hB)
      have hl5h := PM.hid hl5
      clear hz hce hel ho hB hl5
      have hnb := (hwh.out z (List.mem_of_getElem? hzh.out))
      have hbd : l5.length ≤ 10000 ∧ z.name.size ≤ 100 ∧ z.s.size ≤ 100 := by
        have g1 := PM.row_le hch.out hwh.out k (by rw [← hLh.out]; omega)
        have g2 := PM.attB_le z ((hch.out.2.2 k (by rw [← hLh.out]; exact hlt)) z hzh.out).1 hnb
        have g3 := PM.wid_le L (by omega)
        refine ⟨?_, g2.2⟩
        rw [hl5h.out, List.length_append, PM.numB_length]
        omega
      go_wp2_with fail
      obtain ⟨W0, hW0⟩ : ∃ W0, W0 = wr.alloc (.cells #[.string z.name, .int .i64 z.k, .int .i64 z.n, .string z.s] 112) := ⟨_, rfl⟩
      have hB0 : Below wr.heap.size wr W0 := by rw [hW0]; exact (Below.refl _ _).alloc (Nat.le_refl _) _
      have hzb : PM.BK W0 wr.heap.size #[.string z.name, .int .i64 z.k, .int .i64 z.n, .string z.s] 112 := by rw [hW0]; exact PM.BK.new wr _ _
      have hu5 : PM.BS W0 u5 l5 := (hS.out.1.keep hB0).bs
      rw [← hW0]
      clear hW0 d0 d1 d2 d3
      have hS0 := hS
      have c0 := hzb.cell 0
      have c1 := hzb.cell 1
      have c2 := hzb.cell 2
      have c3 := hzb.cell 3
      replace c0 : W0.cell? ⟨wr.heap.size, 0, none⟩ = some (.string z.name) := c0
      replace c1 : W0.cell? ⟨wr.heap.size, 1, none⟩ = some (.int .i64 z.k) := c1
      replace c2 : W0.cell? ⟨wr.heap.size, 2, none⟩ = some (.int .i64 z.n) := c2
      replace c3 : W0.cell? ⟨wr.heap.size, 3, none⟩ = some (.string z.s) := c3
      have kc := PM.run_conv bty Try.underlying9 W0.drew z.name
      have hBc : Below W0.heap.size W0 (PM.convW 5 W0.drew z.name) := (Below.refl _ _).drew.trans (PM.convW_below _ W0.drew _)
      have hBc' := PM.chain hB0 hBc
      have hub := hu5.keep hBc
      have hcv := PM.convW_bs 5 W0.drew z.name (by omega)
      have h3 := PM.size_len z.name
      have hb1 := Go.bounds_i64 hnb.2.1
      have hb2 := Go.bounds_i64 hnb.2.2.1
      have hz2 := PM.hid (hzb.keep hBc)
      have m1 : (PM.convW 5 W0.drew z.name).cell? ⟨wr.heap.size, 1, none⟩ = some (.int .i64 z.k) := hz2.out.cell 1
      have m2 : (PM.convW 5 W0.drew z.name).cell? ⟨wr.heap.size, 2, none⟩ = some (.int .i64 z.n) := hz2.out.cell 2
      have m3 : (PM.convW 5 W0.drew z.name).cell? ⟨wr.heap.size, 3, none⟩ = some (.string z.s) := hz2.out.cell 3
      have hBch := PM.hid hBc'
      clear hBc hBc' hu5
      go_region_with (first
        | (go_at_call 31; have hv3 := bytes_any _ _ l5 z.name.data.toList _ hub hcv (by omega) (by omega); refine hv3.mono ?_; clear hv3; rintro e w3 ⟨v3, rfl, ho3, hB3⟩; have hz3 := hz2.out.keep hB3; have k0 : w3.cell? ⟨wr.heap.size, 0, none⟩ = some (.string z.name) := hz3.cell 0; have k1 : w3.cell? ⟨wr.heap.size, 1, none⟩ = some (.int .i64 z.k) := hz3.cell 1; have k2 : w3.cell? ⟨wr.heap.size, 2, none⟩ = some (.int .i64 z.n) := hz3.cell 2; have k3 : w3.cell? ⟨wr.heap.size, 3, none⟩ = some (.string z.s) := hz3.cell 3; clear c0 c1 c2 c3 m1 m2 m3; have hE3 := PM.hid (PM.chain hBch.out hB3); have hl3 : (l5 ++ PM.bytesB z.name.data.toList).length ≤ 20000 := (by have := PM.wid_le z.name.data.toList.length (by omega); rw [List.length_append, PM.bytesB, List.length_append, PM.numB_length]; omega); have hs3 := ho3.bs; have hg3 := Nat.le_trans hB0.size (Nat.le_refl W0.heap.size); clear hub hcv kc ho3 hB3 hz3)
        | (go_at_call 77; have hv4 := value_any _ _ z.k z.n z.s _ hs3 (by omega) (by omega) hb1.1 hb1.2 hb2.1 hb2.2; refine hv4.mono ?_; clear hv4; rintro e w4 ⟨v4, rfl, ho4, hB4⟩; have hE4 := PM.hid (And.intro (ho4.mono hE3.out.size) (PM.chain hE3.out hB4)); clear ho4 hB4 hs3))
      all_goals
        obtain ⟨ya, yc, rfl⟩ := hE4.out.1.bs.len
        go_wp2_with fail
        refine ⟨⟨k + 1, by go_num, by omega, ?_, PM.chain hS0.out.2 hE4.out.2⟩, by simp only [intOf]; omega⟩
        have hlist : PM.numB L ++ ((es.take (k + 1)).map PM.attB).flatten = l5 ++ PM.bytesB z.name.data.toList ++ PM.valB z.k z.n z.s.data.toList := by rw [hl5h.out, List.take_add_one, hzh.out]; simp [PM.attB, List.append_assoc]
        have hfin := hE4.out.1.mono hS0.out.2.size
        rw [hlist]
        simp only [List.append_assoc, List.length_append] at hfin ⊢
        exact hfin
    · have hkL : k = L := by omega
      subst hkL
      rw [List.take_of_length_le (by rw [← hLh.out]; omega)] at ho
      obtain ⟨ya, yc, rfl⟩ := ho.bs.len
      have hE := PM.hid (And.intro ho hB)
      clear ho hB
      go_wp2_with fail
      go_ret2
      refine ⟨_, rfl, ?_, hE.out.2⟩
      have := hE.out.1
      rw [PM.encB, ← hLh.out]
      exact this
end Go.Proofs.Ytphdadlpfjfeoaa

/-
  CONTRACT OF event.Encode, of any event.
-/
namespace Go.Proofs.Ytphdadlpfjfeoaa
open Go.RowKit
set_option linter.unusedVariables false
/-- what Encode answers: the bytes, and the number of the error -/
def RetE (E : TypeId) (W : World) (es : List PM.At) (e : Ending) (w' : World) : Prop :=
  ∃ o, e = .returned (.tuple #[o, .int .i64 (PM.chk es)]) ∧ (PM.chkP es → PM.OW E W.heap.size w' o (PM.encB es)) ∧ (¬ PM.chkP es → o = .slice none 0 0) ∧ Below W.heap.size W w'
theorem encode_any (v : Value) (es : List PM.At) (w : World) (hv : PM.EV w v es) (hw : ∀ x ∈ es, x.wf) :
    Calls Try.prog 75 #[v] w (RetE 5 w es) := by
  by_cases hc : PM.chkP es
  · refine (encode_ok v es w hv hc hw).mono ?_
    rintro e w' ⟨o, rfl, h1, h2⟩
    exact ⟨o, by rw [PM.chk_yes hc], fun _ => h1, fun h => absurd hc h, h2⟩
  · have hck := echeck_any v es w hv
    rw [PM.chk_no hc] at hck
    have hch := PM.hid hc
    obtain ⟨ad, cap, rfl, _⟩ := hv
    clear hc
    go_enter Try.func75, Try.ntmps75
    go_wp2_with fail
    refine hck.mono ?_
    rintro e w1 ⟨rfl, hB1⟩
    have hB := PM.hid hB1
    clear hB1 hck
    go_wp2_with fail
    go_ret2
    exact ⟨.slice none 0 0, by rw [PM.chk_no hch.out]; rfl, fun h => absurd h hch.out, fun _ => rfl, hB.out⟩
end Go.Proofs.Ytphdadlpfjfeoaa

/-
  CONTRACT OF event.Decode.
-/
namespace Go.Proofs.Ytphdadlpfjfeoaa
open Go.RowKit
set_option linter.unusedVariables false
namespace PM
open Classical
/-- an attribute's cells -/
def attL (x : At) : List Value := [.string x.name, .int .i64 x.k, .int .i64 x.n, .string x.s]
theorem attL_len (x : At) : (attL x).length = 4 := rfl
theorem attL_one (x : At) : ∀ u ∈ attL x, u.oneCell' = true := by intro u hu; simp [attL] at hu; rcases hu with rfl | rfl | rfl | rfl <;> rfl
theorem attL_nob (x : At) : ∀ u ∈ attL x, NoB u := by intro u hu y; simp [attL] at hu; rcases hu with rfl | rfl | rfl | rfl <;> simp [bv]
theorem EV.em {w : World} {v : Value} {es : List At} (h : EV w v es) : EM attL 4 w v es := by
  obtain ⟨ad, cap, hv, h1, h2, h3⟩ := h
  refine ⟨ad, cap, hv, h1, h2, fun hp => ?_⟩
  obtain ⟨b, off, ha, h4⟩ := h3 hp
  refine ⟨b, off, ha, fun i x hi j u hu => ?_⟩
  obtain ⟨d0, d1, d2, d3⟩ := h4 i x hi
  match j, hu with
  | 0, hu => simp [attL] at hu; subst hu; exact d0
  | 1, hu => simp [attL] at hu; subst hu; exact d1
  | 2, hu => simp [attL] at hu; subst hu; exact d2
  | 3, hu => simp [attL] at hu; subst hu; exact d3
  | j + 4, hu => simp [attL] at hu
theorem EM.ev {w : World} {v : Value} {es : List At} (h : EM attL 4 w v es) : EV w v es := by
  obtain ⟨ad, cap, hv, h1, h2, h3⟩ := h
  refine ⟨ad, cap, hv, h1, h2, fun hp => ?_⟩
  obtain ⟨b, off, ha, h4⟩ := h3 hp
  exact ⟨b, off, ha, fun i x hi => ⟨h4 i x hi 0 _ rfl, h4 i x hi 1 _ rfl, h4 i x hi 2 _ rfl, h4 i x hi 3 _ rfl⟩⟩
/-- an attribute that is read -/
def attR (a : List UInt8) (c : Int × Int × List UInt8) : At := ⟨⟨a.toArray⟩, c.1, c.2.1, ⟨c.2.2.toArray⟩⟩
/-- attributes that are read one after another: they, what is left, and whether something is wrong -/
def stepsE : Nat → List UInt8 → Bool → List At × List UInt8 × Bool
  | 0, l, wr => ([], l, wr)
  | k + 1, l, wr =>
    let r := stepsE k l wr
    let a := stepB r.2.1 r.2.2 16
    let c := stepV a.2.1 a.2.2
    (r.1 ++ [attR a.1 c.1], c.2.1, c.2.2)
theorem stepsE_len : ∀ k l wr, (stepsE k l wr).1.length = k
  | 0, _, _ => rfl
  | k + 1, l, wr => by simp [stepsE, stepsE_len k]
theorem stepB_le (l : List UInt8) (wr : Bool) (m : Int) : (stepB l wr m).2.1.length ≤ l.length := by
  have h := (stepN_lt l wr).2
  unfold stepB
  split
  · simp
  · simp; omega
theorem stepV_le (l : List UInt8) (wr : Bool) : (stepV l wr).2.1.length ≤ l.length := by
  have h1 := (stepN_lt l wr).2
  have h2 := (stepN_lt (stepN l wr).2.1 (stepN l wr).2.2).2
  have h3 := stepB_le (stepN (stepN l wr).2.1 (stepN l wr).2.2).2.1 (stepN (stepN l wr).2.1 (stepN l wr).2.2).2.2 40
  unfold stepV
  simp only
  repeat' split
  all_goals first | omega | (simp; done) | (simp; omega)
theorem stepsE_lt : ∀ k l wr, (stepsE k l wr).2.1.length ≤ l.length
  | 0, _, _ => Nat.le_refl _
  | k + 1, l, wr => by
    have h1 := stepsE_lt k l wr
    have h2 := stepB_le (stepsE k l wr).2.1 (stepsE k l wr).2.2 16
    have h3 := stepV_le (stepB (stepsE k l wr).2.1 (stepsE k l wr).2.2 16).2.1 (stepB (stepsE k l wr).2.1 (stepsE k l wr).2.2 16).2.2
    simp only [stepsE]
    omega
/-- the event that bytes are -/
noncomputable def decF (n : Nat) (l : List UInt8) (wr : Bool) : Option (List At) :=
  if 16 < n then none else
  if (stepsE n l wr).2.2 = false ∧ (stepsE n l wr).2.1 = [] ∧ chkP (stepsE n l wr).1 then some (stepsE n l wr).1 else none
noncomputable def decE (l : List UInt8) : Option (List At) := decF (stepN l false).1 (stepN l false).2.1 (stepN l false).2.2
theorem decF_big {n : Nat} {l : List UInt8} {wr : Bool} (h : 16 < n) : decF n l wr = none := by unfold decF; rw [if_pos h]
theorem decF_yes {n : Nat} {l : List UInt8} {wr : Bool} (h : ¬ 16 < n) (h1 : (stepsE n l wr).2.2 = false) (h2 : (stepsE n l wr).2.1 = []) (h3 : chkP (stepsE n l wr).1) : decF n l wr = some (stepsE n l wr).1 := by
  unfold decF; rw [if_neg h, if_pos ⟨h1, h2, h3⟩]
theorem decF_no {n : Nat} {l : List UInt8} {wr : Bool} (h : ¬ 16 < n) (h1 : ¬ ((stepsE n l wr).2.2 = false ∧ (stepsE n l wr).2.1 = [] ∧ chkP (stepsE n l wr).1)) : decF n l wr = none := by
  unfold decF; rw [if_neg h, if_neg h1]
noncomputable def decN (l : List UInt8) : Int := if (decE l).isSome then 0 else 40
end PM
theorem attTy : PM.MTy Try.prog 84 112 4 48 := by
  refine ⟨Try.underlying84, by decide, ?_⟩
  obtain ⟨i, h1, h2, h3, h4⟩ := info_parts (P := Try.prog) (e := 112) (z := .agg #[.string ByteArray.empty, .int .i64 0, .int .i64 0, .string ByteArray.empty]) (size := 4) (bytes := 48) (by kernel_rfl)
  exact ⟨i, _, h1, h2, h3, h4, by kernel_rfl⟩
theorem attZ : ∀ i z, Try.prog.info? 112 = some i → i.zero = some z → ∀ x ∈ z.cells.toList, PM.NoB x := by
  intro i z hi hz x hx y
  have h0 : (Try.prog.info? 112).bind (·.zero) = some (.agg #[.string ByteArray.empty, .int .i64 0, .int .i64 0, .string ByteArray.empty]) := by kernel_rfl
  rw [hi] at h0
  simp only [Option.bind_some, hz, Option.some.injEq] at h0
  subst h0
  simp [Value.cells] at hx
  rcases hx with rfl | rfl | rfl | rfl <;> simp [PM.bv]
def RetD (E : TypeId) (W : World) (l : List UInt8) (e : Ending) (w' : World) : Prop :=
  ∃ o, e = .returned (.tuple #[o, .int .i64 (PM.decN l)]) ∧ (∀ es, PM.decE l = some es → PM.OM PM.attL 4 E W.heap.size w' o es) ∧ (PM.decE l = none → o = .slice none 0 0) ∧ Below W.heap.size W w'
set_option maxHeartbeats 4000000 in
theorem decode_any (v : Value) (l : List UInt8) (w : World) (hv : PM.BS w v l) (hl : l.length ≤ 70368744177664) :
    Calls Try.prog 78 #[v] w (RetD 112 w l) := by
  obtain ⟨n0, hn0⟩ : ∃ x, x = (PM.stepN l false).1 := ⟨_, rfl⟩
  obtain ⟨l0, hl0⟩ : ∃ x, x = (PM.stepN l false).2.1 := ⟨_, rfl⟩
  obtain ⟨wr0, hwr0⟩ : ∃ x, x = (PM.stepN l false).2.2 := ⟨_, rfl⟩
  have hD : Hid (PM.decE l = PM.decF n0 l0 wr0) := PM.hid (by rw [hn0, hl0, hwr0]; rfl)
  have hlt := PM.stepN_lt l false
  rw [← hn0, ← hl0] at hlt
  obtain ⟨hn64, hl0l⟩ := hlt
  have e0 := PM.hid hn0
  have e1 := PM.hid hl0
  have e2 := PM.hid hwr0
  clear hn0 hl0 hwr0
  go_enter Try.func78, Try.ntmps78
  go_wp2_with fail
  refine (new_any v l w hv hl).mono ?_
  rintro e w1 ⟨b, rfl, hb1, hr1, hB1⟩
  go_wp2_with fail
  refine (rnumber_any b l false w1 hr1).mono ?_
  rw [← e0.out, ← e1.out, ← e2.out]
  rintro e w2 ⟨rfl, hr2, hx2⟩
  have hbw2 := hr2.lt
  have hB2 := PM.hid (hx2.below hB1 hb1 hB1.size)
  clear hx2 hr1 hB1
  by_cases h16 : 16 < n0
  · have hg : decide ((16 : Int) < (n0 : Int)) = true := by simp; omega
    have hDn : Hid (PM.decE l = none) := PM.hid (by rw [hD.out, PM.decF_big h16])
    clear hr2
    go_wp2_with fail
    go_ret2
    refine ⟨.slice none 0 0, by unfold PM.decN; rw [hDn.out]; rfl, ?_⟩
    refine ⟨fun es h => (by rw [hDn.out] at h; cases h), fun _ => rfl, hB2.out⟩
  · have hg : decide ((16 : Int) < (n0 : Int)) = false := by simp; omega
    obtain ⟨g, w3, hmk, hO3, hN3, hg3, hB3⟩ := PM.run_mkm (e := PM.attL) attTy attZ w2 w.heap.size .i64 .u64 n0 (by omega) (by unfold maxLen; omega) hB2.out.size
    have hr3 := hr2.keep hB3
    have hC3 := PM.chain hB2.out hB3
    have h16' : n0 ≤ 16 := by omega
    have hin := PM.hid (And.intro hO3 (And.intro hN3 (And.intro hr3 hC3)))
    clear hr2 hO3 hN3 hg3 hB3 hr3 hC3 h16 hbw2 hB2
    go_wp2_with fail
    clear hmk
    go_loopw [6, 17] (fun o i wr => ∃ k : Nat, i = .int .u64 k ∧ k ≤ n0 ∧ ∃ g cap, o = .slice (some ⟨g, 0, none⟩) k cap ∧ PM.OM PM.attL 4 112 w.heap.size wr o (PM.stepsE k l0 wr0).1 ∧ PM.NB wr g ∧ PM.RD 102 wr b (PM.stepsE k l0 wr0).2.1 (PM.stepsE k l0 wr0).2.2 ∧ Below w.heap.size w wr) (fun _ i _ => n0 - (intOf i).toNat)
    case atStart => exact ⟨0, rfl, by omega, _, _, rfl, hin.out.1, hin.out.2.1, hin.out.2.2.1, hin.out.2.2.2⟩
    case round =>
      clear hin
      obtain ⟨k, rfl, hk, g, cap, rfl, hO, hN, hr, hB⟩ := hrel
      have hlE := PM.stepsE_lt k l0 wr0
      have hSS : Hid (PM.stepsE (k + 1) l0 wr0 = ((PM.stepsE k l0 wr0).1 ++ [PM.attR (PM.stepB (PM.stepsE k l0 wr0).2.1 (PM.stepsE k l0 wr0).2.2 16).1 (PM.stepV (PM.stepB (PM.stepsE k l0 wr0).2.1 (PM.stepsE k l0 wr0).2.2 16).2.1 (PM.stepB (PM.stepsE k l0 wr0).2.1 (PM.stepsE k l0 wr0).2.2 16).2.2).1], (PM.stepV (PM.stepB (PM.stepsE k l0 wr0).2.1 (PM.stepsE k l0 wr0).2.2 16).2.1 (PM.stepB (PM.stepsE k l0 wr0).2.1 (PM.stepsE k l0 wr0).2.2 16).2.2).2.1, (PM.stepV (PM.stepB (PM.stepsE k l0 wr0).2.1 (PM.stepsE k l0 wr0).2.2 16).2.1 (PM.stepB (PM.stepsE k l0 wr0).2.1 (PM.stepsE k l0 wr0).2.2 16).2.2).2.2)) := PM.hid rfl
      have hlen := PM.stepsE_len k l0 wr0
      by_cases hlt : k < n0
      · have hc : decide ((k : Int) < (n0 : Int)) = true := by simp; omega
        have hlB := PM.stepB_le (PM.stepsE k l0 wr0).2.1 (PM.stepsE k l0 wr0).2.2 16
        have hct := rbytes_any b (PM.stepsE k l0 wr0).2.1 (PM.stepsE k l0 wr0).2.2 16 wr hr (by omega) (by omega) (by omega)
        generalize PM.stepsE k l0 wr0 = R at *
        obtain ⟨es, l1, wr1⟩ := R
        simp only at hO hr hlE hlB hSS hlen hct
        subst hlen
        generalize PM.stepB l1 wr1 16 = S at *
        obtain ⟨nm, l2, wr2⟩ := S
        simp only at hlB hSS hct
        have hbk : ∃ cs, PM.BK wr b cs 102 := ⟨_, hr.choose_spec.1⟩
        obtain ⟨cs, hbk⟩ := hbk
        have hin := PM.hid (And.intro hO (And.intro hN (And.intro hB hbk)))
        clear hO hN hB hr hbk
        go_wp2_with fail
        refine hct.mono ?_
        clear hct
        rintro e wa ⟨vb, rfl, ho, hra, hxa⟩
        have hbs := ho.bs
        have kc := PM.run_str bty Try.underlying9 hbs
        have hct := rvalue_any b l2 wr2 wa hra (by omega)
        have hin2 := PM.hid (And.intro hin.out hxa)
        clear ho hbs hra hxa hin
        go_wp2_with fail
        refine hct.mono ?_
        clear hct
        rintro e wb ⟨rfl, hrb, hxb⟩
        have hxx := hin2.out.2.trans hxb
        obtain ⟨⟨hO, hN, hB, hbk⟩, _⟩ := hin2.out
        have hTE : 102 ≠ 112 := by decide
        have hgl := (hO.lt g rfl).2
        have hOb := hO.keepx hxx hbk hTE
        have hne := PM.OM.ne hO hbk hTE
        have hNb := hN.keepx hxx hgl hne.symm
        have hBb := hxx.below hB hb1 hB.size
        have hsz := hB.size
        have hszb := hBb.size
        have h16'' := hk
        clear hO hN hB hbk hin2 hxx hxb
        go_wp2_with (at_builtin; refine PM.wpList_em1n (e := PM.attL) attTy attZ PM.attL_len PM.attL_one PM.attL_nob w.heap.size wb rfl _ _ rfl g es.length cap es (PM.attR nm (PM.stepV l2 wr2).1) _ rfl rfl rfl rfl hOb hNb ?_ ?_ hszb ?_; omega; (simp only [maxLen]; omega); intro g' cap' w' t1 t2 t3 t4; have hE := PM.hid (And.intro t1 (And.intro t2 (And.intro t3 t4))); clear t1 t2 t3 t4)
        refine ⟨⟨es.length + 1, by simp, by omega, g', cap', rfl, ?_, hE.out.2.1, ?_, hBb.trans hE.out.2.2.1⟩, by simp only [intOf]; omega⟩
        · rw [hSS.out]; exact hE.out.1
        · rw [hSS.out]; exact hrb.kept hE.out.2.2.2 hNb hne
      · have hkn : k = n0 := by omega
        subst hkn
        have hc : decide ((k : Int) < (k : Int)) = false := by simp
        clear hSS
        generalize hR : PM.stepsE k l0 wr0 = R at *
        obtain ⟨es, l1, wr1⟩ := R
        simp only at hO hr hlE hlen
        have hdn := done_any b l1 wr1 wr hr
        have hck := echeck_any _ es wr (PM.OM.em PM.attL_len hO).ev
        have hin := PM.hid (And.intro hO (And.intro hr hB))
        have hlh := PM.hid hlen
        clear hO hr hB hlen hN
        by_cases hdone : wr1 = false ∧ l1 = []
        · obtain ⟨rfl, rfl⟩ := hdone
          have hdn' := hdn
          replace hdn' : Calls Try.prog 39 #[.pointer (some ⟨b, 0, none⟩)] wr fun e w' => e = .returned (.bool true) ∧ wr = w' := hdn
          clear hdn
          by_cases hch : PM.chkP es
          · have hDy : Hid (PM.decE l = some es) := PM.hid (by rw [hD.out, PM.decF_yes (by omega) (by rw [hR]) (by rw [hR]) (by rw [hR]; exact hch), hR])
            rw [PM.chk_yes hch] at hck
            clear hch
            go_wp2_with fail
            refine hdn'.mono ?_
            clear hdn'
            rintro e wd ⟨rfl, rfl⟩
            go_wp2_with fail
            refine hck.mono ?_
            clear hck
            rintro e we ⟨rfl, hBe⟩
            have hBh := PM.hid hBe
            clear hBe
            go_wp2_with fail
            go_ret2
            refine ⟨.slice (some ⟨g, 0, none⟩) k cap, by unfold PM.decN; rw [hDy.out]; rfl, ?_⟩
            exact ⟨fun es' h => (by rw [hDy.out] at h; injection h with h; subst h; exact hin.out.1.keep hBh.out), fun h => (by rw [hDy.out] at h; cases h), PM.chain hin.out.2.2 hBh.out⟩
          · have hDn : Hid (PM.decE l = none) := PM.hid (by rw [hD.out, PM.decF_no (by omega) (by rw [hR]; simp [hch])])
            rw [PM.chk_no hch] at hck
            clear hch
            go_wp2_with fail
            refine hdn'.mono ?_
            clear hdn'
            rintro e wd ⟨rfl, rfl⟩
            go_wp2_with fail
            refine hck.mono ?_
            clear hck
            rintro e we ⟨rfl, hBe⟩
            have hBh := PM.hid hBe
            clear hBe
            go_wp2_with fail
            go_ret2
            refine ⟨.slice none 0 0, by unfold PM.decN; rw [hDn.out]; rfl, ?_⟩
            exact ⟨fun es h => (by rw [hDn.out] at h; cases h), fun _ => rfl, PM.chain hin.out.2.2 hBh.out⟩
        · have hDn : Hid (PM.decE l = none) := PM.hid (by rw [hD.out, PM.decF_no (by omega) (by rw [hR]; intro h; exact hdone ⟨h.1, h.2.1⟩)])
          have hdf : (!wr1 && decide (l1 = [])) = false := by
            cases wr1 <;> simp at hdone ⊢
            exact hdone
          rw [hdf] at hdn
          go_wp2_with fail
          refine hdn.mono ?_
          clear hdn hck
          rintro e wd ⟨rfl, rfl⟩
          go_wp2_with fail
          go_ret2
          refine ⟨.slice none 0 0, by unfold PM.decN; rw [hDn.out]; rfl, ?_⟩
          exact ⟨fun es h => (by rw [hDn.out] at h; cases h), fun _ => rfl, hin.out.2.2⟩
end Go.Proofs.Ytphdadlpfjfeoaa

/-
  PLAIN FACTS ON EVENTS' BYTES: they are read back, and what is read is packed so.
-/
namespace Go.Proofs.Ytphdadlpfjfeoaa
namespace PM
theorem attR_of (x : At) : attR x.name.data.toList (x.k, x.n, x.s.data.toList) = x := by
  cases x
  simp [attR]
theorem stepsE_enc {es : List At} (hc : chkP es) (hw : ∀ x ∈ es, x.wf) (t : List UInt8) : ∀ k, k ≤ es.length → ∀ r, r = ((es.drop k).map attB).flatten ++ t → stepsE k ((es.map attB).flatten ++ t) false = (es.take k, r, false)
  | 0, _, r, hr => by subst hr; simp [stepsE]
  | k + 1, hk, r, hr => by
    have hz : es[k]? = some es[k] := List.getElem?_eq_getElem (by omega)
    have hd : es.drop k = es[k] :: es.drop (k + 1) := List.drop_eq_getElem_cons (by omega)
    have ih := stepsE_enc hc hw t k (by omega) _ rfl
    have hok := ((hc.2.2 k (by omega)) _ hz).1
    have hwf := hw es[k] (List.getElem_mem _)
    obtain ⟨_, hn, hs⟩ := attB_le es[k] hok hwf
    have hb := Go.bounds_i64 hwf.2.2.1
    have hok' := hok
    unfold atOk at hok'
    simp only [Bool.and_eq_true] at hok'
    have hnl : es[k].name.data.toList.length ≤ 16 := by
      have := hok'.1
      unfold nameL at this
      simp only [Bool.and_eq_true, decide_eq_true_eq] at this
      exact this.1.2
    have s1 := stepB_bytes es[k].name.data.toList (valB es[k].k es[k].n es[k].s.data.toList ++ r) 16 (by omega) (by omega)
    have s2 := stepV_val es[k].k es[k].n es[k].s.data.toList r hok'.2 hb.1 hb.2
    have e0 : ((es.drop k).map attB).flatten ++ t = bytesB es[k].name.data.toList ++ (valB es[k].k es[k].n es[k].s.data.toList ++ r) := by
      rw [hd, hr, List.map_cons, List.flatten_cons]
      unfold attB
      simp only [List.append_assoc]
    simp only [stepsE, ih, e0, s1, s2, attR_of]
    rw [List.take_add_one, hz]
    rfl
theorem decE_tail {es : List At} (hc : chkP es) (hw : ∀ x ∈ es, x.wf) (t : List UInt8) (ht : t ≠ []) : decE (encB es ++ t) = none := by
  unfold decE encB
  rw [List.append_assoc, stepN_num es.length (by have := hc.2.1; omega) _]
  have h := stepsE_enc hc hw t es.length (Nat.le_refl _) _ rfl
  refine decF_no (by have := hc.2.1; omega) ?_
  simp only [h]
  simp [ht]
theorem decE_enc {es : List At} (hc : chkP es) (hw : ∀ x ∈ es, x.wf) : decE (encB es) = some es := by
  unfold decE encB
  rw [stepN_num es.length (by have := hc.2.1; omega) _]
  have h := stepsE_enc hc hw [] es.length (Nat.le_refl _) _ rfl
  simp only [List.append_nil] at h
  rw [decF_yes (by have := hc.2.1; omega) (by rw [h]) (by rw [h]; simp) (by rw [h]; simpa using hc)]
  rw [h]; simp
theorem stepV_wr' {l : List UInt8} {wr : Bool} (h : (stepV l wr).2.2 = false) : wr = false := by
  cases wr
  · rfl
  · have he := stepV_eq l true 0 0 [] [] [] [] true true true (stepN_wr l) (stepN_wr []) (stepB_wr [] 40)
    rw [he] at h
    simp at h
theorem attR_B (a : List UInt8) (k n : Int) (s : List UInt8) : attB (attR a (k, n, s)) = bytesB a ++ valB k n s := by simp [attB, attR]
theorem stepsE_back : ∀ (k : Nat) (l : List UInt8) (wr : Bool), (stepsE k l wr).2.2 = false → l = (((stepsE k l wr).1).map attB).flatten ++ (stepsE k l wr).2.1
  | 0, l, wr, h => by simp [stepsE]
  | k + 1, l, wr, h => by
    have h3 : (stepV (stepB (stepsE k l wr).2.1 (stepsE k l wr).2.2 16).2.1 (stepB (stepsE k l wr).2.1 (stepsE k l wr).2.2 16).2.2).2.2 = false := h
    have h2 := stepV_wr' h3
    have h1 := stepB_false h2
    have ih := stepsE_back k l wr h1
    simp only [stepsE]
    rw [h1] at h2 h3 ⊢
    rw [h2] at h3 ⊢
    have b2 := stepB_back h2
    have b3 := (stepV_back h3).1
    rw [List.map_append, List.flatten_append]
    have e1 : (List.map attB [attR (stepB (stepsE k l wr).2.1 false 16).1 (stepV (stepB (stepsE k l wr).2.1 false 16).2.1 false).1]).flatten = bytesB (stepB (stepsE k l wr).2.1 false 16).1 ++ valB (stepV (stepB (stepsE k l wr).2.1 false 16).2.1 false).1.1 (stepV (stepB (stepsE k l wr).2.1 false 16).2.1 false).1.2.1 (stepV (stepB (stepsE k l wr).2.1 false 16).2.1 false).1.2.2 := by
      rw [← attR_B]; simp
    rw [e1, List.append_assoc, List.append_assoc, ← b3, ← b2]
    exact ih
theorem wf64 {n : Int} (h : -9223372036854775808 ≤ n ∧ n ≤ 9223372036854775807) : (Lit.int .i64 n).wf = true := by
  simp [Lit.wf, IntKind.min, IntKind.max, IntKind.signed, IntKind.bits]
  omega
theorem attR_wf (a : List UInt8) (c : Int × Int × List UInt8) (ha : a.length ≤ 100) (h1 : -9223372036854775808 ≤ c.1 ∧ c.1 ≤ 9223372036854775807) (h2 : -9223372036854775808 ≤ c.2.1 ∧ c.2.1 ≤ 9223372036854775807) (hs : c.2.2.length ≤ 100) : (attR a c).wf := by
  refine ⟨?_, wf64 h1, wf64 h2, ?_⟩
  · have e : (attR a c).name.size = a.length := by show a.toArray.size = _; simp
    rw [e]; unfold maxLen; omega
  · have e : (attR a c).s.size = c.2.2.length := by show c.2.2.toArray.size = _; simp
    rw [e]; unfold maxLen; omega
theorem stepsE_wf : ∀ (k : Nat) (l : List UInt8) (wr : Bool), ∀ x ∈ (stepsE k l wr).1, x.wf
  | 0, l, wr => by simp [stepsE]
  | k + 1, l, wr => by
    intro x hx
    simp only [stepsE, List.mem_append, List.mem_singleton] at hx
    rcases hx with hx | rfl
    · exact stepsE_wf k l wr x hx
    · have h := stepV_lt (stepB (stepsE k l wr).2.1 (stepsE k l wr).2.2 16).2.1 (stepB (stepsE k l wr).2.1 (stepsE k l wr).2.2 16).2.2
      have hb : (stepB (stepsE k l wr).2.1 (stepsE k l wr).2.2 16).1.length ≤ 16 := by
        unfold stepB
        split
        · simp
        · simp only [List.length_take]; omega
      exact attR_wf _ _ (by omega) ⟨h.1, h.2.1⟩ ⟨h.2.2.1, h.2.2.2.1⟩ (by omega)
theorem decF_some {n : Nat} {l : List UInt8} {wr : Bool} {es : List At} (h : decF n l wr = some es) : ¬ 16 < n ∧ (stepsE n l wr).2.2 = false ∧ (stepsE n l wr).2.1 = [] ∧ chkP es ∧ es = (stepsE n l wr).1 := by
  unfold decF at h
  split at h
  · cases h
  · rename_i h1
    split at h
    · rename_i h2
      injection h with h
      subst h
      exact ⟨h1, h2.1, h2.2.1, h2.2.2, rfl⟩
    · cases h
theorem stepsE_wr : ∀ (k : Nat) (l : List UInt8) (wr : Bool), (stepsE k l wr).2.2 = false → wr = false
  | 0, _, _, h => h
  | k + 1, l, wr, h => stepsE_wr k l wr (stepB_false (stepV_wr' (show (stepV (stepB (stepsE k l wr).2.1 (stepsE k l wr).2.2 16).2.1 (stepB (stepsE k l wr).2.1 (stepsE k l wr).2.2 16).2.2).2.2 = false from h)))
theorem decE_back {b : List UInt8} {es : List At} (h : decE b = some es) : encB es = b ∧ chkP es ∧ ∀ x ∈ es, x.wf := by
  unfold decE at h
  obtain ⟨h16, h1, h2, h3, rfl⟩ := decF_some h
  refine ⟨?_, h3, stepsE_wf _ _ _⟩
  have hw := stepsE_wr _ _ _ h1
  have b1 := stepN_back hw
  have b2 := stepsE_back _ _ _ h1
  rw [h2, List.append_nil] at b2
  unfold encB
  rw [stepsE_len, ← b2]
  exact b1.symm
theorem decE_cut {es : List At} (hc : chkP es) (hw : ∀ x ∈ es, x.wf) (t : List UInt8) (m : List UInt8) (ht : t ≠ []) (he : encB es = m ++ t) : decE m = none := by
  cases h : decE m with
  | none => rfl
  | some y =>
    obtain ⟨h1, h2, h3⟩ := decE_back h
    have h4 := decE_tail h2 h3 t ht
    rw [h1, ← he, decE_enc hc hw] at h4
    cases h4
end PM
end Go.Proofs.Ytphdadlpfjfeoaa
