import Derived.Test.YtnjcociidipogaaEA
import Derived.Test.YtnjcociidipogaaP1
import Derived.Test.YtnjcociidipogaaR0
import Derived.Deep.RegionWith
import Derived.Test.YtnjcociidipogaaG0
import Derived.Test.YtnjcociidipogaaP0
/-
  CONTRACT OF event.Encode.
-/
namespace Go.Proofs.Ytnjcociidipogaa
open Go.RowKit
set_option linter.unusedVariables false
namespace PM
def attB (z : At) : List UInt8 := bytesB z.name.data.toList ++ valB z.k z.n z.s.data.toList
def encB (es : List At) : List UInt8 := numB es.length ++ (es.map attB).flatten
theorem may_text {k n : Int} {s : List UInt8} (h : may k n s = true) : s.length ≤ 40 := by
  unfold may at h
  split at h
  · simp at h; subst h; simp
  · split at h
    · simp at h; exact h.2
    · split at h
      · simp at h; rw [h.2]; simp
      · cases h
theorem attB_le (z : At) (h : atOk z = true) (hw : z.wf) : (attB z).length ≤ 200 ∧ z.name.size ≤ 100 ∧ z.s.size ≤ 100 := by
  unfold atOk at h
  simp only [Bool.and_eq_true] at h
  obtain ⟨h1, h2⟩ := h
  have hn : z.name.data.toList.length ≤ 16 := by
    unfold nameL at h1
    simp only [Bool.and_eq_true, decide_eq_true_eq] at h1
    exact h1.1.2
  have hs : z.s.data.toList.length ≤ 40 := may_text h2
  have e1 := size_len' z.name
  have e2 := size_len' z.s
  have hf : ∀ n, foldZ n < 2 ^ 64 → wid (foldZ n) ≤ 8 := fun n h => wid_le _ h
  have hb := Go.bounds_i64 hw.2.2.1
  refine ⟨?_, by omega, by omega⟩
  unfold attB valB bytesB
  simp only [List.length_append, numB_length]
  have w1 := wid_le z.name.data.toList.length (by omega)
  have w2 := wid_le (u64 z.k) (u64_lt _)
  have w3 := wid_le z.s.data.toList.length (by omega)
  have w4 : wid (if z.k = 1 then foldZ z.n else u64 z.n) ≤ 8 := by
    split
    · exact wid_le _ (foldZ_lt _ hb.1 hb.2)
    · exact wid_le _ (u64_lt _)
  omega
theorem row_le {es : List At} (hc : chkP es) (hw : ∀ x ∈ es, x.wf) : ∀ k, k ≤ es.length → (((es.take k).map attB).flatten).length ≤ k * 200
  | 0, _ => by simp
  | k + 1, hk => by
    have ih := row_le hc hw k (by omega)
    have hz : es[k]? = some es[k] := List.getElem?_eq_getElem (by omega)
    have := (attB_le es[k] ((hc.2.2 k (by omega)) _ hz).1 (hw _ (List.getElem_mem _))).1
    rw [List.take_add_one, hz]
    simp only [Option.toList, List.map_append, List.flatten_append, List.length_append, List.map_cons, List.map_nil, List.flatten_cons, List.flatten_nil, List.append_nil]
    omega
end PM
set_option maxHeartbeats 4000000 in
theorem encode_ok (v : Value) (es : List PM.At) (w : World) (hv : PM.EV w v es) (hc : PM.chkP es) (hw : ∀ x ∈ es, x.wf) :
    Calls Try.prog 58 #[v] w fun e w' => ∃ o, e = .returned (.tuple #[o, .int .i64 0]) ∧ PM.OW 5 w.heap.size w' o (PM.encB es) ∧ Below w.heap.size w w' := by
  have hck := echeck_any v es w hv
  rw [PM.chk_yes hc] at hck
  have hlen := hc.2.1
  have hvh := PM.hid hv
  obtain ⟨ad, cap, rfl, hcap, hmax, hel⟩ := hv
  unfold maxLen at hmax
  obtain ⟨L, hL⟩ : ∃ L, L = es.length := ⟨_, rfl⟩
  have hLh := PM.hid hL
  rw [← hL] at hcap hck hlen ⊢
  have hch := PM.hid hc
  have hwh := PM.hid hw
  clear hel hL hc hw
  go_enter Try.func58, Try.ntmps58
  go_wp2_with fail
  refine hck.mono ?_
  rintro e w1 ⟨rfl, hB1⟩
  go_wp2_with fail
  refine (number_c _ [] _ L (by first | rfl | omega | (simp; omega)) (by omega) w1 (PM.BS.nil _) (by simp)).mono ?_
  rintro e w2 ⟨o2, rfl, ho2, hB2⟩
  have hC2 := PM.chain hB1 hB2
  have ho2' := ho2.mono hB1.size
  have hin := PM.hid (And.intro ho2' hC2)
  clear ho2 ho2' hB1 hB2 hC2 hck
  go_wp2_with fail
  go_loopw [5, 19] (fun o i wr => ∃ k : Nat, i = .int .i64 k ∧ k ≤ L ∧ PM.OW 5 w.heap.size wr o (PM.numB L ++ ((es.take k).map PM.attB).flatten) ∧ Below w.heap.size w wr) (fun _ i _ => L - (intOf i).toNat)
  case atStart => exact ⟨0, rfl, by omega, by simpa using hin.out.1, hin.out.2⟩
  case round =>
    obtain ⟨k, rfl, hk, ho, hB⟩ := hrel
    by_cases hlt : k < L
    · obtain ⟨z, hz⟩ : ∃ z, es[k]? = some z := ⟨es[k]'(by rw [← hLh.out]; exact hlt), List.getElem?_eq_getElem _⟩
      obtain ⟨_, _, he, _, _, hel⟩ := hvh.out
      obtain ⟨b, off, rfl, hce⟩ := hel (by rw [← hLh.out]; omega)
      cases he
      obtain ⟨d0, d1, d2, d3⟩ := hce k z hz
      replace d0 := PM.cellA hB d0
      replace d1 := PM.cellA hB d1
      replace d2 := PM.cellA hB d2
      replace d3 := PM.cellA hB d3
      have hzh := PM.hid hz
      obtain ⟨l5, hl5⟩ : ∃ l5, l5 = PM.numB L ++ ((es.take k).map PM.attB).flatten := ⟨_, rfl⟩
      rw [← hl5] at ho
      have hS := PM.hid (And.intro ho hB)
      have hl5h := PM.hid hl5
      clear hz hce hel ho hB hl5
      have hnb := (hwh.out z (List.mem_of_getElem? hzh.out))
      have hbd : l5.length ≤ 10000 ∧ z.name.size ≤ 100 ∧ z.s.size ≤ 100 := by
        have g1 := PM.row_le hch.out hwh.out k (by rw [← hLh.out]; omega)
        have g2 := PM.attB_le z ((hch.out.2.2 k (by rw [← hLh.out]; exact hlt)) z hzh.out).1 hnb
        have g3 := PM.wid_le L (by omega)
        refine ⟨?_, g2.2⟩
        rw [hl5h.out, List.length_append, PM.numB_length]
        omega
      go_wp2_with fail
      obtain ⟨W0, hW0⟩ : ∃ W0, W0 = wr.alloc (.cells #[.string z.name, .int .i64 z.k, .int .i64 z.n, .string z.s] 64) := ⟨_, rfl⟩
      have hB0 : Below wr.heap.size wr W0 := by rw [hW0]; exact (Below.refl _ _).alloc (Nat.le_refl _) _
      have hzb : PM.BK W0 wr.heap.size #[.string z.name, .int .i64 z.k, .int .i64 z.n, .string z.s] 64 := by rw [hW0]; exact PM.BK.new wr _ _
      have hu5 : PM.BS W0 u5 l5 := (hS.out.1.keep hB0).bs
      rw [← hW0]
      clear hW0 d0 d1 d2 d3
      have hS0 := hS
      have c0 := hzb.cell 0
      have c1 := hzb.cell 1
      have c2 := hzb.cell 2
      have c3 := hzb.cell 3
      replace c0 : W0.cell? ⟨wr.heap.size, 0, none⟩ = some (.string z.name) := c0
      replace c1 : W0.cell? ⟨wr.heap.size, 1, none⟩ = some (.int .i64 z.k) := c1
      replace c2 : W0.cell? ⟨wr.heap.size, 2, none⟩ = some (.int .i64 z.n) := c2
      replace c3 : W0.cell? ⟨wr.heap.size, 3, none⟩ = some (.string z.s) := c3
      have kc := PM.run_conv bty Try.underlying9 W0.drew z.name
      have hBc : Below W0.heap.size W0 (PM.convW 5 W0.drew z.name) := (Below.refl _ _).drew.trans (PM.convW_below _ W0.drew _)
      have hBc' := PM.chain hB0 hBc
      have hub := hu5.keep hBc
      have hcv := PM.convW_bs 5 W0.drew z.name (by omega)
      have h3 := PM.size_len z.name
      have hb1 := Go.bounds_i64 hnb.2.1
      have hb2 := Go.bounds_i64 hnb.2.2.1
      have hz2 := PM.hid (hzb.keep hBc)
      have m1 : (PM.convW 5 W0.drew z.name).cell? ⟨wr.heap.size, 1, none⟩ = some (.int .i64 z.k) := hz2.out.cell 1
      have m2 : (PM.convW 5 W0.drew z.name).cell? ⟨wr.heap.size, 2, none⟩ = some (.int .i64 z.n) := hz2.out.cell 2
      have m3 : (PM.convW 5 W0.drew z.name).cell? ⟨wr.heap.size, 3, none⟩ = some (.string z.s) := hz2.out.cell 3
      have hBch := PM.hid hBc'
      clear hBc hBc' hu5
      go_region_with (first
        | (go_at_call 35; have hv3 := bytes_any _ _ l5 z.name.data.toList _ hub hcv (by omega) (by omega); refine hv3.mono ?_; clear hv3; rintro e w3 ⟨v3, rfl, ho3, hB3⟩; have hz3 := hz2.out.keep hB3; have k0 : w3.cell? ⟨wr.heap.size, 0, none⟩ = some (.string z.name) := hz3.cell 0; have k1 : w3.cell? ⟨wr.heap.size, 1, none⟩ = some (.int .i64 z.k) := hz3.cell 1; have k2 : w3.cell? ⟨wr.heap.size, 2, none⟩ = some (.int .i64 z.n) := hz3.cell 2; have k3 : w3.cell? ⟨wr.heap.size, 3, none⟩ = some (.string z.s) := hz3.cell 3; clear c0 c1 c2 c3 m1 m2 m3; have hE3 := PM.hid (PM.chain hBch.out hB3); have hl3 : (l5 ++ PM.bytesB z.name.data.toList).length ≤ 20000 := (by have := PM.wid_le z.name.data.toList.length (by omega); rw [List.length_append, PM.bytesB, List.length_append, PM.numB_length]; omega); have hs3 := ho3.bs; have hg3 := Nat.le_trans hB0.size (Nat.le_refl W0.heap.size); clear hub hcv kc ho3 hB3 hz3)
        | (go_at_call 60; have hv4 := value_any _ _ z.k z.n z.s _ hs3 (by omega) (by omega) hb1.1 hb1.2 hb2.1 hb2.2; refine hv4.mono ?_; clear hv4; rintro e w4 ⟨v4, rfl, ho4, hB4⟩; have hE4 := PM.hid (And.intro (ho4.mono hE3.out.size) (PM.chain hE3.out hB4)); clear ho4 hB4 hs3))
      all_goals
        obtain ⟨ya, yc, rfl⟩ := hE4.out.1.bs.len
        go_wp2_with fail
        refine ⟨⟨k + 1, by go_num, by omega, ?_, PM.chain hS0.out.2 hE4.out.2⟩, by simp only [intOf]; omega⟩
        have hlist : PM.numB L ++ ((es.take (k + 1)).map PM.attB).flatten = l5 ++ PM.bytesB z.name.data.toList ++ PM.valB z.k z.n z.s.data.toList := by rw [hl5h.out, List.take_add_one, hzh.out]; simp [PM.attB, List.append_assoc]
        have hfin := hE4.out.1.mono hS0.out.2.size
        rw [hlist]
        simp only [List.append_assoc, List.length_append] at hfin ⊢
        exact hfin
    · have hkL : k = L := by omega
      subst hkL
      rw [List.take_of_length_le (by rw [← hLh.out]; omega)] at ho
      obtain ⟨ya, yc, rfl⟩ := ho.bs.len
      have hE := PM.hid (And.intro ho hB)
      clear ho hB
      go_wp2_with fail
      go_ret2
      refine ⟨_, rfl, ?_, hE.out.2⟩
      have := hE.out.1
      rw [PM.encB, ← hLh.out]
      exact this
end Go.Proofs.Ytnjcociidipogaa

/-
  CONTRACT OF event.Encode, of any event.
-/
namespace Go.Proofs.Ytnjcociidipogaa
open Go.RowKit
set_option linter.unusedVariables false
/-- what Encode answers: the bytes, and the number of the error -/
def RetE (E : TypeId) (W : World) (es : List PM.At) (e : Ending) (w' : World) : Prop :=
  ∃ o, e = .returned (.tuple #[o, .int .i64 (PM.chk es)]) ∧ (PM.chkP es → PM.OW E W.heap.size w' o (PM.encB es)) ∧ (¬ PM.chkP es → o = .slice none 0 0) ∧ Below W.heap.size W w'
theorem encode_any (v : Value) (es : List PM.At) (w : World) (hv : PM.EV w v es) (hw : ∀ x ∈ es, x.wf) :
    Calls Try.prog 58 #[v] w (RetE 5 w es) := by
  by_cases hc : PM.chkP es
  · refine (encode_ok v es w hv hc hw).mono ?_
    rintro e w' ⟨o, rfl, h1, h2⟩
    exact ⟨o, by rw [PM.chk_yes hc], fun _ => h1, fun h => absurd hc h, h2⟩
  · have hck := echeck_any v es w hv
    rw [PM.chk_no hc] at hck
    have hch := PM.hid hc
    obtain ⟨ad, cap, rfl, _⟩ := hv
    clear hc
    go_enter Try.func58, Try.ntmps58
    go_wp2_with fail
    refine hck.mono ?_
    rintro e w1 ⟨rfl, hB1⟩
    have hB := PM.hid hB1
    clear hB1 hck
    go_wp2_with fail
    go_ret2
    exact ⟨.slice none 0 0, by rw [PM.chk_no hch.out]; rfl, fun h => absurd h hch.out, fun _ => rfl, hB.out⟩
end Go.Proofs.Ytnjcociidipogaa

/-
  CONTRACT OF event.Decode.
-/
namespace Go.Proofs.Ytnjcociidipogaa
open Go.RowKit
set_option linter.unusedVariables false
namespace PM
open Classical
/-- an attribute's cells -/
def attL (x : At) : List Value := [.string x.name, .int .i64 x.k, .int .i64 x.n, .string x.s]
theorem attL_len (x : At) : (attL x).length = 4 := rfl
theorem attL_one (x : At) : ∀ u ∈ attL x, u.oneCell' = true := by intro u hu; simp [attL] at hu; rcases hu with rfl | rfl | rfl | rfl <;> rfl
theorem attL_nob (x : At) : ∀ u ∈ attL x, NoB u := by intro u hu y; simp [attL] at hu; rcases hu with rfl | rfl | rfl | rfl <;> simp [bv]
theorem EV.em {w : World} {v : Value} {es : List At} (h : EV w v es) : EM attL 4 w v es := by
  obtain ⟨ad, cap, hv, h1, h2, h3⟩ := h
  refine ⟨ad, cap, hv, h1, h2, fun hp => ?_⟩
  obtain ⟨b, off, ha, h4⟩ := h3 hp
  refine ⟨b, off, ha, fun i x hi j u hu => ?_⟩
  obtain ⟨d0, d1, d2, d3⟩ := h4 i x hi
  match j, hu with
  | 0, hu => simp [attL] at hu; subst hu; exact d0
  | 1, hu => simp [attL] at hu; subst hu; exact d1
  | 2, hu => simp [attL] at hu; subst hu; exact d2
  | 3, hu => simp [attL] at hu; subst hu; exact d3
  | j + 4, hu => simp [attL] at hu
theorem EM.ev {w : World} {v : Value} {es : List At} (h : EM attL 4 w v es) : EV w v es := by
  obtain ⟨ad, cap, hv, h1, h2, h3⟩ := h
  refine ⟨ad, cap, hv, h1, h2, fun hp => ?_⟩
  obtain ⟨b, off, ha, h4⟩ := h3 hp
  exact ⟨b, off, ha, fun i x hi => ⟨h4 i x hi 0 _ rfl, h4 i x hi 1 _ rfl, h4 i x hi 2 _ rfl, h4 i x hi 3 _ rfl⟩⟩
/-- an attribute that is read -/
def attR (a : List UInt8) (c : Int × Int × List UInt8) : At := ⟨⟨a.toArray⟩, c.1, c.2.1, ⟨c.2.2.toArray⟩⟩
/-- attributes that are read one after another: they, what is left, and whether something is wrong -/
def stepsE : Nat → List UInt8 → Bool → List At × List UInt8 × Bool
  | 0, l, wr => ([], l, wr)
  | k + 1, l, wr =>
    let r := stepsE k l wr
    let a := stepB r.2.1 r.2.2 16
    let c := stepV a.2.1 a.2.2
    (r.1 ++ [attR a.1 c.1], c.2.1, c.2.2)
theorem stepsE_len : ∀ k l wr, (stepsE k l wr).1.length = k
  | 0, _, _ => rfl
  | k + 1, l, wr => by simp [stepsE, stepsE_len k]
theorem stepB_le (l : List UInt8) (wr : Bool) (m : Int) : (stepB l wr m).2.1.length ≤ l.length := by
  have h := (stepN_lt l wr).2
  unfold stepB
  split
  · simp
  · simp; omega
theorem stepV_le (l : List UInt8) (wr : Bool) : (stepV l wr).2.1.length ≤ l.length := by
  have h1 := (stepN_lt l wr).2
  have h2 := (stepN_lt (stepN l wr).2.1 (stepN l wr).2.2).2
  have h3 := stepB_le (stepN (stepN l wr).2.1 (stepN l wr).2.2).2.1 (stepN (stepN l wr).2.1 (stepN l wr).2.2).2.2 40
  unfold stepV
  simp only
  repeat' split
  all_goals first | omega | (simp; done) | (simp; omega)
theorem stepsE_lt : ∀ k l wr, (stepsE k l wr).2.1.length ≤ l.length
  | 0, _, _ => Nat.le_refl _
  | k + 1, l, wr => by
    have h1 := stepsE_lt k l wr
    have h2 := stepB_le (stepsE k l wr).2.1 (stepsE k l wr).2.2 16
    have h3 := stepV_le (stepB (stepsE k l wr).2.1 (stepsE k l wr).2.2 16).2.1 (stepB (stepsE k l wr).2.1 (stepsE k l wr).2.2 16).2.2
    simp only [stepsE]
    omega
/-- the event that bytes are -/
noncomputable def decF (n : Nat) (l : List UInt8) (wr : Bool) : Option (List At) :=
  if 16 < n then none else
  if (stepsE n l wr).2.2 = false ∧ (stepsE n l wr).2.1 = [] ∧ chkP (stepsE n l wr).1 then some (stepsE n l wr).1 else none
noncomputable def decE (l : List UInt8) : Option (List At) := decF (stepN l false).1 (stepN l false).2.1 (stepN l false).2.2
theorem decF_big {n : Nat} {l : List UInt8} {wr : Bool} (h : 16 < n) : decF n l wr = none := by unfold decF; rw [if_pos h]
theorem decF_yes {n : Nat} {l : List UInt8} {wr : Bool} (h : ¬ 16 < n) (h1 : (stepsE n l wr).2.2 = false) (h2 : (stepsE n l wr).2.1 = []) (h3 : chkP (stepsE n l wr).1) : decF n l wr = some (stepsE n l wr).1 := by
  unfold decF; rw [if_neg h, if_pos ⟨h1, h2, h3⟩]
theorem decF_no {n : Nat} {l : List UInt8} {wr : Bool} (h : ¬ 16 < n) (h1 : ¬ ((stepsE n l wr).2.2 = false ∧ (stepsE n l wr).2.1 = [] ∧ chkP (stepsE n l wr).1)) : decF n l wr = none := by
  unfold decF; rw [if_neg h, if_neg h1]
noncomputable def decN (l : List UInt8) : Int := if (decE l).isSome then 0 else 40
end PM
theorem attTy : PM.MTy Try.prog 29 64 4 48 := by
  refine ⟨Try.underlying29, by decide, ?_⟩
  obtain ⟨i, h1, h2, h3, h4⟩ := info_parts (P := Try.prog) (e := 64) (z := .agg #[.string ByteArray.empty, .int .i64 0, .int .i64 0, .string ByteArray.empty]) (size := 4) (bytes := 48) (by kernel_rfl)
  exact ⟨i, _, h1, h2, h3, h4, by kernel_rfl⟩
theorem attZ : ∀ i z, Try.prog.info? 64 = some i → i.zero = some z → ∀ x ∈ z.cells.toList, PM.NoB x := by
  intro i z hi hz x hx y
  have h0 : (Try.prog.info? 64).bind (·.zero) = some (.agg #[.string ByteArray.empty, .int .i64 0, .int .i64 0, .string ByteArray.empty]) := by kernel_rfl
  rw [hi] at h0
  simp only [Option.bind_some, hz, Option.some.injEq] at h0
  subst h0
  simp [Value.cells] at hx
  rcases hx with rfl | rfl | rfl | rfl <;> simp [PM.bv]
def RetD (E : TypeId) (W : World) (l : List UInt8) (e : Ending) (w' : World) : Prop :=
  ∃ o, e = .returned (.tuple #[o, .int .i64 (PM.decN l)]) ∧ (∀ es, PM.decE l = some es → PM.OM PM.attL 4 E W.heap.size w' o es) ∧ (PM.decE l = none → o = .slice none 0 0) ∧ Below W.heap.size W w'
end Go.Proofs.Ytnjcociidipogaa

/-
  PLAIN FACTS ON EVENTS' BYTES: they are read back, and what is read is packed so.
-/
namespace Go.Proofs.Ytnjcociidipogaa
namespace PM
theorem attR_of (x : At) : attR x.name.data.toList (x.k, x.n, x.s.data.toList) = x := by
  cases x
  simp [attR]
theorem stepsE_enc {es : List At} (hc : chkP es) (hw : ∀ x ∈ es, x.wf) (t : List UInt8) : ∀ k, k ≤ es.length → ∀ r, r = ((es.drop k).map attB).flatten ++ t → stepsE k ((es.map attB).flatten ++ t) false = (es.take k, r, false)
  | 0, _, r, hr => by subst hr; simp [stepsE]
  | k + 1, hk, r, hr => by
    have hz : es[k]? = some es[k] := List.getElem?_eq_getElem (by omega)
    have hd : es.drop k = es[k] :: es.drop (k + 1) := List.drop_eq_getElem_cons (by omega)
    have ih := stepsE_enc hc hw t k (by omega) _ rfl
    have hok := ((hc.2.2 k (by omega)) _ hz).1
    have hwf := hw es[k] (List.getElem_mem _)
    obtain ⟨_, hn, hs⟩ := attB_le es[k] hok hwf
    have hb := Go.bounds_i64 hwf.2.2.1
    have hok' := hok
    unfold atOk at hok'
    simp only [Bool.and_eq_true] at hok'
    have hnl : es[k].name.data.toList.length ≤ 16 := by
      have := hok'.1
      unfold nameL at this
      simp only [Bool.and_eq_true, decide_eq_true_eq] at this
      exact this.1.2
    have s1 := stepB_bytes es[k].name.data.toList (valB es[k].k es[k].n es[k].s.data.toList ++ r) 16 (by omega) (by omega)
    have s2 := stepV_val es[k].k es[k].n es[k].s.data.toList r hok'.2 hb.1 hb.2
    have e0 : ((es.drop k).map attB).flatten ++ t = bytesB es[k].name.data.toList ++ (valB es[k].k es[k].n es[k].s.data.toList ++ r) := by
      rw [hd, hr, List.map_cons, List.flatten_cons]
      unfold attB
      simp only [List.append_assoc]
    simp only [stepsE, ih, e0, s1, s2, attR_of]
    rw [List.take_add_one, hz]
    rfl
theorem decE_tail {es : List At} (hc : chkP es) (hw : ∀ x ∈ es, x.wf) (t : List UInt8) (ht : t ≠ []) : decE (encB es ++ t) = none := by
  unfold decE encB
  rw [List.append_assoc, stepN_num es.length (by have := hc.2.1; omega) _]
  have h := stepsE_enc hc hw t es.length (Nat.le_refl _) _ rfl
  refine decF_no (by have := hc.2.1; omega) ?_
  simp only [h]
  simp [ht]
theorem decE_enc {es : List At} (hc : chkP es) (hw : ∀ x ∈ es, x.wf) : decE (encB es) = some es := by
  unfold decE encB
  rw [stepN_num es.length (by have := hc.2.1; omega) _]
  have h := stepsE_enc hc hw [] es.length (Nat.le_refl _) _ rfl
  simp only [List.append_nil] at h
  rw [decF_yes (by have := hc.2.1; omega) (by rw [h]) (by rw [h]; simp) (by rw [h]; simpa using hc)]
  rw [h]; simp
theorem stepV_wr' {l : List UInt8} {wr : Bool} (h : (stepV l wr).2.2 = false) : wr = false := by
  cases wr
  · rfl
  · have he := stepV_eq l true 0 0 [] [] [] [] true true true (stepN_wr l) (stepN_wr []) (stepB_wr [] 40)
    rw [he] at h
    simp at h
theorem attR_B (a : List UInt8) (k n : Int) (s : List UInt8) : attB (attR a (k, n, s)) = bytesB a ++ valB k n s := by simp [attB, attR]
theorem stepsE_back : ∀ (k : Nat) (l : List UInt8) (wr : Bool), (stepsE k l wr).2.2 = false → l = (((stepsE k l wr).1).map attB).flatten ++ (stepsE k l wr).2.1
  | 0, l, wr, h => by simp [stepsE]
  | k + 1, l, wr, h => by
    have h3 : (stepV (stepB (stepsE k l wr).2.1 (stepsE k l wr).2.2 16).2.1 (stepB (stepsE k l wr).2.1 (stepsE k l wr).2.2 16).2.2).2.2 = false := h
    have h2 := stepV_wr' h3
    have h1 := stepB_false h2
    have ih := stepsE_back k l wr h1
    simp only [stepsE]
    rw [h1] at h2 h3 ⊢
    rw [h2] at h3 ⊢
    have b2 := stepB_back h2
    have b3 := (stepV_back h3).1
    rw [List.map_append, List.flatten_append]
    have e1 : (List.map attB [attR (stepB (stepsE k l wr).2.1 false 16).1 (stepV (stepB (stepsE k l wr).2.1 false 16).2.1 false).1]).flatten = bytesB (stepB (stepsE k l wr).2.1 false 16).1 ++ valB (stepV (stepB (stepsE k l wr).2.1 false 16).2.1 false).1.1 (stepV (stepB (stepsE k l wr).2.1 false 16).2.1 false).1.2.1 (stepV (stepB (stepsE k l wr).2.1 false 16).2.1 false).1.2.2 := by
      rw [← attR_B]; simp
    rw [e1, List.append_assoc, List.append_assoc, ← b3, ← b2]
    exact ih
theorem wf64 {n : Int} (h : -9223372036854775808 ≤ n ∧ n ≤ 9223372036854775807) : (Lit.int .i64 n).wf = true := by
  simp [Lit.wf, IntKind.min, IntKind.max, IntKind.signed, IntKind.bits]
  omega
theorem attR_wf (a : List UInt8) (c : Int × Int × List UInt8) (ha : a.length ≤ 100) (h1 : -9223372036854775808 ≤ c.1 ∧ c.1 ≤ 9223372036854775807) (h2 : -9223372036854775808 ≤ c.2.1 ∧ c.2.1 ≤ 9223372036854775807) (hs : c.2.2.length ≤ 100) : (attR a c).wf := by
  refine ⟨?_, wf64 h1, wf64 h2, ?_⟩
  · have e : (attR a c).name.size = a.length := by show a.toArray.size = _; simp
    rw [e]; unfold maxLen; omega
  · have e : (attR a c).s.size = c.2.2.length := by show c.2.2.toArray.size = _; simp
    rw [e]; unfold maxLen; omega
theorem stepsE_wf : ∀ (k : Nat) (l : List UInt8) (wr : Bool), ∀ x ∈ (stepsE k l wr).1, x.wf
  | 0, l, wr => by simp [stepsE]
  | k + 1, l, wr => by
    intro x hx
    simp only [stepsE, List.mem_append, List.mem_singleton] at hx
    rcases hx with hx | rfl
    · exact stepsE_wf k l wr x hx
    · have h := stepV_lt (stepB (stepsE k l wr).2.1 (stepsE k l wr).2.2 16).2.1 (stepB (stepsE k l wr).2.1 (stepsE k l wr).2.2 16).2.2
      have hb : (stepB (stepsE k l wr).2.1 (stepsE k l wr).2.2 16).1.length ≤ 16 := by
        unfold stepB
        split
        · simp
        · simp only [List.length_take]; omega
      exact attR_wf _ _ (by omega) ⟨h.1, h.2.1⟩ ⟨h.2.2.1, h.2.2.2.1⟩ (by omega)
theorem decF_some {n : Nat} {l : List UInt8} {wr : Bool} {es : List At} (h : decF n l wr = some es) : ¬ 16 < n ∧ (stepsE n l wr).2.2 = false ∧ (stepsE n l wr).2.1 = [] ∧ chkP es ∧ es = (stepsE n l wr).1 := by
  unfold decF at h
  split at h
  · cases h
  · rename_i h1
    split at h
    · rename_i h2
      injection h with h
      subst h
      exact ⟨h1, h2.1, h2.2.1, h2.2.2, rfl⟩
    · cases h
theorem stepsE_wr : ∀ (k : Nat) (l : List UInt8) (wr : Bool), (stepsE k l wr).2.2 = false → wr = false
  | 0, _, _, h => h
  | k + 1, l, wr, h => stepsE_wr k l wr (stepB_false (stepV_wr' (show (stepV (stepB (stepsE k l wr).2.1 (stepsE k l wr).2.2 16).2.1 (stepB (stepsE k l wr).2.1 (stepsE k l wr).2.2 16).2.2).2.2 = false from h)))
theorem decE_back {b : List UInt8} {es : List At} (h : decE b = some es) : encB es = b ∧ chkP es ∧ ∀ x ∈ es, x.wf := by
  unfold decE at h
  obtain ⟨h16, h1, h2, h3, rfl⟩ := decF_some h
  refine ⟨?_, h3, stepsE_wf _ _ _⟩
  have hw := stepsE_wr _ _ _ h1
  have b1 := stepN_back hw
  have b2 := stepsE_back _ _ _ h1
  rw [h2, List.append_nil] at b2
  unfold encB
  rw [stepsE_len, ← b2]
  exact b1.symm
theorem decE_cut {es : List At} (hc : chkP es) (hw : ∀ x ∈ es, x.wf) (t : List UInt8) (m : List UInt8) (ht : t ≠ []) (he : encB es = m ++ t) : decE m = none := by
  cases h : decE m with
  | none => rfl
  | some y =>
    obtain ⟨h1, h2, h3⟩ := decE_back h
    have h4 := decE_tail h2 h3 t ht
    rw [h1, ← he, decE_enc hc hw] at h4
    cases h4
end PM
end Go.Proofs.Ytnjcociidipogaa
