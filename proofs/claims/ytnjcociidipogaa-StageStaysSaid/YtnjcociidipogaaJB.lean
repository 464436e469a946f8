import Derived.Test.YtnjcociidipogaaJA
import Derived.Test.YtnjcociidipogaaIC
import Derived.Test.YtnjcociidipogaaEB
import Derived.Test.YtnjcociidipogaaR0
/-
  CONTRACTS OF idpack.Lay, entry's layEvents.
-/
namespace Go.Proofs.Ytnjcociidipogaa
open Go.RowKit
set_option linter.unusedVariables false
set_option linter.unusedSimpArgs false
namespace PM
theorem encB_le {e : List At} (hc : chkP e) (hw : ∀ y ∈ e, y.wf) : (encB e).length ≤ 3300 := by
  have h := row_le hc hw e.length (Nat.le_refl _)
  rw [List.take_length] at h
  have h1 := hc.2.1
  have h2 := wid_le e.length (by omega)
  unfold encB
  rw [List.length_append, numB_length]
  omega
theorem evsB_le : ∀ (es : List (List At)), (∀ e ∈ es, chkP e) → (∀ e ∈ es, ∀ y ∈ e, y.wf) → (evsB es).length ≤ es.length * 3400
  | [], _, _ => by simp [evsB]
  | e :: es, hc, hw => by
    have ih := evsB_le es (fun x hx => hc x (List.mem_cons_of_mem _ hx)) (fun x hx => hw x (List.mem_cons_of_mem _ hx))
    have h1 := encB_le (hc e (List.mem_cons_self ..)) (hw e (List.mem_cons_self ..))
    have h2 := wid_le (encB e).length (by omega)
    unfold evsB at ih ⊢
    rw [List.map_cons, List.flatten_cons, List.length_append, bytesB, List.length_append, numB_length, List.length_cons]
    omega
theorem evsB_take {es : List (List At)} {k : Nat} {z : List At} (hz : es[k]? = some z) : evsB (es.take (k + 1)) = evsB (es.take k) ++ bytesB (encB z) := by
  unfold evsB
  rw [List.take_add_one, hz]
  simp
end PM
set_option maxHeartbeats 4000000 in
theorem lay_any (v : Value) (l : List UInt8) (x : PM.Id) (hx : x.wf) (w : World) (hv : PM.BS w v l) (hl : l.length ≤ 17592186044416) :
    Calls Try.prog 31 #[v, .agg (PM.idL x).toArray] w (PM.RetB 5 w.heap.size w (l ++ PM.idB x)) := by
  obtain ⟨ib, il, is⟩ := x
  obtain ⟨hi1, hi2, hi3⟩ := hx
  unfold PM.idL
  simp only at hi1 hi2 hi3 ⊢
  have hw1 := PM.wid_le _ (PM.u64_lt ib)
  have hw2 := PM.wid_le _ hi2
  have hw3 := PM.wid_le _ hi3
  obtain ⟨g, hg⟩ : ∃ g, g = w.heap.size := ⟨_, rfl⟩
  obtain ⟨w1, hw⟩ : ∃ W, W = w.alloc (.cells #[.int .i64 ib, .int .u64 (il : Int), .int .u64 (is : Int)] 26) := ⟨_, rfl⟩
  have hal : Below w.heap.size w w1 := by rw [hw]; exact (Below.refl _ _).alloc (Nat.le_refl _) _
  have kg : PM.BK w1 g #[.int .i64 ib, .int .u64 (il : Int), .int .u64 (is : Int)] 26 := by rw [hw, hg]; exact PM.BK.new _ _ _
  replace hv := hv.keep hal
  replace hal := PM.hid hal
  go_enter Try.func31, Try.ntmps31
  go_wp2_with fail
  rw [← hw, ← hg]
  clear hw hg
  refine PM.wp_region_st [some 5, some 6, some 7, some 8, some 9, some 10, some 11, some 12, some 13, some 14, some 15, some 4] [fun x _ => x = v, fun x _ => x = .pointer (some ⟨g, 0, none⟩), fun x _ => x = .int .i64 ib, fun x _ => x = .int .u64 ((PM.u64 ib : Nat) : Int), fun x w' => PM.BS w' x (l ++ PM.numB (PM.u64 ib)), fun x _ => x = .pointer (some ⟨g, 1, none⟩), fun x _ => x = .int .u64 (il : Int), fun x w' => PM.BS w' x (l ++ PM.numB (PM.u64 ib) ++ PM.numB il), fun x _ => x = .pointer (some ⟨g, 2, none⟩), fun x _ => x = .int .u64 (is : Int), fun x w' => PM.OW 5 w1.heap.size w' x (l ++ PM.numB (PM.u64 ib) ++ PM.numB il ++ PM.numB is), fun x w' => PM.OW 5 w1.heap.size w' x (l ++ PM.numB (PM.u64 ib) ++ PM.numB il ++ PM.numB is)] (by kernel_rfl) (by kernel_rfl) (by kernel_rfl) ?_ ?_ ?_
  · simp only [List.forall_mem_cons]
    refine ⟨?_, ?_, ?_, ?_, ?_, ?_, ?_, ?_, ?_, ?_, ?_, ?_, by simp⟩
    all_goals (intro x W W' h hb; first | exact h | exact PM.BS.keep hb h | exact PM.OW.keep hb h)
  · refine ⟨?_, ?_, ?_, ?_, ?_, ?_, ?_, ?_, ?_, ?_, ?_, ?_, trivial⟩
    all_goals
      intro a W hB hF hd
      have k0 := hF 0 rfl
      have k3 := hF 3 rfl
      have kgW := kg.keep hB
      have c0 : W.cell? ⟨g, 0, none⟩ = some (.int .i64 ib) := kgW.cell 0
      have c1 : W.cell? ⟨g, 1, none⟩ = some (.int .u64 (il : Int)) := kgW.cell 1
      have c2 : W.cell? ⟨g, 2, none⟩ = some (.int .u64 (is : Int)) := kgW.cell 2
      clear hF
      simp [PM.depsL, PM.spec, PM.sl, Region.binds] at hd k0 k3
      simp only [PM.wantL, PM.spec]
      try simp only [PM.sl]
      go_simp
    all_goals try exact Below.refl _ _
    · exact ⟨Below.refl _ _, by rw [wrap_u64_eq]⟩
    · refine (number_c _ l _ (PM.u64 ib) rfl (PM.u64_lt _) W (hv.keep hB) (by omega)).mono ?_
      rintro e w' ⟨v', rfl, ho, hb⟩
      exact ⟨hb, v', rfl, by have := ho.bs; simpa using this⟩
    · refine (number_c _ _ _ il rfl hi2 W hd.1 (by simp [PM.numB_length]; omega)).mono ?_
      rintro e w' ⟨v', rfl, ho, hb⟩
      exact ⟨hb, v', rfl, by have := ho.bs; simpa using this⟩
    · refine (number_c _ _ _ is rfl hi3 W hd.1 (by simp [PM.numB_length]; omega)).mono ?_
      rintro e w' ⟨v', rfl, ho, hb⟩
      exact ⟨hb, v', rfl, by have := ho.mono hB.size; simpa using this⟩
    · exact ⟨Below.refl _ _, _, rfl, hd.1⟩
  · intro G W hB hF hS
    simp [PM.allSp, PM.spec] at hS
    obtain ⟨_, _, _, _, _, _, _, _, _, _, _, ho⟩ := hS
    rw [show ((List.range (Array.size _)).map G).toArray = #[G 0, G 1, G 2, G 3, G 4, G 5, G 6, G 7, G 8, G 9, G 10, G 11, G 12, G 13, G 14, G 15] from rfl]
    clear hF
    have hBh := PM.hid hB
    have hoh := PM.hid ho
    clear hB ho
    go_wp2_with fail
    go_ret
    refine ⟨_, rfl, ?_, PM.chain hal.out hBh.out⟩
    have := hoh.out.mono hal.out.size
    simp only [PM.idB, List.append_assoc] at this ⊢
    exact this
set_option maxHeartbeats 4000000 in
theorem layEvents_any (v ev : Value) (l : List UInt8) (es : List (List PM.At)) (w : World) (hv : PM.BS w v l) (he : PM.EVL w ev es) (hl : l.length ≤ 1000000) (hn : es.length ≤ 8) (hc : ∀ e ∈ es, PM.chkP e) (hw : ∀ e ∈ es, ∀ y ∈ e, y.wf) :
    Calls Try.prog 33 #[v, ev] w fun e w' => ∃ o, e = .returned (.tuple #[o, .int .i64 0]) ∧ PM.OW 5 w.heap.size w' o (l ++ (PM.numB es.length ++ PM.evsB es)) ∧ Below w.heap.size w w' := by
  obtain ⟨ad, cap, hve⟩ := he.len
  subst hve
  obtain ⟨L, hL⟩ : ∃ L, L = es.length := ⟨_, rfl⟩
  have hLh := PM.hid hL
  rw [← hL] at he hn ⊢
  have heh := PM.hid he
  have hch := PM.hid hc
  have hwh := PM.hid hw
  clear hL he hc hw
  have hwL : IntKind.u64.wrap (L : Int) = (L : Int) := by rw [IntKind.wrap_u64]; omega
  have hwd := PM.wid_le L (by omega)
  go_enter Try.func33, Try.ntmps33
  go_wp2_with fail
  refine (number_c _ l _ L rfl (by omega) w hv (by omega)).mono ?_
  rintro e w2 ⟨o2, rfl, ho2, hB2⟩
  have hin := PM.hid (And.intro ho2 hB2)
  clear ho2 hB2 hv
  go_wp2_with fail
  go_loopw [0, 17] (fun o i wr => ∃ k : Nat, i = .int .i64 k ∧ k ≤ L ∧ PM.OW 5 w.heap.size wr o (l ++ PM.numB L ++ PM.evsB (es.take k)) ∧ Below w.heap.size w wr) (fun _ i _ => L - (intOf i).toNat)
  case atStart => exact ⟨0, rfl, by omega, by simpa [PM.evsB] using hin.out.1, hin.out.2⟩
  case round =>
    obtain ⟨k, rfl, hk, ho, hB⟩ := hrel
    by_cases hlt : k < L
    · obtain ⟨z, hz⟩ : ∃ z, es[k]? = some z := ⟨es[k]'(by rw [← hLh.out]; exact hlt), List.getElem?_eq_getElem _⟩
      obtain ⟨b, off, rfl, hce⟩ := PM.RR.opn heh.out (by rw [← hLh.out]; omega)
      obtain ⟨cs, hl0, xv, hcs, hxv⟩ := hce k z hz
      have c0 := PM.cellA hB (hl0 0 xv (by rw [hcs]; rfl))
      rw [Nat.mul_one, Nat.add_zero] at c0
      have hzm := List.mem_of_getElem? hz
      have hen := encode_ok xv z wr (hxv.keep hB) (hch.out z hzm) (hwh.out z hzm)
      have hzh := PM.hid hz
      obtain ⟨l5, hl5⟩ : ∃ l5, l5 = l ++ PM.numB L ++ PM.evsB (es.take k) := ⟨_, rfl⟩
      rw [← hl5] at ho
      have hlen : l5.length ≤ 2000000 := by
        have g1 := PM.evsB_le (es.take k) (fun e h => hch.out e (List.mem_of_mem_take h)) (fun e h => hwh.out e (List.mem_of_mem_take h))
        have g2 := List.length_take_le k es
        rw [hl5, List.length_append, List.length_append, PM.numB_length]
        omega
      have hzl := PM.encB_le (hch.out z hzm) (hwh.out z hzm)
      have hS := PM.hid (And.intro ho hB)
      have hl5h := PM.hid hl5
      clear hz hce hl0 hcs hxv cs hzm ho hB hl5
      go_wp2_with fail
      refine hen.mono ?_
      rintro e w3 ⟨o3, rfl, ho3, hB3⟩
      have hs3 := hS.out.1.bs.keep hB3
      have hs4 := ho3.bs
      have hB3h := PM.hid (PM.chain hS.out.2 hB3)
      clear hen ho3 hB3 c0
      go_wp2_with fail
      refine (bytes_any _ _ l5 (PM.encB z) w3 hs3 hs4 (by omega) (by omega)).mono ?_
      rintro e w4 ⟨o4, rfl, ho4, hB4⟩
      have hE4 := PM.hid (And.intro (ho4.mono hB3h.out.size) (PM.chain hB3h.out hB4))
      clear ho4 hB4 hs3 hs4
      go_wp2_with fail
      refine ⟨⟨k + 1, by go_num, by omega, ?_, hE4.out.2⟩, by simp only [intOf]; omega⟩
      have := hE4.out.1
      rw [hl5h.out] at this
      rw [PM.evsB_take hzh.out, ← List.append_assoc]
      exact this
    · have hkL : k = L := by omega
      subst hkL
      rw [List.take_of_length_le (by rw [← hLh.out]; omega)] at ho
      have hE := PM.hid (And.intro ho hB)
      clear ho hB
      go_wp2_with fail
      go_ret2
      exact ⟨_, rfl, by rw [← List.append_assoc]; exact hE.out.1, hE.out.2⟩
end Go.Proofs.Ytnjcociidipogaa

/-
  CONTRACT OF entry.Encode.
-/
namespace Go.Proofs.Ytnjcociidipogaa
open Go.RowKit
set_option linter.unusedVariables false
set_option linter.unusedSimpArgs false
namespace PM
theorem filB_le {f : List Te} (hc : filP f) (hw : ∀ x ∈ f, x.wf) : (filB f).length ≤ 1700 := by
  have h := frow_le hc hw f.length (Nat.le_refl _)
  rw [List.take_length] at h
  have h1 := hc.1
  have h2 := wid_le f.length (by omega)
  unfold filB
  rw [List.length_append, numB_length]
  omega
theorem idB_le {x : Id} (hx : x.wf) : (idB x).length ≤ 27 := by
  have h1 := wid_le _ (u64_lt x.br)
  have h2 := wid_le _ hx.2.1
  have h3 := wid_le _ hx.2.2
  unfold idB
  simp only [List.length_append, numB_length]
  omega
end PM
/-- what Encode answers -/
def RetEN (W : World) (x : PM.En) (e : Ending) (w' : World) : Prop :=
  ∃ o, e = .returned (.tuple #[o, .int .i64 (PM.enE x)]) ∧ (PM.enOk x → PM.OW 5 W.heap.size w' o (PM.enB x)) ∧ (¬ PM.enOk x → o = .slice none 0 0) ∧ Below W.heap.size W w'
set_option maxRecDepth 100000 in
set_option maxHeartbeats 8000000 in
theorem enencode_any (x : PM.En) (fv ev : Value) (w : World) (hx : x.wf) (hf : PM.TV w fv x.fil) (he : PM.EVL w ev x.evs) :
    Calls Try.prog 13 #[.agg (PM.enC x fv ev).toArray] w (RetEN w x) := by
  suffices h : ∀ z : Int, z = PM.enE x → Calls Try.prog 13 #[.agg (PM.enC x fv ev).toArray] w (fun e w' => ∃ o, e = .returned (.tuple #[o, .int .i64 z]) ∧ (PM.enOk x → PM.OW 5 w.heap.size w' o (PM.enB x)) ∧ (¬ PM.enOk x → o = .slice none 0 0) ∧ Below w.heap.size w w') from h _ rfl
  intro z hz0
  have hck : ∀ W : World, Below w.heap.size w W → Calls Try.prog 30 #[.agg (PM.enC x fv ev).toArray] W fun e w' => e = .returned (.int .i64 z) ∧ Below W.heap.size W w' := fun W hb => by rw [hz0]; exact encheck_any x fv ev W hx (hf.keep hb) (he.keep hb)
  obtain ⟨fa, fc, hfe⟩ := hf.len
  obtain ⟨ea, ec, hee⟩ := he.len
  subst hfe hee
  obtain ⟨hx1, hx2, hx3, hx4, hx5, hx6⟩ := hx
  have hid := PM.idB_le hx2
  have hla : ∀ v l W, PM.BS W v l → l.length ≤ 17592186044416 → Calls Try.prog 31 #[v, .agg (PM.idL x.id).toArray] W (PM.RetB 5 W.heap.size W (l ++ PM.idB x.id)) := fun v l W h1 h2 => lay_any v l _ hx2 W h1 h2
  obtain ⟨F, hF⟩ : ∃ F, F = x.fil.length := ⟨_, rfl⟩
  obtain ⟨L, hL⟩ : ∃ L, L = x.evs.length := ⟨_, rfl⟩
  rw [← hF] at hf hck ⊢
  rw [← hL] at he hck ⊢
  have hLh := PM.hid hL
  clear hF hL
  replace hf := PM.hid hf
  replace he := PM.hid he
  replace hx5 := PM.hid hx5
  replace hx6 := PM.hid hx6
  obtain ⟨kd, ⟨ib, il, is⟩, cl, sub, fil, evs⟩ := x
  unfold PM.enC at hck ⊢
  unfold PM.idL at hla
  simp only at hx1 hx2 hx3 hx4 hx5 hx6 hf he hck hla hLh hid ⊢
  have hwk := PM.wid_le _ (PM.u64_lt kd)
  have hwc := PM.wid_le _ (PM.u64_lt cl)
  have hws := PM.wid_le _ hx4
  obtain ⟨g, hg⟩ : ∃ g, g = w.heap.size := ⟨_, rfl⟩
  obtain ⟨w1, hw1⟩ : ∃ W, W = w.alloc (.cells #[.int .i64 kd, .int .i64 ib, .int .u64 (il : Int), .int .u64 (is : Int), .int .i64 cl, .int .u64 (sub : Int), .slice fa F fc, .slice ea L ec] 34) := ⟨_, rfl⟩
  have hal : Below w.heap.size w w1 := by rw [hw1]; exact (Below.refl _ _).alloc (Nat.le_refl _) _
  have kg : PM.BK w1 g #[.int .i64 kd, .int .i64 ib, .int .u64 (il : Int), .int .u64 (is : Int), .int .i64 cl, .int .u64 (sub : Int), .slice fa F fc, .slice ea L ec] 34 := by rw [hw1, hg]; exact PM.BK.new _ _ _
  have hck1 := hck _ hal
  replace hal := PM.hid hal
  go_enter Try.func13, Try.ntmps13
  go_upto_region 1 with fail
  rw [← hw1, ← hg]
  clear hw1 hg hck
  have c0 : w1.cell? ⟨g, 0, none⟩ = some (.int .i64 kd) := kg.cell 0
  have c1 : w1.cell? ⟨g, 1, none⟩ = some (.int .i64 ib) := kg.cell 1
  have c2 : w1.cell? ⟨g, 2, none⟩ = some (.int .u64 (il : Int)) := kg.cell 2
  have c3 : w1.cell? ⟨g, 3, none⟩ = some (.int .u64 (is : Int)) := kg.cell 3
  have c4 : w1.cell? ⟨g, 4, none⟩ = some (.int .i64 cl) := kg.cell 4
  have c5 : w1.cell? ⟨g, 5, none⟩ = some (.int .u64 (sub : Int)) := kg.cell 5
  have c6 : w1.cell? ⟨g, 6, none⟩ = some (.slice fa F fc) := kg.cell 6
  have c7 : w1.cell? ⟨g, 7, none⟩ = some (.slice ea L ec) := kg.cell 7
  go_wp2_with fail
  refine hck1.mono ?_
  rintro e w2 ⟨rfl, hB2⟩
  replace kg := kg.keep hB2
  have hB2h := PM.hid (PM.chain hal.out hB2)
  clear hB2 hal hck1 c0 c1 c2 c3 c4 c5 c6 c7
  by_cases hok : PM.enOk ⟨kd, ⟨ib, il, is⟩, cl, sub, fil, evs⟩
  case neg =>
    have hz : z = 110 := by rw [hz0]; exact PM.enE_no hok
    subst hz
    clear hz0
    replace hok := PM.hid hok
    clear kg
    go_wp2_with fail
    go_ret2
    exact ⟨.slice none 0 0, rfl, fun h => absurd h hok.out, fun _ => rfl, hB2h.out⟩
  have hz : z = 0 := by rw [hz0]; exact PM.enE_yes hok
  subst hz
  clear hz0
  replace hok := PM.hid hok
  go_upto_region 4 with fail
  refine PM.wp_region_st [some 13, some 14, some 15, some 16, some 17, some 18, some 19, some 5] [fun x _ => x = .pointer (some ⟨g, 0, none⟩), fun x _ => x = .int .i64 kd, fun x _ => x = .int .u64 ((PM.u64 kd : Nat) : Int), fun x w' => PM.BS w' x (PM.numB (PM.u64 kd)), fun x _ => x = .pointer (some ⟨g, 1, none⟩), fun x _ => x = .agg #[.int .i64 ib, .int .u64 (il : Int), .int .u64 (is : Int)], fun x w' => PM.BS w' x (PM.numB (PM.u64 kd) ++ PM.idB ⟨ib, il, is⟩), fun x w' => PM.BS w' x (PM.numB (PM.u64 kd) ++ PM.idB ⟨ib, il, is⟩)] (by kernel_rfl) (by kernel_rfl) (by kernel_rfl) ?_ ?_ ?_
  · simp only [List.forall_mem_cons]
    refine ⟨?_, ?_, ?_, ?_, ?_, ?_, ?_, ?_, by simp⟩
    all_goals (intro x W W' h hb; first | exact h | exact PM.BS.keep hb h | exact PM.OW.keep hb h)
  · refine ⟨?_, ?_, ?_, ?_, ?_, ?_, ?_, ?_, trivial⟩
    all_goals
      intro a W hB hF hd
      have k1 := hF 1 rfl
      have kgW := kg.keep hB
      have c0 : W.cell? ⟨g, 0, none⟩ = some (.int .i64 kd) := kgW.cell 0
      have c1 : W.cell? ⟨g, 1, none⟩ = some (.int .i64 ib) := kgW.cell 1
      have c2 : W.cell? ⟨g, 2, none⟩ = some (.int .u64 (il : Int)) := kgW.cell 2
      have c3 : W.cell? ⟨g, 3, none⟩ = some (.int .u64 (is : Int)) := kgW.cell 3
      have c4 : W.cell? ⟨g, 4, none⟩ = some (.int .i64 cl) := kgW.cell 4
      have c5 : W.cell? ⟨g, 5, none⟩ = some (.int .u64 (sub : Int)) := kgW.cell 5
      have c6 : W.cell? ⟨g, 6, none⟩ = some (.slice fa F fc) := kgW.cell 6
      have c7 : W.cell? ⟨g, 7, none⟩ = some (.slice ea L ec) := kgW.cell 7
      clear hF
      simp [PM.depsL, PM.spec, PM.sl, Region.binds] at hd k1
      simp only [PM.wantL, PM.spec]
      try simp only [PM.sl]
      go_simp
    all_goals try exact Below.refl _ _
    · exact ⟨Below.refl _ _, by rw [wrap_u64_eq]⟩
    · refine (number_c _ [] _ (PM.u64 kd) rfl (PM.u64_lt _) W (PM.BS.nil _) (by simp)).mono ?_
      rintro e w' ⟨v', rfl, ho, hb⟩
      exact ⟨hb, v', rfl, by have := ho.bs; simpa using this⟩
    · refine (hla _ _ W hd.1 (by simp [PM.numB_length]; omega)).mono ?_
      rintro e w' ⟨v', rfl, ho, hb⟩
      exact ⟨hb, v', rfl, by have := ho.bs; simpa using this⟩
    · exact ⟨Below.refl _ _, _, rfl, hd.1⟩
  · intro G W hB hF hS
    simp [PM.allSp, PM.spec] at hS
    obtain ⟨_, _, _, _, _, _, _, ho5⟩ := hS
    rw [show ((List.range (Array.size _)).map G).toArray = #[G 0, G 1, G 2, G 3, G 4, G 5, G 6, G 7, G 8, G 9, G 10, G 11, G 12, G 13, G 14, G 15, G 16, G 17, G 18, G 19, G 20, G 21, G 22, G 23, G 24, G 25, G 26, G 27, G 28, G 29, G 30, G 31, G 32, G 33, G 34, G 35, G 36, G 37, G 38, G 39, G 40, G 41, G 42, G 43, G 44, G 45, G 46, G 47, G 48, G 49, G 50] from rfl]
    have q1 := hF 1 rfl
    simp [PM.sl] at q1
    clear hF
    rw [q1]
    clear q1
    generalize G 5 = o5 at *
    replace kg := kg.keep hB
    have hW4 := hB
    have hB4 := PM.hid (PM.chain hB2h.out hB)
    clear hB
    go_upto_region 5 with fail
    refine PM.wp_region_stL 8 [some 20, some 21, some 22, some 23, some 24, some 25, some 26, some 27, some 5] [fun x w' => PM.BS w' x (PM.numB (PM.u64 kd) ++ PM.idB ⟨ib, il, is⟩), fun x _ => x = .pointer (some ⟨g, 4, none⟩), fun x _ => x = .int .i64 cl, fun x _ => x = .int .u64 ((PM.u64 cl : Nat) : Int), fun x w' => PM.BS w' x (PM.numB (PM.u64 kd) ++ (PM.idB ⟨ib, il, is⟩ ++ PM.numB (PM.u64 cl))), fun x _ => x = .pointer (some ⟨g, 5, none⟩), fun x _ => x = .int .u64 (sub : Int), fun x w' => PM.OW 5 w2.heap.size w' x (PM.numB (PM.u64 kd) ++ (PM.idB ⟨ib, il, is⟩ ++ (PM.numB (PM.u64 cl) ++ PM.numB sub)))] (by kernel_rfl) (by kernel_rfl) (by kernel_rfl) (by kernel_rfl) (by kernel_rfl) (of_decide_eq_true (by kernel_rfl)) (by kernel_rfl) ?_ ?_ ?_
    · simp only [List.forall_mem_cons]
      refine ⟨?_, ?_, ?_, ?_, ?_, ?_, ?_, ?_, by simp⟩
      all_goals (intro x W W' h hb; first | exact h | exact PM.BS.keep hb h | exact PM.OW.keep hb h)
    · refine ⟨?_, ?_, ?_, ?_, ?_, ?_, ?_, ?_, trivial⟩
      all_goals
        intro a W hB hF hd
        have k1 := hF 1 rfl
        have k5 := hF 5 rfl
        have kgW := kg.keep hB
        have c0 : W.cell? ⟨g, 0, none⟩ = some (.int .i64 kd) := kgW.cell 0
        have c1 : W.cell? ⟨g, 1, none⟩ = some (.int .i64 ib) := kgW.cell 1
        have c2 : W.cell? ⟨g, 2, none⟩ = some (.int .u64 (il : Int)) := kgW.cell 2
        have c3 : W.cell? ⟨g, 3, none⟩ = some (.int .u64 (is : Int)) := kgW.cell 3
        have c4 : W.cell? ⟨g, 4, none⟩ = some (.int .i64 cl) := kgW.cell 4
        have c5 : W.cell? ⟨g, 5, none⟩ = some (.int .u64 (sub : Int)) := kgW.cell 5
        have c6 : W.cell? ⟨g, 6, none⟩ = some (.slice fa F fc) := kgW.cell 6
        have c7 : W.cell? ⟨g, 7, none⟩ = some (.slice ea L ec) := kgW.cell 7
        clear hF
        simp [PM.depsL, PM.spec, PM.sl, Region.binds] at hd k1 k5
        simp only [PM.wantL, PM.spec]
        try simp only [PM.sl]
        go_simp
      all_goals try exact Below.refl _ _
      · exact ⟨Below.refl _ _, _, rfl, ho5.keep hB⟩
      · exact ⟨Below.refl _ _, by rw [wrap_u64_eq]⟩
      · refine (number_c _ _ _ (PM.u64 cl) rfl (PM.u64_lt _) W hd.1 (by simp [PM.numB_length]; omega)).mono ?_
        rintro e w' ⟨v', rfl, ho, hb⟩
        exact ⟨hb, v', rfl, by have := ho.bs; simpa using this⟩
      · refine (number_c _ _ _ sub rfl hx4 W hd.1 (by simp [PM.numB_length]; omega)).mono ?_
        rintro e w' ⟨v', rfl, ho, hb⟩
        exact ⟨hb, v', rfl, by have := ho.mono (Nat.le_trans hW4.size hB.size); simpa using this⟩
    · intro G W hB hF hS
      simp [PM.allSp, PM.spec] at hS
      obtain ⟨_, _, _, _, _, _, _, ho⟩ := hS
      rw [show ((List.range (Array.size _)).map G).toArray = #[G 0, G 1, G 2, G 3, G 4, G 5, G 6, G 7, G 8, G 9, G 10, G 11, G 12, G 13, G 14, G 15, G 16, G 17, G 18, G 19, G 20, G 21, G 22, G 23, G 24, G 25, G 26, G 27, G 28, G 29, G 30, G 31, G 32, G 33, G 34, G 35, G 36, G 37, G 38, G 39, G 40, G 41, G 42, G 43, G 44, G 45, G 46, G 47, G 48, G 49, G 50] from rfl]
      have q1 := hF 1 rfl
      simp [PM.sl] at q1
      clear hF
      rw [q1]
      clear q1
      generalize G 27 = o6 at *
      replace kg := kg.keep hB
      have hB6 := PM.hid (PM.chain hB4.out hB)
      have hoh := PM.hid (ho.mono hB2h.out.size)
      clear hB ho ho5 hla hB4 hW4
      have c0 : W.cell? ⟨g, 0, none⟩ = some (.int .i64 kd) := kg.cell 0
      have c1 : W.cell? ⟨g, 1, none⟩ = some (.int .i64 ib) := kg.cell 1
      have c2 : W.cell? ⟨g, 2, none⟩ = some (.int .u64 (il : Int)) := kg.cell 2
      have c3 : W.cell? ⟨g, 3, none⟩ = some (.int .u64 (is : Int)) := kg.cell 3
      have c4 : W.cell? ⟨g, 4, none⟩ = some (.int .i64 cl) := kg.cell 4
      have c5 : W.cell? ⟨g, 5, none⟩ = some (.int .u64 (sub : Int)) := kg.cell 5
      have c6 : W.cell? ⟨g, 6, none⟩ = some (.slice fa F fc) := kg.cell 6
      have c7 : W.cell? ⟨g, 7, none⟩ = some (.slice ea L ec) := kg.cell 7
      clear kg
      have hshort : ((PM.numB (PM.u64 kd) ++ (PM.idB ⟨ib, il, is⟩ ++ (PM.numB (PM.u64 cl) ++ PM.numB sub)))).length ≤ 500000 := by simp only [List.length_append, PM.numB_length]; omega
      rcases hok.out.2.2 with ⟨k, hs, hf0, hl8, hch⟩ | ⟨k, hf0, he0⟩ | ⟨k, he0, hfp⟩
      · subst k
        have hl8' : L ≤ 8 := by rw [hLh.out]; exact hl8
        replace hch := PM.hid hch
        replace hf0 := PM.hid hf0
        go_wp2_with fail
        have hla := layEvents_any _ _ _ evs W hoh.out.bs (he.out.keep hB6.out) (by omega) (hLh.out ▸ hl8') hch.out (hx6.out)
        refine hla.mono ?_
        rintro e w7 ⟨o7, rfl, ho7, hB7⟩
        have hE := PM.hid (And.intro (ho7.mono hB6.out.size) (PM.chain hB6.out hB7))
        clear ho7 hB7 hla c0 c1 c2 c3 c4 c5 c6 c7
        go_wp2_with fail
        go_ret2
        refine ⟨o7, rfl, fun _ => ?_, fun h => absurd hok.out h, hE.out.2⟩
        have := hE.out.1
        simp only [PM.enB, List.append_assoc, if_pos rfl] at this ⊢
        simpa using this
      · subst k
        replace hf0 := PM.hid hf0
        replace he0 := PM.hid he0
        go_wp2_with fail
        go_ret2
        refine ⟨o6, rfl, fun _ => ?_, fun h => absurd hok.out h, hB6.out⟩
        have := hoh.out
        simpa [PM.enB, List.append_assoc] using this
      · subst k
        replace hfp := PM.hid hfp
        replace he0 := PM.hid he0
        go_wp2_with fail
        refine (fencode_any _ fil W (hf.out.keep hB6.out) hx5.out).mono ?_
        rintro e w7 ⟨o7, rfl, ho7, -, hB7⟩
        rw [PM.filE_yes hfp.out]
        replace ho7 := ho7 hfp.out
        have hfl := PM.filB_le hfp.out hx5.out
        have hs6 := hoh.out.bs.keep hB7
        have hs7 := ho7.bs
        have hB7h := PM.hid (PM.chain hB6.out hB7)
        clear ho7 hB7 c0 c1 c2 c3 c4 c5 c6 c7
        go_wp2_with fail
        refine (bytes_any _ _ _ _ w7 hs6 hs7 (by omega) (by omega)).mono ?_
        rintro e w8 ⟨o8, rfl, ho8, hB8⟩
        have hE := PM.hid (And.intro (ho8.mono hB7h.out.size) (PM.chain hB7h.out hB8))
        clear ho8 hB8 hs6 hs7
        go_wp2_with fail
        go_ret2
        refine ⟨o8, rfl, fun _ => ?_, fun h => absurd hok.out h, hE.out.2⟩
        have := hE.out.1
        simpa [PM.enB, List.append_assoc] using this
end Go.Proofs.Ytnjcociidipogaa

/-
  CONTRACT OF entry.Pack.
-/
namespace Go.Proofs.Ytnjcociidipogaa
open Go.RowKit
set_option linter.unusedVariables false
set_option linter.unusedSimpArgs false
namespace PM
theorem enB_le {x : En} (hok : enOk x) (hx : x.wf) : (enB x).length ≤ 40000 := by
  have h1 := wid_le _ (u64_lt x.kind)
  have h2 := idB_le hx.2.1
  have h3 := wid_le _ (u64_lt x.client)
  have h4 := wid_le _ hx.2.2.2.1
  unfold enB
  simp only [List.length_append, numB_length]
  rcases hok.2.2 with ⟨k, hs, hf0, hl8, hch⟩ | ⟨k, hf0, he0⟩ | ⟨k, he0, hfp⟩
  · have h5 := evsB_le x.evs hch hx.2.2.2.2.2
    have h6 := wid_le x.evs.length (by omega)
    rw [if_pos k, List.length_append, numB_length]
    omega
  · rw [if_neg (by omega), if_neg (by omega), List.length_nil]
    omega
  · have h5 := filB_le hfp hx.2.2.2.2.1
    have h6 := wid_le (filB x.fil).length (by omega)
    rw [if_neg (by omega), if_pos k, bytesB, List.length_append, numB_length]
    omega
/-- a record's bytes -/
def rcB (x : Rc) : List UInt8 := numB (u64 x.kind) ++ numB x.n ++ (if x.kind = 2 ∨ x.kind = 3 then bytesB (enB x.en) else if x.kind = 4 ∨ x.kind = 5 then idB x.id else [])
open Classical in
noncomputable def rcE (x : Rc) : Int := if rcP x then 0 else 110
theorem rcE_yes {x : Rc} (h : rcP x) : rcE x = 0 := by unfold rcE; rw [if_pos h]
theorem rcE_no {x : Rc} (h : ¬ rcP x) : rcE x = 110 := by unfold rcE; rw [if_neg h]
end PM
/-- what Pack answers -/
def RetPK (W : World) (x : PM.Rc) (e : Ending) (w' : World) : Prop :=
  ∃ o, e = .returned (.tuple #[o, .int .i64 (PM.rcE x)]) ∧ (PM.rcP x → PM.OW 5 W.heap.size w' o (PM.rcB x)) ∧ (¬ PM.rcP x → o = .slice none 0 0) ∧ Below W.heap.size W w'
end Go.Proofs.Ytnjcociidipogaa
