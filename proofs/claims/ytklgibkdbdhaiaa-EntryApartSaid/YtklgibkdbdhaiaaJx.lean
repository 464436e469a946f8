/-
  THE WALK OF EntryBack.
-/
import Derived.Test.YtklgibkdbdhaiaaJT
namespace Go.Proofs.Ytklgibkdbdhaiaa
open Go.RowKit
set_option linter.unusedVariables false
set_option linter.unusedSimpArgs false
namespace PM
theorem decEn_tail {x : En} (hx : x.wf) (hok : enOk x) (t : List UInt8) (ht : t ≠ []) : decEn (enB x ++ t) = none := by
  obtain ⟨kd, i, cl, sub, fil, evs⟩ := x
  obtain ⟨q1, q2, q3, q4, q5, q6⟩ := hx
  have hok' := hok
  obtain ⟨⟨hb1, hb2⟩, ⟨hc1, hc2⟩, hk⟩ := hok
  simp only at q1 q2 q3 q4 q5 q6 hb1 hb2 hc1 hc2 hk
  have hk3 : 0 ≤ kd ∧ kd ≤ 2147483647 := by rcases hk with ⟨k, _⟩ | ⟨k, _⟩ | ⟨k, _⟩ <;> omega
  obtain ⟨R, hR⟩ : ∃ R, R = (if kd = 1 then numB evs.length ++ evsB evs else if kd = 2 then bytesB (filB fil) else []) := ⟨_, rfl⟩
  have hB : enB ⟨kd, i, cl, sub, fil, evs⟩ ++ t = numB (u64 kd) ++ (idB i ++ (numB (u64 cl) ++ (numB sub ++ (R ++ t)))) := by
    simp only [enB, hR, List.append_assoc]
  have hh : headE (enB ⟨kd, i, cl, sub, fil, evs⟩ ++ t) = ((kd, i, cl, sub), R ++ t, false) := by
    rw [hB, headE_eq (stepN_num _ (u64_lt _) _) (readI_enc q2 hb1 (by omega) _) (stepN_num _ (u64_lt _) _) (stepN_num _ q4 _), sm_u64 hk3.1 hk3.2, sm_u64 hc1 (by omega)]
  rw [decEn_eq hh]
  have hlen : R.length ≤ (enB ⟨kd, i, cl, sub, fil, evs⟩ ++ t).length := by rw [hB]; simp only [List.length_append]; omega
  unfold decK
  rcases hk with ⟨rfl, hs, hf0, hl8, hch⟩ | ⟨rfl, hf0, he0⟩ | ⟨rfl, he0, hfp⟩
  · rw [if_pos rfl] at hR
    rw [if_pos rfl]
    rw [hR, List.append_assoc, stepN_num _ (by omega), if_neg (by simp only; omega)]
    have hst := stepsV_enc (most := ((enB ⟨1, i, cl, sub, fil, evs⟩ ++ t).length : Int)) hch q6 (fun e he => by
      have h1 := encB_mem he
      rw [hR, List.length_append] at hlen
      omega) t evs.length (Nat.le_refl _)
    rw [List.take_length, List.drop_length] at hst
    simp only [hst]
    exact finE_no fun h => ht (by simpa [evsB] using h.2.1)
  · rw [if_neg (by omega), if_neg (by omega)] at hR ⊢
    subst hR
    exact finE_no fun h => ht (by simpa using h.2.1)
  · rw [if_neg (by omega), if_pos rfl] at hR ⊢
    have hfl := filB_le hfp q5
    have e1 : stepB (R ++ t) false ((enB ⟨2, i, cl, sub, fil, evs⟩ ++ t).length : Int) = (filB fil, t, false) := by
      rw [hR]
      exact stepB_bytes (filB fil) t _ (by omega) (by rw [hR, bytesB, List.length_append] at hlen; omega)
    rw [e1]
    simp only [decT_enc hfp q5]
    exact finE_no fun h => ht h.2.1
theorem decRc_tail {x : Rc} (hx : x.wf) (h : rcP x) (t : List UInt8) (ht : t ≠ []) : decRc (rcB x ++ t) = none := by
  obtain ⟨rk, rn, en, i⟩ := x
  obtain ⟨q1, q2, q3, q4⟩ := hx
  have hok := h
  simp only at q1 q2 q3 q4
  have hk : 1 ≤ rk ∧ rk ≤ 5 := by rcases h with ⟨⟨k, _⟩ | k, _⟩ | ⟨k | k, _⟩ | ⟨k, _⟩ <;> simp only at k <;> omega
  obtain ⟨R, hR⟩ : ∃ R, R = (if rk = 2 ∨ rk = 3 then bytesB (enB en) else if rk = 4 ∨ rk = 5 then idB i else []) := ⟨_, rfl⟩
  have hB : rcB ⟨rk, rn, en, i⟩ ++ t = numB (u64 rk) ++ (numB rn ++ (R ++ t)) := by simp only [rcB, hR, List.append_assoc]
  have hlen : R.length ≤ (rcB ⟨rk, rn, en, i⟩ ++ t).length := by rw [hB]; simp only [List.length_append]; omega
  have e := decRc_eq (l := rcB ⟨rk, rn, en, i⟩ ++ t) (by rw [hB]; exact stepN_num _ (u64_lt _) _) (stepN_num _ q2 _)
  rw [e, sm_u64 (by omega) (by omega)]
  unfold decRK
  by_cases k23 : rk = 2 ∨ rk = 3
  · rw [if_pos k23] at hR ⊢
    have hp : i = Id0 ∧ enOk en := by
      rcases h with ⟨_, h1, h2⟩ | ⟨k | k, _⟩ | ⟨k, _⟩
      · exact ⟨h1, h2⟩
      all_goals (simp only at k; omega)
    have hel := enB_le hp.2 q3
    have e1 : stepB (R ++ t) false ((rcB ⟨rk, rn, en, i⟩ ++ t).length : Int) = (enB en, t, false) := by
      rw [hR]
      exact stepB_bytes (enB en) t _ (by omega) (by rw [hR, bytesB, List.length_append] at hlen; omega)
    rw [e1]
    unfold decR2
    simp only [decEn_enc q3 hp.2]
    exact finR_no fun h => ht h.2.1
  · rw [if_neg k23] at hR ⊢
    by_cases k45 : rk = 4 ∨ rk = 5
    · rw [if_pos k45] at hR ⊢
      have hp : (0 ≤ i.br ∧ i.br < 16) ∧ enNil en := by
        rcases h with ⟨⟨k, _⟩ | k, _⟩ | ⟨_, _, h1, h2⟩ | ⟨k, _⟩
        · simp only at k; omega
        · simp only at k; omega
        · exact ⟨h1, h2⟩
        · simp only at k; omega
      rw [hR, readI_enc q4 hp.1.1 (by omega) t]
      exact finR_no fun h => ht h.2.1
    · rw [if_neg k45] at hR ⊢
      subst hR
      exact finR_no fun h => ht (by simpa using h.2.1)
theorem rcB_le {x : Rc} (hx : x.wf) (h : rcP x) : (rcB x).length ≤ 41000 := by
  have h1 := wid_le _ (u64_lt x.kind)
  have h2 := wid_le _ hx.2.1
  have h3 := idB_le hx.2.2.2
  unfold rcB
  rw [List.length_append, List.length_append, numB_length, numB_length]
  split
  · rename_i hk
    have hp : enOk x.en := by
      rcases h with ⟨_, _, h2⟩ | ⟨k | k, _⟩ | ⟨k, _⟩
      · exact h2
      all_goals omega
    have h4 := enB_le hp hx.2.2.1
    have h5 := wid_le (enB x.en).length (by omega)
    rw [bytesB, List.length_append, numB_length]
    omega
  · split
    · omega
    · simp only [List.length_nil]; omega
end PM
theorem PM.OW.lit00 (E : TypeId) (W : World) (B : Nat) (hB : B ≤ W.heap.size) : PM.OW E B (W.alloc (.cells #[] E)) (.slice (some ⟨W.heap.size, 0, none⟩) 0 0) [] :=
  World.ownsRow_made W #[] 0 hB (by decide) rfl
set_option maxRecDepth 100000 in
set_option maxHeartbeats 16000000 in
theorem entryBack_walk (x : PM.En) (fx ex : Value) (y : PM.Rc) (fy ey : Value) (by_ : Int) (hx : x.wf) (hy : y.wf) (hby : (Lit.int .u8 by_).wf = true) (w : World) (hfx : PM.TV w fx x.fil) (hex : PM.EVL w ex x.evs) (hfy : PM.TV w fy y.en.fil) (hey : PM.EVL w ey y.en.evs) :
    Calls Try.prog 4 #[.agg (PM.enC x fx ex).toArray, .agg (PM.rcC y fy ey).toArray, .int .u8 by_] w fun e w' => e = .returned (.bool true) ∧ Below w.heap.size w w' := by
  obtain ⟨yb, hyb⟩ : ∃ y : UInt8, by_ = (y.toNat : Int) := by
    have hb := Go.bounds_u8 hby
    exact ⟨UInt8.ofNat by_.toNat, by simp; omega⟩
  subst hyb
  clear hby
  obtain ⟨X, hX⟩ : ∃ X, X = x := ⟨_, rfl⟩
  obtain ⟨Y, hY⟩ : ∃ X, X = y := ⟨_, rfl⟩
  have hfwx : ∀ W : World, Below w.heap.size w W → Calls Try.prog 10 #[.agg (PM.enC x fx ex).toArray] W fun e w' => (∃ b, e = .returned (.bool b)) ∧ Below W.heap.size W w' := fun W hb => few11_any x fx ex W (hfx.keep hb) (hex.keep hb)
  have hfwy : ∀ W : World, Below w.heap.size w W → Calls Try.prog 10 #[.agg (PM.enC y.en fy ey).toArray] W fun e w' => (∃ b, e = .returned (.bool b)) ∧ Below W.heap.size W w' := fun W hb => few11_any y.en fy ey W (hfy.keep hb) (hey.keep hb)
  have henx : ∀ W : World, Below w.heap.size w W → Calls Try.prog 11 #[.agg (PM.enC x fx ex).toArray] W (RetEN W X) := fun W hb => by rw [hX]; exact enencode_any x fx ex W hx (hfx.keep hb) (hex.keep hb)
  have hpk : ∀ W : World, Below w.heap.size w W → Calls Try.prog 14 #[.agg (PM.rcC y fy ey).toArray] W (RetPK W Y) := fun W hb => by rw [hY]; exact pack_any y fy ey W hy (hfy.keep hb) (hey.keep hb)
  have hsmx : ∀ (W : World) (fa : Option Addr) (fc : Nat) (ea : Option Addr) (ec : Nat), Below w.heap.size w W → PM.TV W (.slice fa x.fil.length fc) X.fil → PM.EVL W (.slice ea x.evs.length ec) X.evs → Calls Try.prog 13 #[.agg (PM.enC x fx ex).toArray, .agg (PM.enC x (.slice fa x.fil.length fc) (.slice ea x.evs.length ec)).toArray] W fun e w' => e = .returned (.bool true) ∧ Below W.heap.size W w' := fun W fa fc ea ec hb h1 h2 => by
    rw [hX] at h1 h2
    refine (same11_any x x fx ex _ _ W hx hx (hfx.keep hb) (hex.keep hb) h1 h2).mono ?_
    rintro e w' ⟨⟨rfl, _⟩ | ⟨_, h⟩, hb'⟩
    · exact ⟨rfl, hb'⟩
    · exact absurd rfl h
  have hsmy : ∀ (W : World) (fa : Option Addr) (fc : Nat) (ea : Option Addr) (ec : Nat), Below w.heap.size w W → PM.TV W (.slice fa y.en.fil.length fc) Y.en.fil → PM.EVL W (.slice ea y.en.evs.length ec) Y.en.evs → Calls Try.prog 16 #[.agg (PM.rcC y fy ey).toArray, .agg (PM.rcC y (.slice fa y.en.fil.length fc) (.slice ea y.en.evs.length ec)).toArray] W fun e w' => e = .returned (.bool true) ∧ Below W.heap.size W w' := fun W fa fc ea ec hb h1 h2 => by
    rw [hY] at h1 h2
    refine (sameRec_any y y fy ey _ _ W hy hy (hfy.keep hb) (hey.keep hb) h1 h2).mono ?_
    rintro e w' ⟨⟨rfl, _⟩ | ⟨_, h⟩, hb'⟩
    · exact ⟨rfl, hb'⟩
    · exact absurd rfl h
  have hdx : PM.enOk X → ∀ (v : Value) (W : World), PM.BS W v (PM.enB X) → Calls Try.prog 12 #[v] W fun e w' => ∃ fa fc ea ec, e = .returned (.tuple #[.agg (PM.enC x (.slice fa x.fil.length fc) (.slice ea x.evs.length ec)).toArray, .int .i64 0]) ∧ PM.TV w' (.slice fa x.fil.length fc) X.fil ∧ PM.EVL w' (.slice ea x.evs.length ec) X.evs ∧ Below W.heap.size W w' := fun hok v W hv => by
    rw [hX] at hok hv ⊢
    refine (endecode_any v _ W hv (by have := PM.enB_le hok hx; omega)).mono ?_
    rintro e w' ⟨z, fv, ev, n, rfl, hc, hO, hE, hb⟩
    rcases hc with ⟨rfl, hd⟩ | ⟨_, hd, _⟩
    · rw [PM.decEn_enc hx hok] at hd
      injection hd with hd
      subst hd
      have h1 := hO.em PM.teL_len
      have h2 := hE.evl
      obtain ⟨fa, fc, h⟩ := h1.len; subst h
      obtain ⟨ea, ec, h⟩ := h2.len; subst h
      exact ⟨fa, fc, ea, ec, rfl, h1, h2, hb⟩
    · rw [PM.decEn_enc hx hok] at hd
      cases hd
  have hux : PM.rcP Y → ∀ (v : Value) (W : World), PM.BS W v (PM.rcB Y) → Calls Try.prog 15 #[v] W fun e w' => ∃ fa fc ea ec, e = .returned (.tuple #[.agg (PM.rcC y (.slice fa y.en.fil.length fc) (.slice ea y.en.evs.length ec)).toArray, .int .i64 0]) ∧ PM.TV w' (.slice fa y.en.fil.length fc) Y.en.fil ∧ PM.EVL w' (.slice ea y.en.evs.length ec) Y.en.evs ∧ Below W.heap.size W w' := fun hok v W hv => by
    rw [hY] at hok hv ⊢
    refine (unpack_any v _ W hv (by have := PM.rcB_le hy hok; omega)).mono ?_
    rintro e w' ⟨z, fv, ev, n, rfl, hc, hO, hE, hb⟩
    rcases hc with ⟨rfl, hd⟩ | ⟨_, hd, _⟩
    · rw [PM.decRc_enc hy hok] at hd
      injection hd with hd
      subst hd
      have h1 := hO.em PM.teL_len
      have h2 := hE.evl
      obtain ⟨fa, fc, h⟩ := h1.len; subst h
      obtain ⟨ea, ec, h⟩ := h2.len; subst h
      exact ⟨fa, fc, ea, ec, rfl, h1, h2, hb⟩
    · rw [PM.decRc_enc hy hok] at hd
      cases hd
  have hdt : PM.enOk X → ∀ (v : Value) (W : World), PM.BS W v ([] ++ PM.enB X ++ [yb]) → Calls Try.prog 12 #[v] W fun e w' => e = .returned (.tuple #[.agg #[.int .i64 0, .int .i64 0, .int .u64 0, .int .u64 0, .int .i64 0, .int .u64 0, .slice none 0 0, .slice none 0 0], .int .i64 110]) ∧ Below W.heap.size W w' := fun hok v W hv => by
    rw [hX] at hok hv
    refine (endecode_any v _ W hv (by have := PM.enB_le hok hx; simp; omega)).mono ?_
    rintro e w' ⟨z, fv, ev, n, rfl, hc, -, -, hb⟩
    have hn : PM.decEn ([] ++ PM.enB x ++ [yb]) = none := by rw [List.nil_append]; exact PM.decEn_tail hx hok _ (by simp)
    rcases hc with ⟨rfl, hd⟩ | ⟨rfl, hd, rfl, rfl, rfl⟩
    · rw [hn] at hd
      cases hd
    · exact ⟨rfl, hb⟩
  have hut : PM.rcP Y → ∀ (v : Value) (W : World), PM.BS W v ([] ++ PM.rcB Y ++ [yb]) → Calls Try.prog 15 #[v] W fun e w' => e = .returned (.tuple #[.agg #[.int .i64 0, .int .u64 0, .int .i64 0, .int .i64 0, .int .u64 0, .int .u64 0, .int .i64 0, .int .u64 0, .slice none 0 0, .slice none 0 0, .int .i64 0, .int .u64 0, .int .u64 0], .int .i64 110]) ∧ Below W.heap.size W w' := fun hok v W hv => by
    rw [hY] at hok hv
    refine (unpack_any v _ W hv (by have := PM.rcB_le hy hok; simp; omega)).mono ?_
    rintro e w' ⟨z, fv, ev, n, rfl, hc, -, -, hb⟩
    have hn : PM.decRc ([] ++ PM.rcB y ++ [yb]) = none := by rw [List.nil_append]; exact PM.decRc_tail hy hok _ (by simp)
    rcases hc with ⟨rfl, hd⟩ | ⟨rfl, hd, rfl, rfl, rfl⟩
    · rw [hn] at hd
      cases hd
    · exact ⟨rfl, hb⟩
  have hlee : Hid (PM.enOk X → (PM.enB X).length ≤ 41000) := PM.hid fun h => by rw [hX] at h ⊢; have := PM.enB_le h hx; omega
  have hler : Hid (PM.rcP Y → (PM.rcB Y).length ≤ 41000) := PM.hid fun h => by rw [hY] at h ⊢; exact PM.rcB_le hy h
  clear hX hY
  obtain ⟨afa, afc, h1⟩ := hfx.len
  obtain ⟨aea, aec, h2⟩ := hex.len
  obtain ⟨bfa, bfc, h3⟩ := hfy.len
  obtain ⟨bea, bec, h4⟩ := hey.len
  subst h1 h2 h3 h4
  clear hfx hex hfy hey hx hy
  obtain ⟨ak, ⟨ab, al, ar⟩, ac, au, af, ae⟩ := x
  obtain ⟨brk, brn, ⟨bk, ⟨bb, bl, br⟩, bc, bu, bf, be⟩, ⟨bjb, bjl, bjr⟩⟩ := y
  unfold PM.rcC PM.idL at hpk hsmy hux ⊢
  unfold PM.enC at hpk hsmy hux hfwx hfwy henx hsmx hdx ⊢
  simp only [List.cons_append, List.nil_append] at hpk hsmy hux hfwx hfwy henx hsmx hdx ⊢
  generalize af.length = aF at *
  generalize ae.length = aL at *
  generalize bf.length = bF at *
  generalize be.length = bL at *
  replace hpk := PM.hid hpk
  replace hsmy := PM.hid hsmy
  replace hux := PM.hid hux
  replace hut := PM.hid hut
  replace hdx := PM.hid hdx
  replace hdt := PM.hid hdt
  replace henx := PM.hid henx
  replace hsmx := PM.hid hsmx
  replace hfwx := PM.hid hfwx
  replace hfwy := PM.hid hfwy
  obtain ⟨ga, hga⟩ : ∃ g, g = w.heap.size := ⟨_, rfl⟩
  obtain ⟨gb, hgb⟩ : ∃ g, g = w.heap.size + 1 := ⟨_, rfl⟩
  obtain ⟨w1, hw1⟩ : ∃ W, W = w.alloc (.cells #[.int .i64 ak, .int .i64 ab, .int .u64 (al : Int), .int .u64 (ar : Int), .int .i64 ac, .int .u64 (au : Int), .slice afa aF afc, .slice aea aL aec] 30) := ⟨_, rfl⟩
  obtain ⟨w2, hw2⟩ : ∃ W, W = w1.alloc (.cells #[.int .i64 brk, .int .u64 (brn : Int), .int .i64 bk, .int .i64 bb, .int .u64 (bl : Int), .int .u64 (br : Int), .int .i64 bc, .int .u64 (bu : Int), .slice bfa bF bfc, .slice bea bL bec, .int .i64 bjb, .int .u64 (bjl : Int), .int .u64 (bjr : Int)] 32) := ⟨_, rfl⟩
  have hs1 : w1.heap.size = w.heap.size + 1 := by rw [hw1]; simp
  have hal : Below w.heap.size w w1 := by rw [hw1]; exact (Below.refl _ _).alloc (Nat.le_refl _) _
  have hal2 : Below w1.heap.size w1 w2 := by rw [hw2]; exact (Below.refl _ _).alloc (Nat.le_refl _) _
  have ka : PM.BK w1 ga #[.int .i64 ak, .int .i64 ab, .int .u64 (al : Int), .int .u64 (ar : Int), .int .i64 ac, .int .u64 (au : Int), .slice afa aF afc, .slice aea aL aec] 30 := by rw [hw1, hga]; exact PM.BK.new _ _ _
  replace ka := ka.keep hal2
  have kb : PM.BK w2 gb #[.int .i64 brk, .int .u64 (brn : Int), .int .i64 bk, .int .i64 bb, .int .u64 (bl : Int), .int .u64 (br : Int), .int .i64 bc, .int .u64 (bu : Int), .slice bfa bF bfc, .slice bea bL bec, .int .i64 bjb, .int .u64 (bjl : Int), .int .u64 (bjr : Int)] 32 := by rw [hw2, hgb, ← hs1]; exact PM.BK.new _ _ _
  have hBB := PM.hid (PM.chain hal hal2)
  clear hal hal2 hs1
  go_enter Try.func4, Try.ntmps4
  go_upto_region 1 with fail
  rw [← hw1, ← hw2, ← hgb, ← hga]
  clear hw1 hw2 hga hgb
  go_wp2_with fail
  refine (awake11_any w2).mono ?_
  rintro e w3 ⟨rfl, hBn⟩
  replace ka := ka.keep hBn
  replace kb := kb.keep hBn
  replace hBB := PM.hid (PM.chain hBB.out hBn)
  clear hBn
  have c0 : w3.cell? ⟨ga, 0, none⟩ = some (.int .i64 ak) := ka.cell 0
  have c1 : w3.cell? ⟨ga, 1, none⟩ = some (.int .i64 ab) := ka.cell 1
  have c2 : w3.cell? ⟨ga, 2, none⟩ = some (.int .u64 (al : Int)) := ka.cell 2
  have c3 : w3.cell? ⟨ga, 3, none⟩ = some (.int .u64 (ar : Int)) := ka.cell 3
  have c4 : w3.cell? ⟨ga, 4, none⟩ = some (.int .i64 ac) := ka.cell 4
  have c5 : w3.cell? ⟨ga, 5, none⟩ = some (.int .u64 (au : Int)) := ka.cell 5
  have c6 : w3.cell? ⟨ga, 6, none⟩ = some (.slice afa aF afc) := ka.cell 6
  have c7 : w3.cell? ⟨ga, 7, none⟩ = some (.slice aea aL aec) := ka.cell 7
  have d0 : w3.cell? ⟨gb, 0, none⟩ = some (.int .i64 brk) := kb.cell 0
  have d1 : w3.cell? ⟨gb, 1, none⟩ = some (.int .u64 (brn : Int)) := kb.cell 1
  have d2 : w3.cell? ⟨gb, 2, none⟩ = some (.int .i64 bk) := kb.cell 2
  have d3 : w3.cell? ⟨gb, 3, none⟩ = some (.int .i64 bb) := kb.cell 3
  have d4 : w3.cell? ⟨gb, 4, none⟩ = some (.int .u64 (bl : Int)) := kb.cell 4
  have d5 : w3.cell? ⟨gb, 5, none⟩ = some (.int .u64 (br : Int)) := kb.cell 5
  have d6 : w3.cell? ⟨gb, 6, none⟩ = some (.int .i64 bc) := kb.cell 6
  have d7 : w3.cell? ⟨gb, 7, none⟩ = some (.int .u64 (bu : Int)) := kb.cell 7
  have d8 : w3.cell? ⟨gb, 8, none⟩ = some (.slice bfa bF bfc) := kb.cell 8
  have d9 : w3.cell? ⟨gb, 9, none⟩ = some (.slice bea bL bec) := kb.cell 9
  have d10 : w3.cell? ⟨gb, 10, none⟩ = some (.int .i64 bjb) := kb.cell 10
  have d11 : w3.cell? ⟨gb, 11, none⟩ = some (.int .u64 (bjl : Int)) := kb.cell 11
  have d12 : w3.cell? ⟨gb, 12, none⟩ = some (.int .u64 (bjr : Int)) := kb.cell 12
  go_wp2_with fail
  refine (hfwx.out w3 hBB.out).mono ?_
  rintro e w4 ⟨⟨fb, rfl⟩, hBn⟩
  clear c0 c1 c2 c3 c4 c5 c6 c7 d0 d1 d2 d3 d4 d5 d6 d7 d8 d9 d10 d11 d12
  replace ka := ka.keep hBn
  replace kb := kb.keep hBn
  replace hBB := PM.hid (PM.chain hBB.out hBn)
  clear hBn
  have c0 : w4.cell? ⟨ga, 0, none⟩ = some (.int .i64 ak) := ka.cell 0
  have c1 : w4.cell? ⟨ga, 1, none⟩ = some (.int .i64 ab) := ka.cell 1
  have c2 : w4.cell? ⟨ga, 2, none⟩ = some (.int .u64 (al : Int)) := ka.cell 2
  have c3 : w4.cell? ⟨ga, 3, none⟩ = some (.int .u64 (ar : Int)) := ka.cell 3
  have c4 : w4.cell? ⟨ga, 4, none⟩ = some (.int .i64 ac) := ka.cell 4
  have c5 : w4.cell? ⟨ga, 5, none⟩ = some (.int .u64 (au : Int)) := ka.cell 5
  have c6 : w4.cell? ⟨ga, 6, none⟩ = some (.slice afa aF afc) := ka.cell 6
  have c7 : w4.cell? ⟨ga, 7, none⟩ = some (.slice aea aL aec) := ka.cell 7
  have d0 : w4.cell? ⟨gb, 0, none⟩ = some (.int .i64 brk) := kb.cell 0
  have d1 : w4.cell? ⟨gb, 1, none⟩ = some (.int .u64 (brn : Int)) := kb.cell 1
  have d2 : w4.cell? ⟨gb, 2, none⟩ = some (.int .i64 bk) := kb.cell 2
  have d3 : w4.cell? ⟨gb, 3, none⟩ = some (.int .i64 bb) := kb.cell 3
  have d4 : w4.cell? ⟨gb, 4, none⟩ = some (.int .u64 (bl : Int)) := kb.cell 4
  have d5 : w4.cell? ⟨gb, 5, none⟩ = some (.int .u64 (br : Int)) := kb.cell 5
  have d6 : w4.cell? ⟨gb, 6, none⟩ = some (.int .i64 bc) := kb.cell 6
  have d7 : w4.cell? ⟨gb, 7, none⟩ = some (.int .u64 (bu : Int)) := kb.cell 7
  have d8 : w4.cell? ⟨gb, 8, none⟩ = some (.slice bfa bF bfc) := kb.cell 8
  have d9 : w4.cell? ⟨gb, 9, none⟩ = some (.slice bea bL bec) := kb.cell 9
  have d10 : w4.cell? ⟨gb, 10, none⟩ = some (.int .i64 bjb) := kb.cell 10
  have d11 : w4.cell? ⟨gb, 11, none⟩ = some (.int .u64 (bjl : Int)) := kb.cell 11
  have d12 : w4.cell? ⟨gb, 12, none⟩ = some (.int .u64 (bjr : Int)) := kb.cell 12
  cases fb
  case false =>
    go_wp2_with fail
    go_ret
    exact ⟨rfl, hBB.out⟩
  go_wp2_with fail
  refine (hfwy.out w4 hBB.out).mono ?_
  rintro e w5 ⟨⟨fb, rfl⟩, hBn⟩
  clear c0 c1 c2 c3 c4 c5 c6 c7 d0 d1 d2 d3 d4 d5 d6 d7 d8 d9 d10 d11 d12
  replace ka := ka.keep hBn
  replace kb := kb.keep hBn
  replace hBB := PM.hid (PM.chain hBB.out hBn)
  clear hBn
  cases fb
  case false =>
    go_wp2_with fail
    go_ret
    exact ⟨rfl, hBB.out⟩
  have c0 : w5.cell? ⟨ga, 0, none⟩ = some (.int .i64 ak) := ka.cell 0
  have c1 : w5.cell? ⟨ga, 1, none⟩ = some (.int .i64 ab) := ka.cell 1
  have c2 : w5.cell? ⟨ga, 2, none⟩ = some (.int .u64 (al : Int)) := ka.cell 2
  have c3 : w5.cell? ⟨ga, 3, none⟩ = some (.int .u64 (ar : Int)) := ka.cell 3
  have c4 : w5.cell? ⟨ga, 4, none⟩ = some (.int .i64 ac) := ka.cell 4
  have c5 : w5.cell? ⟨ga, 5, none⟩ = some (.int .u64 (au : Int)) := ka.cell 5
  have c6 : w5.cell? ⟨ga, 6, none⟩ = some (.slice afa aF afc) := ka.cell 6
  have c7 : w5.cell? ⟨ga, 7, none⟩ = some (.slice aea aL aec) := ka.cell 7
  have d0 : w5.cell? ⟨gb, 0, none⟩ = some (.int .i64 brk) := kb.cell 0
  have d1 : w5.cell? ⟨gb, 1, none⟩ = some (.int .u64 (brn : Int)) := kb.cell 1
  have d2 : w5.cell? ⟨gb, 2, none⟩ = some (.int .i64 bk) := kb.cell 2
  have d3 : w5.cell? ⟨gb, 3, none⟩ = some (.int .i64 bb) := kb.cell 3
  have d4 : w5.cell? ⟨gb, 4, none⟩ = some (.int .u64 (bl : Int)) := kb.cell 4
  have d5 : w5.cell? ⟨gb, 5, none⟩ = some (.int .u64 (br : Int)) := kb.cell 5
  have d6 : w5.cell? ⟨gb, 6, none⟩ = some (.int .i64 bc) := kb.cell 6
  have d7 : w5.cell? ⟨gb, 7, none⟩ = some (.int .u64 (bu : Int)) := kb.cell 7
  have d8 : w5.cell? ⟨gb, 8, none⟩ = some (.slice bfa bF bfc) := kb.cell 8
  have d9 : w5.cell? ⟨gb, 9, none⟩ = some (.slice bea bL bec) := kb.cell 9
  have d10 : w5.cell? ⟨gb, 10, none⟩ = some (.int .i64 bjb) := kb.cell 10
  have d11 : w5.cell? ⟨gb, 11, none⟩ = some (.int .u64 (bjl : Int)) := kb.cell 11
  have d12 : w5.cell? ⟨gb, 12, none⟩ = some (.int .u64 (bjr : Int)) := kb.cell 12
  go_wp2_with fail
  refine (henx.out w5 hBB.out).mono ?_
  rintro e e1 ⟨o, rfl, ho, -, hBn⟩
  clear c0 c1 c2 c3 c4 c5 c6 c7 d0 d1 d2 d3 d4 d5 d6 d7 d8 d9 d10 d11 d12
  replace ka := ka.keep hBn
  replace kb := kb.keep hBn
  replace hBB := PM.hid (PM.chain hBB.out hBn)
  clear hBn
  by_cases hok : PM.enOk X
  · rw [PM.enE_yes hok]
    replace ho := (ho hok).bs
    have hok2 := PM.hid hok
    have hle : Hid ((PM.enB X).length ≤ 41000) := PM.hid (hlee.out hok)
    clear hok
    obtain ⟨oa, oc, hoe⟩ := ho.len
    obtain ⟨M, hM⟩ : ∃ M, M = (PM.enB X).length := ⟨_, rfl⟩
    rw [← hM] at hoe hle
    have hMh := PM.hid hM
    clear hM
    subst hoe
    go_wp2_with fail
    refine (hdx.out hok2.out _ e1 ho).mono ?_
    rintro e e2 ⟨fa, fc, ea, ec, rfl, hT, hE, hBn⟩
    replace ka := ka.keep hBn
    replace kb := kb.keep hBn
    replace ho := ho.keep hBn
    replace hBB := PM.hid (PM.chain hBB.out hBn)
    clear hBn
    go_upto_region 7 with fail
    obtain ⟨gy, hgy⟩ : ∃ g, g = e2.heap.size := ⟨_, rfl⟩
    obtain ⟨e3, he3⟩ : ∃ W, W = e2.alloc (.cells #[.int .i64 ak, .int .i64 ab, .int .u64 (al : Int), .int .u64 (ar : Int), .int .i64 ac, .int .u64 (au : Int), .slice fa aF fc, .slice ea aL ec] 30) := ⟨_, rfl⟩
    have hBn : Below e2.heap.size e2 e3 := by rw [he3]; exact (Below.refl _ _).alloc (Nat.le_refl _) _
    have kgy : PM.BK e3 gy #[.int .i64 ak, .int .i64 ab, .int .u64 (al : Int), .int .u64 (ar : Int), .int .i64 ac, .int .u64 (au : Int), .slice fa aF fc, .slice ea aL ec] 30 := by rw [he3, hgy]; exact PM.BK.new _ _ _
    rw [← he3, ← hgy]
    clear he3 hgy
    replace ka := ka.keep hBn
    replace kb := kb.keep hBn
    replace ho := ho.keep hBn
    replace hT := hT.keep hBn
    replace hE := hE.keep hBn
    replace hBB := PM.hid (PM.chain hBB.out hBn)
    clear hBn
    have c0 : e3.cell? ⟨ga, 0, none⟩ = some (.int .i64 ak) := ka.cell 0
    have c1 : e3.cell? ⟨ga, 1, none⟩ = some (.int .i64 ab) := ka.cell 1
    have c2 : e3.cell? ⟨ga, 2, none⟩ = some (.int .u64 (al : Int)) := ka.cell 2
    have c3 : e3.cell? ⟨ga, 3, none⟩ = some (.int .u64 (ar : Int)) := ka.cell 3
    have c4 : e3.cell? ⟨ga, 4, none⟩ = some (.int .i64 ac) := ka.cell 4
    have c5 : e3.cell? ⟨ga, 5, none⟩ = some (.int .u64 (au : Int)) := ka.cell 5
    have c6 : e3.cell? ⟨ga, 6, none⟩ = some (.slice afa aF afc) := ka.cell 6
    have c7 : e3.cell? ⟨ga, 7, none⟩ = some (.slice aea aL aec) := ka.cell 7
    have d0 : e3.cell? ⟨gb, 0, none⟩ = some (.int .i64 brk) := kb.cell 0
    have d1 : e3.cell? ⟨gb, 1, none⟩ = some (.int .u64 (brn : Int)) := kb.cell 1
    have d2 : e3.cell? ⟨gb, 2, none⟩ = some (.int .i64 bk) := kb.cell 2
    have d3 : e3.cell? ⟨gb, 3, none⟩ = some (.int .i64 bb) := kb.cell 3
    have d4 : e3.cell? ⟨gb, 4, none⟩ = some (.int .u64 (bl : Int)) := kb.cell 4
    have d5 : e3.cell? ⟨gb, 5, none⟩ = some (.int .u64 (br : Int)) := kb.cell 5
    have d6 : e3.cell? ⟨gb, 6, none⟩ = some (.int .i64 bc) := kb.cell 6
    have d7 : e3.cell? ⟨gb, 7, none⟩ = some (.int .u64 (bu : Int)) := kb.cell 7
    have d8 : e3.cell? ⟨gb, 8, none⟩ = some (.slice bfa bF bfc) := kb.cell 8
    have d9 : e3.cell? ⟨gb, 9, none⟩ = some (.slice bea bL bec) := kb.cell 9
    have d10 : e3.cell? ⟨gb, 10, none⟩ = some (.int .i64 bjb) := kb.cell 10
    have d11 : e3.cell? ⟨gb, 11, none⟩ = some (.int .u64 (bjl : Int)) := kb.cell 11
    have d12 : e3.cell? ⟨gb, 12, none⟩ = some (.int .u64 (bjr : Int)) := kb.cell 12
    have y0 : e3.cell? ⟨gy, 0, none⟩ = some (.int .i64 ak) := kgy.cell 0
    have y1 : e3.cell? ⟨gy, 1, none⟩ = some (.int .i64 ab) := kgy.cell 1
    have y2 : e3.cell? ⟨gy, 2, none⟩ = some (.int .u64 (al : Int)) := kgy.cell 2
    have y3 : e3.cell? ⟨gy, 3, none⟩ = some (.int .u64 (ar : Int)) := kgy.cell 3
    have y4 : e3.cell? ⟨gy, 4, none⟩ = some (.int .i64 ac) := kgy.cell 4
    have y5 : e3.cell? ⟨gy, 5, none⟩ = some (.int .u64 (au : Int)) := kgy.cell 5
    have y6 : e3.cell? ⟨gy, 6, none⟩ = some (.slice fa aF fc) := kgy.cell 6
    have y7 : e3.cell? ⟨gy, 7, none⟩ = some (.slice ea aL ec) := kgy.cell 7
    go_wp2_with fail
    refine (hsmx.out e3 fa fc ea ec hBB.out hT hE).mono ?_
    rintro e e4 ⟨rfl, hBn⟩
    clear c0 c1 c2 c3 c4 c5 c6 c7 d0 d1 d2 d3 d4 d5 d6 d7 d8 d9 d10 d11 d12
    clear y0 y1 y2 y3 y4 y5 y6 y7
    clear hT hE kgy
    replace ka := ka.keep hBn
    replace kb := kb.keep hBn
    replace ho := ho.keep hBn
    replace hBB := PM.hid (PM.chain hBB.out hBn)
    clear hBn
    have om := PM.OW.lit00 5 e4 e4.heap.size (Nat.le_refl _)
    have hal : Below e4.heap.size e4 (e4.alloc (.cells #[] 5)) := (Below.refl _ _).alloc (Nat.le_refl _) _
    have hs := ho.keep hal
    have hz := hal.size
    have hB6 := PM.hid (And.intro hBB.out (And.intro ka kb))
    clear hBB ka kb ho
    go_wp2_with (at_builtin; refine PM.wpList_app bty e4.heap.size rfl _ _ rfl _ _ [] (PM.enB X) rfl rfl om hs ?_ hz ?_; (have := hle.out; have := hMh.out; simp; omega); intro v7 w7 q1 q2 _; have hz7 : e4.heap.size ≤ w7.heap.size := (Nat.le_trans hz q2.size); have hq := PM.hid (hal.trans q2); have hlX : ([] ++ PM.enB X).length + 1 ≤ 140737488355328 := (by have := hMh.out; have := hle.out; simp; omega); clear om hs hz hal q2; go_wp2_with (at_builtin; refine PM.wpList_app1 bty e4.heap.size w7 rfl _ _ rfl v7 ([] ++ PM.enB X) _ yb rfl rfl rfl rfl q1 hlX hz7 ?_; intro v8 w8 q3 q4; have hq8 := PM.hid (hq.out.trans q4); have hs8 := q3.bs; clear q1 hz7 hlX hq q3 q4))
    refine (hdt.out hok2.out _ w8 hs8).mono ?_
    rintro e e5 ⟨rfl, hBn⟩
    obtain ⟨hBB, ka, kb⟩ := hB6.out
    replace ka := ka.keep hq8.out
    replace kb := kb.keep hq8.out
    replace hBB := PM.hid (PM.chain hBB hq8.out)
    clear hB6 hq8 hs8
    replace ka := ka.keep hBn
    replace kb := kb.keep hBn
    replace hBB := PM.hid (PM.chain hBB.out hBn)
    clear hBn
    go_upto_region 9 with fail
    obtain ⟨gz, hgz⟩ : ∃ g, g = e5.heap.size := ⟨_, rfl⟩
    obtain ⟨e6, he6⟩ : ∃ W, W = e5.alloc (.cells #[.int .i64 0, .int .i64 0, .int .u64 0, .int .u64 0, .int .i64 0, .int .u64 0, .slice none 0 0, .slice none 0 0] 30) := ⟨_, rfl⟩
    have hBn : Below e5.heap.size e5 e6 := by rw [he6]; exact (Below.refl _ _).alloc (Nat.le_refl _) _
    have kgz : PM.BK e6 gz #[.int .i64 0, .int .i64 0, .int .u64 0, .int .u64 0, .int .i64 0, .int .u64 0, .slice none 0 0, .slice none 0 0] 30 := by rw [he6, hgz]; exact PM.BK.new _ _ _
    rw [← he6, ← hgz]
    clear he6 hgz
    clear kgz
    replace ka := ka.keep hBn
    replace kb := kb.keep hBn
    replace hBB := PM.hid (PM.chain hBB.out hBn)
    clear hBn
    clear ka
    have d0 : e6.cell? ⟨gb, 0, none⟩ = some (.int .i64 brk) := kb.cell 0
    have d1 : e6.cell? ⟨gb, 1, none⟩ = some (.int .u64 (brn : Int)) := kb.cell 1
    have d2 : e6.cell? ⟨gb, 2, none⟩ = some (.int .i64 bk) := kb.cell 2
    have d3 : e6.cell? ⟨gb, 3, none⟩ = some (.int .i64 bb) := kb.cell 3
    have d4 : e6.cell? ⟨gb, 4, none⟩ = some (.int .u64 (bl : Int)) := kb.cell 4
    have d5 : e6.cell? ⟨gb, 5, none⟩ = some (.int .u64 (br : Int)) := kb.cell 5
    have d6 : e6.cell? ⟨gb, 6, none⟩ = some (.int .i64 bc) := kb.cell 6
    have d7 : e6.cell? ⟨gb, 7, none⟩ = some (.int .u64 (bu : Int)) := kb.cell 7
    have d8 : e6.cell? ⟨gb, 8, none⟩ = some (.slice bfa bF bfc) := kb.cell 8
    have d9 : e6.cell? ⟨gb, 9, none⟩ = some (.slice bea bL bec) := kb.cell 9
    have d10 : e6.cell? ⟨gb, 10, none⟩ = some (.int .i64 bjb) := kb.cell 10
    have d11 : e6.cell? ⟨gb, 11, none⟩ = some (.int .u64 (bjl : Int)) := kb.cell 11
    have d12 : e6.cell? ⟨gb, 12, none⟩ = some (.int .u64 (bjr : Int)) := kb.cell 12
    go_wp2_with fail
    refine (hpk.out e6 hBB.out).mono ?_
    rintro e r1 ⟨o, rfl, ho, -, hBn⟩
    clear d0 d1 d2 d3 d4 d5 d6 d7 d8 d9 d10 d11 d12
    replace kb := kb.keep hBn
    replace hBB := PM.hid (PM.chain hBB.out hBn)
    clear hBn
    by_cases hok : PM.rcP Y
    · rw [PM.rcE_yes hok]
      replace ho := (ho hok).bs
      have hok2 := PM.hid hok
      have hle : Hid ((PM.rcB Y).length ≤ 41000) := PM.hid (hler.out hok)
      clear hok
      obtain ⟨oa, oc, hoe⟩ := ho.len
      obtain ⟨M, hM⟩ : ∃ M, M = (PM.rcB Y).length := ⟨_, rfl⟩
      rw [← hM] at hoe hle
      have hMh := PM.hid hM
      clear hM
      subst hoe
      go_wp2_with fail
      refine (hux.out hok2.out _ r1 ho).mono ?_
      rintro e r2 ⟨fa, fc, ea, ec, rfl, hT, hE, hBn⟩
      replace kb := kb.keep hBn
      replace ho := ho.keep hBn
      replace hBB := PM.hid (PM.chain hBB.out hBn)
      clear hBn
      go_upto_region 14 with fail
      obtain ⟨my, hmy⟩ : ∃ g, g = r2.heap.size := ⟨_, rfl⟩
      obtain ⟨r3, hr3⟩ : ∃ W, W = r2.alloc (.cells #[.int .i64 brk, .int .u64 (brn : Int), .int .i64 bk, .int .i64 bb, .int .u64 (bl : Int), .int .u64 (br : Int), .int .i64 bc, .int .u64 (bu : Int), .slice fa bF fc, .slice ea bL ec, .int .i64 bjb, .int .u64 (bjl : Int), .int .u64 (bjr : Int)] 32) := ⟨_, rfl⟩
      have hBn : Below r2.heap.size r2 r3 := by rw [hr3]; exact (Below.refl _ _).alloc (Nat.le_refl _) _
      have kmy : PM.BK r3 my #[.int .i64 brk, .int .u64 (brn : Int), .int .i64 bk, .int .i64 bb, .int .u64 (bl : Int), .int .u64 (br : Int), .int .i64 bc, .int .u64 (bu : Int), .slice fa bF fc, .slice ea bL ec, .int .i64 bjb, .int .u64 (bjl : Int), .int .u64 (bjr : Int)] 32 := by rw [hr3, hmy]; exact PM.BK.new _ _ _
      rw [← hr3, ← hmy]
      clear hr3 hmy
      replace kb := kb.keep hBn
      replace ho := ho.keep hBn
      replace hT := hT.keep hBn
      replace hE := hE.keep hBn
      replace hBB := PM.hid (PM.chain hBB.out hBn)
      clear hBn
      have d0 : r3.cell? ⟨gb, 0, none⟩ = some (.int .i64 brk) := kb.cell 0
      have d1 : r3.cell? ⟨gb, 1, none⟩ = some (.int .u64 (brn : Int)) := kb.cell 1
      have d2 : r3.cell? ⟨gb, 2, none⟩ = some (.int .i64 bk) := kb.cell 2
      have d3 : r3.cell? ⟨gb, 3, none⟩ = some (.int .i64 bb) := kb.cell 3
      have d4 : r3.cell? ⟨gb, 4, none⟩ = some (.int .u64 (bl : Int)) := kb.cell 4
      have d5 : r3.cell? ⟨gb, 5, none⟩ = some (.int .u64 (br : Int)) := kb.cell 5
      have d6 : r3.cell? ⟨gb, 6, none⟩ = some (.int .i64 bc) := kb.cell 6
      have d7 : r3.cell? ⟨gb, 7, none⟩ = some (.int .u64 (bu : Int)) := kb.cell 7
      have d8 : r3.cell? ⟨gb, 8, none⟩ = some (.slice bfa bF bfc) := kb.cell 8
      have d9 : r3.cell? ⟨gb, 9, none⟩ = some (.slice bea bL bec) := kb.cell 9
      have d10 : r3.cell? ⟨gb, 10, none⟩ = some (.int .i64 bjb) := kb.cell 10
      have d11 : r3.cell? ⟨gb, 11, none⟩ = some (.int .u64 (bjl : Int)) := kb.cell 11
      have d12 : r3.cell? ⟨gb, 12, none⟩ = some (.int .u64 (bjr : Int)) := kb.cell 12
      have y0 : r3.cell? ⟨my, 0, none⟩ = some (.int .i64 brk) := kmy.cell 0
      have y1 : r3.cell? ⟨my, 1, none⟩ = some (.int .u64 (brn : Int)) := kmy.cell 1
      have y2 : r3.cell? ⟨my, 2, none⟩ = some (.int .i64 bk) := kmy.cell 2
      have y3 : r3.cell? ⟨my, 3, none⟩ = some (.int .i64 bb) := kmy.cell 3
      have y4 : r3.cell? ⟨my, 4, none⟩ = some (.int .u64 (bl : Int)) := kmy.cell 4
      have y5 : r3.cell? ⟨my, 5, none⟩ = some (.int .u64 (br : Int)) := kmy.cell 5
      have y6 : r3.cell? ⟨my, 6, none⟩ = some (.int .i64 bc) := kmy.cell 6
      have y7 : r3.cell? ⟨my, 7, none⟩ = some (.int .u64 (bu : Int)) := kmy.cell 7
      have y8 : r3.cell? ⟨my, 8, none⟩ = some (.slice fa bF fc) := kmy.cell 8
      have y9 : r3.cell? ⟨my, 9, none⟩ = some (.slice ea bL ec) := kmy.cell 9
      have y10 : r3.cell? ⟨my, 10, none⟩ = some (.int .i64 bjb) := kmy.cell 10
      have y11 : r3.cell? ⟨my, 11, none⟩ = some (.int .u64 (bjl : Int)) := kmy.cell 11
      have y12 : r3.cell? ⟨my, 12, none⟩ = some (.int .u64 (bjr : Int)) := kmy.cell 12
      go_wp2_with fail
      refine (hsmy.out r3 fa fc ea ec hBB.out hT hE).mono ?_
      rintro e r4 ⟨rfl, hBn⟩
      clear d0 d1 d2 d3 d4 d5 d6 d7 d8 d9 d10 d11 d12
      clear y0 y1 y2 y3 y4 y5 y6 y7 y8 y9 y10 y11 y12
      clear hT hE kmy
      replace kb := kb.keep hBn
      replace ho := ho.keep hBn
      replace hBB := PM.hid (PM.chain hBB.out hBn)
      clear hBn
      have om := PM.OW.lit00 5 r4 r4.heap.size (Nat.le_refl _)
      have hal : Below r4.heap.size r4 (r4.alloc (.cells #[] 5)) := (Below.refl _ _).alloc (Nat.le_refl _) _
      have hs := ho.keep hal
      have hz := hal.size
      have hB6 := PM.hid (And.intro hBB.out (kb))
      clear hBB  kb ho
      go_wp2_with (at_builtin; refine PM.wpList_app bty r4.heap.size rfl _ _ rfl _ _ [] (PM.rcB Y) rfl rfl om hs ?_ hz ?_; (have := hle.out; have := hMh.out; simp; omega); intro v7 w7 q1 q2 _; have hz7 : r4.heap.size ≤ w7.heap.size := (Nat.le_trans hz q2.size); have hq := PM.hid (hal.trans q2); have hlX : ([] ++ PM.rcB Y).length + 1 ≤ 140737488355328 := (by have := hMh.out; have := hle.out; simp; omega); clear om hs hz hal q2; go_wp2_with (at_builtin; refine PM.wpList_app1 bty r4.heap.size w7 rfl _ _ rfl v7 ([] ++ PM.rcB Y) _ yb rfl rfl rfl rfl q1 hlX hz7 ?_; intro v8 w8 q3 q4; have hq8 := PM.hid (hq.out.trans q4); have hs8 := q3.bs; clear q1 hz7 hlX hq q3 q4))
      refine (hut.out hok2.out _ w8 hs8).mono ?_
      rintro e r5 ⟨rfl, hBn⟩
      obtain ⟨hBB, kb⟩ := hB6.out
      replace kb := kb.keep hq8.out
      replace hBB := PM.hid (PM.chain hBB hq8.out)
      clear hB6 hq8 hs8
      replace kb := kb.keep hBn
      replace hBB := PM.hid (PM.chain hBB.out hBn)
      clear hBn
      go_upto_region 16 with fail
      obtain ⟨mz, hmz⟩ : ∃ g, g = r5.heap.size := ⟨_, rfl⟩
      obtain ⟨r6, hr6⟩ : ∃ W, W = r5.alloc (.cells #[.int .i64 0, .int .u64 0, .int .i64 0, .int .i64 0, .int .u64 0, .int .u64 0, .int .i64 0, .int .u64 0, .slice none 0 0, .slice none 0 0, .int .i64 0, .int .u64 0, .int .u64 0] 32) := ⟨_, rfl⟩
      have hBn : Below r5.heap.size r5 r6 := by rw [hr6]; exact (Below.refl _ _).alloc (Nat.le_refl _) _
      have kmz : PM.BK r6 mz #[.int .i64 0, .int .u64 0, .int .i64 0, .int .i64 0, .int .u64 0, .int .u64 0, .int .i64 0, .int .u64 0, .slice none 0 0, .slice none 0 0, .int .i64 0, .int .u64 0, .int .u64 0] 32 := by rw [hr6, hmz]; exact PM.BK.new _ _ _
      rw [← hr6, ← hmz]
      clear hr6 hmz
      clear kmz
      replace kb := kb.keep hBn
      replace hBB := PM.hid (PM.chain hBB.out hBn)
      clear hBn
      go_wp2_with fail
      go_ret
      exact ⟨rfl, hBB.out⟩
    · rw [PM.rcE_no hok]
      clear ho
      replace hok := PM.hid hok
      go_wp2_with fail
      go_ret
      exact ⟨rfl, hBB.out⟩
  · rw [PM.enE_no hok]
    clear ho
    replace hok := PM.hid hok
    clear ka
    have d0 : e1.cell? ⟨gb, 0, none⟩ = some (.int .i64 brk) := kb.cell 0
    have d1 : e1.cell? ⟨gb, 1, none⟩ = some (.int .u64 (brn : Int)) := kb.cell 1
    have d2 : e1.cell? ⟨gb, 2, none⟩ = some (.int .i64 bk) := kb.cell 2
    have d3 : e1.cell? ⟨gb, 3, none⟩ = some (.int .i64 bb) := kb.cell 3
    have d4 : e1.cell? ⟨gb, 4, none⟩ = some (.int .u64 (bl : Int)) := kb.cell 4
    have d5 : e1.cell? ⟨gb, 5, none⟩ = some (.int .u64 (br : Int)) := kb.cell 5
    have d6 : e1.cell? ⟨gb, 6, none⟩ = some (.int .i64 bc) := kb.cell 6
    have d7 : e1.cell? ⟨gb, 7, none⟩ = some (.int .u64 (bu : Int)) := kb.cell 7
    have d8 : e1.cell? ⟨gb, 8, none⟩ = some (.slice bfa bF bfc) := kb.cell 8
    have d9 : e1.cell? ⟨gb, 9, none⟩ = some (.slice bea bL bec) := kb.cell 9
    have d10 : e1.cell? ⟨gb, 10, none⟩ = some (.int .i64 bjb) := kb.cell 10
    have d11 : e1.cell? ⟨gb, 11, none⟩ = some (.int .u64 (bjl : Int)) := kb.cell 11
    have d12 : e1.cell? ⟨gb, 12, none⟩ = some (.int .u64 (bjr : Int)) := kb.cell 12
    go_wp2_with fail
    refine (hpk.out e1 hBB.out).mono ?_
    rintro e r1 ⟨o, rfl, ho, -, hBn⟩
    clear d0 d1 d2 d3 d4 d5 d6 d7 d8 d9 d10 d11 d12
    replace kb := kb.keep hBn
    replace hBB := PM.hid (PM.chain hBB.out hBn)
    clear hBn
    by_cases hok : PM.rcP Y
    · rw [PM.rcE_yes hok]
      replace ho := (ho hok).bs
      have hok2 := PM.hid hok
      have hle : Hid ((PM.rcB Y).length ≤ 41000) := PM.hid (hler.out hok)
      clear hok
      obtain ⟨oa, oc, hoe⟩ := ho.len
      obtain ⟨M, hM⟩ : ∃ M, M = (PM.rcB Y).length := ⟨_, rfl⟩
      rw [← hM] at hoe hle
      have hMh := PM.hid hM
      clear hM
      subst hoe
      go_wp2_with fail
      refine (hux.out hok2.out _ r1 ho).mono ?_
      rintro e r2 ⟨fa, fc, ea, ec, rfl, hT, hE, hBn⟩
      replace kb := kb.keep hBn
      replace ho := ho.keep hBn
      replace hBB := PM.hid (PM.chain hBB.out hBn)
      clear hBn
      go_upto_region 14 with fail
      obtain ⟨my, hmy⟩ : ∃ g, g = r2.heap.size := ⟨_, rfl⟩
      obtain ⟨r3, hr3⟩ : ∃ W, W = r2.alloc (.cells #[.int .i64 brk, .int .u64 (brn : Int), .int .i64 bk, .int .i64 bb, .int .u64 (bl : Int), .int .u64 (br : Int), .int .i64 bc, .int .u64 (bu : Int), .slice fa bF fc, .slice ea bL ec, .int .i64 bjb, .int .u64 (bjl : Int), .int .u64 (bjr : Int)] 32) := ⟨_, rfl⟩
      have hBn : Below r2.heap.size r2 r3 := by rw [hr3]; exact (Below.refl _ _).alloc (Nat.le_refl _) _
      have kmy : PM.BK r3 my #[.int .i64 brk, .int .u64 (brn : Int), .int .i64 bk, .int .i64 bb, .int .u64 (bl : Int), .int .u64 (br : Int), .int .i64 bc, .int .u64 (bu : Int), .slice fa bF fc, .slice ea bL ec, .int .i64 bjb, .int .u64 (bjl : Int), .int .u64 (bjr : Int)] 32 := by rw [hr3, hmy]; exact PM.BK.new _ _ _
      rw [← hr3, ← hmy]
      clear hr3 hmy
      replace kb := kb.keep hBn
      replace ho := ho.keep hBn
      replace hT := hT.keep hBn
      replace hE := hE.keep hBn
      replace hBB := PM.hid (PM.chain hBB.out hBn)
      clear hBn
      have d0 : r3.cell? ⟨gb, 0, none⟩ = some (.int .i64 brk) := kb.cell 0
      have d1 : r3.cell? ⟨gb, 1, none⟩ = some (.int .u64 (brn : Int)) := kb.cell 1
      have d2 : r3.cell? ⟨gb, 2, none⟩ = some (.int .i64 bk) := kb.cell 2
      have d3 : r3.cell? ⟨gb, 3, none⟩ = some (.int .i64 bb) := kb.cell 3
      have d4 : r3.cell? ⟨gb, 4, none⟩ = some (.int .u64 (bl : Int)) := kb.cell 4
      have d5 : r3.cell? ⟨gb, 5, none⟩ = some (.int .u64 (br : Int)) := kb.cell 5
      have d6 : r3.cell? ⟨gb, 6, none⟩ = some (.int .i64 bc) := kb.cell 6
      have d7 : r3.cell? ⟨gb, 7, none⟩ = some (.int .u64 (bu : Int)) := kb.cell 7
      have d8 : r3.cell? ⟨gb, 8, none⟩ = some (.slice bfa bF bfc) := kb.cell 8
      have d9 : r3.cell? ⟨gb, 9, none⟩ = some (.slice bea bL bec) := kb.cell 9
      have d10 : r3.cell? ⟨gb, 10, none⟩ = some (.int .i64 bjb) := kb.cell 10
      have d11 : r3.cell? ⟨gb, 11, none⟩ = some (.int .u64 (bjl : Int)) := kb.cell 11
      have d12 : r3.cell? ⟨gb, 12, none⟩ = some (.int .u64 (bjr : Int)) := kb.cell 12
      have y0 : r3.cell? ⟨my, 0, none⟩ = some (.int .i64 brk) := kmy.cell 0
      have y1 : r3.cell? ⟨my, 1, none⟩ = some (.int .u64 (brn : Int)) := kmy.cell 1
      have y2 : r3.cell? ⟨my, 2, none⟩ = some (.int .i64 bk) := kmy.cell 2
      have y3 : r3.cell? ⟨my, 3, none⟩ = some (.int .i64 bb) := kmy.cell 3
      have y4 : r3.cell? ⟨my, 4, none⟩ = some (.int .u64 (bl : Int)) := kmy.cell 4
      have y5 : r3.cell? ⟨my, 5, none⟩ = some (.int .u64 (br : Int)) := kmy.cell 5
      have y6 : r3.cell? ⟨my, 6, none⟩ = some (.int .i64 bc) := kmy.cell 6
      have y7 : r3.cell? ⟨my, 7, none⟩ = some (.int .u64 (bu : Int)) := kmy.cell 7
      have y8 : r3.cell? ⟨my, 8, none⟩ = some (.slice fa bF fc) := kmy.cell 8
      have y9 : r3.cell? ⟨my, 9, none⟩ = some (.slice ea bL ec) := kmy.cell 9
      have y10 : r3.cell? ⟨my, 10, none⟩ = some (.int .i64 bjb) := kmy.cell 10
      have y11 : r3.cell? ⟨my, 11, none⟩ = some (.int .u64 (bjl : Int)) := kmy.cell 11
      have y12 : r3.cell? ⟨my, 12, none⟩ = some (.int .u64 (bjr : Int)) := kmy.cell 12
      go_wp2_with fail
      refine (hsmy.out r3 fa fc ea ec hBB.out hT hE).mono ?_
      rintro e r4 ⟨rfl, hBn⟩
      clear d0 d1 d2 d3 d4 d5 d6 d7 d8 d9 d10 d11 d12
      clear y0 y1 y2 y3 y4 y5 y6 y7 y8 y9 y10 y11 y12
      clear hT hE kmy
      replace kb := kb.keep hBn
      replace ho := ho.keep hBn
      replace hBB := PM.hid (PM.chain hBB.out hBn)
      clear hBn
      have om := PM.OW.lit00 5 r4 r4.heap.size (Nat.le_refl _)
      have hal : Below r4.heap.size r4 (r4.alloc (.cells #[] 5)) := (Below.refl _ _).alloc (Nat.le_refl _) _
      have hs := ho.keep hal
      have hz := hal.size
      have hB6 := PM.hid (And.intro hBB.out (kb))
      clear hBB  kb ho
      go_wp2_with (at_builtin; refine PM.wpList_app bty r4.heap.size rfl _ _ rfl _ _ [] (PM.rcB Y) rfl rfl om hs ?_ hz ?_; (have := hle.out; have := hMh.out; simp; omega); intro v7 w7 q1 q2 _; have hz7 : r4.heap.size ≤ w7.heap.size := (Nat.le_trans hz q2.size); have hq := PM.hid (hal.trans q2); have hlX : ([] ++ PM.rcB Y).length + 1 ≤ 140737488355328 := (by have := hMh.out; have := hle.out; simp; omega); clear om hs hz hal q2; go_wp2_with (at_builtin; refine PM.wpList_app1 bty r4.heap.size w7 rfl _ _ rfl v7 ([] ++ PM.rcB Y) _ yb rfl rfl rfl rfl q1 hlX hz7 ?_; intro v8 w8 q3 q4; have hq8 := PM.hid (hq.out.trans q4); have hs8 := q3.bs; clear q1 hz7 hlX hq q3 q4))
      refine (hut.out hok2.out _ w8 hs8).mono ?_
      rintro e r5 ⟨rfl, hBn⟩
      obtain ⟨hBB, kb⟩ := hB6.out
      replace kb := kb.keep hq8.out
      replace hBB := PM.hid (PM.chain hBB hq8.out)
      clear hB6 hq8 hs8
      replace kb := kb.keep hBn
      replace hBB := PM.hid (PM.chain hBB.out hBn)
      clear hBn
      go_upto_region 16 with fail
      obtain ⟨mz, hmz⟩ : ∃ g, g = r5.heap.size := ⟨_, rfl⟩
      obtain ⟨r6, hr6⟩ : ∃ W, W = r5.alloc (.cells #[.int .i64 0, .int .u64 0, .int .i64 0, .int .i64 0, .int .u64 0, .int .u64 0, .int .i64 0, .int .u64 0, .slice none 0 0, .slice none 0 0, .int .i64 0, .int .u64 0, .int .u64 0] 32) := ⟨_, rfl⟩
      have hBn : Below r5.heap.size r5 r6 := by rw [hr6]; exact (Below.refl _ _).alloc (Nat.le_refl _) _
      have kmz : PM.BK r6 mz #[.int .i64 0, .int .u64 0, .int .i64 0, .int .i64 0, .int .u64 0, .int .u64 0, .int .i64 0, .int .u64 0, .slice none 0 0, .slice none 0 0, .int .i64 0, .int .u64 0, .int .u64 0] 32 := by rw [hr6, hmz]; exact PM.BK.new _ _ _
      rw [← hr6, ← hmz]
      clear hr6 hmz
      clear kmz
      replace kb := kb.keep hBn
      replace hBB := PM.hid (PM.chain hBB.out hBn)
      clear hBn
      go_wp2_with fail
      go_ret
      exact ⟨rfl, hBB.out⟩
    · rw [PM.rcE_no hok]
      clear ho
      replace hok := PM.hid hok
      go_wp2_with fail
      go_ret
      exact ⟨rfl, hBB.out⟩
end Go.Proofs.Ytklgibkdbdhaiaa
