/-
  CONTRACT OF postilionref03.Scan.
-/
import Derived.Test.YtpilgbiedbhpeaaFs
import Derived.Test.YtpilgbiedbhpeaaFv
import Derived.Test.YtpilgbiedbhpeaaFxp
import Derived.Deep.QuietTactic
import Derived.BigQuiet
namespace Go.Proofs.Ytpilgbiedbhpeaa
open Go.RowKit Go.BigFrame
set_option linter.unusedVariables false
namespace PM
/-- bytes out of bytes, from k on -/
theorem BS.span {w : World} {b off cap k n : Nat} {l : List UInt8} (h1 : l.length ≤ cap) (h2 : cap ≤ maxLen) (h3 : ∀ i x, l[i]? = some x → w.cell? ⟨b, off + i, none⟩ = some (bv x)) (hk : k + n ≤ l.length) :
    BS w (.slice (some ⟨b, off + k, none⟩) n (cap - k)) ((l.drop k).take n) := by
  have hl : ((l.drop k).take n).length = n := by simp; omega
  refine .inr (.inl ⟨b, off + k, cap - k, by rw [hl], by omega, by omega, fun i x hi => ?_⟩)
  have hi' : i < n := by have := (List.getElem?_eq_some_iff.1 hi).1; omega
  rw [List.getElem?_take_of_lt hi', List.getElem?_drop] at hi
  rw [Nat.add_assoc]
  exact h3 _ _ hi
theorem dN {B : Nat} {a w : World} (h : Below B a w) (n : Nat) : Below B a (w.drewN n) := h.trans ⟨rfl, rfl, rfl, Nat.le_refl _, fun _ _ => rfl⟩
end PM
set_option maxHeartbeats 2000000 in
theorem RScan_none (a : Option Addr) (c : Nat) (w : World) :
    Calls Try.prog 13 #[.slice a 0 c] w fun e w' => e = .returned (.tuple #[.slice none 0 0, .int .i64 0]) ∧ w' = w := by
  go_enter Try.func13, Try.ntmps13
  go_wp2
  go_loop [4, 5] (fun a n => a = .slice none 0 0 ∧ n = .int .i64 0) (fun _ _ => 0)
  case atStart => exact ⟨rfl, rfl⟩
  case round =>
    obtain ⟨rfl, rfl⟩ := hrel
    go_wp2
    go_ret2
    exact ⟨rfl, rfl⟩
set_option maxRecDepth 100000 in
set_option maxHeartbeats 4000000 in
theorem RScan_long (b off c : Nat) (l : List UInt8) (w : World) (h1 : l.length ≤ c) (h2 : c ≤ maxLen) (h3 : ∀ i x, l[i]? = some x → w.cell? ⟨b, off + i, none⟩ = some (PM.bv x)) (hl : l.length ≤ 1000000) :
    Calls Try.prog 13 #[.slice (some ⟨b, off, none⟩) l.length c] w fun e w' => ∃ o, e = .returned (.tuple #[o, .int .i64 (PM.sizeL (PM.scanL l) : Nat)]) ∧ PM.OBL 23 5 w.heap.size w' o (PM.scanL l) ∧ Below w.heap.size w w' := by
  have hcell := PM.hid h3
  simp only [maxLen] at h2
  obtain ⟨L, hL⟩ : ∃ L, L = l.length := ⟨_, rfl⟩
  have hLh := PM.hid hL
  rw [← hL] at hl h1 ⊢
  clear hL h3
  go_enter Try.func13, Try.ntmps13
  go_wp2
  go_loopw [4, 5] (fun o i wr => ∃ (ls : List (List UInt8)) (k : Nat), i = .int .i64 k ∧ k = PM.sizeL ls ∧ k ≤ L ∧ PM.OBL 23 5 w.heap.size wr o ls ∧ Below w.heap.size w wr ∧ ls ++ PM.scanL (l.drop k) = PM.scanL l) (fun _ i _ => L - (intOf i).toNat)
  case atStart => exact ⟨[], 0, rfl, rfl, by omega, PM.OBL.nil _ _ _ _, Below.refl _ _, rfl⟩
  case round =>
    obtain ⟨ls, k, rfl, hk, hkL, ho, hB, heq⟩ := hrel
    obtain ⟨ua, uc, hue⟩ := ho.rbl.len
    subst hue
    have hlsz : ls.length ≤ 1000000 := by have := PM.count_le ls; omega
    have hend : ∀ W, Below wr.heap.size wr W → PM.firstL (l.drop k) = [] → (∃ o, Ending.returned (.tuple #[Value.slice ua ls.length uc, .int .i64 k]) = .returned (.tuple #[o, .int .i64 (PM.sizeL (PM.scanL l) : Nat)]) ∧ PM.OBL 23 5 w.heap.size W o (PM.scanL l) ∧ Below w.heap.size w W) := by
      intro W hW hnil
      have : PM.scanL l = ls := by rw [← heq, PM.scan_nil hnil, List.append_nil]
      rw [this, ← hk]
      exact ⟨_, rfl, ho.keep hW, hB.trans (hW.mono hB.size)⟩
    have hendh := PM.hid hend
    have hQ := PM.hid (And.intro hk (And.intro ho (And.intro hB heq)))
    have hcr : ∀ i x, l[i]? = some x → wr.cell? ⟨b, off + i, none⟩ = some (PM.bv x) := fun i x hi => PM.cellA hB (hcell.out i x hi)
    obtain ⟨NL, hNL⟩ : ∃ NL, NL = ls.length := ⟨_, rfl⟩
    rw [← hNL] at hendh hlsz ⊢
    have hNLh := PM.hid hNL
    have hRl : (l.drop k).length = L - k := by rw [List.length_drop, hLh.out]
    have hRlh := PM.hid hRl
    clear hend hk ho hB heq hNL hRl
    by_cases h6 : L < k + 6
    · have h6' : (L : Int) - k < 6 := by omega
      clear hcr
      go_wp2
      go_ret2
      exact hendh.out _ (Below.refl _ _) (PM.first_less (by rw [hRlh.out]; omega))
    · have h6' : ¬ (L : Int) - k < 6 := by omega
      obtain ⟨z0, hz0⟩ : ∃ z, l[k]? = some z := ⟨l[k]'(by rw [← hLh.out]; omega), List.getElem?_eq_getElem _⟩
      obtain ⟨z1, hz1⟩ : ∃ z, l[k + 1]? = some z := ⟨l[k + 1]'(by rw [← hLh.out]; omega), List.getElem?_eq_getElem _⟩
      have d0 : wr.cell? ⟨b, off + k, none⟩ = some (.int .u8 (z0.toNat : Int)) := hcr k z0 hz0
      have d1 : wr.cell? ⟨b, off + (k + 1), none⟩ = some (.int .u8 (z1.toNat : Int)) := hcr (k + 1) z1 hz1
      have g0 := z0.toNat_lt
      have g1 := z1.toNat_lt
      have hbv : PM.bval ((l.drop k).take 2) = z0.toNat * 256 + z1.toNat := PM.bval_two (by rw [List.getElem?_drop]; exact hz0) (by rw [List.getElem?_drop]; exact hz1)
      obtain ⟨N, hN⟩ : ∃ N, N = z0.toNat * 256 + z1.toNat := ⟨_, rfl⟩
      rw [← hN] at hbv
      have hN2 : N < 65536 := by omega
      have e0 : (z0.toNat : Int) * 256 + (z1.toNat : Int) = (N : Int) := by omega
      have hbvh := PM.hid hbv
      have hcrh := PM.hid hcr
      clear hz0 hz1 hN hbv hcr
      go_wp2_with fail
      go_region
      by_cases hbig : L < k + 6 + N
      · have hb' : (L : Int) - k < 6 + N := by omega
        go_wp2
        go_ret2
        exact hendh.out _ (Below.refl _ _).drew (PM.first_bad (by rw [hRlh.out]; omega) hbvh.out (.inr (.inr (by rw [hRlh.out]; omega))))
      · have hb' : ¬ (L : Int) - k < 6 + N := by omega
        obtain ⟨W, hW⟩ : ∃ W, W = wr.drew := ⟨_, rfl⟩
        have hBW : Below wr.heap.size wr W := by rw [hW]; exact (Below.refl _ _).drew
        have hszW : W.heap.size = wr.heap.size := by rw [hW]; rfl
        rw [← hW]
        clear hW
        have hcW : ∀ i x, l[i]? = some x → W.cell? ⟨b, off + i, none⟩ = some (PM.bv x) := fun i x hi => PM.cellA hBW (hcrh.out i x hi)
        have hsp := PM.BS.span (w := W) (b := b) (off := off) (cap := c) (k := k + 6) (n := N) (l := l) (by rw [← hLh.out]; exact h1) (by simp only [maxLen]; exact h2) hcW (by rw [← hLh.out]; omega)
        rw [← List.drop_drop] at hsp
        obtain ⟨P, hP⟩ : ∃ P, P = ((l.drop k).drop 6).take N := ⟨_, rfl⟩
        rw [← hP] at hsp
        have hPl : P.length = N := by rw [hP]; simp; rw [← hLh.out]; omega
        have hPh := PM.hid (And.intro hP hPl)
        have hS := PM.hid (And.intro hBW (And.intro hszW hcW))
        clear hP hPl hBW hszW hcW d0 d1 e0 g0 g1
        by_cases hcn : c = k + 6
        · have hN0 : N = 0 := by omega
          subst hcn
          subst hN0
          have hP0 : P = [] := List.length_eq_zero_iff.1 hPh.out.2
          subst hP0
          have hs0 : PM.BS W (.slice (some ⟨b, off, none⟩) 0 0) [] := .inr (.inr ⟨_, _, rfl, rfl, by simp⟩)
          clear hsp hPh
          go_wp2_with (at_builtin; refine PM.wpList_appm bty W.heap.size W rfl _ _ rfl _ [] [] _ 0 rfl rfl rfl rfl rfl ?_ ?_ (Nat.le_refl _) ?_)
          intro v1 w1 t1 t2
          obtain ⟨pa, pc, hpe⟩ : ∃ pa pc, v1 = .slice pa 0 pc := t1.bs.len
          subst hpe
          have t1h := PM.hid (And.intro t1 t2)
          clear t1 t2 hs0
          go_wp2_with fail
          refine (RWrap_bad _ _ w1 t1h.out.1.bs (.inl rfl)).mono ?_
          rintro e w2 ⟨rfl, rfl⟩
          go_wp2_with fail
          go_quiet (fail)
          go_wp2
          go_ret2
          exact hendh.out _ (PM.dN (hS.out.1.trans (t1h.out.2.mono hS.out.1.size)) _) (PM.first_bad (by rw [hRlh.out]; omega) hbvh.out (.inl rfl))
        · go_wp2_with (at_builtin; refine PM.wpList_appm bty W.heap.size W rfl _ _ rfl _ [] P _ 0 rfl rfl rfl rfl rfl ?_ ?_ (Nat.le_refl _) ?_)
          · have := hPh.out.2; omega
          intro v1 w1 t1 t2
          have t1' : PM.OW 5 W.heap.size w1 v1 P := t1
          have hp1 := PM.hid (And.intro t1' t2)
          obtain ⟨pa, pc, hpe⟩ : ∃ pa pc, v1 = .slice pa N pc := by obtain ⟨pa, pc, e⟩ := t1'.bs.len; exact ⟨pa, pc, by rw [e, hPh.out.2]⟩
          subst hpe
          clear t1 t1' t2 hsp
          by_cases hbad : N = 0 ∨ 4000 < N
          · go_wp2_with fail
            refine (RWrap_bad _ _ w1 hp1.out.1.bs (by rw [hPh.out.2]; exact hbad)).mono ?_
            rintro e w2 ⟨rfl, rfl⟩
            go_wp2_with fail
            go_quiet (fail)
            go_wp2
            go_ret2
            exact hendh.out _ (PM.dN (hS.out.1.trans (hp1.out.2.mono hS.out.1.size)) _) (PM.first_bad (by rw [hRlh.out]; omega) hbvh.out (hbad.elim .inl fun h => .inr (.inl h)))
          · go_wp2_with fail
            refine (RWrap_any _ _ w1 hp1.out.1.bs (by rw [hPh.out.2]; omega) (by rw [hPh.out.2]; omega)).mono ?_
            rintro e w2 ⟨v2, rfl, ho2, hB2⟩
            have hC2 := hp1.out.2.trans (hB2.mono hp1.out.2.size)
            have hcw2 : ∀ i x, l[i]? = some x → w2.cell? ⟨b, off + i, none⟩ = some (PM.bv x) := fun i x hi => PM.cellA hC2 (hS.out.2.2 i x hi)
            have hs2 := PM.BS.span (w := w2) (b := b) (off := off) (cap := c) (k := k) (n := 6 + N) (l := l) (by rw [← hLh.out]; exact h1) (by simp only [maxLen]; exact h2) hcw2 (by rw [← hLh.out]; omega)
            have k1 : ∀ n, (convert 23 9 v2).run Try.prog (w2.drewN n) = .ok (.string ⟨(PM.wrapL P).toArray⟩) (w2.drewN n) := fun n => PM.run_str bty Try.underlying9 (ho2.bs.keep (PM.dN (Below.refl _ _) n))
            have k2 : ∀ n, (convert 23 9 (.slice (some ⟨b, off + k, none⟩) (k + 6 + N - k : Nat) (c - k))).run Try.prog (w2.drewN n) = .ok (.string ⟨((l.drop k).take (6 + N)).toArray⟩) (w2.drewN n) := fun n => by rw [show k + 6 + N - k = 6 + N by omega]; exact PM.run_str bty Try.underlying9 (hs2.keep (PM.dN (Below.refl _ _) n))
            obtain ⟨qa, qc, hqe⟩ : ∃ qa qc, v2 = .slice qa (6 + N) qc := by obtain ⟨qa, qc, e⟩ := ho2.bs.len; exact ⟨qa, qc, by rw [e, PM.wrapL_length, hPh.out.2]⟩
            subst hqe
            have hC2h := PM.hid hC2
            have hck : ¬ c = k := by omega
            have hB2h := PM.hid hB2
            have hN40 : 0 < N ∧ N ≤ 4000 := by omega
            clear ho2 hB2 hcw2 hs2 hC2 hbad
            by_cases hsame : PM.wrapL P = (l.drop k).take (6 + N)
            · rw [← hsame] at k2
              have hsameh := PM.hid hsame
              clear hsame
              go_wp2_with fail
              go_quiet (fail)
              obtain ⟨w3, hw3⟩ : ∃ w3, w3 = w2.drewN nq := ⟨_, rfl⟩
              have hB3 : Below wr.heap.size wr w3 := by rw [hw3]; exact PM.dN (hS.out.1.trans (hC2h.out.mono (by rw [hS.out.2.1]; exact Nat.le_refl _))) _
              have hp3 : PM.OW 5 wr.heap.size w3 (.slice pa N pc) P := by
                rw [hw3]
                have := (hp1.out.1.keep hB2h.out).keep (PM.dN (Below.refl _ _) nq)
                rw [hS.out.2.1] at this
                exact this
              rw [← hw3]
              clear hw3 k1 k2
              obtain ⟨hk, ho, hB, heq⟩ := hQ.out
              obtain ⟨vs, o1, o2, o3⟩ := ho
              have o1' : PM.OE PM.vid 23 w.heap.size w3 (.slice ua NL uc) vs := by rw [hNLh.out]; exact o1.keep hB3
              have hvl : vs.length ≤ 1000000 := by rw [o2, ← hNLh.out]; exact hlsz
              have hz3 : w.heap.size ≤ w3.heap.size := Nat.le_trans hB.size hB3.size
              have hF := PM.hid (And.intro hk (And.intro heq (And.intro hB (And.intro o1 (And.intro o2 (And.intro o3 (And.intro hB3 hp3)))))))
              clear hk hB heq o1 o2 o3 hB3 hp3
              go_wp2_with (at_builtin; refine PM.wpList_es1 (e := PM.vid) btl w.heap.size w3 rfl _ _ rfl _ _ (.slice pa N pc) _ rfl rfl rfl rfl rfl o1' ?_ ?_ hz3 ?_; omega; (simp only [maxLen]; omega); intro v8 w8 t1 t2 t3 _; have hE := PM.hid (And.intro t1 (And.intro t2 t3)); obtain ⟨ya, yc, hye⟩ : ∃ ya yc, v8 = .slice ya (vs.length + 1) yc := (by obtain ⟨ya, yc, e⟩ := t1.es.len; exact ⟨ya, yc, by simpa using e⟩); subst hye; clear t1 t2 t3 o1' hz3)
              obtain ⟨t1, t2, t3⟩ := hE.out
              obtain ⟨hk, heq, hB, o1, o2, o3, hB3, hp3⟩ := hF.out
              have hfirst : PM.firstL (l.drop k) = P := by
                have := PM.first_same (R := l.drop k) hN40.1 hN40.2 (by rw [hRlh.out]; omega) (by rw [← hPh.out.1]; exact hsameh.out)
                rw [this, ← hPh.out.1]
              have hnn : PM.firstL (l.drop k) ≠ [] := by
                rw [hfirst]
                intro he
                have := hPh.out.2
                rw [he] at this
                simp at this
                omega
              have hcons := PM.scan_cons hnn
              rw [hfirst, hPh.out.2] at hcons
              have hfin := PM.OBL.snoc tL (o1.keep hB3) o2 (fun i x l a b => (o3 i x l a b).keep hB3) (hp3.mono hB.size) t1 (by rw [hNLh.out] at t3; exact t3)
              refine ⟨⟨ls ++ [P], k + 6 + N, by go_num, ?_, by omega, by simpa using hfin, (hB.trans (hB3.mono hB.size)).trans t2, ?_⟩, by simp only [intOf]; omega⟩
              · rw [PM.sizeL_snoc, ← hk, hPh.out.2]; omega
              · rw [← heq, hcons, List.drop_drop, ← Nat.add_assoc]
                simp
            · have hsne : (PM.wrapL P == (l.drop k).take (6 + N)) = false := beq_eq_false_iff_ne.2 hsame
              have hsameh := PM.hid hsame
              obtain ⟨s1, hs1⟩ : ∃ s, s = PM.wrapL P := ⟨_, rfl⟩
              obtain ⟨s2, hs2⟩ : ∃ s, s = (l.drop k).take (6 + N) := ⟨_, rfl⟩
              rw [← hs1] at hsne k1
              rw [← hs2] at hsne k2
              clear hsame hs1 hs2
              go_wp2_with fail
              go_quiet (fail)
              go_wp2
              go_ret2
              exact hendh.out _ (PM.dN (hS.out.1.trans (hC2h.out.mono (by rw [hS.out.2.1]; exact Nat.le_refl _))) _) (PM.first_other hbvh.out (by rw [← hPh.out.1]; exact hsameh.out))
theorem RScan_any (v : Value) (l : List UInt8) (w : World) (hv : PM.BS w v l) (hl : l.length ≤ 1000000) :
    Calls Try.prog 13 #[v] w fun e w' => ∃ o, e = .returned (.tuple #[o, .int .i64 (PM.sizeL (PM.scanL l) : Nat)]) ∧ PM.OBL 23 5 w.heap.size w' o (PM.scanL l) ∧ Below w.heap.size w w' := by
  have hnone : ∀ (a : Option Addr) (c : Nat), Calls Try.prog 13 #[.slice a 0 c] w fun e w' => ∃ o, e = .returned (.tuple #[o, .int .i64 (PM.sizeL (PM.scanL []) : Nat)]) ∧ PM.OBL 23 5 w.heap.size w' o (PM.scanL []) ∧ Below w.heap.size w w' := by
    intro a c
    refine (RScan_none a c w).mono ?_
    rintro e w' ⟨rfl, rfl⟩
    exact ⟨_, rfl, PM.OBL.nil _ _ _ _, Below.refl _ _⟩
  rcases hv with ⟨rfl, rfl⟩ | ⟨b, off, cap, rfl, h1, h2, h3⟩ | ⟨x, cap, rfl, rfl, _⟩
  · exact hnone none 0
  · exact RScan_long b off cap l w h1 h2 h3 hl
  · exact hnone (some x) cap
end Go.Proofs.Ytpilgbiedbhpeaa
