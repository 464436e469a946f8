/-
  CONTRACTS OF package frame: Scan.
-/
import Derived.Test.YtpilgbiedbhpeaaFf
import Derived.Test.YtpilgbiedbhpeaaBl
namespace Go.Proofs.Ytpilgbiedbhpeaa
open Go.RowKit
set_option linter.unusedVariables false
theorem btl : PM.ElTy Try.prog 27 23 24 := ⟨Try.underlying27, by
  refine ⟨_, _, rfl, rfl, ?_, ?_, ?_⟩ <;> kernel_rfl⟩
theorem tL : 23 ≠ 5 := by decide
namespace PM
theorem scan_left {l : List UInt8} {ls : List (List UInt8)} (h : ls ++ scanL (l.drop (sizeL ls)) = scanL l) : ∀ x ∈ ls, 0 < x.length ∧ x.length ≤ 4000 := by
  obtain ⟨_, _, _, h3⟩ := scan_stands l
  intro x hx
  exact h3 x (by rw [← h]; exact List.mem_append_left _ hx)
theorem count_le : ∀ (ls : List (List UInt8)), ls.length ≤ sizeL ls
  | [] => Nat.le_refl _
  | x :: ls => by have := count_le ls; simp only [sizeL, List.map_cons, List.sum_cons, List.length_cons] at this ⊢; omega
end PM
set_option maxHeartbeats 2000000 in
theorem Scan_none (a : Option Addr) (c : Nat) (w : World) (hm : c ≤ maxLen) (h : a = none ∧ c = 0 ∨ ∃ x, a = some x) :
    Calls Try.prog 12 #[.slice a 0 c] w fun e w' => e = .returned (.tuple #[.slice none 0 0, .int .i64 0]) ∧ w' = w := by
  have hf : ∀ (a : Option Addr) (c : Nat), PM.BS w (.slice a 0 c) [] → Calls Try.prog 18 #[.slice a 0 c] w fun e w' => e = .returned (.slice none 0 0) ∧ w' = w := fun a c hb => first_short _ [] w hb (by simp)
  rcases h with ⟨rfl, rfl⟩ | ⟨x, rfl⟩
  · have hc := hf none 0 (PM.BS.nil w)
    clear hf
    go_enter Try.func12, Try.ntmps12
    go_wp2_with fail
    go_step3
    go_wp2_with fail
    go_step3
    go_wp2_with fail
    go_loop [4, 5] (fun a n => a = .slice none 0 0 ∧ n = .int .i64 0) (fun _ _ => 0)
    case atStart => exact ⟨rfl, rfl⟩
    case round =>
      obtain ⟨rfl, rfl⟩ := hrel
      go_wp2_with (go_at_call 18; refine hc.mono ?_; rintro e w1 ⟨rfl, rfl⟩)
      rw [Exit.noGoto_ret]
      go_ret2
      exact ⟨rfl, rfl⟩
  · go_enter Try.func12, Try.ntmps12
    go_wp2_with fail
    go_step3
    go_wp2_with fail
    go_step3
    go_wp2_with fail
    go_loop [4, 5] (fun a n => a = .slice none 0 0 ∧ n = .int .i64 0) (fun _ _ => 0)
    case atStart => exact ⟨rfl, rfl⟩
    case round =>
      obtain ⟨rfl, rfl⟩ := hrel
      go_wp2_with fail
      all_goals
        refine (hf _ _ (.inr (.inr ⟨_, _, rfl, rfl, by first | exact hm | (simp only [maxLen] at hm ⊢; omega)⟩))).mono ?_
        rintro e w1 ⟨rfl, rfl⟩
        go_wp2_with fail
        rw [Exit.noGoto_ret]
        go_ret2
        exact ⟨rfl, rfl⟩
set_option maxHeartbeats 2000000 in
theorem Scan_long (b off c : Nat) (l : List UInt8) (w : World) (h0 : 0 < l.length) (h1 : l.length ≤ c) (h2 : c ≤ maxLen) (h3 : ∀ i x, l[i]? = some x → w.cell? ⟨b, off + i, none⟩ = some (PM.bv x)) (hl : l.length ≤ 1000000) :
    Calls Try.prog 12 #[.slice (some ⟨b, off, none⟩) l.length c] w fun e w' => ∃ o, e = .returned (.tuple #[o, .int .i64 (PM.sizeL (PM.scanL l) : Nat)]) ∧ PM.OBL 23 5 w.heap.size w' o (PM.scanL l) ∧ Below w.heap.size w w' := by
  have hcell := PM.hid h3
  simp only [maxLen] at h2
  obtain ⟨L, hL⟩ : ∃ L, L = l.length := ⟨_, rfl⟩
  have hLh := PM.hid hL
  rw [← hL] at hl h0 h1 ⊢
  clear hL h3
  go_enter Try.func12, Try.ntmps12
  go_wp2_with fail
  go_step3
  go_wp2_with fail
  go_step3
  go_wp2_with fail
  go_loopw [4, 5] (fun o i wr => ∃ (ls : List (List UInt8)) (n : Nat), i = .int .i64 n ∧ n = PM.sizeL ls ∧ n ≤ L ∧ PM.OBL 23 5 w.heap.size wr o ls ∧ Below w.heap.size w wr ∧ ls ++ PM.scanL (l.drop n) = PM.scanL l) (fun _ i _ => L - (intOf i).toNat)
  case atStart => exact ⟨[], 0, rfl, rfl, by omega, PM.OBL.nil _ _ _ _, Below.refl _ _, rfl⟩
  case round =>
    obtain ⟨ls, n, rfl, hn, hnL, ho, hB, heq⟩ := hrel
    have hcut := PM.BS.cut (w := wr) (b := b) (off := off) (cap := c) (k := n) (l := l) (by rw [← hLh.out]; exact h1) (by simp only [maxLen]; exact h2) (fun i x hi => PM.cellA hB (hcell.out i x hi)) (by rw [← hLh.out]; exact hnL)
    rw [← hLh.out] at hcut
    have hQ := PM.hid (And.intro hn (And.intro ho (And.intro hB heq)))
    by_cases hlt : n < L
    · have hf := first_any _ (l.drop n) wr hcut.1
      have hcn : ¬ c = n := by omega
      clear hn ho hB heq hcut
      go_wp2_with fail
      refine hf.mono ?_
      rintro e w5 ⟨fo, rfl, hfo, hB5⟩
      obtain ⟨fa, fc, hfe⟩ := hfo.len
      by_cases hnil : PM.firstL (l.drop n) = []
      · rw [hnil] at hfe
        subst hfe
        obtain ⟨hn, ho, hB, heq⟩ := hQ.out
        have hout := PM.hid (And.intro (ho.keep hB5) (hB.trans (hB5.mono hB.size)))
        obtain ⟨ua, uc, hue⟩ := ho.rbl.len
        subst hue
        have heq2 : PM.scanL l = ls := by rw [← heq, PM.scan_nil hnil, List.append_nil]
        have hn2 := PM.hid hn
        have heq3 := PM.hid heq2
        clear hn ho hB heq heq2 hB5 hfo hnil hQ hf
        simp only [List.length_nil]
        go_wp2_with fail
        rw [Exit.noGoto_ret]
        go_ret2
        rw [heq3.out, ← hn2.out]
        exact ⟨_, rfl, hout.out.1, hout.out.2⟩
      · have hlt2 := PM.first_lt _ hnil
        have hcons := PM.scan_cons hnil
        obtain ⟨fr, hfr, hf1, hf2⟩ := PM.first_some _ hnil
        obtain ⟨F, hF⟩ : ∃ F, F = PM.firstL (l.drop n) := ⟨_, rfl⟩
        rw [← hF] at hfo hfe hlt2 hcons hf1 hf2
        subst hfe
        obtain ⟨hn, ho, hB, heq⟩ := hQ.out
        have hlt3 : n + 6 + F.length ≤ L := by rw [hLh.out]; simp at hlt2; omega
        have hlsz : ls.length ≤ 1000000 := by have := PM.count_le ls; omega
        have ho5 := ho.keep hB5
        have hC5 := hB.trans (hB5.mono hB.size)
        have hS := PM.hid (And.intro hn (And.intro heq hcons))
        have ho5h := PM.hid ho5
        obtain ⟨H, hH⟩ : ∃ H, H = F.length := ⟨_, rfl⟩
        rw [← hH] at hlt3 hf1 hf2 hfo ⊢
        have hHh := PM.hid hH
        have hfoh := PM.hid hfo
        have hg : ((H : Int) == 0) = false := beq_eq_false_iff_ne.2 (by omega)
        obtain ⟨vs, o1, o2, o3⟩ := ho5
        have ovh := PM.hid (And.intro o1 (And.intro o2 (And.intro o3 hC5)))
        have hvl : vs.length ≤ 1000000 := by omega
        obtain ⟨xa, xc, hxe⟩ := o1.es.len
        have hxeh := PM.hid hxe
        clear hn ho hB heq hB5 hf hQ hnil hcons hfr hlt2 hC5 hfo hF hH o1 o2 o3 hxe ho5h
        go_wp2_with (first
          | (at_make; refine PM.wpList_mk0 bty w5.heap.size rfl _ _ rfl .i64 .i64 _ H rfl rfl rfl (by omega) (Nat.le_refl _) ?_; intro v6 w6 q1 q2 _; have hs6 := hfoh.out.keep q2; have hz6 := q2.size)
          | (at_builtin; refine PM.wpList_app bty w5.heap.size rfl _ _ rfl _ _ [] F rfl rfl q1 hs6 ?_ hz6 ?_; (have := hHh.out; simp; omega); intro v7 w7 q3 q4 _; clear q1 hs6 hz6; have q5 := q2.trans q4; have q6 := PM.hid q3; obtain ⟨pa, pc, hpe⟩ : ∃ pa pc, v7 = .slice pa H pc := (by obtain ⟨pa, pc, e⟩ := q3.bs.len; exact ⟨pa, pc, by rw [e, hHh.out]; rfl⟩); subst hpe; have ov7 := ovh.out.1.keep q5; have hz7 := Nat.le_trans ovh.out.2.2.2.size q5.size; clear q2 q3 q4)
          | (at_builtin; refine PM.wpList_es1 (e := PM.vid) btl w.heap.size w7 rfl _ _ rfl _ _ (.slice pa H pc) _ rfl rfl rfl rfl rfl ov7 ?_ ?_ hz7 ?_; omega; (simp only [maxLen]; omega); intro v8 w8 t1 t2 t3 _; have hE := PM.hid (And.intro t1 (And.intro t2 (And.intro t3 q5))); obtain ⟨ya, yc, hye⟩ : ∃ ya yc, v8 = .slice ya (vs.length + 1) yc := (by obtain ⟨ya, yc, e⟩ := t1.es.len; exact ⟨ya, yc, by simpa using e⟩); subst hye; clear t1 t2 t3 q5 ov7 hz7))
        obtain ⟨t1, t2, t3, q5⟩ := hE.out
        obtain ⟨o1, o2, o3, hC5⟩ := ovh.out
        obtain ⟨hn, heq, hcons⟩ := hS.out
        have hp := (q6.out.mono hC5.size)
        have hfin := PM.OBL.snoc tL (o1.keep q5) o2 (fun i x l a b => (o3 i x l a b).keep q5) hp t1 t3
        refine ⟨⟨ls ++ [F], n + (6 + H), by go_num, ?_, by omega, by simpa using hfin, (hC5.trans (q5.mono hC5.size)).trans t2, ?_⟩, by simp only [intOf]; omega⟩
        · rw [PM.sizeL_snoc, ← hn, hHh.out]
        · rw [← heq, hcons, hHh.out, ← List.drop_drop]
          simp
    · have hnl : n = L := by omega
      subst hnl
      have hdn : l.drop n = [] := List.drop_eq_nil_of_le (by rw [hLh.out]; exact Nat.le_refl _)
      obtain ⟨hn, ho, hB, heq⟩ := hQ.out
      rw [hdn] at heq
      have hsc : PM.scanL [] = [] := rfl
      rw [hsc, List.append_nil] at heq
      obtain ⟨ua, uc, hue⟩ := ho.rbl.len
      subst hue
      have hout := PM.hid (And.intro hn (And.intro heq (And.intro ho hB)))
      clear hn ho hB heq hQ hcut hsc
      go_wp2_with fail
      all_goals
        refine (first_short _ [] wr (.inr (.inr ⟨_, _, rfl, rfl, by simp only [maxLen]; omega⟩)) (by simp)).mono ?_
        rintro e w5 ⟨rfl, rfl⟩
        go_wp2_with fail
        rw [Exit.noGoto_ret]
        go_ret2
        obtain ⟨hn, heq, ho, hB⟩ := hout.out
        rw [← heq, ← hn]
        exact ⟨_, rfl, ho, hB⟩
theorem Scan_any (v : Value) (l : List UInt8) (w : World) (hv : PM.BS w v l) (hl : l.length ≤ 1000000) :
    Calls Try.prog 12 #[v] w fun e w' => ∃ o, e = .returned (.tuple #[o, .int .i64 (PM.sizeL (PM.scanL l) : Nat)]) ∧ PM.OBL 23 5 w.heap.size w' o (PM.scanL l) ∧ Below w.heap.size w w' := by
  by_cases h0 : 0 < l.length
  · rcases hv with ⟨rfl, rfl⟩ | ⟨b, off, cap, rfl, h1, h2, h3⟩ | ⟨x, cap, rfl, rfl, _⟩
    · simp at h0
    · exact Scan_long b off cap l w h0 h1 h2 h3 hl
    · simp at h0
  · have : l = [] := List.length_eq_zero_iff.1 (by omega)
    subst this
    have key : ∃ a c, v = .slice a 0 c ∧ c ≤ maxLen ∧ (a = none ∧ c = 0 ∨ ∃ x, a = some x) := by
      rcases hv with ⟨rfl, _⟩ | ⟨b, off, cap, rfl, h1, h2, h3⟩ | ⟨x, cap, rfl, _, h⟩
      · exact ⟨_, _, rfl, by simp, .inl ⟨rfl, rfl⟩⟩
      · exact ⟨_, _, rfl, h2, .inr ⟨_, rfl⟩⟩
      · exact ⟨_, _, rfl, h, .inr ⟨_, rfl⟩⟩
    obtain ⟨a, c, rfl, h1, h2⟩ := key
    refine (Scan_none a c w h1 h2).mono ?_
    rintro e w' ⟨rfl, rfl⟩
    exact ⟨_, rfl, PM.OBL.nil _ _ _ _, Below.refl _ _⟩
end Go.Proofs.Ytpilgbiedbhpeaa
