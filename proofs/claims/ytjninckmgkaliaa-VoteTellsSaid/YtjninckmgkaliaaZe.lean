/-
  THE WALK of VoteTells.
-/
import Derived.Test.YtjninckmgkaliaaZb
import Derived.Test.YtjninckmgkaliaaZc
import Derived.Test.YtjninckmgkaliaaZd
import Derived.Test.YtjninckmgkaliaaWe
import Derived.Test.YtjninckmgkaliaaOi
import Derived.Test.YtjninckmgkaliaaUh
namespace Go.Proofs.Ytjninckmgkaliaa
open Go.RowKit
set_option linter.unusedVariables false
set_option linter.unusedSimpArgs false
namespace PM
theorem prm_memA (k : Id → Bool) (n : Nat) : ∀ (l : List En) (st : List En × List Id) (x : En), x ∈ (l.foldl (prm1 k n) st).1 → x ∈ st.1 ∨ x ∈ l
  | [], st, x, h => .inl h
  | y :: l, st, x, h => by
    rcases prm_memA k n l _ x h with h | h
    · unfold prm1 at h
      split at h
      · exact .inl h
      · split at h
        · rcases List.mem_append.1 h with h | h
          · exact .inl h
          · exact .inr (by simp at h; simp [h])
        · exact .inl h
    · exact .inr (List.mem_cons_of_mem _ h)
theorem prm_mem (k : Id → Bool) (n : Nat) (l : List En) (x : En) (h : x ∈ (prm k n l).1) : x ∈ l := by
  rcases prm_memA k n l _ x h with h | h
  · cases h
  · exact h
end PM
set_option maxRecDepth 100000 in
set_option maxHeartbeats 16000000 in
theorem voteTells_walkA (lf : Nat) (a0 : Option Addr) (n0 c0 : Nat) (a1 : Option Addr) (n1 c1 : Nat) (a2 : Option Addr) (n2 c2 : Nat) (va : Option Addr) (N vc : Nat) (ra : Option Addr) (rn rc : Nat) (ka : Option Addr) (kn kc : Nat) (i : PM.Id) (ls ps l : List PM.En) (ab ids : List PM.Id) (ks : List PM.Ms) (w : World) (hs : PM.StR w (.slice a0 n0 c0) (.slice a1 n1 c1) (.slice a2 n2 c2) ls ps ab) (hv : PM.EnL w (.slice va N vc) l) (hi : PM.EM PM.idL 3 w (.slice ra rn rc) ids) (hk : PM.MsL w (.slice ka kn kc) ks) (hw : ∀ x ∈ l, PM.En.wf x) :
    Calls Try.prog 4 #[.agg #[.int .u64 (lf : Int), .slice a0 n0 c0, .slice a1 n1 c1, .slice a2 n2 c2], .slice va N vc, .slice ra rn rc, .slice ka kn kc, .agg #[.int .i64 i.br, .int .u64 (i.life : Int), .int .u64 (i.ser : Int)]] w fun e w' => e = .returned (.bool true) ∧ Below w.heap.size w w' := by
  have hNh : Hid (N = l.length) := PM.hid (by
    obtain ⟨a, c, h⟩ := hv.len
    injection h)
  have hRh : Hid (rn = ids.length) := PM.hid (by
    obtain ⟨a, c, h⟩ := hi.len
    injection h)
  have hKh : Hid (kn = ks.length) := PM.hid (by
    obtain ⟨a, c, h⟩ := hk.len
    injection h)
  have hn1h : Hid (n1 = ps.length) := PM.hid (by
    obtain ⟨a, c, h⟩ := hs.2.1.len
    injection h)
  have hbr := hi.bound
  unfold maxLen at hbr
  rw [← hRh.out] at hbr
  have hbk := hk.bound
  unfold maxLen at hbk
  rw [← hKh.out] at hbk
  have hsh := PM.hid hs
  have hlh := PM.hid hv
  have hih := PM.hid hi
  have hkh := PM.hid hk
  have hwf := PM.hid hw
  clear hs hv hi hk hw
  obtain ⟨g, hg⟩ : ∃ g, g = w.heap.size := ⟨_, rfl⟩
  obtain ⟨gi, hgi⟩ : ∃ g, g = w.heap.size + 1 := ⟨_, rfl⟩
  obtain ⟨w1, hw1⟩ : ∃ W, W = w.alloc (.cells #[.int .u64 (lf : Int), .slice a0 n0 c0, .slice a1 n1 c1, .slice a2 n2 c2] 27) := ⟨_, rfl⟩
  have s1 : w1.heap.size = w.heap.size + 1 := by rw [hw1]; simp
  have hal : Below w.heap.size w w1 := by rw [hw1]; exact (Below.refl _ _).alloc (Nat.le_refl _) _
  have kg : PM.BK w1 g #[.int .u64 (lf : Int), .slice a0 n0 c0, .slice a1 n1 c1, .slice a2 n2 c2] 27 := by rw [hw1, hg]; exact PM.BK.new _ _ _
  obtain ⟨w2, hw2⟩ : ∃ W, W = w1.alloc (.cells #[.int .i64 i.br, .int .u64 (i.life : Int), .int .u64 (i.ser : Int)] 30) := ⟨_, rfl⟩
  have hal2 : Below w1.heap.size w1 w2 := by rw [hw2]; exact (Below.refl _ _).alloc (Nat.le_refl _) _
  have ki : PM.BK w2 gi #[.int .i64 i.br, .int .u64 (i.life : Int), .int .u64 (i.ser : Int)] 30 := by rw [hw2, hgi, ← s1]; exact PM.BK.new _ _ _
  replace kg := kg.keep hal2
  have hBB := PM.hid (PM.chain hal hal2)
  clear hal hal2 s1
  go_enter Try.func4, Try.ntmps4
  go_upto_region 1 with fail
  rw [← hw1, ← hw2, ← hgi, ← hg]
  clear hw1 hw2 hg hgi
  go_wp2_with fail
  refine (awake18_any w2).mono ?_
  rintro e w3 ⟨rfl, hBn⟩
  replace kg := kg.keep hBn
  replace ki := ki.keep hBn
  replace hBB := PM.hid (PM.chain hBB.out hBn)
  clear hBn
  have s0 : w3.cell? ⟨g, 0, none⟩ = some (.int .u64 (lf : Int)) := kg.cell 0
  have s1 : w3.cell? ⟨g, 1, none⟩ = some (.slice a0 n0 c0) := kg.cell 1
  have s2 : w3.cell? ⟨g, 2, none⟩ = some (.slice a1 n1 c1) := kg.cell 2
  have s3 : w3.cell? ⟨g, 3, none⟩ = some (.slice a2 n2 c2) := kg.cell 3
  go_wp2_with fail
  refine (few18_any lf a0 n0 c0 a1 n1 c1 a2 n2 c2 (.slice ka kn kc) ls ps ks w3 (PM.EnL.keep hsh.out.1 hBB.out) (PM.EnL.keep hsh.out.2.1 hBB.out) (PM.MsL.keep hkh.out hBB.out)).mono ?_
  rintro e w4 ⟨hF, hBn⟩
  clear s0 s1 s2 s3
  replace kg := kg.keep hBn
  replace ki := ki.keep hBn
  replace hBB := PM.hid (PM.chain hBB.out hBn)
  clear hBn
  rcases hF with ⟨rfl, hF1, hF2, hF3, hF4, -⟩ | rfl
  case inr =>
    clear kg ki
    go_wp2_with fail
    go_ret
    exact ⟨by first | rfl | simp, hBB.out⟩
  go_wp2_with fail
  refine (few18_any 0 va N vc none 0 0 none 0 0 (.slice none 0 0) l [] [] w4 (PM.EnL.keep hlh.out hBB.out) (PM.RR.nil _) (PM.RR.nil _)).mono ?_
  rintro e w5 ⟨hF, hBn⟩
  replace kg := kg.keep hBn
  replace ki := ki.keep hBn
  replace hBB := PM.hid (PM.chain hBB.out hBn)
  clear hBn
  rcases hF with ⟨rfl, hF5, -⟩ | rfl
  case inr =>
    clear kg ki
    go_wp2_with fail
    go_ret
    exact ⟨by first | rfl | simp, hBB.out⟩
  have hf := PM.hid (And.intro hF1 (And.intro hF2 (And.intro hF5 hF3)))
  clear hF1 hF2 hF3 hF5
  have hk6 : kn ≤ 6 := by rw [hKh.out]; exact hF4
  clear hF4
  by_cases hr50 : rn ≤ 50
  case neg =>
    have q : decide ((50 : Int) < (rn : Int)) = true := by simp; omega
    have q' : (50 : Int) < (rn : Int) := by omega
    clear kg ki
    go_wp2_with fail
    go_ret
    exact ⟨by first | rfl | simp, hBB.out⟩
  have q : decide ((50 : Int) < (rn : Int)) = false := by simp; omega
  have q' : ¬ (50 : Int) < (rn : Int) := by omega
  have s0 : w5.cell? ⟨g, 0, none⟩ = some (.int .u64 (lf : Int)) := kg.cell 0
  have s1 : w5.cell? ⟨g, 1, none⟩ = some (.slice a0 n0 c0) := kg.cell 1
  have s2 : w5.cell? ⟨g, 2, none⟩ = some (.slice a1 n1 c1) := kg.cell 2
  have s3 : w5.cell? ⟨g, 3, none⟩ = some (.slice a2 n2 c2) := kg.cell 3
  go_wp2_with fail
  refine (promise_any lf a0 n0 c0 a1 n1 c1 a2 n2 c2 (.slice va N vc) l ls ps ab w5 (hsh.out.keep hBB.out) (by rw [hn1h.out]; have := hf.out.2.1.1; omega) (PM.EnL.keep hlh.out hBB.out) hf.out.2.2.1.ensS).mono ?_
  rintro e w6 ⟨u1, r1, rfl, hu1, hr1, hBn⟩
  clear s0 s1 s2 s3
  replace kg := kg.keep hBn
  replace ki := ki.keep hBn
  replace hBB := PM.hid (PM.chain hBB.out hBn)
  clear hBn q q'
  have s0 : w6.cell? ⟨g, 0, none⟩ = some (.int .u64 (lf : Int)) := kg.cell 0
  have s1 : w6.cell? ⟨g, 1, none⟩ = some (.slice a0 n0 c0) := kg.cell 1
  have s2 : w6.cell? ⟨g, 2, none⟩ = some (.slice a1 n1 c1) := kg.cell 2
  have s3 : w6.cell? ⟨g, 3, none⟩ = some (.slice a2 n2 c2) := kg.cell 3
  go_wp2_with fail
  refine (rprom18_any lf a0 n0 c0 a1 n1 c1 a2 n2 c2 (.slice va N vc) l ls ps ab w6 (hsh.out.keep hBB.out) (by rw [hn1h.out]; have := hf.out.2.1.1; omega) (PM.EnL.keep hlh.out hBB.out) (by have := hf.out.2.2.1.1; omega)).mono ?_
  rintro e w7 ⟨u2, r2, rfl, hu2, hr2, hBn⟩
  clear s0 s1 s2 s3
  replace kg := kg.keep hBn
  replace ki := ki.keep hBn
  replace hBB := PM.hid (PM.chain hBB.out hBn)
  have f1 : PM.EnL w7 u1 (PM.prm (PM.kn ls ps ab) n1 l).1 := PM.EnL.keep (hu1.rr.imp fun cs x h => PM.enO_enR h) hBn
  have f2 : PM.EnL w7 u2 (PM.prm (PM.kn ls ps ab) n1 l).1 := hu2.rr.imp fun cs x h => PM.enR_lasts _ _ _ _ hBn h
  have f3 := (hr1.em PM.idL_len).keep hBn
  have f4 := hr2.em PM.idL_len
  clear hBn hu1 hu2 hr1 hr2
  have hmm : ∀ x ∈ (PM.prm (PM.kn ls ps ab) n1 l).1, x.wf := fun x hx => hwf.out x (PM.prm_mem _ _ _ x hx)
  obtain ⟨PR, hPR⟩ : ∃ x, x = PM.prm (PM.kn ls ps ab) n1 l := ⟨_, rfl⟩
  rw [← hPR] at f1 f2 f3 f4 hmm
  clear hPR
  have hsv := PM.hid (And.intro f1 (And.intro f2 (And.intro f3 f4)))
  obtain ⟨pa1, pc1, rfl⟩ := f1.len
  obtain ⟨pa2, pc2, rfl⟩ := f2.len
  obtain ⟨pa3, pc3, rfl⟩ := f3.len
  obtain ⟨pa4, pc4, rfl⟩ := f4.len
  obtain ⟨P1, hP1⟩ : ∃ x, x = PR.1.length := ⟨_, rfl⟩
  obtain ⟨P2, hP2⟩ : ∃ x, x = PR.2.length := ⟨_, rfl⟩
  rw [← hP1, ← hP2] at hsv ⊢
  clear f1 f2 f3 f4 hP1 hP2
  have hse := sameEns_any (.slice pa1 P1 pc1) (.slice pa2 P1 pc2) PR.1 PR.1 w7 hsv.out.1 hsv.out.2.1 hmm hmm
  go_wp2_with fail
  refine hse.mono ?_
  clear hse hmm
  rintro e w8 ⟨hh, hBn⟩
  rcases hh with ⟨rfl, -⟩ | ⟨-, hno⟩
  case inr => first | exact (hno rfl).elim | exact (hno trivial).elim
  replace kg := kg.keep hBn
  replace ki := ki.keep hBn
  replace hBB := PM.hid (PM.chain hBB.out hBn)
  have hsi := sameIds_any (.slice pa3 P2 pc3) (.slice pa4 P2 pc4) PR.2 PR.2 w8 (hsv.out.2.2.1.keep hBn) (hsv.out.2.2.2.keep hBn)
  clear hBn hsv
  go_wp2_with fail
  refine hsi.mono ?_
  clear hsi
  rintro e w9 ⟨hh, hBn⟩
  rcases hh with ⟨rfl, -⟩ | ⟨-, hno⟩
  case inr => first | exact (hno rfl).elim | exact (hno trivial).elim
  replace kg := kg.keep hBn
  replace ki := ki.keep hBn
  replace hBB := PM.hid (PM.chain hBB.out hBn)
  have kgh := PM.hid kg
  have kih := PM.hid ki
  clear hBn kg ki
  go_upto_region 8 with fail
  refine PM.wp_region_st [some 57, some 58, some 59, some 60, some 61, some 62, some 63, some 64, some 65, some 66, some 67, some 18] [fun x _ => x = .pointer (some ⟨g, 2, none⟩), fun x _ => x = .slice a1 n1 c1, fun x _ => x = .slice ra rn rc, fun x _ => x = .slice ka kn kc, fun x W => PM.EM PM.voL 4 W x (PM.tally ps ids ks), fun x _ => x = .pointer (some ⟨g, 2, none⟩), fun x _ => x = .slice a1 n1 c1, fun x _ => x = .slice ra rn rc, fun x _ => x = .slice ka kn kc, fun x W => PM.EM PM.voL 4 W x (PM.tally ps ids ks), fun x _ => x = .bool true, fun x _ => x = .bool true] (by kernel_rfl) (by kernel_rfl) (by kernel_rfl) ?_ ?_ ?_
  · simp only [List.forall_mem_cons]
    refine ⟨?_, ?_, ?_, ?_, ?_, ?_, ?_, ?_, ?_, ?_, ?_, ?_, by simp⟩
    all_goals (intro x W W' h hb; first | exact h | exact PM.BS.keep hb h | exact PM.OW.keep hb h | exact h.keep hb)
  · refine ⟨?_, ?_, ?_, ?_, ?_, ?_, ?_, ?_, ?_, ?_, ?_, ?_, trivial⟩
    all_goals
      intro a W hB hF hd
      have k2 := hF 2 rfl
      have k3 := hF 3 rfl
      have k5 := hF 5 rfl
      have hBW := PM.chain hBB.out hB
      have s0 : W.cell? ⟨g, 0, none⟩ = some (.int .u64 (lf : Int)) := (kgh.out.keep hB).cell 0
      have s1 : W.cell? ⟨g, 1, none⟩ = some (.slice a0 n0 c0) := (kgh.out.keep hB).cell 1
      have s2 : W.cell? ⟨g, 2, none⟩ = some (.slice a1 n1 c1) := (kgh.out.keep hB).cell 2
      have s3 : W.cell? ⟨g, 3, none⟩ = some (.slice a2 n2 c2) := (kgh.out.keep hB).cell 3
      clear hF
      simp [PM.depsL, PM.spec, PM.sl, Region.binds] at hd k2 k3 k5
      simp only [PM.wantL, PM.spec]
      try simp only [PM.sl]
      go_simp
    all_goals try exact Below.refl _ _
    · refine (tally_any (.slice a1 n1 c1) (.slice ra rn rc) (.slice ka kn kc) ps ids ks W (PM.EnL.keep hsh.out.2.1 hBW) (hih.out.keep hBW) (PM.MsL.keep hkh.out hBW) (by have := hf.out.2.1.1; omega) (by rw [← hRh.out]; omega)).mono ?_
      rintro e w' ⟨u, rfl, hu, hb⟩
      first | exact ⟨hb, hu.em PM.voL_len⟩ | exact ⟨hb, _, rfl, hu.em PM.voL_len⟩
    · refine (rtally_any (.slice a1 n1 c1) (.slice ra rn rc) (.slice ka kn kc) ps ids ks W (PM.EnL.keep hsh.out.2.1 hBW) (hih.out.keep hBW) (PM.MsL.keep hkh.out hBW) (by have := hf.out.2.1.1; omega) (by rw [← hRh.out]; omega)).mono ?_
      rintro e w' ⟨u, rfl, hu, hb⟩
      first | exact ⟨hb, hu⟩ | exact ⟨hb, _, rfl, hu⟩
    · refine (sameVos_any _ _ _ _ W (by first | exact hd.1 | exact hd.2) (by first | exact hd.2 | exact hd.1)).mono ?_
      rintro e w' ⟨hh, hb⟩
      rcases hh with ⟨rfl, -⟩ | ⟨-, hno⟩
      · first | exact ⟨hb, rfl⟩ | exact ⟨hb, _, rfl, rfl⟩
      · first | exact (hno rfl).elim | exact (hno trivial).elim
  · intro G W hB hF hS
    simp [PM.allSp, PM.spec] at hS
    have g18 : G 18 = .bool true := by simp [hS]
    have k0 := hF 0 rfl
    have k1 := hF 1 rfl
    have k2 := hF 2 rfl
    have k3 := hF 3 rfl
    have k4 := hF 4 rfl
    have k5 := hF 5 rfl
    have k6 := hF 6 rfl
    have k7 := hF 7 rfl
    have k8 := hF 8 rfl
    have k9 := hF 9 rfl
    have k10 := hF 10 rfl
    have k11 := hF 11 rfl
    have k12 := hF 12 rfl
    have k13 := hF 13 rfl
    have k14 := hF 14 rfl
    have k15 := hF 15 rfl
    have k16 := hF 16 rfl
    have k17 := hF 17 rfl
    have k19 := hF 19 rfl
    have k20 := hF 20 rfl
    have k21 := hF 21 rfl
    have k22 := hF 22 rfl
    have k23 := hF 23 rfl
    have k24 := hF 24 rfl
    have k25 := hF 25 rfl
    have k26 := hF 26 rfl
    have k27 := hF 27 rfl
    have k28 := hF 28 rfl
    have k29 := hF 29 rfl
    have k30 := hF 30 rfl
    have k31 := hF 31 rfl
    have k32 := hF 32 rfl
    have k33 := hF 33 rfl
    have k34 := hF 34 rfl
    have k35 := hF 35 rfl
    have k36 := hF 36 rfl
    have k37 := hF 37 rfl
    have k38 := hF 38 rfl
    have k39 := hF 39 rfl
    have k40 := hF 40 rfl
    have k41 := hF 41 rfl
    have k42 := hF 42 rfl
    have k43 := hF 43 rfl
    have k44 := hF 44 rfl
    have k45 := hF 45 rfl
    have k46 := hF 46 rfl
    have k47 := hF 47 rfl
    have k48 := hF 48 rfl
    have k49 := hF 49 rfl
    have k50 := hF 50 rfl
    have k51 := hF 51 rfl
    have k52 := hF 52 rfl
    have k53 := hF 53 rfl
    have k54 := hF 54 rfl
    have k55 := hF 55 rfl
    have k56 := hF 56 rfl
    have k68 := hF 68 rfl
    have k69 := hF 69 rfl
    have k70 := hF 70 rfl
    have k71 := hF 71 rfl
    have k72 := hF 72 rfl
    have k73 := hF 73 rfl
    have k74 := hF 74 rfl
    have k75 := hF 75 rfl
    have k76 := hF 76 rfl
    have k77 := hF 77 rfl
    have k78 := hF 78 rfl
    have k79 := hF 79 rfl
    have k80 := hF 80 rfl
    have k81 := hF 81 rfl
    have k82 := hF 82 rfl
    have k83 := hF 83 rfl
    have k84 := hF 84 rfl
    have k85 := hF 85 rfl
    have k86 := hF 86 rfl
    have k87 := hF 87 rfl
    have k88 := hF 88 rfl
    have k89 := hF 89 rfl
    have k90 := hF 90 rfl
    have k91 := hF 91 rfl
    have k92 := hF 92 rfl
    have k93 := hF 93 rfl
    have k94 := hF 94 rfl
    have k95 := hF 95 rfl
    have k96 := hF 96 rfl
    have k97 := hF 97 rfl
    have k98 := hF 98 rfl
    have k99 := hF 99 rfl
    have k100 := hF 100 rfl
    have k101 := hF 101 rfl
    have k102 := hF 102 rfl
    have k103 := hF 103 rfl
    have k104 := hF 104 rfl
    have k105 := hF 105 rfl
    have k106 := hF 106 rfl
    have k107 := hF 107 rfl
    have k108 := hF 108 rfl
    have k109 := hF 109 rfl
    have k110 := hF 110 rfl
    have k111 := hF 111 rfl
    have k112 := hF 112 rfl
    have k113 := hF 113 rfl
    have k114 := hF 114 rfl
    simp [PM.sl] at k0 k1 k2 k3 k4 k5 k6 k7 k8 k9 k10 k11 k12 k13 k14 k15 k16 k17 k19 k20 k21 k22 k23 k24 k25 k26 k27 k28 k29 k30 k31 k32 k33 k34 k35 k36 k37 k38 k39 k40 k41 k42 k43 k44 k45 k46 k47 k48 k49 k50 k51 k52 k53 k54 k55 k56 k68 k69 k70 k71 k72 k73 k74 k75 k76 k77 k78 k79 k80 k81 k82 k83 k84 k85 k86 k87 k88 k89 k90 k91 k92 k93 k94 k95 k96 k97 k98 k99 k100 k101 k102 k103 k104 k105 k106 k107 k108 k109 k110 k111 k112 k113 k114
    rw [show ((List.range (Array.size _)).map G).toArray = #[G 0, G 1, G 2, G 3, G 4, G 5, G 6, G 7, G 8, G 9, G 10, G 11, G 12, G 13, G 14, G 15, G 16, G 17, G 18, G 19, G 20, G 21, G 22, G 23, G 24, G 25, G 26, G 27, G 28, G 29, G 30, G 31, G 32, G 33, G 34, G 35, G 36, G 37, G 38, G 39, G 40, G 41, G 42, G 43, G 44, G 45, G 46, G 47, G 48, G 49, G 50, G 51, G 52, G 53, G 54, G 55, G 56, G 57, G 58, G 59, G 60, G 61, G 62, G 63, G 64, G 65, G 66, G 67, G 68, G 69, G 70, G 71, G 72, G 73, G 74, G 75, G 76, G 77, G 78, G 79, G 80, G 81, G 82, G 83, G 84, G 85, G 86, G 87, G 88, G 89, G 90, G 91, G 92, G 93, G 94, G 95, G 96, G 97, G 98, G 99, G 100, G 101, G 102, G 103, G 104, G 105, G 106, G 107, G 108, G 109, G 110, G 111, G 112, G 113, G 114] from rfl]
    clear hF hS
    rw [g18, k0, k1, k2, k3, k4, k5, k6, k7, k8, k9, k10, k11, k12, k13, k14, k15, k16, k17, k19, k20, k21, k22, k23, k24, k25, k26, k27, k28, k29, k30, k31, k32, k33, k34, k35, k36, k37, k38, k39, k40, k41, k42, k43, k44, k45, k46, k47, k48, k49, k50, k51, k52, k53, k54, k55, k56, k68, k69, k70, k71, k72, k73, k74, k75, k76, k77, k78, k79, k80, k81, k82, k83, k84, k85, k86, k87, k88, k89, k90, k91, k92, k93, k94, k95, k96, k97, k98, k99, k100, k101, k102, k103, k104, k105, k106, k107, k108, k109, k110, k111, k112, k113, k114]
    clear g18 k0 k1 k2 k3 k4 k5 k6 k7 k8 k9 k10 k11 k12 k13 k14 k15 k16 k17 k19 k20 k21 k22 k23 k24 k25 k26 k27 k28 k29 k30 k31 k32 k33 k34 k35 k36 k37 k38 k39 k40 k41 k42 k43 k44 k45 k46 k47 k48 k49 k50 k51 k52 k53 k54 k55 k56 k68 k69 k70 k71 k72 k73 k74 k75 k76 k77 k78 k79 k80 k81 k82 k83 k84 k85 k86 k87 k88 k89 k90 k91 k92 k93 k94 k95 k96 k97 k98 k99 k100 k101 k102 k103 k104 k105 k106 k107 k108 k109 k110 k111 k112 k113 k114
    have kg8 := PM.hid (kgh.out.keep hB)
    have ki8 := PM.hid (kih.out.keep hB)
    replace hBB := PM.hid (PM.chain hBB.out hB)
    obtain ⟨w8, hw8⟩ : ∃ x, x = W := ⟨_, rfl⟩
    rw [← hw8] at hBB kg8 ki8 ⊢
    clear hw8 hB kgh kih
    go_wp2_with fail
    go_loopw [19, 20, 21] (fun four ix _ wr => ∃ k : Nat, ix = .int .i64 k ∧ k ≤ kn ∧ four = .bool true ∧ Below w8.heap.size w8 wr) (fun _ ix _ _ => kn - (intOf ix).toNat)
    case atStart => exact ⟨0, rfl, by omega, rfl, Below.refl _ _⟩
    case round =>
      obtain ⟨k, rfl, hk, rfl, hB1⟩ := hrel
      have hin := PM.hid hB1
      clear hB1
      obtain ⟨wq, hwq⟩ : ∃ W, W = wr := ⟨_, rfl⟩
      rw [← hwq] at hin ⊢
      clear hwq
      by_cases hlt : k < kn
      · obtain ⟨z, hz⟩ : ∃ z, ks[k]? = some z := ⟨ks[k]'(by rw [← hKh.out]; exact hlt), List.getElem?_eq_getElem _⟩
        obtain ⟨b, off, hbe, hce⟩ := PM.RR.opn hkh.out (by rw [← hKh.out]; omega)
        subst hbe
        obtain ⟨cs, hl0, hR⟩ := hce k z hz
        obtain ⟨qa0, qc0, qa1, qc1, qa2, qc2, qa3, qc3, qa4, qc4, qa5, qc5, hcs, hvo, -⟩ := PM.msR_open hR
        rw [hcs] at hl0
        clear hz hce hR hcs cs
        obtain ⟨qn0, hq0⟩ : ∃ q, q = z.votes.length := ⟨_, rfl⟩
        obtain ⟨qn1, hq1⟩ : ∃ q, q = z.asks.length := ⟨_, rfl⟩
        obtain ⟨qn2, hq2⟩ : ∃ q, q = z.entries.length := ⟨_, rfl⟩
        obtain ⟨qn3, hq3⟩ : ∃ q, q = z.prepares.length := ⟨_, rfl⟩
        obtain ⟨qn4, hq4⟩ : ∃ q, q = z.aborts.length := ⟨_, rfl⟩
        obtain ⟨qn5, hq5⟩ : ∃ q, q = z.ends.length := ⟨_, rfl⟩
        rw [← hq0, ← hq1, ← hq2, ← hq3, ← hq4, ← hq5] at hl0
        rw [← hq0] at hvo
        have zl := PM.hid hl0
        have zv := PM.hid hvo
        clear hl0 hvo hq0 hq1 hq2 hq3 hq4 hq5
        go_upto_region 13 with fail
        refine PM.wp_region_st [some 74, some 75, some 76, some 77, some 78, some 79, some 80, some 81, some 82, some 83, some 84, some 85, some 86, some 87, some 88, some 21] [fun x _ => x = .agg #[.int .u64 (lf : Int), .slice a0 n0 c0, .slice a1 n1 c1, .slice a2 n2 c2], fun x _ => x = .slice va N vc, fun x _ => x = .slice (some ⟨b, off, none⟩) kn kc, fun x _ => x = .int .i64 (k : Int), fun x _ => x = .pointer (some ⟨b, off + k * 8, none⟩), fun x _ => x = .agg #[.int .i64 z.kind, .int .u64 (z.hav : Int), .slice qa0 qn0 qc0, .slice qa1 qn1 qc1, .slice qa2 qn2 qc2, .slice qa3 qn3 qc3, .slice qa4 qn4 qc4, .slice qa5 qn5 qc5], fun x W => PM.EM PM.idL 3 W x (PM.endsL (fun i => PM.hasE ls i || PM.hasE ps i || PM.hasE l i) z.votes), fun x _ => x = .agg #[.int .u64 (lf : Int), .slice a0 n0 c0, .slice a1 n1 c1, .slice a2 n2 c2], fun x _ => x = .slice va N vc, fun x _ => x = .slice (some ⟨b, off, none⟩) kn kc, fun x _ => x = .int .i64 (k : Int), fun x _ => x = .pointer (some ⟨b, off + k * 8, none⟩), fun x _ => x = .agg #[.int .i64 z.kind, .int .u64 (z.hav : Int), .slice qa0 qn0 qc0, .slice qa1 qn1 qc1, .slice qa2 qn2 qc2, .slice qa3 qn3 qc3, .slice qa4 qn4 qc4, .slice qa5 qn5 qc5], fun x W => PM.EM PM.idL 3 W x (PM.endsL (fun i => PM.hasE ls i || PM.hasE ps i || PM.hasE l i) z.votes), fun x _ => x = .bool true, fun x _ => x = .bool true] (by kernel_rfl) (by kernel_rfl) (by kernel_rfl) ?_ ?_ ?_
        · simp only [List.forall_mem_cons]
          refine ⟨?_, ?_, ?_, ?_, ?_, ?_, ?_, ?_, ?_, ?_, ?_, ?_, ?_, ?_, ?_, ?_, by simp⟩
          all_goals (intro x W W' h hb; first | exact h | exact PM.BS.keep hb h | exact PM.OW.keep hb h | exact h.keep hb)
        · refine ⟨?_, ?_, ?_, ?_, ?_, ?_, ?_, ?_, ?_, ?_, ?_, ?_, ?_, ?_, ?_, ?_, trivial⟩
          all_goals
            intro a W hB hF hd
            have k1 := hF 1 rfl
            have k3 := hF 3 rfl
            have k5 := hF 5 rfl
            have k20 := hF 20 rfl
            have hBW := PM.chain hBB.out (PM.chain hin.out hB)
            have kgW := kg8.out.keep (PM.chain hin.out hB)
            have s0 : W.cell? ⟨g, 0, none⟩ = some (.int .u64 (lf : Int)) := kgW.cell 0
            have s1 : W.cell? ⟨g, 1, none⟩ = some (.slice a0 n0 c0) := kgW.cell 1
            have s2 : W.cell? ⟨g, 2, none⟩ = some (.slice a1 n1 c1) := kgW.cell 2
            have s3 : W.cell? ⟨g, 3, none⟩ = some (.slice a2 n2 c2) := kgW.cell 3
            have d0 : W.cell? ⟨b, off + k * 8, none⟩ = some (.int .i64 z.kind) := PM.cellA hBW (zl.out 0 _ rfl)
            have d1 : W.cell? ⟨b, off + k * 8 + 1, none⟩ = some (.int .u64 (z.hav : Int)) := PM.cellA hBW (zl.out 1 _ rfl)
            have d2 : W.cell? ⟨b, off + k * 8 + 2, none⟩ = some (.slice qa0 qn0 qc0) := PM.cellA hBW (zl.out 2 _ rfl)
            have d3 : W.cell? ⟨b, off + k * 8 + 3, none⟩ = some (.slice qa1 qn1 qc1) := PM.cellA hBW (zl.out 3 _ rfl)
            have d4 : W.cell? ⟨b, off + k * 8 + 4, none⟩ = some (.slice qa2 qn2 qc2) := PM.cellA hBW (zl.out 4 _ rfl)
            have d5 : W.cell? ⟨b, off + k * 8 + 5, none⟩ = some (.slice qa3 qn3 qc3) := PM.cellA hBW (zl.out 5 _ rfl)
            have d6 : W.cell? ⟨b, off + k * 8 + 6, none⟩ = some (.slice qa4 qn4 qc4) := PM.cellA hBW (zl.out 6 _ rfl)
            have d7 : W.cell? ⟨b, off + k * 8 + 7, none⟩ = some (.slice qa5 qn5 qc5) := PM.cellA hBW (zl.out 7 _ rfl)
            clear hF
            simp [PM.depsL, PM.spec, PM.sl, Region.binds] at hd k1 k3 k5 k20
            simp only [PM.wantL, PM.spec]
            try simp only [PM.sl]
            go_simp
          all_goals try exact Below.refl _ _
          · refine (ends_any lf a0 n0 c0 a1 n1 c1 a2 n2 c2 va N vc z.kind z.hav qa0 qn0 qc0 qa1 qn1 qc1 qa2 qn2 qc2 qa3 qn3 qc3 qa4 qn4 qc4 qa5 qn5 qc5 ls ps l z.votes W (PM.EnL.keep hsh.out.1 hBW) (PM.EnL.keep hsh.out.2.1 hBW) (PM.EnL.keep hlh.out hBW) (zv.out.keep hBW)).mono ?_
            rintro e w' ⟨u, rfl, hu, hb⟩
            first | exact ⟨hb, hu.em PM.idL_len⟩ | exact ⟨hb, _, rfl, hu.em PM.idL_len⟩
          · refine (rends_any lf a0 n0 c0 a1 n1 c1 a2 n2 c2 va N vc z.kind z.hav qa0 qn0 qc0 qa1 qn1 qc1 qa2 qn2 qc2 qa3 qn3 qc3 qa4 qn4 qc4 qa5 qn5 qc5 ls ps l z.votes W (PM.EnL.keep hsh.out.1 hBW) (PM.EnL.keep hsh.out.2.1 hBW) (PM.EnL.keep hlh.out hBW) (zv.out.keep hBW)).mono ?_
            rintro e w' ⟨u, rfl, hu, hb⟩
            first | exact ⟨hb, hu.em PM.idL_len⟩ | exact ⟨hb, _, rfl, hu.em PM.idL_len⟩
          · refine (sameIds_any _ _ _ _ W (by first | exact hd.1 | exact hd.2) (by first | exact hd.2 | exact hd.1)).mono ?_
            rintro e w' ⟨hh, hb⟩
            rcases hh with ⟨rfl, -⟩ | ⟨-, hno⟩
            · first | exact ⟨hb, rfl⟩ | exact ⟨hb, _, rfl, rfl⟩
            · first | exact (hno rfl).elim | exact (hno trivial).elim
        · intro G W hB hF hS
          simp [PM.allSp, PM.spec] at hS
          have g21 : G 21 = .bool true := by simp [hS]
          have k0 := hF 0 rfl
          have k1 := hF 1 rfl
          have k2 := hF 2 rfl
          have k3 := hF 3 rfl
          have k4 := hF 4 rfl
          have k5 := hF 5 rfl
          have k6 := hF 6 rfl
          have k7 := hF 7 rfl
          have k8 := hF 8 rfl
          have k9 := hF 9 rfl
          have k10 := hF 10 rfl
          have k11 := hF 11 rfl
          have k12 := hF 12 rfl
          have k13 := hF 13 rfl
          have k14 := hF 14 rfl
          have k15 := hF 15 rfl
          have k16 := hF 16 rfl
          have k17 := hF 17 rfl
          have k18 := hF 18 rfl
          have k19 := hF 19 rfl
          have k20 := hF 20 rfl
          have k22 := hF 22 rfl
          have k23 := hF 23 rfl
          have k24 := hF 24 rfl
          have k25 := hF 25 rfl
          have k26 := hF 26 rfl
          have k27 := hF 27 rfl
          have k28 := hF 28 rfl
          have k29 := hF 29 rfl
          have k30 := hF 30 rfl
          have k31 := hF 31 rfl
          have k32 := hF 32 rfl
          have k33 := hF 33 rfl
          have k34 := hF 34 rfl
          have k35 := hF 35 rfl
          have k36 := hF 36 rfl
          have k37 := hF 37 rfl
          have k38 := hF 38 rfl
          have k39 := hF 39 rfl
          have k40 := hF 40 rfl
          have k41 := hF 41 rfl
          have k42 := hF 42 rfl
          have k43 := hF 43 rfl
          have k44 := hF 44 rfl
          have k45 := hF 45 rfl
          have k46 := hF 46 rfl
          have k47 := hF 47 rfl
          have k48 := hF 48 rfl
          have k49 := hF 49 rfl
          have k50 := hF 50 rfl
          have k51 := hF 51 rfl
          have k52 := hF 52 rfl
          have k53 := hF 53 rfl
          have k54 := hF 54 rfl
          have k55 := hF 55 rfl
          have k56 := hF 56 rfl
          have k57 := hF 57 rfl
          have k58 := hF 58 rfl
          have k59 := hF 59 rfl
          have k60 := hF 60 rfl
          have k61 := hF 61 rfl
          have k62 := hF 62 rfl
          have k63 := hF 63 rfl
          have k64 := hF 64 rfl
          have k65 := hF 65 rfl
          have k66 := hF 66 rfl
          have k67 := hF 67 rfl
          have k68 := hF 68 rfl
          have k69 := hF 69 rfl
          have k70 := hF 70 rfl
          have k71 := hF 71 rfl
          have k72 := hF 72 rfl
          have k73 := hF 73 rfl
          have k89 := hF 89 rfl
          have k90 := hF 90 rfl
          have k91 := hF 91 rfl
          have k92 := hF 92 rfl
          have k93 := hF 93 rfl
          have k94 := hF 94 rfl
          have k95 := hF 95 rfl
          have k96 := hF 96 rfl
          have k97 := hF 97 rfl
          have k98 := hF 98 rfl
          have k99 := hF 99 rfl
          have k100 := hF 100 rfl
          have k101 := hF 101 rfl
          have k102 := hF 102 rfl
          have k103 := hF 103 rfl
          have k104 := hF 104 rfl
          have k105 := hF 105 rfl
          have k106 := hF 106 rfl
          have k107 := hF 107 rfl
          have k108 := hF 108 rfl
          have k109 := hF 109 rfl
          have k110 := hF 110 rfl
          have k111 := hF 111 rfl
          have k112 := hF 112 rfl
          have k113 := hF 113 rfl
          have k114 := hF 114 rfl
          simp [PM.sl] at k0 k1 k2 k3 k4 k5 k6 k7 k8 k9 k10 k11 k12 k13 k14 k15 k16 k17 k18 k19 k20 k22 k23 k24 k25 k26 k27 k28 k29 k30 k31 k32 k33 k34 k35 k36 k37 k38 k39 k40 k41 k42 k43 k44 k45 k46 k47 k48 k49 k50 k51 k52 k53 k54 k55 k56 k57 k58 k59 k60 k61 k62 k63 k64 k65 k66 k67 k68 k69 k70 k71 k72 k73 k89 k90 k91 k92 k93 k94 k95 k96 k97 k98 k99 k100 k101 k102 k103 k104 k105 k106 k107 k108 k109 k110 k111 k112 k113 k114
          rw [show ((List.range (Array.size _)).map G).toArray = #[G 0, G 1, G 2, G 3, G 4, G 5, G 6, G 7, G 8, G 9, G 10, G 11, G 12, G 13, G 14, G 15, G 16, G 17, G 18, G 19, G 20, G 21, G 22, G 23, G 24, G 25, G 26, G 27, G 28, G 29, G 30, G 31, G 32, G 33, G 34, G 35, G 36, G 37, G 38, G 39, G 40, G 41, G 42, G 43, G 44, G 45, G 46, G 47, G 48, G 49, G 50, G 51, G 52, G 53, G 54, G 55, G 56, G 57, G 58, G 59, G 60, G 61, G 62, G 63, G 64, G 65, G 66, G 67, G 68, G 69, G 70, G 71, G 72, G 73, G 74, G 75, G 76, G 77, G 78, G 79, G 80, G 81, G 82, G 83, G 84, G 85, G 86, G 87, G 88, G 89, G 90, G 91, G 92, G 93, G 94, G 95, G 96, G 97, G 98, G 99, G 100, G 101, G 102, G 103, G 104, G 105, G 106, G 107, G 108, G 109, G 110, G 111, G 112, G 113, G 114] from rfl]
          clear hF hS
          rw [g21, k0, k1, k2, k3, k4, k5, k6, k7, k8, k9, k10, k11, k12, k13, k14, k15, k16, k17, k18, k19, k20, k22, k23, k24, k25, k26, k27, k28, k29, k30, k31, k32, k33, k34, k35, k36, k37, k38, k39, k40, k41, k42, k43, k44, k45, k46, k47, k48, k49, k50, k51, k52, k53, k54, k55, k56, k57, k58, k59, k60, k61, k62, k63, k64, k65, k66, k67, k68, k69, k70, k71, k72, k73, k89, k90, k91, k92, k93, k94, k95, k96, k97, k98, k99, k100, k101, k102, k103, k104, k105, k106, k107, k108, k109, k110, k111, k112, k113, k114]
          clear g21 k0 k1 k2 k3 k4 k5 k6 k7 k8 k9 k10 k11 k12 k13 k14 k15 k16 k17 k18 k19 k20 k22 k23 k24 k25 k26 k27 k28 k29 k30 k31 k32 k33 k34 k35 k36 k37 k38 k39 k40 k41 k42 k43 k44 k45 k46 k47 k48 k49 k50 k51 k52 k53 k54 k55 k56 k57 k58 k59 k60 k61 k62 k63 k64 k65 k66 k67 k68 k69 k70 k71 k72 k73 k89 k90 k91 k92 k93 k94 k95 k96 k97 k98 k99 k100 k101 k102 k103 k104 k105 k106 k107 k108 k109 k110 k111 k112 k113 k114
          have hin2 := PM.hid (PM.chain hin.out hB)
          clear hB
          go_wp2_with fail
          exact ⟨⟨k + 1, by go_num, by omega, rfl, hin2⟩, by simp only [intOf]; omega⟩
      · obtain rfl : kn = k := by omega
        go_upto_region 15 with fail
        refine PM.wp_region_st [some 93, some 94, some 95, some 96, some 97, some 98, some 99, some 100, some 101, some 102, some 103, some 104, some 105, some 106, some 107, some 108, some 109, some 110, some 111, some 112, some 113, some 114, some 10] [fun x _ => x = .bool true, fun x _ => x = .bool true, fun x _ => x = .bool true, fun x _ => x = .bool true, fun x _ => x = .bool true, fun x _ => x = .bool true, fun x _ => x = .bool true, fun x _ => x = .bool true, fun x _ => x = .bool true, fun x _ => x = .bool true, fun x _ => x = .bool true, fun x _ => x = .bool true, fun x _ => x = .bool true, fun x _ => x = .bool true, fun x _ => x = .slice ka kn kc, fun x _ => x = .agg #[.int .i64 i.br, .int .u64 (i.life : Int), .int .u64 (i.ser : Int)], fun x _ => x = .int .i64 (PM.says ks i), fun x _ => x = .slice ka kn kc, fun x _ => x = .agg #[.int .i64 i.br, .int .u64 (i.life : Int), .int .u64 (i.ser : Int)], fun x _ => x = .int .i64 (PM.says ks i), fun x _ => x = .bool true, fun x _ => x = .bool true, fun x _ => x = .bool true] (by kernel_rfl) (by kernel_rfl) (by kernel_rfl) ?_ ?_ ?_
        · simp only [List.forall_mem_cons]
          refine ⟨?_, ?_, ?_, ?_, ?_, ?_, ?_, ?_, ?_, ?_, ?_, ?_, ?_, ?_, ?_, ?_, ?_, ?_, ?_, ?_, ?_, ?_, ?_, by simp⟩
          all_goals (intro x W W' h hb; first | exact h | exact PM.BS.keep hb h | exact PM.OW.keep hb h)
        · refine ⟨?_, ?_, ?_, ?_, ?_, ?_, ?_, ?_, ?_, ?_, ?_, ?_, ?_, ?_, ?_, ?_, ?_, ?_, ?_, ?_, ?_, ?_, ?_, trivial⟩
          all_goals
            intro a W hB hF hd
            have k3 := hF 3 rfl
            have k9 := hF 9 rfl
            have k11 := hF 11 rfl
            have k16 := hF 16 rfl
            have k17 := hF 17 rfl
            have k18 := hF 18 rfl
            have k19 := hF 19 rfl
            have hBW := PM.chain hBB.out (PM.chain hin.out hB)
            have kiW := ki8.out.keep (PM.chain hin.out hB)
            have y0 : W.cell? ⟨gi, 0, none⟩ = some (.int .i64 i.br) := kiW.cell 0
            have y1 : W.cell? ⟨gi, 1, none⟩ = some (.int .u64 (i.life : Int)) := kiW.cell 1
            have y2 : W.cell? ⟨gi, 2, none⟩ = some (.int .u64 (i.ser : Int)) := kiW.cell 2
            clear hF
            simp [PM.depsL, PM.spec, PM.sl, Region.binds] at hd k3 k9 k11 k16 k17 k18 k19
            simp only [PM.wantL, PM.spec]
            try simp only [PM.sl]
            go_simp
          all_goals try exact Below.refl _ _
          · refine (says_any (.slice ka kn kc) i ks W (PM.MsL.keep hkh.out hBW)).mono ?_
            rintro e w' ⟨rfl, hb⟩
            first | exact ⟨hb, rfl⟩ | exact ⟨hb, _, rfl, rfl⟩
          · refine (rsays_any (.slice ka kn kc) i ks W (PM.MsL.keep hkh.out hBW)).mono ?_
            rintro e w' ⟨rfl, hb⟩
            first | exact ⟨hb, rfl⟩ | exact ⟨hb, _, rfl, rfl⟩
        · intro G W hB hF hS
          simp [PM.allSp, PM.spec] at hS
          have g10 : G 10 = .bool true := by simp [hS]
          have k0 := hF 0 rfl
          have k1 := hF 1 rfl
          have k2 := hF 2 rfl
          have k3 := hF 3 rfl
          have k4 := hF 4 rfl
          have k5 := hF 5 rfl
          have k6 := hF 6 rfl
          have k7 := hF 7 rfl
          have k8 := hF 8 rfl
          have k9 := hF 9 rfl
          have k11 := hF 11 rfl
          have k12 := hF 12 rfl
          have k13 := hF 13 rfl
          have k14 := hF 14 rfl
          have k15 := hF 15 rfl
          have k16 := hF 16 rfl
          have k17 := hF 17 rfl
          have k18 := hF 18 rfl
          have k19 := hF 19 rfl
          have k20 := hF 20 rfl
          have k21 := hF 21 rfl
          have k22 := hF 22 rfl
          have k23 := hF 23 rfl
          have k24 := hF 24 rfl
          have k25 := hF 25 rfl
          have k26 := hF 26 rfl
          have k27 := hF 27 rfl
          have k28 := hF 28 rfl
          have k29 := hF 29 rfl
          have k30 := hF 30 rfl
          have k31 := hF 31 rfl
          have k32 := hF 32 rfl
          have k33 := hF 33 rfl
          have k34 := hF 34 rfl
          have k35 := hF 35 rfl
          have k36 := hF 36 rfl
          have k37 := hF 37 rfl
          have k38 := hF 38 rfl
          have k39 := hF 39 rfl
          have k40 := hF 40 rfl
          have k41 := hF 41 rfl
          have k42 := hF 42 rfl
          have k43 := hF 43 rfl
          have k44 := hF 44 rfl
          have k45 := hF 45 rfl
          have k46 := hF 46 rfl
          have k47 := hF 47 rfl
          have k48 := hF 48 rfl
          have k49 := hF 49 rfl
          have k50 := hF 50 rfl
          have k51 := hF 51 rfl
          have k52 := hF 52 rfl
          have k53 := hF 53 rfl
          have k54 := hF 54 rfl
          have k55 := hF 55 rfl
          have k56 := hF 56 rfl
          have k57 := hF 57 rfl
          have k58 := hF 58 rfl
          have k59 := hF 59 rfl
          have k60 := hF 60 rfl
          have k61 := hF 61 rfl
          have k62 := hF 62 rfl
          have k63 := hF 63 rfl
          have k64 := hF 64 rfl
          have k65 := hF 65 rfl
          have k66 := hF 66 rfl
          have k67 := hF 67 rfl
          have k68 := hF 68 rfl
          have k69 := hF 69 rfl
          have k70 := hF 70 rfl
          have k71 := hF 71 rfl
          have k72 := hF 72 rfl
          have k73 := hF 73 rfl
          have k74 := hF 74 rfl
          have k75 := hF 75 rfl
          have k76 := hF 76 rfl
          have k77 := hF 77 rfl
          have k78 := hF 78 rfl
          have k79 := hF 79 rfl
          have k80 := hF 80 rfl
          have k81 := hF 81 rfl
          have k82 := hF 82 rfl
          have k83 := hF 83 rfl
          have k84 := hF 84 rfl
          have k85 := hF 85 rfl
          have k86 := hF 86 rfl
          have k87 := hF 87 rfl
          have k88 := hF 88 rfl
          have k89 := hF 89 rfl
          have k90 := hF 90 rfl
          have k91 := hF 91 rfl
          have k92 := hF 92 rfl
          simp [PM.sl] at k0 k1 k2 k3 k4 k5 k6 k7 k8 k9 k11 k12 k13 k14 k15 k16 k17 k18 k19 k20 k21 k22 k23 k24 k25 k26 k27 k28 k29 k30 k31 k32 k33 k34 k35 k36 k37 k38 k39 k40 k41 k42 k43 k44 k45 k46 k47 k48 k49 k50 k51 k52 k53 k54 k55 k56 k57 k58 k59 k60 k61 k62 k63 k64 k65 k66 k67 k68 k69 k70 k71 k72 k73 k74 k75 k76 k77 k78 k79 k80 k81 k82 k83 k84 k85 k86 k87 k88 k89 k90 k91 k92
          rw [show ((List.range (Array.size _)).map G).toArray = #[G 0, G 1, G 2, G 3, G 4, G 5, G 6, G 7, G 8, G 9, G 10, G 11, G 12, G 13, G 14, G 15, G 16, G 17, G 18, G 19, G 20, G 21, G 22, G 23, G 24, G 25, G 26, G 27, G 28, G 29, G 30, G 31, G 32, G 33, G 34, G 35, G 36, G 37, G 38, G 39, G 40, G 41, G 42, G 43, G 44, G 45, G 46, G 47, G 48, G 49, G 50, G 51, G 52, G 53, G 54, G 55, G 56, G 57, G 58, G 59, G 60, G 61, G 62, G 63, G 64, G 65, G 66, G 67, G 68, G 69, G 70, G 71, G 72, G 73, G 74, G 75, G 76, G 77, G 78, G 79, G 80, G 81, G 82, G 83, G 84, G 85, G 86, G 87, G 88, G 89, G 90, G 91, G 92, G 93, G 94, G 95, G 96, G 97, G 98, G 99, G 100, G 101, G 102, G 103, G 104, G 105, G 106, G 107, G 108, G 109, G 110, G 111, G 112, G 113, G 114] from rfl]
          clear hF hS
          rw [g10, k0, k1, k2, k3, k4, k5, k6, k7, k8, k9, k11, k12, k13, k14, k15, k16, k17, k18, k19, k20, k21, k22, k23, k24, k25, k26, k27, k28, k29, k30, k31, k32, k33, k34, k35, k36, k37, k38, k39, k40, k41, k42, k43, k44, k45, k46, k47, k48, k49, k50, k51, k52, k53, k54, k55, k56, k57, k58, k59, k60, k61, k62, k63, k64, k65, k66, k67, k68, k69, k70, k71, k72, k73, k74, k75, k76, k77, k78, k79, k80, k81, k82, k83, k84, k85, k86, k87, k88, k89, k90, k91, k92]
          clear g10 k0 k1 k2 k3 k4 k5 k6 k7 k8 k9 k11 k12 k13 k14 k15 k16 k17 k18 k19 k20 k21 k22 k23 k24 k25 k26 k27 k28 k29 k30 k31 k32 k33 k34 k35 k36 k37 k38 k39 k40 k41 k42 k43 k44 k45 k46 k47 k48 k49 k50 k51 k52 k53 k54 k55 k56 k57 k58 k59 k60 k61 k62 k63 k64 k65 k66 k67 k68 k69 k70 k71 k72 k73 k74 k75 k76 k77 k78 k79 k80 k81 k82 k83 k84 k85 k86 k87 k88 k89 k90 k91 k92
          have hBe := PM.hid (PM.chain hBB.out (PM.chain hin.out hB))
          clear hB
          go_wp2_with fail
          go_ret
          exact ⟨rfl, hBe.out⟩
theorem voteTells_walk (lf : Nat) (v0 v1 v2 : Value) (ls ps : List PM.En) (ab : List PM.Id) (v : Value) (l : List PM.En) (u1 : Value) (ids : List PM.Id) (u2 : Value) (ks : List PM.Ms) (i0 i1 i2 : Int) (h0 : (Lit.int .i64 i0).wf = true) (h1 : (Lit.int .u64 i1).wf = true) (h2 : (Lit.int .u64 i2).wf = true) (w : World) (hs : PM.StR w v0 v1 v2 ls ps ab) (hv : PM.EnL w v l) (hw : ∀ x ∈ l, PM.En.wf x) (hi : PM.EM PM.idL 3 w u1 ids) (hk : PM.MsL w u2 ks) :
    Calls Try.prog 4 #[.agg #[.int .u64 (lf : Int), v0, v1, v2], v, u1, u2, .agg #[.int .i64 i0, .int .u64 i1, .int .u64 i2]] w fun e w' => e = .returned (.bool true) ∧ Below w.heap.size w w' := by
  obtain ⟨n1, rfl, _⟩ := PM.nat_u64 h1
  obtain ⟨n2, rfl, _⟩ := PM.nat_u64 h2
  obtain ⟨a0, c0, rfl⟩ := hs.1.len
  obtain ⟨a1, c1, rfl⟩ := hs.2.1.len
  obtain ⟨a2, c2, rfl⟩ := hs.2.2.len
  obtain ⟨va, vc, rfl⟩ := hv.len
  obtain ⟨ra, rc, rfl⟩ := hi.len
  obtain ⟨ka, kc, rfl⟩ := hk.len
  exact voteTells_walkA lf a0 _ c0 a1 _ c1 a2 _ c2 va _ vc ra _ rc ka _ kc ⟨i0, n1, n2⟩ ls ps l ab ids ks w hs hv hi hk hw
end Go.Proofs.Ytjninckmgkaliaa
