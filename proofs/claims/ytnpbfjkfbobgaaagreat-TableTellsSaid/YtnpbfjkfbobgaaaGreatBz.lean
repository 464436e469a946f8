/-
  THE WALK of TableTells.
-/
import Derived.Test.YtnpbfjkfbobgaaaGreatBn
import Derived.Test.YtnpbfjkfbobgaaaGreatTQ
import Derived.Test.YtnpbfjkfbobgaaaGreatBu
import Derived.Test.YtnpbfjkfbobgaaaGreatBr
import Derived.Test.YtnpbfjkfbobgaaaGreatJO
namespace Go.Proofs.YtnpbfjkfbobgaaaGreat
open Go.RowKit
set_option linter.unusedVariables false
set_option linter.unusedSimpArgs false
namespace PM
def EnV (y : En) (v : Value) (W : World) : Prop := ∃ fv ev, v = .agg (enC y fv ev).toArray ∧ TV W fv y.fil ∧ EVL W ev y.evs
theorem EnV.keep {y : En} {v : Value} {W W' : World} (h : EnV y v W) (hb : Below W.heap.size W W') : EnV y v W' := by
  obtain ⟨fv, ev, h1, h2, h3⟩ := h
  exact ⟨fv, ev, h1, h2.keep hb, EVL.keepO hb h3⟩
end PM
set_option maxRecDepth 100000 in
set_option maxHeartbeats 32000000 in
theorem tableTells_walkA (va : Option Addr) (N vc : Nat) (l : List PM.En) (ca : Option Addr) (cn cc : Nat) (cs : List Int) (c : Int) (x : PM.En) (fa : Option Addr) (F fc : Nat) (ea : Option Addr) (L ec : Nat) (w : World) (hF : F = x.fil.length) (hL : L = x.evs.length) (hv : PM.EnL w (.slice va N vc) l) (hw : ∀ y ∈ l, PM.En.wf y) (hx : x.wf) (hf : PM.TV w (.slice fa F fc) x.fil) (he : PM.EVL w (.slice ea L ec) x.evs) (hcs : PM.ES PM.iv w (.slice ca cn cc) cs) :
    Calls Tryz.prog 3 #[.slice va N vc, .slice ca cn cc, .int .i64 c, .agg #[.int .i64 x.kind, .int .i64 x.id.br, .int .u64 (x.id.life : Int), .int .u64 (x.id.ser : Int), .int .i64 x.client, .int .u64 (x.sub : Int), .slice fa F fc, .slice ea L ec]] w fun e w' => e = .returned (.bool true) ∧ Below w.heap.size w w' := by
  have hc := PM.hid hcs
  clear hcs
  have hNh : Hid (N = l.length) := PM.hid (by
    obtain ⟨a, c, h⟩ := hv.len
    injection h)
  have hFh := PM.hid hF
  have hLh := PM.hid hL
  have hvh := PM.hid hv
  have hwf := PM.hid (And.intro hw hx)
  have hxr := PM.hid (And.intro hf he)
  clear hF hL hv hw hx hf he
  obtain ⟨gx, hgx⟩ : ∃ g, g = w.heap.size := ⟨_, rfl⟩
  obtain ⟨w1, hw1⟩ : ∃ W, W = w.alloc (.cells #[.int .i64 x.kind, .int .i64 x.id.br, .int .u64 (x.id.life : Int), .int .u64 (x.id.ser : Int), .int .i64 x.client, .int .u64 (x.sub : Int), .slice fa F fc, .slice ea L ec] 31) := ⟨_, rfl⟩
  have hal : Below w.heap.size w w1 := by rw [hw1]; exact (Below.refl _ _).alloc (Nat.le_refl _) _
  have kx : PM.BK w1 gx #[.int .i64 x.kind, .int .i64 x.id.br, .int .u64 (x.id.life : Int), .int .u64 (x.id.ser : Int), .int .i64 x.client, .int .u64 (x.sub : Int), .slice fa F fc, .slice ea L ec] 31 := by rw [hw1, hgx]; exact PM.BK.new _ _ _
  have hBB := PM.hid hal
  clear hal
  have hfw : Hid (∀ W : World, Below w.heap.size w W → Calls Tryz.prog 5 #[.agg #[.int .i64 x.kind, .int .i64 x.id.br, .int .u64 (x.id.life : Int), .int .u64 (x.id.ser : Int), .int .i64 x.client, .int .u64 (x.sub : Int), .slice fa F fc, .slice ea L ec]] W fun e w' => (e = .returned (.bool true) ∧ PM.FewEn x ∨ e = .returned (.bool false) ∧ ¬ PM.FewEn x) ∧ Below W.heap.size W w') := PM.hid fun W hb => by
    have h1 := hxr.out.1
    have h2 := hxr.out.2
    rw [hFh.out] at h1 ⊢
    rw [hLh.out] at h2 ⊢
    exact few11x_any x _ _ W (h1.keep hb) (PM.EVL.keepO hb h2)
  go_enter Tryz.func3, Tryz.ntmps3
  go_upto_region 1 with fail
  rw [← hw1, ← hgx]
  clear hw1 hgx
  go_wp2_with fail
  refine (awake15_any w1).mono ?_
  rintro e w2 ⟨rfl, hb⟩
  replace kx := kx.keep hb
  replace hBB := PM.hid (PM.chain hBB.out hb)
  clear hb
  by_cases h40 : cn ≤ 40
  case neg =>
    have q : decide ((40 : Int) < (cn : Int)) = true := by simp; omega
    have q' : (40 : Int) < (cn : Int) := by omega
    clear kx
    go_wp2_with fail
    go_ret
    exact ⟨by first | rfl | simp, hBB.out⟩
  have q : decide ((40 : Int) < (cn : Int)) = false := by simp; omega
  have q' : ¬ (40 : Int) < (cn : Int) := by omega
  have c0 : w2.cell? ⟨gx, 0, none⟩ = some (.int .i64 x.kind) := kx.cell 0
  have c1 : w2.cell? ⟨gx, 1, none⟩ = some (.int .i64 x.id.br) := kx.cell 1
  have c2 : w2.cell? ⟨gx, 2, none⟩ = some (.int .u64 (x.id.life : Int)) := kx.cell 2
  have c3 : w2.cell? ⟨gx, 3, none⟩ = some (.int .u64 (x.id.ser : Int)) := kx.cell 3
  have c4 : w2.cell? ⟨gx, 4, none⟩ = some (.int .i64 x.client) := kx.cell 4
  have c5 : w2.cell? ⟨gx, 5, none⟩ = some (.int .u64 (x.sub : Int)) := kx.cell 5
  have c6 : w2.cell? ⟨gx, 6, none⟩ = some (.slice fa F fc) := kx.cell 6
  have c7 : w2.cell? ⟨gx, 7, none⟩ = some (.slice ea L ec) := kx.cell 7
  go_wp2_with fail
  refine (hfw.out w2 hBB.out).mono ?_
  rintro e w3 ⟨hFw, hb⟩
  clear c0 c1 c2 c3 c4 c5 c6 c7
  replace kx := kx.keep hb
  replace hBB := PM.hid (PM.chain hBB.out hb)
  clear hb
  rcases hFw with ⟨rfl, hFw⟩ | ⟨rfl, hFw⟩
  case inr =>
    clear kx hFw
    go_wp2_with fail
    go_ret
    exact ⟨by first | rfl | simp, hBB.out⟩
  have hFwh := PM.hid hFw
  have hEnS := PM.hid hFw.enS
  clear hFw
  clear q q'
  go_wp2_with fail
  go_loopw [10, 11, 12, 13, 14] (fun sv sw ix _ _ wr => ∃ k : Nat, ix = .int .i64 k ∧ k ≤ N ∧ k ≤ 30 ∧ Hid (PM.SbL wr sv ((l.take k).foldl PM.gr1 []) ∧ PM.SbL wr sw ((l.take k).foldl PM.gr1 []) ∧ PM.BK wr gx #[.int .i64 x.kind, .int .i64 x.id.br, .int .u64 (x.id.life : Int), .int .u64 (x.id.ser : Int), .int .i64 x.client, .int .u64 (x.sub : Int), .slice fa F fc, .slice ea L ec] 31 ∧ Below w.heap.size w wr)) (fun _ _ ix _ _ _ => N - (intOf ix).toNat)
  case atStart => exact ⟨0, rfl, by omega, by omega, PM.hid ⟨PM.RR.nil _, PM.RR.nil _, kx, hBB.out⟩⟩
  case round =>
    obtain ⟨k, rfl, hk, hk30, hin⟩ := hrel
    obtain ⟨hT, hU, kx, hB⟩ := hin.out
    have hBB := PM.hid hB
    clear hin
    obtain ⟨t, ht⟩ : ∃ t, t = (l.take k).foldl PM.gr1 [] := ⟨_, rfl⟩
    have hok : PM.GrOk 30 t := by
      rw [ht]
      have h9 := PM.gr_ok (l.take k)
      exact ⟨h9.rise, Nat.le_trans h9.len (by rw [List.length_take]; omega), h9.fil⟩
    rw [← ht] at hT hU
    have hth := PM.hid ht
    have hokh := PM.hid hok
    clear ht hok
    obtain ⟨sa_, sc_, hse⟩ := PM.RR.len hT
    subst hse
    obtain ⟨sb_, sd_, hse⟩ := PM.RR.len hU
    subst hse
    obtain ⟨S, hS⟩ : ∃ P, P = t.length := ⟨_, rfl⟩
    rw [← hS] at hT hU ⊢
    have hSh := PM.hid hS
    have hTh := PM.hid (And.intro hT hU)
    clear hS hT hU
    by_cases hlt : k < N
    · by_cases h30 : k = 30
      · have q0 : decide ((k : Int) < (N : Int)) = true := by simp; omega
        have q1 : decide ((k : Int) < 30) = false := by simp; omega
        have q1' : ¬ (k : Int) < 30 := by omega
        have hfn := PM.hid (PM.gr_end l (k := k) (.inr h30))
        clear h30 hB
        have hsz : Hid (∀ y ∈ t, PM.szT y.fil) := PM.hid (by rw [hth.out]; exact PM.gr_sz0 _)
        have hfl := Filters15_any (.slice sa_ S sc_) ca cn cc t cs wr hTh.out.1 hokh.out.len hokh.out.fil (hc.out.keep hBB.out)
        go_wp2_with fail
        refine hfl.mono ?_
        clear hfl
        rintro e w7 ⟨u7, rfl, ho, hBn⟩
        have h7 : Hid (PM.FL w7 u7 (PM.redL (PM.allL t cs))) := PM.hid (ho.rr.imp fun cs x h => PM.fO_fR h)
        replace kx := kx.keep hBn
        replace hTh := PM.hid (And.intro (PM.SbL.keep hTh.out.1 hBn) (PM.SbL.keep hTh.out.2 hBn))
        replace hBB := PM.hid (PM.chain hBB.out hBn)
        clear hBn
        clear ho
        have hfr := rFilters15_any (.slice sb_ S sd_) (.slice ca cn cc) t cs w7 hTh.out.2 hokh.out.len hsz.out (hc.out.keep hBB.out)
        go_wp2_with fail
        refine hfr.mono ?_
        clear hfr
        rintro e w8 ⟨u8, rfl, h8, hBn⟩
        have hs7 := same7_any u7 u8 _ _ w8 (PM.FL.keep hBn h7.out) h8
        replace kx := kx.keep hBn
        replace hTh := PM.hid (And.intro (PM.SbL.keep hTh.out.1 hBn) (PM.SbL.keep hTh.out.2 hBn))
        replace hBB := PM.hid (PM.chain hBB.out hBn)
        clear hBn
        clear h8
        go_wp2_with fail
        refine hs7.mono ?_
        clear hs7
        rintro e w9 ⟨hh, hBn⟩
        have he9 : e = .returned (.bool true) := by
          rcases hh with ⟨h, -⟩ | ⟨-, hno⟩
          · exact h
          · first | exact absurd rfl hno | exact (hno trivial).elim
        subst he9
        replace kx := kx.keep hBn
        replace hTh := PM.hid (And.intro (PM.SbL.keep hTh.out.1 hBn) (PM.SbL.keep hTh.out.2 hBn))
        replace hBB := PM.hid (PM.chain hBB.out hBn)
        clear hBn
        clear hh h7
        go_upto_region 19 with fail
        refine PM.wp_region_st [some 78, some 79, some 80, some 81, some 82, some 83, some 84, some 85, some 86, some 16] [fun vq _ => vq = .slice sa_ S sc_, fun vq _ => vq = .slice ca cn cc, fun vq _ => vq = .agg #[.int .i64 x.kind, .int .i64 x.id.br, .int .u64 (x.id.life : Int), .int .u64 (x.id.ser : Int), .int .i64 x.client, .int .u64 (x.sub : Int), .slice fa F fc, .slice ea L ec], PM.EnV (PM.cutE (PM.redL (PM.allL t cs)) x), fun vq _ => vq = .slice sb_ S sd_, fun vq _ => vq = .slice ca cn cc, fun vq _ => vq = .agg #[.int .i64 x.kind, .int .i64 x.id.br, .int .u64 (x.id.life : Int), .int .u64 (x.id.ser : Int), .int .i64 x.client, .int .u64 (x.sub : Int), .slice fa F fc, .slice ea L ec], PM.EnV (PM.cutE (PM.redL (PM.allL t cs)) x), fun vq _ => vq = .bool true, fun vq _ => vq = .bool true] (by kernel_rfl) (by kernel_rfl) (by kernel_rfl) ?_ ?_ ?_
        · simp only [List.forall_mem_cons]
          refine ⟨?_, ?_, ?_, ?_, ?_, ?_, ?_, ?_, ?_, ?_, by simp⟩
          all_goals (intro vq W W' h hb; first | exact h | exact PM.BS.keep hb h | exact PM.OW.keep hb h | exact PM.EVL.keepO hb h | exact PM.EnV.keep h hb)
        · refine ⟨?_, ?_, ?_, ?_, ?_, ?_, ?_, ?_, ?_, ?_, trivial⟩
          all_goals
            intro a W hB hF hd
            have k1 := hF 1 rfl
            have k7 := hF 7 rfl
            have k10 := hF 10 rfl
            have k11 := hF 11 rfl
            have hBW := PM.chain hBB.out hB
            have x0 : W.cell? ⟨gx, 0, none⟩ = some (.int .i64 x.kind) := (kx.keep hB).cell 0
            have x1 : W.cell? ⟨gx, 1, none⟩ = some (.int .i64 x.id.br) := (kx.keep hB).cell 1
            have x2 : W.cell? ⟨gx, 2, none⟩ = some (.int .u64 (x.id.life : Int)) := (kx.keep hB).cell 2
            have x3 : W.cell? ⟨gx, 3, none⟩ = some (.int .u64 (x.id.ser : Int)) := (kx.keep hB).cell 3
            have x4 : W.cell? ⟨gx, 4, none⟩ = some (.int .i64 x.client) := (kx.keep hB).cell 4
            have x5 : W.cell? ⟨gx, 5, none⟩ = some (.int .u64 (x.sub : Int)) := (kx.keep hB).cell 5
            have x6 : W.cell? ⟨gx, 6, none⟩ = some (.slice fa F fc) := (kx.keep hB).cell 6
            have x7 : W.cell? ⟨gx, 7, none⟩ = some (.slice ea L ec) := (kx.keep hB).cell 7
            clear hF
            simp [PM.depsL, PM.spec, PM.sl, Region.binds] at hd k1 k7 k10 k11
            simp only [PM.wantL, PM.spec]
            try simp only [PM.sl]
            go_simp
          all_goals try exact Below.refl _ _
          · refine (cut15_any (.slice sa_ S sc_) ca cn cc t cs x.kind x.id.br x.id.life x.id.ser x.client x.sub x.fil x.evs fa F fc ea L ec W hFh.out hLh.out (PM.SbL.keep hTh.out.1 hB) hokh.out.len hokh.out.fil (hc.out.keep hBW) (hxr.out.1.keep hBW) (PM.EVL.keepO hBW hxr.out.2) hEnS.out).mono ?_
            rintro e w' ⟨us, rfl, ho, hb⟩
            have hq : PM.EnV (PM.cutE (PM.redL (PM.allL t cs)) x) (.agg (List.toArray us)) w' := by
              have ho' : PM.enO 50 53 55 W.heap.size w' us (PM.cutE (PM.redL (PM.allL t cs)) x) := ho
              obtain ⟨cf, ce, hus, hcf, hce⟩ := ho'
              exact ⟨cf, ce, by rw [hus], hcf.em PM.teL_len, hce.rr.imp fun cs x ⟨v, q1, q2⟩ => ⟨v, q1, (q2.em PM.attL_len).ev⟩⟩
            first | exact ⟨hb, hq⟩ | exact ⟨hb, _, rfl, hq⟩
          · refine (rcut15_any (.slice sb_ S sd_) ca cn cc t cs x.kind x.id.br x.id.life x.id.ser x.client x.sub x.fil x.evs fa F fc ea L ec W hFh.out hLh.out (PM.SbL.keep hTh.out.2 hB) hokh.out.len hsz.out (hc.out.keep hBW) (hxr.out.1.keep hBW) (PM.EVL.keepO hBW hxr.out.2) hEnS.out.2.1 hFwh.out.szE).mono ?_
            rintro e w' ⟨ev, rfl, ho, hb⟩
            have hq : PM.EnV (PM.cutE (PM.redL (PM.allL t cs)) x) (.agg (PM.enC (PM.cutE (PM.redL (PM.allL t cs)) x) (.slice fa F fc) ev).toArray) w' := ⟨_, _, rfl, by rw [(PM.cut_kind _ _).2.2]; exact hxr.out.1.keep (PM.chain hBW hb), ho⟩
            first | exact ⟨hb, hq⟩ | exact ⟨hb, _, rfl, hq⟩
          · obtain ⟨fv, ev, hv9, hv1, hv2⟩ : PM.EnV (PM.cutE (PM.redL (PM.allL t cs)) x) (a.tmps[81]?.getD undef) W := hd.1
            obtain ⟨fv', ev', hw9, hw1, hw2⟩ : PM.EnV (PM.cutE (PM.redL (PM.allL t cs)) x) (a.tmps[85]?.getD undef) W := hd.2
            simp only [hv9, hw9]
            refine (same11_any (PM.cutE (PM.redL (PM.allL t cs)) x) (PM.cutE (PM.redL (PM.allL t cs)) x) fv ev fv' ev' W hwf.out.2.cut hwf.out.2.cut hv1 hv2 hw1 hw2).mono ?_
            rintro e w' ⟨hh, hb⟩
            rcases hh with ⟨rfl, -⟩ | ⟨-, hno⟩
            · first | exact ⟨hb, rfl⟩ | exact ⟨hb, _, rfl, rfl⟩
            · first | exact absurd rfl hno | exact (hno trivial).elim
        · intro G W hB hF hS
          simp [PM.allSp, PM.spec] at hS
          have g16 : G 16 = .bool true := by simp [hS]
          have k0 := hF 0 rfl
          have k1 := hF 1 rfl
          have k2 := hF 2 rfl
          have k3 := hF 3 rfl
          have k4 := hF 4 rfl
          have k5 := hF 5 rfl
          have k6 := hF 6 rfl
          have k7 := hF 7 rfl
          have k8 := hF 8 rfl
          have k9 := hF 9 rfl
          have k10 := hF 10 rfl
          have k11 := hF 11 rfl
          have k12 := hF 12 rfl
          have k13 := hF 13 rfl
          have k14 := hF 14 rfl
          have k15 := hF 15 rfl
          have k17 := hF 17 rfl
          have k18 := hF 18 rfl
          have k19 := hF 19 rfl
          have k20 := hF 20 rfl
          have k21 := hF 21 rfl
          have k22 := hF 22 rfl
          have k23 := hF 23 rfl
          have k24 := hF 24 rfl
          have k25 := hF 25 rfl
          have k26 := hF 26 rfl
          have k27 := hF 27 rfl
          have k28 := hF 28 rfl
          have k29 := hF 29 rfl
          have k30 := hF 30 rfl
          have k31 := hF 31 rfl
          have k32 := hF 32 rfl
          have k33 := hF 33 rfl
          have k34 := hF 34 rfl
          have k35 := hF 35 rfl
          have k36 := hF 36 rfl
          have k37 := hF 37 rfl
          have k38 := hF 38 rfl
          have k39 := hF 39 rfl
          have k40 := hF 40 rfl
          have k41 := hF 41 rfl
          have k42 := hF 42 rfl
          have k43 := hF 43 rfl
          have k44 := hF 44 rfl
          have k45 := hF 45 rfl
          have k46 := hF 46 rfl
          have k47 := hF 47 rfl
          have k48 := hF 48 rfl
          have k49 := hF 49 rfl
          have k50 := hF 50 rfl
          have k51 := hF 51 rfl
          have k52 := hF 52 rfl
          have k53 := hF 53 rfl
          have k54 := hF 54 rfl
          have k55 := hF 55 rfl
          have k56 := hF 56 rfl
          have k57 := hF 57 rfl
          have k58 := hF 58 rfl
          have k59 := hF 59 rfl
          have k60 := hF 60 rfl
          have k61 := hF 61 rfl
          have k62 := hF 62 rfl
          have k63 := hF 63 rfl
          have k64 := hF 64 rfl
          have k65 := hF 65 rfl
          have k66 := hF 66 rfl
          have k67 := hF 67 rfl
          have k68 := hF 68 rfl
          have k69 := hF 69 rfl
          have k70 := hF 70 rfl
          have k71 := hF 71 rfl
          have k72 := hF 72 rfl
          have k73 := hF 73 rfl
          have k74 := hF 74 rfl
          have k75 := hF 75 rfl
          have k76 := hF 76 rfl
          have k77 := hF 77 rfl
          have k87 := hF 87 rfl
          have k88 := hF 88 rfl
          have k89 := hF 89 rfl
          have k90 := hF 90 rfl
          have k91 := hF 91 rfl
          have k92 := hF 92 rfl
          have k93 := hF 93 rfl
          have k94 := hF 94 rfl
          have k95 := hF 95 rfl
          have k96 := hF 96 rfl
          have k97 := hF 97 rfl
          have k98 := hF 98 rfl
          have k99 := hF 99 rfl
          have k100 := hF 100 rfl
          have k101 := hF 101 rfl
          have k102 := hF 102 rfl
          simp [PM.sl] at k0 k1 k2 k3 k4 k5 k6 k7 k8 k9 k10 k11 k12 k13 k14 k15 k17 k18 k19 k20 k21 k22 k23 k24 k25 k26 k27 k28 k29 k30 k31 k32 k33 k34 k35 k36 k37 k38 k39 k40 k41 k42 k43 k44 k45 k46 k47 k48 k49 k50 k51 k52 k53 k54 k55 k56 k57 k58 k59 k60 k61 k62 k63 k64 k65 k66 k67 k68 k69 k70 k71 k72 k73 k74 k75 k76 k77 k87 k88 k89 k90 k91 k92 k93 k94 k95 k96 k97 k98 k99 k100 k101 k102
          rw [show ((List.range (Array.size _)).map G).toArray = #[G 0, G 1, G 2, G 3, G 4, G 5, G 6, G 7, G 8, G 9, G 10, G 11, G 12, G 13, G 14, G 15, G 16, G 17, G 18, G 19, G 20, G 21, G 22, G 23, G 24, G 25, G 26, G 27, G 28, G 29, G 30, G 31, G 32, G 33, G 34, G 35, G 36, G 37, G 38, G 39, G 40, G 41, G 42, G 43, G 44, G 45, G 46, G 47, G 48, G 49, G 50, G 51, G 52, G 53, G 54, G 55, G 56, G 57, G 58, G 59, G 60, G 61, G 62, G 63, G 64, G 65, G 66, G 67, G 68, G 69, G 70, G 71, G 72, G 73, G 74, G 75, G 76, G 77, G 78, G 79, G 80, G 81, G 82, G 83, G 84, G 85, G 86, G 87, G 88, G 89, G 90, G 91, G 92, G 93, G 94, G 95, G 96, G 97, G 98, G 99, G 100, G 101, G 102] from rfl]
          clear hF hS
          rw [g16, k0, k1, k2, k3, k4, k5, k6, k7, k8, k9, k10, k11, k12, k13, k14, k15, k17, k18, k19, k20, k21, k22, k23, k24, k25, k26, k27, k28, k29, k30, k31, k32, k33, k34, k35, k36, k37, k38, k39, k40, k41, k42, k43, k44, k45, k46, k47, k48, k49, k50, k51, k52, k53, k54, k55, k56, k57, k58, k59, k60, k61, k62, k63, k64, k65, k66, k67, k68, k69, k70, k71, k72, k73, k74, k75, k76, k77, k87, k88, k89, k90, k91, k92, k93, k94, k95, k96, k97, k98, k99, k100, k101, k102]
          clear g16 k0 k1 k2 k3 k4 k5 k6 k7 k8 k9 k10 k11 k12 k13 k14 k15 k17 k18 k19 k20 k21 k22 k23 k24 k25 k26 k27 k28 k29 k30 k31 k32 k33 k34 k35 k36 k37 k38 k39 k40 k41 k42 k43 k44 k45 k46 k47 k48 k49 k50 k51 k52 k53 k54 k55 k56 k57 k58 k59 k60 k61 k62 k63 k64 k65 k66 k67 k68 k69 k70 k71 k72 k73 k74 k75 k76 k77 k87 k88 k89 k90 k91 k92 k93 k94 k95 k96 k97 k98 k99 k100 k101 k102
          replace kx := kx.keep hB
          replace hTh := PM.hid (And.intro (PM.SbL.keep hTh.out.1 hB) (PM.SbL.keep hTh.out.2 hB))
          replace hBB := PM.hid (PM.chain hBB.out hB)
          clear hB
          go_upto_region 20 with fail
          refine PM.wp_region_st [some 87, some 88, some 89, some 90, some 91, some 92, some 93, some 94, some 95, some 17] [fun vq _ => vq = .slice sa_ S sc_, fun vq _ => vq = .int .i64 c, fun vq _ => vq = .agg #[.int .i64 x.kind, .int .i64 x.id.br, .int .u64 (x.id.life : Int), .int .u64 (x.id.ser : Int), .int .i64 x.client, .int .u64 (x.sub : Int), .slice fa F fc, .slice ea L ec], fun v W => PM.EVL W v (PM.batchL t c x), fun vq _ => vq = .slice sb_ S sd_, fun vq _ => vq = .int .i64 c, fun vq _ => vq = .agg #[.int .i64 x.kind, .int .i64 x.id.br, .int .u64 (x.id.life : Int), .int .u64 (x.id.ser : Int), .int .i64 x.client, .int .u64 (x.sub : Int), .slice fa F fc, .slice ea L ec], fun v W => PM.EVL W v (PM.batchL t c x), fun vq _ => vq = .bool true, fun vq _ => vq = .bool true] (by kernel_rfl) (by kernel_rfl) (by kernel_rfl) ?_ ?_ ?_
          · simp only [List.forall_mem_cons]
            refine ⟨?_, ?_, ?_, ?_, ?_, ?_, ?_, ?_, ?_, ?_, by simp⟩
            all_goals (intro vq W W' h hb; first | exact h | exact PM.BS.keep hb h | exact PM.OW.keep hb h | exact PM.EVL.keepO hb h | exact PM.EnV.keep h hb)
          · refine ⟨?_, ?_, ?_, ?_, ?_, ?_, ?_, ?_, ?_, ?_, trivial⟩
            all_goals
              intro a W hB hF hd
              have k2 := hF 2 rfl
              have k7 := hF 7 rfl
              have k10 := hF 10 rfl
              have k11 := hF 11 rfl
              have hBW := PM.chain hBB.out hB
              have x0 : W.cell? ⟨gx, 0, none⟩ = some (.int .i64 x.kind) := (kx.keep hB).cell 0
              have x1 : W.cell? ⟨gx, 1, none⟩ = some (.int .i64 x.id.br) := (kx.keep hB).cell 1
              have x2 : W.cell? ⟨gx, 2, none⟩ = some (.int .u64 (x.id.life : Int)) := (kx.keep hB).cell 2
              have x3 : W.cell? ⟨gx, 3, none⟩ = some (.int .u64 (x.id.ser : Int)) := (kx.keep hB).cell 3
              have x4 : W.cell? ⟨gx, 4, none⟩ = some (.int .i64 x.client) := (kx.keep hB).cell 4
              have x5 : W.cell? ⟨gx, 5, none⟩ = some (.int .u64 (x.sub : Int)) := (kx.keep hB).cell 5
              have x6 : W.cell? ⟨gx, 6, none⟩ = some (.slice fa F fc) := (kx.keep hB).cell 6
              have x7 : W.cell? ⟨gx, 7, none⟩ = some (.slice ea L ec) := (kx.keep hB).cell 7
              clear hF
              simp [PM.depsL, PM.spec, PM.sl, Region.binds] at hd k2 k7 k10 k11
              simp only [PM.wantL, PM.spec]
              try simp only [PM.sl]
              go_simp
            all_goals try exact Below.refl _ _
            · refine (batch15_any (.slice sa_ S sc_) c t x.kind x.id.br x.id.life x.id.ser x.client x.sub x.fil x.evs fa F fc ea L ec W hLh.out (PM.SbL.keep hTh.out.1 hB) (by have := hokh.out.len; omega) (PM.EVL.keepO hBW hxr.out.2) ⟨hEnS.out.2.1, hEnS.out.2.2⟩).mono ?_
              rintro e w' ⟨u', rfl, ho, hb⟩
              have hq : PM.EVL w' u' (PM.batchL t c x) := ho.rr.imp fun cs x ⟨v, q1, q2⟩ => ⟨v, q1, (q2.em PM.attL_len).ev⟩
              first | exact ⟨hb, hq⟩ | exact ⟨hb, _, rfl, hq⟩
            · refine (rbatch15_any (.slice sb_ S sd_) c t x.kind x.id.br x.id.life x.id.ser x.client x.sub x.fil x.evs fa F fc ea L ec W hLh.out (PM.SbL.keep hTh.out.2 hB) (by have := hokh.out.len; omega) (PM.EVL.keepO hBW hxr.out.2) hEnS.out.2.1 hFwh.out.szE hsz.out).mono ?_
              rintro e w' ⟨u', rfl, hq, hb⟩
              first | exact ⟨hb, hq⟩ | exact ⟨hb, _, rfl, hq⟩
            · refine (events15_any _ _ _ _ W hd.1 hd.2).mono ?_
              rintro e w' ⟨hh, hb⟩
              rcases hh with ⟨rfl, -⟩ | ⟨-, hno⟩
              · first | exact ⟨hb, rfl⟩ | exact ⟨hb, _, rfl, rfl⟩
              · first | exact absurd rfl hno | exact (hno trivial).elim
          · intro G W hB hF hS
            simp [PM.allSp, PM.spec] at hS
            have g17 : G 17 = .bool true := by simp [hS]
            have k0 := hF 0 rfl
            have k1 := hF 1 rfl
            have k2 := hF 2 rfl
            have k3 := hF 3 rfl
            have k4 := hF 4 rfl
            have k5 := hF 5 rfl
            have k6 := hF 6 rfl
            have k7 := hF 7 rfl
            have k8 := hF 8 rfl
            have k9 := hF 9 rfl
            have k10 := hF 10 rfl
            have k11 := hF 11 rfl
            have k12 := hF 12 rfl
            have k13 := hF 13 rfl
            have k14 := hF 14 rfl
            have k15 := hF 15 rfl
            have k16 := hF 16 rfl
            have k18 := hF 18 rfl
            have k19 := hF 19 rfl
            have k20 := hF 20 rfl
            have k21 := hF 21 rfl
            have k22 := hF 22 rfl
            have k23 := hF 23 rfl
            have k24 := hF 24 rfl
            have k25 := hF 25 rfl
            have k26 := hF 26 rfl
            have k27 := hF 27 rfl
            have k28 := hF 28 rfl
            have k29 := hF 29 rfl
            have k30 := hF 30 rfl
            have k31 := hF 31 rfl
            have k32 := hF 32 rfl
            have k33 := hF 33 rfl
            have k34 := hF 34 rfl
            have k35 := hF 35 rfl
            have k36 := hF 36 rfl
            have k37 := hF 37 rfl
            have k38 := hF 38 rfl
            have k39 := hF 39 rfl
            have k40 := hF 40 rfl
            have k41 := hF 41 rfl
            have k42 := hF 42 rfl
            have k43 := hF 43 rfl
            have k44 := hF 44 rfl
            have k45 := hF 45 rfl
            have k46 := hF 46 rfl
            have k47 := hF 47 rfl
            have k48 := hF 48 rfl
            have k49 := hF 49 rfl
            have k50 := hF 50 rfl
            have k51 := hF 51 rfl
            have k52 := hF 52 rfl
            have k53 := hF 53 rfl
            have k54 := hF 54 rfl
            have k55 := hF 55 rfl
            have k56 := hF 56 rfl
            have k57 := hF 57 rfl
            have k58 := hF 58 rfl
            have k59 := hF 59 rfl
            have k60 := hF 60 rfl
            have k61 := hF 61 rfl
            have k62 := hF 62 rfl
            have k63 := hF 63 rfl
            have k64 := hF 64 rfl
            have k65 := hF 65 rfl
            have k66 := hF 66 rfl
            have k67 := hF 67 rfl
            have k68 := hF 68 rfl
            have k69 := hF 69 rfl
            have k70 := hF 70 rfl
            have k71 := hF 71 rfl
            have k72 := hF 72 rfl
            have k73 := hF 73 rfl
            have k74 := hF 74 rfl
            have k75 := hF 75 rfl
            have k76 := hF 76 rfl
            have k77 := hF 77 rfl
            have k78 := hF 78 rfl
            have k79 := hF 79 rfl
            have k80 := hF 80 rfl
            have k81 := hF 81 rfl
            have k82 := hF 82 rfl
            have k83 := hF 83 rfl
            have k84 := hF 84 rfl
            have k85 := hF 85 rfl
            have k86 := hF 86 rfl
            have k96 := hF 96 rfl
            have k97 := hF 97 rfl
            have k98 := hF 98 rfl
            have k99 := hF 99 rfl
            have k100 := hF 100 rfl
            have k101 := hF 101 rfl
            have k102 := hF 102 rfl
            simp [PM.sl] at k0 k1 k2 k3 k4 k5 k6 k7 k8 k9 k10 k11 k12 k13 k14 k15 k16 k18 k19 k20 k21 k22 k23 k24 k25 k26 k27 k28 k29 k30 k31 k32 k33 k34 k35 k36 k37 k38 k39 k40 k41 k42 k43 k44 k45 k46 k47 k48 k49 k50 k51 k52 k53 k54 k55 k56 k57 k58 k59 k60 k61 k62 k63 k64 k65 k66 k67 k68 k69 k70 k71 k72 k73 k74 k75 k76 k77 k78 k79 k80 k81 k82 k83 k84 k85 k86 k96 k97 k98 k99 k100 k101 k102
            rw [show ((List.range (Array.size _)).map G).toArray = #[G 0, G 1, G 2, G 3, G 4, G 5, G 6, G 7, G 8, G 9, G 10, G 11, G 12, G 13, G 14, G 15, G 16, G 17, G 18, G 19, G 20, G 21, G 22, G 23, G 24, G 25, G 26, G 27, G 28, G 29, G 30, G 31, G 32, G 33, G 34, G 35, G 36, G 37, G 38, G 39, G 40, G 41, G 42, G 43, G 44, G 45, G 46, G 47, G 48, G 49, G 50, G 51, G 52, G 53, G 54, G 55, G 56, G 57, G 58, G 59, G 60, G 61, G 62, G 63, G 64, G 65, G 66, G 67, G 68, G 69, G 70, G 71, G 72, G 73, G 74, G 75, G 76, G 77, G 78, G 79, G 80, G 81, G 82, G 83, G 84, G 85, G 86, G 87, G 88, G 89, G 90, G 91, G 92, G 93, G 94, G 95, G 96, G 97, G 98, G 99, G 100, G 101, G 102] from rfl]
            clear hF hS
            rw [g17, k0, k1, k2, k3, k4, k5, k6, k7, k8, k9, k10, k11, k12, k13, k14, k15, k16, k18, k19, k20, k21, k22, k23, k24, k25, k26, k27, k28, k29, k30, k31, k32, k33, k34, k35, k36, k37, k38, k39, k40, k41, k42, k43, k44, k45, k46, k47, k48, k49, k50, k51, k52, k53, k54, k55, k56, k57, k58, k59, k60, k61, k62, k63, k64, k65, k66, k67, k68, k69, k70, k71, k72, k73, k74, k75, k76, k77, k78, k79, k80, k81, k82, k83, k84, k85, k86, k96, k97, k98, k99, k100, k101, k102]
            clear g17 k0 k1 k2 k3 k4 k5 k6 k7 k8 k9 k10 k11 k12 k13 k14 k15 k16 k18 k19 k20 k21 k22 k23 k24 k25 k26 k27 k28 k29 k30 k31 k32 k33 k34 k35 k36 k37 k38 k39 k40 k41 k42 k43 k44 k45 k46 k47 k48 k49 k50 k51 k52 k53 k54 k55 k56 k57 k58 k59 k60 k61 k62 k63 k64 k65 k66 k67 k68 k69 k70 k71 k72 k73 k74 k75 k76 k77 k78 k79 k80 k81 k82 k83 k84 k85 k86 k96 k97 k98 k99 k100 k101 k102
            have hBe := PM.hid (PM.chain hBB.out hB)
            clear hB kx
            go_wp2_with fail
            go_ret
            exact ⟨rfl, hBe.out⟩
      have q0 : decide ((k : Int) < (N : Int)) = true := by simp; omega
      have q1 : decide ((k : Int) < 30) = true := by simp; omega
      have q1' : (k : Int) < 30 := by omega
      obtain ⟨z, hz⟩ : ∃ z, l[k]? = some z := ⟨l[k]'(by rw [← hNh.out]; exact hlt), List.getElem?_eq_getElem _⟩
      obtain ⟨b, off, hbe, hce⟩ := PM.RR.opn hvh.out (by rw [← hNh.out]; omega)
      subst hbe
      obtain ⟨cs, hl0, hR⟩ := hce k z hz
      obtain ⟨pa, pc, qa, qc, hcs, hzf, hze⟩ := PM.enR_open hR
      rw [hcs] at hl0
      obtain ⟨zF, hzF⟩ : ∃ P, P = z.fil.length := ⟨_, rfl⟩
      obtain ⟨zE, hzE⟩ : ∃ P, P = z.evs.length := ⟨_, rfl⟩
      rw [← hzF, ← hzE] at hl0
      have hfw : Hid (∀ W : World, Below w.heap.size w W → Calls Tryz.prog 5 #[.agg #[.int .i64 z.kind, .int .i64 z.id.br, .int .u64 (z.id.life : Int), .int .u64 (z.id.ser : Int), .int .i64 z.client, .int .u64 (z.sub : Int), .slice pa zF pc, .slice qa zE qc]] W fun e w' => (e = .returned (.bool true) ∧ PM.FewEn z ∨ e = .returned (.bool false) ∧ ¬ PM.FewEn z) ∧ Below W.heap.size W w') := PM.hid fun W hb => by rw [hzF, hzE]; exact few11x_any z _ _ W (hzf.keep hb) (PM.EVL.keepO hb hze)
      have hck : Hid (∀ W : World, Below w.heap.size w W → Calls Tryz.prog 6 #[.agg #[.int .i64 z.kind, .int .i64 z.id.br, .int .u64 (z.id.life : Int), .int .u64 (z.id.ser : Int), .int .i64 z.client, .int .u64 (z.sub : Int), .slice pa zF pc, .slice qa zE qc]] W fun e w' => e = .returned (.int .i64 (PM.enE z)) ∧ Below W.heap.size W w') := PM.hid fun W hb => by rw [hzF, hzE]; exact encheck_any z _ _ W (hwf.out.1 z (List.mem_of_getElem? hz)) (hzf.keep hb) (PM.EVL.keepO hb hze)
      rw [← hzF] at hzf
      have zl := PM.hid hl0
      have hzh := PM.hid hz
      have hzfh := PM.hid (And.intro hzF hzf)
      clear hz hce hl0 hR hcs cs hzf hze hzE hzF hB
      have d0 : wr.cell? ⟨b, off + k * 8, none⟩ = some (.int .i64 z.kind) := (zl.out.keep hBB.out) 0 _ rfl
      have d1 : wr.cell? ⟨b, off + k * 8 + 1, none⟩ = some (.int .i64 z.id.br) := (zl.out.keep hBB.out) 1 _ rfl
      have d2 : wr.cell? ⟨b, off + k * 8 + 2, none⟩ = some (.int .u64 (z.id.life : Int)) := (zl.out.keep hBB.out) 2 _ rfl
      have d3 : wr.cell? ⟨b, off + k * 8 + 3, none⟩ = some (.int .u64 (z.id.ser : Int)) := (zl.out.keep hBB.out) 3 _ rfl
      have d4 : wr.cell? ⟨b, off + k * 8 + 4, none⟩ = some (.int .i64 z.client) := (zl.out.keep hBB.out) 4 _ rfl
      have d5 : wr.cell? ⟨b, off + k * 8 + 5, none⟩ = some (.int .u64 (z.sub : Int)) := (zl.out.keep hBB.out) 5 _ rfl
      have d6 : wr.cell? ⟨b, off + k * 8 + 6, none⟩ = some (.slice pa zF pc) := (zl.out.keep hBB.out) 6 _ rfl
      have d7 : wr.cell? ⟨b, off + k * 8 + 7, none⟩ = some (.slice qa zE qc) := (zl.out.keep hBB.out) 7 _ rfl
      go_wp2_with fail
      refine (hfw.out wr hBB.out).mono ?_
      rintro e w2 ⟨hZw, hBn⟩
      clear d0 d1 d2 d3 d4 d5 d6 d7 q0 q1 hfw
      replace hTh := PM.hid (And.intro (PM.SbL.keep hTh.out.1 hBn) (PM.SbL.keep hTh.out.2 hBn))
      replace kx := kx.keep hBn
      replace hBB := PM.hid (PM.chain hBB.out hBn)
      clear hBn
      rcases hZw with ⟨rfl, hZw⟩ | ⟨rfl, hZw⟩
      case inr =>
        have hsk : Hid (PM.gr1 t z = t) := PM.hid (by unfold PM.gr1; rw [if_neg (fun h => hZw h.1)])
        clear hZw
        go_wp2_with fail
        exact ⟨⟨k + 1, by go_num, by omega, by omega, PM.hid (by rw [PM.gr_snoc hzh.out, ← hth.out, hsk.out]; exact ⟨hTh.out.1, hTh.out.2, kx, hBB.out⟩)⟩, by simp only [intOf]; omega⟩
      have d0 : w2.cell? ⟨b, off + k * 8, none⟩ = some (.int .i64 z.kind) := (zl.out.keep hBB.out) 0 _ rfl
      have d1 : w2.cell? ⟨b, off + k * 8 + 1, none⟩ = some (.int .i64 z.id.br) := (zl.out.keep hBB.out) 1 _ rfl
      have d2 : w2.cell? ⟨b, off + k * 8 + 2, none⟩ = some (.int .u64 (z.id.life : Int)) := (zl.out.keep hBB.out) 2 _ rfl
      have d3 : w2.cell? ⟨b, off + k * 8 + 3, none⟩ = some (.int .u64 (z.id.ser : Int)) := (zl.out.keep hBB.out) 3 _ rfl
      have d4 : w2.cell? ⟨b, off + k * 8 + 4, none⟩ = some (.int .i64 z.client) := (zl.out.keep hBB.out) 4 _ rfl
      have d5 : w2.cell? ⟨b, off + k * 8 + 5, none⟩ = some (.int .u64 (z.sub : Int)) := (zl.out.keep hBB.out) 5 _ rfl
      have d6 : w2.cell? ⟨b, off + k * 8 + 6, none⟩ = some (.slice pa zF pc) := (zl.out.keep hBB.out) 6 _ rfl
      have d7 : w2.cell? ⟨b, off + k * 8 + 7, none⟩ = some (.slice qa zE qc) := (zl.out.keep hBB.out) 7 _ rfl
      have hZf := PM.hid hZw
      clear hZw
      by_cases hok : PM.enOk z
      case neg =>
        have hsk : Hid (PM.gr1 t z = t) := PM.hid (by unfold PM.gr1; rw [if_neg (fun h => hok h.2)])
        have hc := hck.out w2 hBB.out
        rw [show PM.enE z = 110 from by unfold PM.enE; rw [if_neg hok]] at hc
        clear hok hck
        go_wp2_with fail
        refine hc.mono ?_
        rintro e w3 ⟨rfl, hBn⟩
        clear hc d0 d1 d2 d3 d4 d5 d6 d7
        have hin2 := PM.hid (And.intro (PM.SbL.keep hTh.out.1 hBn) (And.intro (PM.SbL.keep hTh.out.2 hBn) (And.intro (kx.keep hBn) (PM.chain hBB.out hBn))))
        clear hBn
        go_wp2_with fail
        exact ⟨⟨k + 1, by go_num, by omega, by omega, PM.hid (by rw [PM.gr_snoc hzh.out, ← hth.out, hsk.out]; exact hin2.out)⟩, by simp only [intOf]; omega⟩
      have hsk : Hid (PM.gr1 t z = PM.applyL z.kind ⟨z.client, z.sub, z.fil⟩ t) := PM.hid (by unfold PM.gr1; rw [if_pos ⟨hZf.out, hok⟩]; rfl)
      have hc := hck.out w2 hBB.out
      rw [PM.enE_yes hok] at hc
      clear hok hck
      go_wp2_with fail
      refine hc.mono ?_
      rintro e w3 ⟨rfl, hBn⟩
      clear hc d0 d1 d2 d3 d4 d5 d6 d7
      replace hTh := PM.hid (And.intro (PM.SbL.keep hTh.out.1 hBn) (PM.SbL.keep hTh.out.2 hBn))
      replace kx := kx.keep hBn
      replace hBB := PM.hid (PM.chain hBB.out hBn)
      clear hBn
      have d0 : w3.cell? ⟨b, off + k * 8, none⟩ = some (.int .i64 z.kind) := (zl.out.keep hBB.out) 0 _ rfl
      have d1 : w3.cell? ⟨b, off + k * 8 + 1, none⟩ = some (.int .i64 z.id.br) := (zl.out.keep hBB.out) 1 _ rfl
      have d2 : w3.cell? ⟨b, off + k * 8 + 2, none⟩ = some (.int .u64 (z.id.life : Int)) := (zl.out.keep hBB.out) 2 _ rfl
      have d3 : w3.cell? ⟨b, off + k * 8 + 3, none⟩ = some (.int .u64 (z.id.ser : Int)) := (zl.out.keep hBB.out) 3 _ rfl
      have d4 : w3.cell? ⟨b, off + k * 8 + 4, none⟩ = some (.int .i64 z.client) := (zl.out.keep hBB.out) 4 _ rfl
      have d5 : w3.cell? ⟨b, off + k * 8 + 5, none⟩ = some (.int .u64 (z.sub : Int)) := (zl.out.keep hBB.out) 5 _ rfl
      have d6 : w3.cell? ⟨b, off + k * 8 + 6, none⟩ = some (.slice pa zF pc) := (zl.out.keep hBB.out) 6 _ rfl
      have d7 : w3.cell? ⟨b, off + k * 8 + 7, none⟩ = some (.slice qa zE qc) := (zl.out.keep hBB.out) 7 _ rfl
      have ha := apply15_any (.slice sa_ S sc_) t z.kind z.id.br z.id.life z.id.ser z.client z.sub pa zF pc (.slice qa zE qc) z.fil w3 hzfh.out.1 hTh.out.1 (hokh.out.sbs (by omega)) hokh.out.rise (hzfh.out.2.keep hBB.out) hZf.out.fil1000
      go_wp2_with fail
      refine ha.mono ?_
      rintro e w4 ⟨u', rfl, ho, hBn⟩
      clear ha d0 d1 d2 d3 d4 d5 d6 d7
      have hT4 : PM.SbL w4 u' (PM.applyL z.kind ⟨z.client, z.sub, z.fil⟩ t) := ho.rr.imp fun cs x h => PM.sbO_sbR h
      have hU4 := PM.SbL.keep hTh.out.2 hBn
      replace kx := kx.keep hBn
      replace hBB := PM.hid (PM.chain hBB.out hBn)
      clear ho hBn hTh
      have d0 : w4.cell? ⟨b, off + k * 8, none⟩ = some (.int .i64 z.kind) := (zl.out.keep hBB.out) 0 _ rfl
      have d1 : w4.cell? ⟨b, off + k * 8 + 1, none⟩ = some (.int .i64 z.id.br) := (zl.out.keep hBB.out) 1 _ rfl
      have d2 : w4.cell? ⟨b, off + k * 8 + 2, none⟩ = some (.int .u64 (z.id.life : Int)) := (zl.out.keep hBB.out) 2 _ rfl
      have d3 : w4.cell? ⟨b, off + k * 8 + 3, none⟩ = some (.int .u64 (z.id.ser : Int)) := (zl.out.keep hBB.out) 3 _ rfl
      have d4 : w4.cell? ⟨b, off + k * 8 + 4, none⟩ = some (.int .i64 z.client) := (zl.out.keep hBB.out) 4 _ rfl
      have d5 : w4.cell? ⟨b, off + k * 8 + 5, none⟩ = some (.int .u64 (z.sub : Int)) := (zl.out.keep hBB.out) 5 _ rfl
      have d6 : w4.cell? ⟨b, off + k * 8 + 6, none⟩ = some (.slice pa zF pc) := (zl.out.keep hBB.out) 6 _ rfl
      have d7 : w4.cell? ⟨b, off + k * 8 + 7, none⟩ = some (.slice qa zE qc) := (zl.out.keep hBB.out) 7 _ rfl
      have hr := rapply15_any (.slice sb_ S sd_) t z.kind z.id.br z.id.life z.id.ser z.client z.sub pa zF pc (.slice qa zE qc) z.fil w4 hU4 (by have := hokh.out.len; omega) (hzfh.out.2.keep hBB.out)
      have hT4h := PM.hid hT4
      clear hT4
      go_wp2_with fail
      refine hr.mono ?_
      rintro e w5 ⟨u2, rfl, ho, hBn⟩
      clear hr d0 d1 d2 d3 d4 d5 d6 d7
      rw [PM.rapL_eq hokh.out.rise] at ho
      have hU5 : PM.SbL w5 u2 (PM.applyL z.kind ⟨z.client, z.sub, z.fil⟩ t) := ho.rr.imp fun cs x h => PM.sbR_lasts _ _ _ _ hBn h
      have hT5 := PM.SbL.keep hT4h.out hBn
      replace kx := kx.keep hBn
      replace hBB := PM.hid (PM.chain hBB.out hBn)
      clear ho hBn hT4h hU4
      have hsm := same15_refl u' u2 _ w5 hT5 hU5
      have hb5 := PM.hid (And.intro hT5 hU5)
      clear hT5 hU5
      go_wp2_with fail
      refine hsm.mono ?_
      clear hsm
      rintro e w6 ⟨rfl, hBn⟩
      have hin2 := PM.hid (And.intro (PM.SbL.keep hb5.out.1 hBn) (And.intro (PM.SbL.keep hb5.out.2 hBn) (And.intro (kx.keep hBn) (PM.chain hBB.out hBn))))
      clear hBn hb5 kx
      go_wp2_with fail
      exact ⟨⟨k + 1, by go_num, by omega, by omega, PM.hid (by rw [PM.gr_snoc hzh.out, ← hth.out, hsk.out]; exact hin2.out)⟩, by simp only [intOf]; omega⟩
    · obtain rfl : k = N := by omega
      have q0 : decide ((k : Int) < (k : Int)) = false := by simp
      clear hB
      have hsz : Hid (∀ y ∈ t, PM.szT y.fil) := PM.hid (by rw [hth.out]; exact PM.gr_sz0 _)
      have hfl := Filters15_any (.slice sa_ S sc_) ca cn cc t cs wr hTh.out.1 hokh.out.len hokh.out.fil (hc.out.keep hBB.out)
      go_wp2_with fail
      refine hfl.mono ?_
      clear hfl
      rintro e w7 ⟨u7, rfl, ho, hBn⟩
      have h7 : Hid (PM.FL w7 u7 (PM.redL (PM.allL t cs))) := PM.hid (ho.rr.imp fun cs x h => PM.fO_fR h)
      replace kx := kx.keep hBn
      replace hTh := PM.hid (And.intro (PM.SbL.keep hTh.out.1 hBn) (PM.SbL.keep hTh.out.2 hBn))
      replace hBB := PM.hid (PM.chain hBB.out hBn)
      clear hBn
      clear ho
      have hfr := rFilters15_any (.slice sb_ S sd_) (.slice ca cn cc) t cs w7 hTh.out.2 hokh.out.len hsz.out (hc.out.keep hBB.out)
      go_wp2_with fail
      refine hfr.mono ?_
      clear hfr
      rintro e w8 ⟨u8, rfl, h8, hBn⟩
      have hs7 := same7_any u7 u8 _ _ w8 (PM.FL.keep hBn h7.out) h8
      replace kx := kx.keep hBn
      replace hTh := PM.hid (And.intro (PM.SbL.keep hTh.out.1 hBn) (PM.SbL.keep hTh.out.2 hBn))
      replace hBB := PM.hid (PM.chain hBB.out hBn)
      clear hBn
      clear h8
      go_wp2_with fail
      refine hs7.mono ?_
      clear hs7
      rintro e w9 ⟨hh, hBn⟩
      have he9 : e = .returned (.bool true) := by
        rcases hh with ⟨h, -⟩ | ⟨-, hno⟩
        · exact h
        · first | exact absurd rfl hno | exact (hno trivial).elim
      subst he9
      replace kx := kx.keep hBn
      replace hTh := PM.hid (And.intro (PM.SbL.keep hTh.out.1 hBn) (PM.SbL.keep hTh.out.2 hBn))
      replace hBB := PM.hid (PM.chain hBB.out hBn)
      clear hBn
      clear hh h7
      go_upto_region 19 with fail
      refine PM.wp_region_st [some 78, some 79, some 80, some 81, some 82, some 83, some 84, some 85, some 86, some 16] [fun vq _ => vq = .slice sa_ S sc_, fun vq _ => vq = .slice ca cn cc, fun vq _ => vq = .agg #[.int .i64 x.kind, .int .i64 x.id.br, .int .u64 (x.id.life : Int), .int .u64 (x.id.ser : Int), .int .i64 x.client, .int .u64 (x.sub : Int), .slice fa F fc, .slice ea L ec], PM.EnV (PM.cutE (PM.redL (PM.allL t cs)) x), fun vq _ => vq = .slice sb_ S sd_, fun vq _ => vq = .slice ca cn cc, fun vq _ => vq = .agg #[.int .i64 x.kind, .int .i64 x.id.br, .int .u64 (x.id.life : Int), .int .u64 (x.id.ser : Int), .int .i64 x.client, .int .u64 (x.sub : Int), .slice fa F fc, .slice ea L ec], PM.EnV (PM.cutE (PM.redL (PM.allL t cs)) x), fun vq _ => vq = .bool true, fun vq _ => vq = .bool true] (by kernel_rfl) (by kernel_rfl) (by kernel_rfl) ?_ ?_ ?_
      · simp only [List.forall_mem_cons]
        refine ⟨?_, ?_, ?_, ?_, ?_, ?_, ?_, ?_, ?_, ?_, by simp⟩
        all_goals (intro vq W W' h hb; first | exact h | exact PM.BS.keep hb h | exact PM.OW.keep hb h | exact PM.EVL.keepO hb h | exact PM.EnV.keep h hb)
      · refine ⟨?_, ?_, ?_, ?_, ?_, ?_, ?_, ?_, ?_, ?_, trivial⟩
        all_goals
          intro a W hB hF hd
          have k1 := hF 1 rfl
          have k7 := hF 7 rfl
          have k10 := hF 10 rfl
          have k11 := hF 11 rfl
          have hBW := PM.chain hBB.out hB
          have x0 : W.cell? ⟨gx, 0, none⟩ = some (.int .i64 x.kind) := (kx.keep hB).cell 0
          have x1 : W.cell? ⟨gx, 1, none⟩ = some (.int .i64 x.id.br) := (kx.keep hB).cell 1
          have x2 : W.cell? ⟨gx, 2, none⟩ = some (.int .u64 (x.id.life : Int)) := (kx.keep hB).cell 2
          have x3 : W.cell? ⟨gx, 3, none⟩ = some (.int .u64 (x.id.ser : Int)) := (kx.keep hB).cell 3
          have x4 : W.cell? ⟨gx, 4, none⟩ = some (.int .i64 x.client) := (kx.keep hB).cell 4
          have x5 : W.cell? ⟨gx, 5, none⟩ = some (.int .u64 (x.sub : Int)) := (kx.keep hB).cell 5
          have x6 : W.cell? ⟨gx, 6, none⟩ = some (.slice fa F fc) := (kx.keep hB).cell 6
          have x7 : W.cell? ⟨gx, 7, none⟩ = some (.slice ea L ec) := (kx.keep hB).cell 7
          clear hF
          simp [PM.depsL, PM.spec, PM.sl, Region.binds] at hd k1 k7 k10 k11
          simp only [PM.wantL, PM.spec]
          try simp only [PM.sl]
          go_simp
        all_goals try exact Below.refl _ _
        · refine (cut15_any (.slice sa_ S sc_) ca cn cc t cs x.kind x.id.br x.id.life x.id.ser x.client x.sub x.fil x.evs fa F fc ea L ec W hFh.out hLh.out (PM.SbL.keep hTh.out.1 hB) hokh.out.len hokh.out.fil (hc.out.keep hBW) (hxr.out.1.keep hBW) (PM.EVL.keepO hBW hxr.out.2) hEnS.out).mono ?_
          rintro e w' ⟨us, rfl, ho, hb⟩
          have hq : PM.EnV (PM.cutE (PM.redL (PM.allL t cs)) x) (.agg (List.toArray us)) w' := by
            have ho' : PM.enO 50 53 55 W.heap.size w' us (PM.cutE (PM.redL (PM.allL t cs)) x) := ho
            obtain ⟨cf, ce, hus, hcf, hce⟩ := ho'
            exact ⟨cf, ce, by rw [hus], hcf.em PM.teL_len, hce.rr.imp fun cs x ⟨v, q1, q2⟩ => ⟨v, q1, (q2.em PM.attL_len).ev⟩⟩
          first | exact ⟨hb, hq⟩ | exact ⟨hb, _, rfl, hq⟩
        · refine (rcut15_any (.slice sb_ S sd_) ca cn cc t cs x.kind x.id.br x.id.life x.id.ser x.client x.sub x.fil x.evs fa F fc ea L ec W hFh.out hLh.out (PM.SbL.keep hTh.out.2 hB) hokh.out.len hsz.out (hc.out.keep hBW) (hxr.out.1.keep hBW) (PM.EVL.keepO hBW hxr.out.2) hEnS.out.2.1 hFwh.out.szE).mono ?_
          rintro e w' ⟨ev, rfl, ho, hb⟩
          have hq : PM.EnV (PM.cutE (PM.redL (PM.allL t cs)) x) (.agg (PM.enC (PM.cutE (PM.redL (PM.allL t cs)) x) (.slice fa F fc) ev).toArray) w' := ⟨_, _, rfl, by rw [(PM.cut_kind _ _).2.2]; exact hxr.out.1.keep (PM.chain hBW hb), ho⟩
          first | exact ⟨hb, hq⟩ | exact ⟨hb, _, rfl, hq⟩
        · obtain ⟨fv, ev, hv9, hv1, hv2⟩ : PM.EnV (PM.cutE (PM.redL (PM.allL t cs)) x) (a.tmps[81]?.getD undef) W := hd.1
          obtain ⟨fv', ev', hw9, hw1, hw2⟩ : PM.EnV (PM.cutE (PM.redL (PM.allL t cs)) x) (a.tmps[85]?.getD undef) W := hd.2
          simp only [hv9, hw9]
          refine (same11_any (PM.cutE (PM.redL (PM.allL t cs)) x) (PM.cutE (PM.redL (PM.allL t cs)) x) fv ev fv' ev' W hwf.out.2.cut hwf.out.2.cut hv1 hv2 hw1 hw2).mono ?_
          rintro e w' ⟨hh, hb⟩
          rcases hh with ⟨rfl, -⟩ | ⟨-, hno⟩
          · first | exact ⟨hb, rfl⟩ | exact ⟨hb, _, rfl, rfl⟩
          · first | exact absurd rfl hno | exact (hno trivial).elim
      · intro G W hB hF hS
        simp [PM.allSp, PM.spec] at hS
        have g16 : G 16 = .bool true := by simp [hS]
        have k0 := hF 0 rfl
        have k1 := hF 1 rfl
        have k2 := hF 2 rfl
        have k3 := hF 3 rfl
        have k4 := hF 4 rfl
        have k5 := hF 5 rfl
        have k6 := hF 6 rfl
        have k7 := hF 7 rfl
        have k8 := hF 8 rfl
        have k9 := hF 9 rfl
        have k10 := hF 10 rfl
        have k11 := hF 11 rfl
        have k12 := hF 12 rfl
        have k13 := hF 13 rfl
        have k14 := hF 14 rfl
        have k15 := hF 15 rfl
        have k17 := hF 17 rfl
        have k18 := hF 18 rfl
        have k19 := hF 19 rfl
        have k20 := hF 20 rfl
        have k21 := hF 21 rfl
        have k22 := hF 22 rfl
        have k23 := hF 23 rfl
        have k24 := hF 24 rfl
        have k25 := hF 25 rfl
        have k26 := hF 26 rfl
        have k27 := hF 27 rfl
        have k28 := hF 28 rfl
        have k29 := hF 29 rfl
        have k30 := hF 30 rfl
        have k31 := hF 31 rfl
        have k32 := hF 32 rfl
        have k33 := hF 33 rfl
        have k34 := hF 34 rfl
        have k35 := hF 35 rfl
        have k36 := hF 36 rfl
        have k37 := hF 37 rfl
        have k38 := hF 38 rfl
        have k39 := hF 39 rfl
        have k40 := hF 40 rfl
        have k41 := hF 41 rfl
        have k42 := hF 42 rfl
        have k43 := hF 43 rfl
        have k44 := hF 44 rfl
        have k45 := hF 45 rfl
        have k46 := hF 46 rfl
        have k47 := hF 47 rfl
        have k48 := hF 48 rfl
        have k49 := hF 49 rfl
        have k50 := hF 50 rfl
        have k51 := hF 51 rfl
        have k52 := hF 52 rfl
        have k53 := hF 53 rfl
        have k54 := hF 54 rfl
        have k55 := hF 55 rfl
        have k56 := hF 56 rfl
        have k57 := hF 57 rfl
        have k58 := hF 58 rfl
        have k59 := hF 59 rfl
        have k60 := hF 60 rfl
        have k61 := hF 61 rfl
        have k62 := hF 62 rfl
        have k63 := hF 63 rfl
        have k64 := hF 64 rfl
        have k65 := hF 65 rfl
        have k66 := hF 66 rfl
        have k67 := hF 67 rfl
        have k68 := hF 68 rfl
        have k69 := hF 69 rfl
        have k70 := hF 70 rfl
        have k71 := hF 71 rfl
        have k72 := hF 72 rfl
        have k73 := hF 73 rfl
        have k74 := hF 74 rfl
        have k75 := hF 75 rfl
        have k76 := hF 76 rfl
        have k77 := hF 77 rfl
        have k87 := hF 87 rfl
        have k88 := hF 88 rfl
        have k89 := hF 89 rfl
        have k90 := hF 90 rfl
        have k91 := hF 91 rfl
        have k92 := hF 92 rfl
        have k93 := hF 93 rfl
        have k94 := hF 94 rfl
        have k95 := hF 95 rfl
        have k96 := hF 96 rfl
        have k97 := hF 97 rfl
        have k98 := hF 98 rfl
        have k99 := hF 99 rfl
        have k100 := hF 100 rfl
        have k101 := hF 101 rfl
        have k102 := hF 102 rfl
        simp [PM.sl] at k0 k1 k2 k3 k4 k5 k6 k7 k8 k9 k10 k11 k12 k13 k14 k15 k17 k18 k19 k20 k21 k22 k23 k24 k25 k26 k27 k28 k29 k30 k31 k32 k33 k34 k35 k36 k37 k38 k39 k40 k41 k42 k43 k44 k45 k46 k47 k48 k49 k50 k51 k52 k53 k54 k55 k56 k57 k58 k59 k60 k61 k62 k63 k64 k65 k66 k67 k68 k69 k70 k71 k72 k73 k74 k75 k76 k77 k87 k88 k89 k90 k91 k92 k93 k94 k95 k96 k97 k98 k99 k100 k101 k102
        rw [show ((List.range (Array.size _)).map G).toArray = #[G 0, G 1, G 2, G 3, G 4, G 5, G 6, G 7, G 8, G 9, G 10, G 11, G 12, G 13, G 14, G 15, G 16, G 17, G 18, G 19, G 20, G 21, G 22, G 23, G 24, G 25, G 26, G 27, G 28, G 29, G 30, G 31, G 32, G 33, G 34, G 35, G 36, G 37, G 38, G 39, G 40, G 41, G 42, G 43, G 44, G 45, G 46, G 47, G 48, G 49, G 50, G 51, G 52, G 53, G 54, G 55, G 56, G 57, G 58, G 59, G 60, G 61, G 62, G 63, G 64, G 65, G 66, G 67, G 68, G 69, G 70, G 71, G 72, G 73, G 74, G 75, G 76, G 77, G 78, G 79, G 80, G 81, G 82, G 83, G 84, G 85, G 86, G 87, G 88, G 89, G 90, G 91, G 92, G 93, G 94, G 95, G 96, G 97, G 98, G 99, G 100, G 101, G 102] from rfl]
        clear hF hS
        rw [g16, k0, k1, k2, k3, k4, k5, k6, k7, k8, k9, k10, k11, k12, k13, k14, k15, k17, k18, k19, k20, k21, k22, k23, k24, k25, k26, k27, k28, k29, k30, k31, k32, k33, k34, k35, k36, k37, k38, k39, k40, k41, k42, k43, k44, k45, k46, k47, k48, k49, k50, k51, k52, k53, k54, k55, k56, k57, k58, k59, k60, k61, k62, k63, k64, k65, k66, k67, k68, k69, k70, k71, k72, k73, k74, k75, k76, k77, k87, k88, k89, k90, k91, k92, k93, k94, k95, k96, k97, k98, k99, k100, k101, k102]
        clear g16 k0 k1 k2 k3 k4 k5 k6 k7 k8 k9 k10 k11 k12 k13 k14 k15 k17 k18 k19 k20 k21 k22 k23 k24 k25 k26 k27 k28 k29 k30 k31 k32 k33 k34 k35 k36 k37 k38 k39 k40 k41 k42 k43 k44 k45 k46 k47 k48 k49 k50 k51 k52 k53 k54 k55 k56 k57 k58 k59 k60 k61 k62 k63 k64 k65 k66 k67 k68 k69 k70 k71 k72 k73 k74 k75 k76 k77 k87 k88 k89 k90 k91 k92 k93 k94 k95 k96 k97 k98 k99 k100 k101 k102
        replace kx := kx.keep hB
        replace hTh := PM.hid (And.intro (PM.SbL.keep hTh.out.1 hB) (PM.SbL.keep hTh.out.2 hB))
        replace hBB := PM.hid (PM.chain hBB.out hB)
        clear hB
        go_upto_region 20 with fail
        refine PM.wp_region_st [some 87, some 88, some 89, some 90, some 91, some 92, some 93, some 94, some 95, some 17] [fun vq _ => vq = .slice sa_ S sc_, fun vq _ => vq = .int .i64 c, fun vq _ => vq = .agg #[.int .i64 x.kind, .int .i64 x.id.br, .int .u64 (x.id.life : Int), .int .u64 (x.id.ser : Int), .int .i64 x.client, .int .u64 (x.sub : Int), .slice fa F fc, .slice ea L ec], fun v W => PM.EVL W v (PM.batchL t c x), fun vq _ => vq = .slice sb_ S sd_, fun vq _ => vq = .int .i64 c, fun vq _ => vq = .agg #[.int .i64 x.kind, .int .i64 x.id.br, .int .u64 (x.id.life : Int), .int .u64 (x.id.ser : Int), .int .i64 x.client, .int .u64 (x.sub : Int), .slice fa F fc, .slice ea L ec], fun v W => PM.EVL W v (PM.batchL t c x), fun vq _ => vq = .bool true, fun vq _ => vq = .bool true] (by kernel_rfl) (by kernel_rfl) (by kernel_rfl) ?_ ?_ ?_
        · simp only [List.forall_mem_cons]
          refine ⟨?_, ?_, ?_, ?_, ?_, ?_, ?_, ?_, ?_, ?_, by simp⟩
          all_goals (intro vq W W' h hb; first | exact h | exact PM.BS.keep hb h | exact PM.OW.keep hb h | exact PM.EVL.keepO hb h | exact PM.EnV.keep h hb)
        · refine ⟨?_, ?_, ?_, ?_, ?_, ?_, ?_, ?_, ?_, ?_, trivial⟩
          all_goals
            intro a W hB hF hd
            have k2 := hF 2 rfl
            have k7 := hF 7 rfl
            have k10 := hF 10 rfl
            have k11 := hF 11 rfl
            have hBW := PM.chain hBB.out hB
            have x0 : W.cell? ⟨gx, 0, none⟩ = some (.int .i64 x.kind) := (kx.keep hB).cell 0
            have x1 : W.cell? ⟨gx, 1, none⟩ = some (.int .i64 x.id.br) := (kx.keep hB).cell 1
            have x2 : W.cell? ⟨gx, 2, none⟩ = some (.int .u64 (x.id.life : Int)) := (kx.keep hB).cell 2
            have x3 : W.cell? ⟨gx, 3, none⟩ = some (.int .u64 (x.id.ser : Int)) := (kx.keep hB).cell 3
            have x4 : W.cell? ⟨gx, 4, none⟩ = some (.int .i64 x.client) := (kx.keep hB).cell 4
            have x5 : W.cell? ⟨gx, 5, none⟩ = some (.int .u64 (x.sub : Int)) := (kx.keep hB).cell 5
            have x6 : W.cell? ⟨gx, 6, none⟩ = some (.slice fa F fc) := (kx.keep hB).cell 6
            have x7 : W.cell? ⟨gx, 7, none⟩ = some (.slice ea L ec) := (kx.keep hB).cell 7
            clear hF
            simp [PM.depsL, PM.spec, PM.sl, Region.binds] at hd k2 k7 k10 k11
            simp only [PM.wantL, PM.spec]
            try simp only [PM.sl]
            go_simp
          all_goals try exact Below.refl _ _
          · refine (batch15_any (.slice sa_ S sc_) c t x.kind x.id.br x.id.life x.id.ser x.client x.sub x.fil x.evs fa F fc ea L ec W hLh.out (PM.SbL.keep hTh.out.1 hB) (by have := hokh.out.len; omega) (PM.EVL.keepO hBW hxr.out.2) ⟨hEnS.out.2.1, hEnS.out.2.2⟩).mono ?_
            rintro e w' ⟨u', rfl, ho, hb⟩
            have hq : PM.EVL w' u' (PM.batchL t c x) := ho.rr.imp fun cs x ⟨v, q1, q2⟩ => ⟨v, q1, (q2.em PM.attL_len).ev⟩
            first | exact ⟨hb, hq⟩ | exact ⟨hb, _, rfl, hq⟩
          · refine (rbatch15_any (.slice sb_ S sd_) c t x.kind x.id.br x.id.life x.id.ser x.client x.sub x.fil x.evs fa F fc ea L ec W hLh.out (PM.SbL.keep hTh.out.2 hB) (by have := hokh.out.len; omega) (PM.EVL.keepO hBW hxr.out.2) hEnS.out.2.1 hFwh.out.szE hsz.out).mono ?_
            rintro e w' ⟨u', rfl, hq, hb⟩
            first | exact ⟨hb, hq⟩ | exact ⟨hb, _, rfl, hq⟩
          · refine (events15_any _ _ _ _ W hd.1 hd.2).mono ?_
            rintro e w' ⟨hh, hb⟩
            rcases hh with ⟨rfl, -⟩ | ⟨-, hno⟩
            · first | exact ⟨hb, rfl⟩ | exact ⟨hb, _, rfl, rfl⟩
            · first | exact absurd rfl hno | exact (hno trivial).elim
        · intro G W hB hF hS
          simp [PM.allSp, PM.spec] at hS
          have g17 : G 17 = .bool true := by simp [hS]
          have k0 := hF 0 rfl
          have k1 := hF 1 rfl
          have k2 := hF 2 rfl
          have k3 := hF 3 rfl
          have k4 := hF 4 rfl
          have k5 := hF 5 rfl
          have k6 := hF 6 rfl
          have k7 := hF 7 rfl
          have k8 := hF 8 rfl
          have k9 := hF 9 rfl
          have k10 := hF 10 rfl
          have k11 := hF 11 rfl
          have k12 := hF 12 rfl
          have k13 := hF 13 rfl
          have k14 := hF 14 rfl
          have k15 := hF 15 rfl
          have k16 := hF 16 rfl
          have k18 := hF 18 rfl
          have k19 := hF 19 rfl
          have k20 := hF 20 rfl
          have k21 := hF 21 rfl
          have k22 := hF 22 rfl
          have k23 := hF 23 rfl
          have k24 := hF 24 rfl
          have k25 := hF 25 rfl
          have k26 := hF 26 rfl
          have k27 := hF 27 rfl
          have k28 := hF 28 rfl
          have k29 := hF 29 rfl
          have k30 := hF 30 rfl
          have k31 := hF 31 rfl
          have k32 := hF 32 rfl
          have k33 := hF 33 rfl
          have k34 := hF 34 rfl
          have k35 := hF 35 rfl
          have k36 := hF 36 rfl
          have k37 := hF 37 rfl
          have k38 := hF 38 rfl
          have k39 := hF 39 rfl
          have k40 := hF 40 rfl
          have k41 := hF 41 rfl
          have k42 := hF 42 rfl
          have k43 := hF 43 rfl
          have k44 := hF 44 rfl
          have k45 := hF 45 rfl
          have k46 := hF 46 rfl
          have k47 := hF 47 rfl
          have k48 := hF 48 rfl
          have k49 := hF 49 rfl
          have k50 := hF 50 rfl
          have k51 := hF 51 rfl
          have k52 := hF 52 rfl
          have k53 := hF 53 rfl
          have k54 := hF 54 rfl
          have k55 := hF 55 rfl
          have k56 := hF 56 rfl
          have k57 := hF 57 rfl
          have k58 := hF 58 rfl
          have k59 := hF 59 rfl
          have k60 := hF 60 rfl
          have k61 := hF 61 rfl
          have k62 := hF 62 rfl
          have k63 := hF 63 rfl
          have k64 := hF 64 rfl
          have k65 := hF 65 rfl
          have k66 := hF 66 rfl
          have k67 := hF 67 rfl
          have k68 := hF 68 rfl
          have k69 := hF 69 rfl
          have k70 := hF 70 rfl
          have k71 := hF 71 rfl
          have k72 := hF 72 rfl
          have k73 := hF 73 rfl
          have k74 := hF 74 rfl
          have k75 := hF 75 rfl
          have k76 := hF 76 rfl
          have k77 := hF 77 rfl
          have k78 := hF 78 rfl
          have k79 := hF 79 rfl
          have k80 := hF 80 rfl
          have k81 := hF 81 rfl
          have k82 := hF 82 rfl
          have k83 := hF 83 rfl
          have k84 := hF 84 rfl
          have k85 := hF 85 rfl
          have k86 := hF 86 rfl
          have k96 := hF 96 rfl
          have k97 := hF 97 rfl
          have k98 := hF 98 rfl
          have k99 := hF 99 rfl
          have k100 := hF 100 rfl
          have k101 := hF 101 rfl
          have k102 := hF 102 rfl
          simp [PM.sl] at k0 k1 k2 k3 k4 k5 k6 k7 k8 k9 k10 k11 k12 k13 k14 k15 k16 k18 k19 k20 k21 k22 k23 k24 k25 k26 k27 k28 k29 k30 k31 k32 k33 k34 k35 k36 k37 k38 k39 k40 k41 k42 k43 k44 k45 k46 k47 k48 k49 k50 k51 k52 k53 k54 k55 k56 k57 k58 k59 k60 k61 k62 k63 k64 k65 k66 k67 k68 k69 k70 k71 k72 k73 k74 k75 k76 k77 k78 k79 k80 k81 k82 k83 k84 k85 k86 k96 k97 k98 k99 k100 k101 k102
          rw [show ((List.range (Array.size _)).map G).toArray = #[G 0, G 1, G 2, G 3, G 4, G 5, G 6, G 7, G 8, G 9, G 10, G 11, G 12, G 13, G 14, G 15, G 16, G 17, G 18, G 19, G 20, G 21, G 22, G 23, G 24, G 25, G 26, G 27, G 28, G 29, G 30, G 31, G 32, G 33, G 34, G 35, G 36, G 37, G 38, G 39, G 40, G 41, G 42, G 43, G 44, G 45, G 46, G 47, G 48, G 49, G 50, G 51, G 52, G 53, G 54, G 55, G 56, G 57, G 58, G 59, G 60, G 61, G 62, G 63, G 64, G 65, G 66, G 67, G 68, G 69, G 70, G 71, G 72, G 73, G 74, G 75, G 76, G 77, G 78, G 79, G 80, G 81, G 82, G 83, G 84, G 85, G 86, G 87, G 88, G 89, G 90, G 91, G 92, G 93, G 94, G 95, G 96, G 97, G 98, G 99, G 100, G 101, G 102] from rfl]
          clear hF hS
          rw [g17, k0, k1, k2, k3, k4, k5, k6, k7, k8, k9, k10, k11, k12, k13, k14, k15, k16, k18, k19, k20, k21, k22, k23, k24, k25, k26, k27, k28, k29, k30, k31, k32, k33, k34, k35, k36, k37, k38, k39, k40, k41, k42, k43, k44, k45, k46, k47, k48, k49, k50, k51, k52, k53, k54, k55, k56, k57, k58, k59, k60, k61, k62, k63, k64, k65, k66, k67, k68, k69, k70, k71, k72, k73, k74, k75, k76, k77, k78, k79, k80, k81, k82, k83, k84, k85, k86, k96, k97, k98, k99, k100, k101, k102]
          clear g17 k0 k1 k2 k3 k4 k5 k6 k7 k8 k9 k10 k11 k12 k13 k14 k15 k16 k18 k19 k20 k21 k22 k23 k24 k25 k26 k27 k28 k29 k30 k31 k32 k33 k34 k35 k36 k37 k38 k39 k40 k41 k42 k43 k44 k45 k46 k47 k48 k49 k50 k51 k52 k53 k54 k55 k56 k57 k58 k59 k60 k61 k62 k63 k64 k65 k66 k67 k68 k69 k70 k71 k72 k73 k74 k75 k76 k77 k78 k79 k80 k81 k82 k83 k84 k85 k86 k96 k97 k98 k99 k100 k101 k102
          have hBe := PM.hid (PM.chain hBB.out hB)
          clear hB kx
          go_wp2_with fail
          go_ret
          exact ⟨rfl, hBe.out⟩
theorem tableTells_walk (v : Value) (l : List PM.En) (u1 : Value) (cs : List Int) (c : Int) (x : PM.En) (fv ev : Value) (hc : (Lit.int .i64 c).wf = true) (hx : x.wf) (w : World) (hv : PM.EnL w v l) (hw : ∀ y ∈ l, PM.En.wf y) (h1 : PM.ES PM.iv w u1 cs) (hf : PM.TV w fv x.fil) (he : PM.EVL w ev x.evs) :
    Calls Tryz.prog 3 #[v, u1, .int .i64 c, .agg (PM.enC x fv ev).toArray] w fun e w' => e = .returned (.bool true) ∧ Below w.heap.size w w' := by
  obtain ⟨va, vc, rfl⟩ := hv.len
  obtain ⟨ca, cc, rfl⟩ := h1.len
  obtain ⟨fa, fc, rfl⟩ := hf.len
  obtain ⟨ea, ec, rfl⟩ := PM.RR.len he
  exact tableTells_walkA va _ vc l ca _ cc cs c x fa _ fc ea _ ec w rfl rfl hv hw hx hf he h1
end Go.Proofs.YtnpbfjkfbobgaaaGreat
