/-
  CONTRACT OF vote.Tally.
-/
import Derived.Test.YtjninckmgkaliaaWa
namespace Go.Proofs.Ytjninckmgkaliaa
open Go.RowKit
set_option linter.unusedVariables false
set_option linter.unusedSimpArgs false
namespace PM
theorem says_cases (ks : List Ms) (i : Id) : says ks i = 0 ∨ says ks i = 1 ∨ says ks i = 2 := by
  unfold says
  split
  · exact .inr (.inr rfl)
  · split
    · exact .inr (.inl rfl)
    · exact .inl rfl
def vsHas (vs : List Vo) (i : Id) : Bool := vs.any fun v => decide (i = v.id)
def tal11 (ks : List Ms) (vs : List Vo) (x : En) : List Vo := if says ks x.id = 0 then vs else vs ++ [⟨x.id, decide (says ks x.id = 1)⟩]
/-- the votes on what was promised -/
def tal1 (ks : List Ms) (ps : List En) : List Vo := ps.foldl (tal11 ks) []
def tal31 (vs : List Vo) (i : Id) : List Vo := if vsHas vs i then vs else vs ++ [⟨i, false⟩]
/-- and on what was refused -/
def tal3 (vs : List Vo) (rf : List Id) : List Vo := rf.foldl tal31 vs
def tally (ps : List En) (rf : List Id) (ks : List Ms) : List Vo := (tal3 (tal1 ks ps) rf).take 16
theorem vsHas_snoc (vs : List Vo) (v : Vo) (i : Id) : vsHas (vs ++ [v]) i = (vsHas vs i || decide (i = v.id)) := by simp [vsHas]
theorem tal1_snoc {ks : List Ms} {ps : List En} {k : Nat} {x : En} (h : ps[k]? = some x) : tal1 ks (ps.take (k + 1)) = tal11 ks (tal1 ks (ps.take k)) x := by
  unfold tal1
  rw [take_at h, List.foldl_append]
  rfl
theorem tal3_snoc {vs : List Vo} {rf : List Id} {k : Nat} {x : Id} (h : rf[k]? = some x) : tal3 vs (rf.take (k + 1)) = tal31 (tal3 vs (rf.take k)) x := by
  unfold tal3
  rw [take_at h, List.foldl_append]
  rfl
theorem tal11_0 {ks : List Ms} {vs : List Vo} {x : En} (h : says ks x.id = 0) : tal11 ks vs x = vs := by unfold tal11; rw [if_pos h]
theorem tal11_1 {ks : List Ms} {vs : List Vo} {x : En} (h : says ks x.id = 1) : tal11 ks vs x = vs ++ [⟨x.id, true⟩] := by unfold tal11; rw [h]; rfl
theorem tal11_2 {ks : List Ms} {vs : List Vo} {x : En} (h : says ks x.id = 2) : tal11 ks vs x = vs ++ [⟨x.id, false⟩] := by unfold tal11; rw [h]; rfl
theorem tal31_yes {vs : List Vo} {i : Id} (h : vsHas vs i = true) : tal31 vs i = vs := by unfold tal31; rw [if_pos h]
theorem tal31_no {vs : List Vo} {i : Id} (h : vsHas vs i = false) : tal31 vs i = vs ++ [⟨i, false⟩] := by unfold tal31; rw [if_neg (by rw [h]; decide)]
theorem tal1_lenA (ks : List Ms) : ∀ (ps : List En) (vs : List Vo), (ps.foldl (tal11 ks) vs).length ≤ vs.length + ps.length
  | [], vs => by simp
  | x :: ps, vs => by
    have h1 := tal1_lenA ks ps (tal11 ks vs x)
    have h2 : (tal11 ks vs x).length ≤ vs.length + 1 := by
      unfold tal11
      split
      · omega
      · simp
    simp only [List.foldl_cons, List.length_cons]
    omega
theorem tal1_len (ks : List Ms) (ps : List En) : (tal1 ks ps).length ≤ ps.length := by
  have := tal1_lenA ks ps []
  simpa [tal1] using this
theorem tal3_len : ∀ (vs : List Vo) (rf : List Id), (tal3 vs rf).length ≤ vs.length + rf.length
  | vs, [] => by simp [tal3]
  | vs, i :: rf => by
    have h1 := tal3_len (tal31 vs i) rf
    have h2 : (tal31 vs i).length ≤ vs.length + 1 := by
      unfold tal31
      split
      · omega
      · simp
    have h3 : tal3 vs (i :: rf) = tal3 (tal31 vs i) rf := rfl
    rw [h3]
    simp only [List.length_cons]
    omega
theorem EM.capS {α : Type} {e : α → List Value} {c : Nat} {w : World} {a : Option Addr} {n cap : Nat} {l : List α} (h : EM e c w (.slice a n cap) l) : n ≤ cap := by
  obtain ⟨ad, cap', he, h1, h2, h3⟩ := h
  injection he with he1 he2 he3
  omega
theorem EM.takeS {α : Type} {e : α → List Value} {c : Nat} {w : World} {a : Option Addr} {n cap : Nat} {l : List α} (h : EM e c w (.slice a n cap) l) {K : Nat} (hK : K ≤ n) : EM e c w (.slice a K cap) (l.take K) := by
  obtain ⟨ad, cap', he, h1, h2, h3⟩ := h
  injection he with he1 he2 he3
  subst he1 he2 he3
  have hl : (l.take K).length = K := List.length_take_of_le hK
  refine ⟨a, cap, by rw [hl], by omega, h2, fun hp => ?_⟩
  obtain ⟨b, off, ha, h4⟩ := h3 (by omega)
  refine ⟨b, off, ha, fun i x hi => h4 i x ?_⟩
  rw [List.getElem?_take] at hi
  split at hi
  · exact hi
  · cases hi
theorem take_min {α : Type} (l : List α) (n : Nat) : l.take (min l.length n) = l.take n := by
  rcases Nat.le_total l.length n with h | h
  · rw [Nat.min_eq_left h, List.take_length, List.take_of_length_le h]
  · rw [Nat.min_eq_right h]
end PM
set_option maxRecDepth 100000 in
set_option maxHeartbeats 16000000 in
theorem tally_any (u0 u1 u2 : Value) (ps : List PM.En) (rf : List PM.Id) (ks : List PM.Ms) (w : World) (hv0 : PM.EnL w u0 ps) (hv1 : PM.EM PM.idL 3 w u1 rf) (hv2 : PM.MsL w u2 ks) (hl0 : ps.length ≤ 1000) (hl1 : rf.length ≤ 1000) :
    Calls Try.prog 16 #[u0, u1, u2] w fun e w' => ∃ u, e = .returned u ∧ PM.OM PM.voL 4 45 w.heap.size w' u (PM.tally ps rf ks) ∧ Below w.heap.size w w' := by
  obtain ⟨a0, c0, rfl⟩ := hv0.len
  obtain ⟨a1, c1, rfl⟩ := hv1.len
  obtain ⟨a2, c2, rfl⟩ := hv2.len
  obtain ⟨N, hN⟩ : ∃ N, N = ps.length := ⟨_, rfl⟩
  obtain ⟨M, hM⟩ : ∃ N, N = rf.length := ⟨_, rfl⟩
  have hNh := PM.hid hN
  have hMh := PM.hid hM
  rw [← hN] at hv0 hl0 ⊢
  rw [← hM] at hv1 hl1 ⊢
  replace hv0 := PM.hid hv0
  replace hv1 := PM.hid hv1
  replace hv2 := PM.hid hv2
  generalize ks.length = KL at *
  clear hN hM
  go_enter Try.func16, Try.ntmps16
  go_wp2_with fail
  go_loopw [7, 20] (fun sv i wr => ∃ k : Nat, i = .int .i64 k ∧ k ≤ N ∧ Hid (PM.OM PM.voL 4 45 w.heap.size wr sv (PM.tal1 ks (ps.take k)) ∧ Below w.heap.size w wr)) (fun _ i _ => N - (intOf i).toNat)
  case atStart => exact ⟨0, rfl, by omega, PM.hid ⟨PM.OM.nilrow _, Below.refl _ _⟩⟩
  case round =>
    obtain ⟨k, rfl, hk, hin⟩ := hrel
    obtain ⟨hI, hB⟩ := hin.out
    have hBB := PM.hid hB
    have hsl := PM.tal1_len ks (ps.take k)
    have hkl : (ps.take k).length = k := by rw [List.length_take]; rw [← hNh.out]; omega
    rw [hkl] at hsl
    clear hin hkl
    obtain ⟨vs, hvs⟩ : ∃ x, x = PM.tal1 ks (ps.take k) := ⟨_, rfl⟩
    rw [← hvs] at hI hsl
    have hvh := PM.hid hvs
    clear hvs
    obtain ⟨pa, pc, hpe⟩ := (hI.em PM.voL_len).len
    subst hpe
    obtain ⟨P, hP⟩ : ∃ P, P = vs.length := ⟨_, rfl⟩
    rw [← hP] at hI hsl ⊢
    have hPh := PM.hid hP
    clear hP
    by_cases hlt : k < N
    · obtain ⟨z, hz⟩ : ∃ z, ps[k]? = some z := ⟨ps[k]'(by rw [← hNh.out]; exact hlt), List.getElem?_eq_getElem _⟩
      obtain ⟨b, off, rfl, hce⟩ := PM.RR.opn hv0.out (by rw [← hNh.out]; omega)
      obtain ⟨cs, hl0, hR⟩ := hce k z hz
      obtain ⟨fa, fc, ea, ec, hcs, -, -⟩ := PM.enR_open hR
      replace hl0 := hl0.keep hB
      rw [hcs] at hl0
      have d0 : wr.cell? ⟨b, off + k * 8, none⟩ = some (.int .i64 z.kind) := hl0 0 _ rfl
      have d1 : wr.cell? ⟨b, off + k * 8 + 1, none⟩ = some (.int .i64 z.id.br) := hl0 1 _ rfl
      have d2 : wr.cell? ⟨b, off + k * 8 + 2, none⟩ = some (.int .u64 (z.id.life : Int)) := hl0 2 _ rfl
      have d3 : wr.cell? ⟨b, off + k * 8 + 3, none⟩ = some (.int .u64 (z.id.ser : Int)) := hl0 3 _ rfl
      have d4 : wr.cell? ⟨b, off + k * 8 + 4, none⟩ = some (.int .i64 z.client) := hl0 4 _ rfl
      have d5 : wr.cell? ⟨b, off + k * 8 + 5, none⟩ = some (.int .u64 (z.sub : Int)) := hl0 5 _ rfl
      have d6 : wr.cell? ⟨b, off + k * 8 + 6, none⟩ = some (.slice fa z.fil.length fc) := hl0 6 _ rfl
      have d7 : wr.cell? ⟨b, off + k * 8 + 7, none⟩ = some (.slice ea z.evs.length ec) := hl0 7 _ rfl
      have hzh := PM.hid hz
      obtain ⟨zF, hzF⟩ : ∃ P, P = z.fil.length := ⟨_, rfl⟩
      obtain ⟨zE, hzE⟩ : ∃ P, P = z.evs.length := ⟨_, rfl⟩
      rw [← hzF] at d6
      rw [← hzE] at d7
      clear hz hce hl0 hR hcs cs hB hzF hzE
      go_upto_region 5 with fail
      obtain ⟨gx, hgx⟩ : ∃ g, g = wr.heap.size := ⟨_, rfl⟩
      obtain ⟨w3, hw3⟩ : ∃ W, W = wr.alloc (.cells #[.int .i64 z.kind, .int .i64 z.id.br, .int .u64 (z.id.life : Int), .int .u64 (z.id.ser : Int), .int .i64 z.client, .int .u64 (z.sub : Int), .slice fa zF fc, .slice ea zE ec] 50) := ⟨_, rfl⟩
      have hBn : Below wr.heap.size wr w3 := by rw [hw3]; exact (Below.refl _ _).alloc (Nat.le_refl _) _
      have kx : PM.BK w3 gx #[.int .i64 z.kind, .int .i64 z.id.br, .int .u64 (z.id.life : Int), .int .u64 (z.id.ser : Int), .int .i64 z.client, .int .u64 (z.sub : Int), .slice fa zF fc, .slice ea zE ec] 50 := by rw [hw3, hgx]; exact PM.BK.new _ _ _
      rw [← hw3, ← hgx]
      clear hw3 hgx
      clear d0 d1 d2 d3 d4 d5 d6 d7
      replace hI := hI.keep hBn
      replace hBB := PM.hid (PM.chain hBB.out hBn)
      clear hBn
      have x0 : w3.cell? ⟨gx, 0, none⟩ = some (.int .i64 z.kind) := kx.cell 0
      have x1 : w3.cell? ⟨gx, 1, none⟩ = some (.int .i64 z.id.br) := kx.cell 1
      have x2 : w3.cell? ⟨gx, 2, none⟩ = some (.int .u64 (z.id.life : Int)) := kx.cell 2
      have x3 : w3.cell? ⟨gx, 3, none⟩ = some (.int .u64 (z.id.ser : Int)) := kx.cell 3
      have x4 : w3.cell? ⟨gx, 4, none⟩ = some (.int .i64 z.client) := kx.cell 4
      have x5 : w3.cell? ⟨gx, 5, none⟩ = some (.int .u64 (z.sub : Int)) := kx.cell 5
      have x6 : w3.cell? ⟨gx, 6, none⟩ = some (.slice fa zF fc) := kx.cell 6
      have x7 : w3.cell? ⟨gx, 7, none⟩ = some (.slice ea zE ec) := kx.cell 7
      go_wp2_with fail
      refine (says_any _ z.id ks w3 (PM.MsL.keep hv2.out hBB.out)).mono ?_
      rintro e w5 ⟨rfl, hBn⟩
      clear x0 x1 x2 x3 x4 x5 x6 x7
      replace hI := hI.keep hBn
      replace kx := kx.keep hBn
      replace hBB := PM.hid (PM.chain hBB.out hBn)
      clear hBn
      have x0 : w5.cell? ⟨gx, 0, none⟩ = some (.int .i64 z.kind) := kx.cell 0
      have x1 : w5.cell? ⟨gx, 1, none⟩ = some (.int .i64 z.id.br) := kx.cell 1
      have x2 : w5.cell? ⟨gx, 2, none⟩ = some (.int .u64 (z.id.life : Int)) := kx.cell 2
      have x3 : w5.cell? ⟨gx, 3, none⟩ = some (.int .u64 (z.id.ser : Int)) := kx.cell 3
      have x4 : w5.cell? ⟨gx, 4, none⟩ = some (.int .i64 z.client) := kx.cell 4
      have x5 : w5.cell? ⟨gx, 5, none⟩ = some (.int .u64 (z.sub : Int)) := kx.cell 5
      have x6 : w5.cell? ⟨gx, 6, none⟩ = some (.slice fa zF fc) := kx.cell 6
      have x7 : w5.cell? ⟨gx, 7, none⟩ = some (.slice ea zE ec) := kx.cell 7
      rcases PM.says_cases ks z.id with h0 | h0 | h0
      · rw [h0]
        have h0h := PM.hid h0
        have hin2 := PM.hid (And.intro hI hBB.out)
        clear h0 hI kx
        go_wp2_with fail
        exact ⟨⟨k + 1, by go_num, by omega, PM.hid (by rw [PM.tal1_snoc hzh.out, ← hvh.out, PM.tal11_0 h0h.out]; exact hin2.out)⟩, by simp only [intOf]; omega⟩
      · rw [h0]
        have h0h := PM.hid h0
        clear h0
        have hl16 : (vs.length + 1) * 32 ≤ 140737488355328 := by rw [← hPh.out]; omega
        have hl17 : vs.length + 1 ≤ maxLen := by rw [← hPh.out]; unfold maxLen; omega
        have hsz := hBB.out.size
        have hrt := hI.rt
        rw [hPh.out] at hI
        go_wp2_with (at_builtin; rw [hPh.out]; go_loud (refine PM.wpList_em1 (e := PM.voL) tyVoO PM.voL_len PM.voL_one w.heap.size w5 rfl _ _ rfl _ vs (⟨z.id, true⟩ : PM.Vo) _ rfl rfl rfl rfl hI hl16 hl17 hsz ?_); intro v' w' t1 t2 t3 t4; rw [← hPh.out] at t3; have hE := PM.hid (And.intro t1 (And.intro (hBB.out.trans t2) t3)); clear t1 t2 t3 t4 hsz hI)
        exact ⟨⟨k + 1, by go_num, by omega, PM.hid (by rw [PM.tal1_snoc hzh.out, ← hvh.out, PM.tal11_1 h0h.out]; exact ⟨hE.out.1, hE.out.2.1⟩)⟩, by simp only [intOf]; omega⟩
      · rw [h0]
        have h0h := PM.hid h0
        clear h0
        have hl16 : (vs.length + 1) * 32 ≤ 140737488355328 := by rw [← hPh.out]; omega
        have hl17 : vs.length + 1 ≤ maxLen := by rw [← hPh.out]; unfold maxLen; omega
        have hsz := hBB.out.size
        have hrt := hI.rt
        rw [hPh.out] at hI
        go_wp2_with (at_builtin; rw [hPh.out]; go_loud (refine PM.wpList_em1 (e := PM.voL) tyVoO PM.voL_len PM.voL_one w.heap.size w5 rfl _ _ rfl _ vs (⟨z.id, false⟩ : PM.Vo) _ rfl rfl rfl rfl hI hl16 hl17 hsz ?_); intro v' w' t1 t2 t3 t4; rw [← hPh.out] at t3; have hE := PM.hid (And.intro t1 (And.intro (hBB.out.trans t2) t3)); clear t1 t2 t3 t4 hsz hI)
        exact ⟨⟨k + 1, by go_num, by omega, PM.hid (by rw [PM.tal1_snoc hzh.out, ← hvh.out, PM.tal11_2 h0h.out]; exact ⟨hE.out.1, hE.out.2.1⟩)⟩, by simp only [intOf]; omega⟩
    · obtain rfl : k = N := by omega
      have he : vs = PM.tal1 ks ps := by
        have := hvh.out
        rw [hNh.out, List.take_length] at this
        exact this
      rw [he] at hI hPh
      clear he hvh
      obtain ⟨V, hV⟩ : ∃ V, V = P := ⟨_, rfl⟩
      rw [← hV] at hI hPh hsl ⊢
      have hVh := hPh
      clear hPh hV hB
      obtain ⟨wr1, hwr1⟩ : ∃ W, W = wr := ⟨_, rfl⟩
      rw [← hwr1] at hI hBB ⊢
      clear hwr1
      obtain ⟨gs, hgs⟩ : ∃ g, g = wr1.heap.size := ⟨_, rfl⟩
      obtain ⟨wm, hwm⟩ : ∃ W, W = wr1.alloc (.map #[] 0) := ⟨_, rfl⟩
      have hBn : Below wr1.heap.size wr1 wm := by rw [hwm]; exact (Below.refl _ _).alloc (Nat.le_refl _) _
      have kd : PM.DS wm gs (fun _ => False) := by rw [hwm, hgs]; exact PM.DS.new _
      have hgw : Hid (w.heap.size ≤ gs) := PM.hid (by rw [hgs]; exact hBB.out.size)
      have hS2 := PM.hid (And.intro (hI.keep hBn) (And.intro kd (PM.chain hBB.out hBn)))
      clear hI hBn kd hBB
      have hmm : ∀ W : World, (Instr.makeMap 57 none).run Try.prog W = .ok (.map (some W.heap.size)) (W.alloc (.map #[] 0)) := fun W => rfl
      go_wp2_with fail
      rw [← hwm, ← hgs]
      clear hwm hgs hmm
      go_loopw [42] (fun i wr => ∃ k : Nat, i = .int .i64 k ∧ k ≤ V ∧ Hid (PM.OM PM.voL 4 45 w.heap.size wr (.slice pa V pc) (PM.tal1 ks ps) ∧ PM.DS wr gs (fun i => PM.vsHas ((PM.tal1 ks ps).take k) i = true) ∧ Below w.heap.size w wr)) (fun i _ => V - (intOf i).toNat)
      case atStart => exact ⟨0, rfl, by omega, PM.hid ⟨hS2.out.1, hS2.out.2.1.imp fun i => by simp [PM.vsHas], hS2.out.2.2⟩⟩
      case round =>
        obtain ⟨k, rfl, hk, hin⟩ := hrel
        obtain ⟨hI, hD, hB⟩ := hin.out
        have hBB := PM.hid hB
        clear hin
        by_cases hlt : k < V
        · obtain ⟨z, hz⟩ : ∃ z, (PM.tal1 ks ps)[k]? = some z := ⟨(PM.tal1 ks ps)[k]'(by rw [← hVh.out]; exact hlt), List.getElem?_eq_getElem _⟩
          obtain ⟨b, off, cap', he, -, -, hce⟩ := PM.EM.open1 (hI.em PM.voL_len) (by rw [← hVh.out]; omega)
          injection he with he1 he2 he3
          subst he1
          have hl0 := hce k z hz
          have d0 : wr.cell? ⟨b, off + k * 4, none⟩ = some (.int .i64 z.id.br) := hl0 0 _ rfl
          have d1 : wr.cell? ⟨b, off + k * 4 + 1, none⟩ = some (.int .u64 (z.id.life : Int)) := hl0 1 _ rfl
          have d2 : wr.cell? ⟨b, off + k * 4 + 2, none⟩ = some (.int .u64 (z.id.ser : Int)) := hl0 2 _ rfl
          have d3 : wr.cell? ⟨b, off + k * 4 + 3, none⟩ = some (.bool z.yes) := hl0 3 _ rfl
          have hzh := PM.hid hz
          clear hz hce hl0 hB he2 he3
          go_upto_region 13 with fail
          obtain ⟨gx, hgx⟩ : ∃ g, g = wr.heap.size := ⟨_, rfl⟩
          obtain ⟨w3, hw3⟩ : ∃ W, W = wr.alloc (.cells #[.int .i64 z.id.br, .int .u64 (z.id.life : Int), .int .u64 (z.id.ser : Int), .bool z.yes] 45) := ⟨_, rfl⟩
          have hBn : Below wr.heap.size wr w3 := by rw [hw3]; exact (Below.refl _ _).alloc (Nat.le_refl _) _
          have kx : PM.BK w3 gx #[.int .i64 z.id.br, .int .u64 (z.id.life : Int), .int .u64 (z.id.ser : Int), .bool z.yes] 45 := by rw [hw3, hgx]; exact PM.BK.new _ _ _
          rw [← hw3, ← hgx]
          clear hw3 hgx
          clear d0 d1 d2 d3
          replace hI := hI.keep hBn
          replace hD := hD.keep hBn
          replace hBB := PM.hid (PM.chain hBB.out hBn)
          clear hBn
          obtain ⟨w6, hup, hD6, hx6⟩ := PM.run_insD Try.underlying57 idKey hD z.id
          unfold PM.idv at hup
          have x0 : w3.cell? ⟨gx, 0, none⟩ = some (.int .i64 z.id.br) := kx.cell 0
          have x1 : w3.cell? ⟨gx, 1, none⟩ = some (.int .u64 (z.id.life : Int)) := kx.cell 1
          have x2 : w3.cell? ⟨gx, 2, none⟩ = some (.int .u64 (z.id.ser : Int)) := kx.cell 2
          have x3 : w3.cell? ⟨gx, 3, none⟩ = some (.bool z.yes) := kx.cell 3
          replace hI := hI.keepD hx6 hD
          replace hBB := PM.hid (PM.Bx.below hBB.out hx6 hgw.out hBB.out.size)
          have hin2 := PM.hid (And.intro hI (And.intro hD6 hBB.out))
          clear hD hx6 hI hD6 kx
          go_wp2_with fail
          refine ⟨⟨k + 1, by go_num, by omega, PM.hid ⟨hin2.out.1, hin2.out.2.1.imp fun i => ?_, hin2.out.2.2⟩⟩, by simp only [intOf]; omega⟩
          rw [PM.take_at hzh.out, PM.vsHas_snoc, Bool.or_eq_true, decide_eq_true_eq]
        · obtain rfl : k = V := by omega
          have hS3 : Hid (PM.OM PM.voL 4 45 w.heap.size wr (.slice pa k pc) (PM.tal1 ks ps) ∧ PM.DS wr gs (fun i => PM.vsHas (PM.tal1 ks ps) i = true) ∧ Below w.heap.size w wr) := PM.hid ⟨hI, hD.imp fun i => by (have h9 : (PM.tal1 ks ps).take k = PM.tal1 ks ps := (by rw [hVh.out]; exact List.take_length)); rw [h9], hB⟩
          clear hI hD hB hBB
          obtain ⟨wr2, hwr2⟩ : ∃ W, W = wr := ⟨_, rfl⟩
          rw [← hwr2] at hS3 ⊢
          clear hwr2
          go_wp2_with fail
          go_loopw [7, 53] (fun sv i wr => ∃ k : Nat, i = .int .i64 k ∧ k ≤ M ∧ Hid (PM.OM PM.voL 4 45 w.heap.size wr sv (PM.tal3 (PM.tal1 ks ps) (rf.take k)) ∧ PM.DS wr gs (fun i => PM.vsHas (PM.tal3 (PM.tal1 ks ps) (rf.take k)) i = true) ∧ Below w.heap.size w wr)) (fun _ i _ => M - (intOf i).toNat)
          case atStart => exact ⟨0, rfl, by omega, PM.hid ⟨hS3.out.1, hS3.out.2.1, hS3.out.2.2⟩⟩
          case round =>
            obtain ⟨k, rfl, hk, hin⟩ := hrel
            obtain ⟨hI, hD, hB⟩ := hin.out
            have hBB := PM.hid hB
            have hsl := PM.tal3_len (PM.tal1 ks ps) (rf.take k)
            have hkl : (rf.take k).length = k := by rw [List.length_take]; rw [← hMh.out]; omega
            rw [hkl] at hsl
            have hs1l := PM.tal1_len ks ps
            rw [← hNh.out] at hs1l
            clear hin hkl
            obtain ⟨vs, hvs⟩ : ∃ x, x = PM.tal3 (PM.tal1 ks ps) (rf.take k) := ⟨_, rfl⟩
            rw [← hvs] at hI hD hsl
            have hvh := PM.hid hvs
            clear hvs
            obtain ⟨pa, pc, hpe⟩ := (hI.em PM.voL_len).len
            subst hpe
            obtain ⟨P, hP⟩ : ∃ P, P = vs.length := ⟨_, rfl⟩
            rw [← hP] at hI hsl ⊢
            have hPh := PM.hid hP
            have hP2 : P ≤ 2000 := by omega
            clear hP hs1l hsl
            by_cases hlt : k < M
            · obtain ⟨z, hz⟩ : ∃ z, rf[k]? = some z := ⟨rf[k]'(by rw [← hMh.out]; exact hlt), List.getElem?_eq_getElem _⟩
              obtain ⟨b, off, cap', he, -, -, hce⟩ := PM.EM.open1 hv1.out (by rw [← hMh.out]; omega)
              injection he with he1 he2 he3
              subst he1
              have hl0 := (hce k z hz).keep hB
              have d0 : wr.cell? ⟨b, off + k * 3, none⟩ = some (.int .i64 z.br) := hl0 0 _ rfl
              have d1 : wr.cell? ⟨b, off + k * 3 + 1, none⟩ = some (.int .u64 (z.life : Int)) := hl0 1 _ rfl
              have d2 : wr.cell? ⟨b, off + k * 3 + 2, none⟩ = some (.int .u64 (z.ser : Int)) := hl0 2 _ rfl
              have hzh := PM.hid hz
              clear hz hce hl0 hB he2 he3
              go_upto_region 18 with fail
              obtain ⟨gx, hgx⟩ : ∃ g, g = wr.heap.size := ⟨_, rfl⟩
              obtain ⟨w3, hw3⟩ : ∃ W, W = wr.alloc (.cells #[.int .i64 z.br, .int .u64 (z.life : Int), .int .u64 (z.ser : Int)] 30) := ⟨_, rfl⟩
              have hBn : Below wr.heap.size wr w3 := by rw [hw3]; exact (Below.refl _ _).alloc (Nat.le_refl _) _
              have kx : PM.BK w3 gx #[.int .i64 z.br, .int .u64 (z.life : Int), .int .u64 (z.ser : Int)] 30 := by rw [hw3, hgx]; exact PM.BK.new _ _ _
              rw [← hw3, ← hgx]
              clear hw3 hgx
              clear d0 d1 d2
              replace hI := hI.keep hBn
              replace hD := hD.keep hBn
              replace hBB := PM.hid (PM.chain hBB.out hBn)
              clear hBn
              obtain ⟨c, hc, hlk⟩ := PM.run_lookD Try.underlying57 idKey hD z unitZ
              unfold PM.idv at hlk
              have hch := PM.hid hc
              clear hc
              have x0 : w3.cell? ⟨gx, 0, none⟩ = some (.int .i64 z.br) := kx.cell 0
              have x1 : w3.cell? ⟨gx, 1, none⟩ = some (.int .u64 (z.life : Int)) := kx.cell 1
              have x2 : w3.cell? ⟨gx, 2, none⟩ = some (.int .u64 (z.ser : Int)) := kx.cell 2
              go_upto_region 19 with fail
              obtain ⟨w4, hw4⟩ : ∃ W, W = w3.alloc (.cells #[] 58) := ⟨_, rfl⟩
              have hBn : Below w3.heap.size w3 w4 := by rw [hw4]; exact (Below.refl _ _).alloc (Nat.le_refl _) _
              rw [← hw4]
              clear hw4 hlk x0 x1 x2
              replace hI := hI.keep hBn
              replace hD := hD.keep hBn
              replace kx := kx.keep hBn
              replace hBB := PM.hid (PM.chain hBB.out hBn)
              clear hBn
              cases c
              case true =>
                have hin2 := PM.hid (And.intro hI (And.intro hD hBB.out))
                clear hI hD kx
                go_wp2_with fail
                exact ⟨⟨k + 1, by go_num, by omega, PM.hid (by rw [PM.tal3_snoc hzh.out, ← hvh.out, PM.tal31_yes (hch.out.1 rfl)]; exact hin2.out)⟩, by simp only [intOf]; omega⟩
              have hnos : Hid (PM.vsHas vs z = false) := PM.hid (by
                cases h : PM.vsHas vs z
                · rfl
                · exact absurd (hch.out.2 h) (by simp))
              clear hch
              obtain ⟨w6, hup, hD6, hx6⟩ := PM.run_insD Try.underlying57 idKey hD z
              unfold PM.idv at hup
              have hne := hD.neB kx
              have x0 : w4.cell? ⟨gx, 0, none⟩ = some (.int .i64 z.br) := kx.cell 0
              have x1 : w4.cell? ⟨gx, 1, none⟩ = some (.int .u64 (z.life : Int)) := kx.cell 1
              have x2 : w4.cell? ⟨gx, 2, none⟩ = some (.int .u64 (z.ser : Int)) := kx.cell 2
              go_upto_region 21 with fail
              clear x0 x1 x2 hup
              replace hI := hI.keepD hx6 hD
              replace kx := kx.keepx hx6 hne
              replace hBB := PM.hid (PM.Bx.below hBB.out hx6 hgw.out hBB.out.size)
              clear hD hx6 hne
              have hD := hD6
              clear hD6
              have x0 : w6.cell? ⟨gx, 0, none⟩ = some (.int .i64 z.br) := kx.cell 0
              have x1 : w6.cell? ⟨gx, 1, none⟩ = some (.int .u64 (z.life : Int)) := kx.cell 1
              have x2 : w6.cell? ⟨gx, 2, none⟩ = some (.int .u64 (z.ser : Int)) := kx.cell 2
              have hl16 : (vs.length + 1) * 32 ≤ 140737488355328 := by rw [← hPh.out]; omega
              have hl17 : vs.length + 1 ≤ maxLen := by rw [← hPh.out]; unfold maxLen; omega
              have hsz := hBB.out.size
              have hrt := hI.rt
              rw [hPh.out] at hI
              go_wp2_with (at_builtin; rw [hPh.out]; go_loud (refine PM.wpList_em1 (e := PM.voL) tyVoO PM.voL_len PM.voL_one w.heap.size w6 rfl _ _ rfl _ vs (⟨z, false⟩ : PM.Vo) _ rfl rfl rfl rfl hI hl16 hl17 hsz ?_); intro v' w' t1 t2 t3 t4; rw [← hPh.out] at t3; have hE := PM.hid (And.intro t1 (And.intro (hBB.out.trans t2) t3)); clear t1 t2 t3 t4 hsz hI)
              refine ⟨⟨k + 1, by go_num, by omega, PM.hid ?_⟩, by simp only [intOf]; omega⟩
              rw [PM.tal3_snoc hzh.out, ← hvh.out, PM.tal31_no hnos.out]
              refine ⟨hE.out.1, (hD.grownK hE.out.2.2 hrt).imp fun i => ?_, hE.out.2.1⟩
              rw [PM.vsHas_snoc, Bool.or_eq_true, decide_eq_true_eq]
            · obtain rfl : k = M := by omega
              have hfinE : Hid ((vs.take (min P 16)) = PM.tally ps rf ks) := PM.hid (by
                have := hvh.out
                rw [hMh.out, List.take_length] at this
                rw [hPh.out, this]
                unfold PM.tally
                rw [PM.take_min])
              clear hD hB
              obtain ⟨wZ, hwZ⟩ : ∃ W, W = wr := ⟨_, rfl⟩
              rw [← hwZ] at hI hBB ⊢
              clear hwZ
              obtain ⟨out, hout⟩ : ∃ o, o = vs := ⟨_, rfl⟩
              rw [← hout] at hfinE hI hPh
              clear hout
              obtain ⟨V, hV⟩ : ∃ V, V = P := ⟨_, rfl⟩
              rw [← hV] at hfinE hI hPh ⊢
              have hVh := hPh
              clear hPh hV
              by_cases h16 : V ≤ 16
              · have hcap : V ≤ pc := PM.EM.capS (hI.em PM.voL_len)
                have htE := PM.EM.takeS (K := V) (hI.em PM.voL_len) (by omega)
                have hfl := fun (W : World) (hb : Below wZ.heap.size wZ W) => flatVo_any _ (out.take V) W (htE.keep hb) (by rw [List.length_take]; omega)
                have hend := PM.hid (And.intro hfl (And.intro hBB.out hfinE.out))
                clear hfl htE hI hBB hfinE
                have hm : min (V : Int) 16 = (V : Int) := by omega
                go_wp2_with fail
                refine (hend.out.1 _ (Below.refl _ _)).mono ?_
                rintro e wE ⟨u, rfl, hu, hBn⟩
                have hE := PM.hid (And.intro hu hBn)
                clear hu hBn
                go_wp2_with fail
                go_ret
                exact ⟨_, rfl, by rw [← hend.out.2.2, show min V 16 = V from by omega]; exact hE.out.1.mono hend.out.2.1.size, PM.chain hend.out.2.1 hE.out.2⟩
              · have hcap : V ≤ pc := PM.EM.capS (hI.em PM.voL_len)
                have htE := PM.EM.takeS (K := 16) (hI.em PM.voL_len) (by omega)
                have hfl := fun (W : World) (hb : Below wZ.heap.size wZ W) => flatVo_any _ (out.take 16) W (htE.keep hb) (by rw [List.length_take]; omega)
                have hend := PM.hid (And.intro hfl (And.intro hBB.out hfinE.out))
                clear hfl htE hI hBB hfinE
                have hm : min (V : Int) 16 = 16 := by omega
                go_wp2_with fail
                refine (hend.out.1 _ (Below.refl _ _)).mono ?_
                rintro e wE ⟨u, rfl, hu, hBn⟩
                have hE := PM.hid (And.intro hu hBn)
                clear hu hBn
                go_wp2_with fail
                go_ret
                exact ⟨_, rfl, by rw [← hend.out.2.2, show min V 16 = 16 from by omega]; exact hE.out.1.mono hend.out.2.1.size, PM.chain hend.out.2.1 hE.out.2⟩
end Go.Proofs.Ytjninckmgkaliaa
