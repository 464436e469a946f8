/-
  CONTRACTS of order.Told.
-/
import Derived.Test.YtlijmmldfdmajaaOa
namespace Go.Proofs.Ytlijmmldfdmajaa
open Go.RowKit
set_option linter.unusedVariables false
set_option linter.unusedSimpArgs false
namespace PM
def td1 (ab : List Id) (out : List Id) (x : En) : List Id := if hasI ab x.id = true ∧ hasI out x.id = false ∧ out.length < 16 then out ++ [x.id] else out
def toldL (ab : List Id) (l : List En) : List Id := l.foldl (td1 ab) []
theorem toldL_snoc {ab : List Id} {l : List En} {k : Nat} {x : En} (h : l[k]? = some x) : toldL ab (l.take (k + 1)) = td1 ab (toldL ab (l.take k)) x := by
  unfold toldL
  rw [take_at h, List.foldl_append]
  rfl
theorem toldL_len (ab : List Id) : ∀ (l : List En) (out : List Id), out.length ≤ 16 → (l.foldl (td1 ab) out).length ≤ 16
  | [], out, h => h
  | x :: l, out, h => by
    refine toldL_len ab l _ ?_
    unfold td1
    split
    · rename_i hc
      have := hc.2.2
      simp; omega
    · exact h
theorem hasI_snoc' (r : List Id) (x i : Id) : hasI (r ++ [x]) i = (hasI r i || decide (i = x)) := by simp [hasI]
/-- one entry more of those that are asked for: what waits, what is listed -/
def adm1 (k : Id → Bool) (st : List En × List En) (x : En) : List En × List En :=
  if (hasE st.1 x.id || hasE st.2 x.id) || k x.id then st else if x.kind ≠ 1 then (st.1, st.2 ++ [x]) else if st.1.length < 4 then (st.1 ++ [x], st.2) else st
def adm (k : Id → Bool) (op l : List En) : List En × List En := l.foldl (adm1 k) (op, [])
theorem adm_snoc {k : Id → Bool} {op l : List En} {j : Nat} {x : En} (h : l[j]? = some x) : adm k op (l.take (j + 1)) = adm1 k (adm k op (l.take j)) x := by
  unfold adm
  rw [take_at h, List.foldl_append]
  rfl
theorem adm1_len (k : Id → Bool) (st : List En × List En) (x : En) : (adm1 k st x).1.length + (adm1 k st x).2.length ≤ st.1.length + st.2.length + 1 := by
  unfold adm1
  split
  · omega
  · split
    · simp; omega
    · split
      · simp; omega
      · omega
theorem adm_lenA (k : Id → Bool) : ∀ (l : List En) (st : List En × List En), (l.foldl (adm1 k) st).1.length + (l.foldl (adm1 k) st).2.length ≤ st.1.length + st.2.length + l.length
  | [], st => by simp
  | x :: l, st => by
    have h1 := adm_lenA k l (adm1 k st x)
    have h2 := adm1_len k st x
    simp only [List.foldl_cons, List.length_cons]
    omega
theorem adm_len (k : Id → Bool) (op l : List En) : (adm k op l).1.length + (adm k op l).2.length ≤ op.length + l.length := by
  have := adm_lenA k l (op, [])
  simpa [adm] using this
section
variable {α : Type} {R : World → List Value → α → Prop} {c : Nat} {E : TypeId} {B : Nat}
theorem OR.kept {w w' : World} {x v : Value} {l : List α} (hR : Stays R E) (h : OR R c E B w v l) (hg : w.grownBy w' x.ownBlock) (ht : RowTy w x.ownBlock E) (ha : Apart x v) : OR R c E B w' v l := by
  obtain ⟨css, g1, g2, g3⟩ := h
  exact ⟨css, g1.kept hg ha, g2, fun i cs x a b => hR _ _ _ _ _ hg ht (g3 i cs x a b)⟩
theorem OR.lt {w : World} {v : Value} {l : List α} (h : OR R c E B w v l) : ∀ k, v.ownBlock = some k → B ≤ k ∧ k < w.heap.size := by
  obtain ⟨css, g1, _⟩ := h
  exact OM.lt g1
variable {P : Program} {w : World} {ops : Array Oper} {rest : List Oper} {o : Oper} {a : Act} {Q : Exit → Act → World → Prop}
/-- append of one element, out of a new block; where the row lies behind -/
theorem wpList_or1s {T : TypeId} {nb : Nat} (ET : MTy P T E c nb) (hS : Stays R E) (hL : Lasts R) (B : Nat) (W : World) (hgd : o.guard = none) (s x : Operand)
    (ho : o.op = .call { callee := .builtin .append, args := #[s, x], argTypes := #[T, T] })
    (v : Value) (l : List α) (y : α) (cs : Ce c) (ev : Array Value) (hs : a.eval s = v) (hx : a.eval x = .slice (Option.some ⟨W.heap.size, 0, Option.none⟩) 1 1) (hw : w = W.alloc (.cells ev E)) (hy : ev = cs.1.toArray)
    (hR : R W cs.1 y) (hown : OR R c E B W v l) (hn : (l.length + 1) * nb ≤ 140737488355328) (hn2 : l.length + 1 ≤ maxLen) (hB : B ≤ W.heap.size)
    (h : ∀ v' w', OR R c E B w' v' (l ++ [y]) → Below B W w' → W.grownBy w' v.ownBlock → Sep W v v' → wpList P ops Q rest (a.put o.dst v') w') : wpList P ops Q (o :: rest) a w := by
  obtain ⟨css, h1, h2, h3⟩ := hown
  refine wpList_em1 ET ceL_len ceL_one B W hgd s x ho v css cs ev hs hx hw hy h1 (by rw [h2]; exact hn) (by rw [h2]; exact hn2) hB ?_
  intro v' w' g1 g2 g3 g4
  exact h v' w' (OR.snoc hS h1 h2 h3 hR g1 g3) g2 g3 g4
end
end PM
theorem unitZO : ∀ w : World, (zeroValue 58).run Try.prog w = .ok (.agg #[]) w := fun w => rfl
set_option maxRecDepth 100000 in
set_option maxHeartbeats 8000000 in
theorem told_any (u0 u1 : Value) (ab : List PM.Id) (l : List PM.En) (w : World) (hv0 : PM.EM PM.idL 3 w u0 ab) (hv1 : PM.EnL w u1 l) :
    Calls Try.prog 17 #[u0, u1] w fun e w' => ∃ u, e = .returned u ∧ PM.OM PM.idL 3 33 w.heap.size w' u (PM.toldL ab l) ∧ Below w.heap.size w w' := by
  have hm0 := hv0.bound
  have hm1 := hv1.bound
  unfold maxLen at hm0 hm1
  obtain ⟨a0, c0, rfl⟩ := hv0.len
  obtain ⟨a1, c1, rfl⟩ := hv1.len
  obtain ⟨A0, hA⟩ : ∃ N, N = ab.length := ⟨_, rfl⟩
  obtain ⟨N, hN⟩ : ∃ N, N = l.length := ⟨_, rfl⟩
  have hNh := PM.hid hN
  have hAh := PM.hid hA
  rw [← hN] at hv1 hm1 ⊢
  rw [← hA] at hv0 hm0 ⊢
  replace hv0 := PM.hid hv0
  replace hv1 := PM.hid hv1
  clear hN hA
  obtain ⟨gs, hgs⟩ : ∃ g, g = w.heap.size := ⟨_, rfl⟩
  obtain ⟨wm, hwm⟩ : ∃ W, W = w.alloc (.map #[] 0) := ⟨_, rfl⟩
  have hBn : Below w.heap.size w wm := by rw [hwm]; exact (Below.refl _ _).alloc (Nat.le_refl _) _
  have kd : PM.DS wm gs (fun _ => False) := by rw [hwm, hgs]; exact PM.DS.new _
  have hgw : Hid (w.heap.size ≤ gs) := PM.hid (by rw [hgs]; exact Nat.le_refl _)
  have hS1 := PM.hid (And.intro kd hBn)
  clear hBn kd
  have hmm : ∀ W : World, (Instr.makeMap 57 none).run Try.prog W = .ok (.map (some W.heap.size)) (W.alloc (.map #[] 0)) := fun W => rfl
  go_enter Try.func17, Try.ntmps17
  go_wp2_with fail
  rw [← hwm, ← hgs]
  clear hwm hgs hmm
  go_loopw [16] (fun i wr => ∃ k : Nat, i = .int .i64 k ∧ k ≤ A0 ∧ Hid (PM.DS wr gs (fun i => PM.hasI (ab.take k) i = true) ∧ Below w.heap.size w wr)) (fun i _ => A0 - (intOf i).toNat)
  case atStart => exact ⟨0, rfl, by omega, PM.hid ⟨hS1.out.1.imp fun i => by simp [PM.hasI], hS1.out.2⟩⟩
  case round =>
    obtain ⟨k, rfl, hk, hin⟩ := hrel
    obtain ⟨hD, hB⟩ := hin.out
    have hBB := PM.hid hB
    clear hin
    by_cases hlt : k < A0
    · obtain ⟨z, hz⟩ : ∃ z, ab[k]? = some z := ⟨ab[k]'(by rw [← hAh.out]; exact hlt), List.getElem?_eq_getElem _⟩
      obtain ⟨b, off, cap', he, -, -, hce⟩ := PM.EM.open1 hv0.out (by rw [← hAh.out]; omega)
      injection he with he1 he2 he3
      subst he1
      have hl0 := (hce k z hz).keep hB
      have d0 : wr.cell? ⟨b, off + k * 3, none⟩ = some (.int .i64 z.br) := hl0 0 _ rfl
      have d1 : wr.cell? ⟨b, off + k * 3 + 1, none⟩ = some (.int .u64 (z.life : Int)) := hl0 1 _ rfl
      have d2 : wr.cell? ⟨b, off + k * 3 + 2, none⟩ = some (.int .u64 (z.ser : Int)) := hl0 2 _ rfl
      have hzh := PM.hid hz
      clear hz hce hl0 hB he2 he3
      go_upto_region 5 with fail
      obtain ⟨gx, hgx⟩ : ∃ g, g = wr.heap.size := ⟨_, rfl⟩
      obtain ⟨w3, hw3⟩ : ∃ W, W = wr.alloc (.cells #[.int .i64 z.br, .int .u64 (z.life : Int), .int .u64 (z.ser : Int)] 33) := ⟨_, rfl⟩
      have hBn : Below wr.heap.size wr w3 := by rw [hw3]; exact (Below.refl _ _).alloc (Nat.le_refl _) _
      have kx : PM.BK w3 gx #[.int .i64 z.br, .int .u64 (z.life : Int), .int .u64 (z.ser : Int)] 33 := by rw [hw3, hgx]; exact PM.BK.new _ _ _
      rw [← hw3, ← hgx]
      clear hw3 hgx
      clear d0 d1 d2
      replace hD := hD.keep hBn
      replace hBB := PM.hid (PM.chain hBB.out hBn)
      clear hBn
      obtain ⟨w6, hup, hD6, hx6⟩ := PM.run_insD Try.underlying57 idKey hD z
      unfold PM.idv at hup
      have x0 : w3.cell? ⟨gx, 0, none⟩ = some (.int .i64 z.br) := kx.cell 0
      have x1 : w3.cell? ⟨gx, 1, none⟩ = some (.int .u64 (z.life : Int)) := kx.cell 1
      have x2 : w3.cell? ⟨gx, 2, none⟩ = some (.int .u64 (z.ser : Int)) := kx.cell 2
      replace hBB := PM.hid (PM.Bx.below hBB.out hx6 hgw.out hBB.out.size)
      have hin2 := PM.hid (And.intro hD6 hBB.out)
      clear hD hx6 hD6 kx
      go_wp2_with fail
      refine ⟨⟨k + 1, by go_num, by omega, PM.hid ⟨hin2.out.1.imp fun i => ?_, hin2.out.2⟩⟩, by simp only [intOf]; omega⟩
      rw [PM.take_at hzh.out, PM.hasI_snoc', Bool.or_eq_true, decide_eq_true_eq]
    · obtain rfl : k = A0 := by omega
      have hS2 : Hid (PM.DS wr gs (fun i => PM.hasI ab i = true) ∧ Below w.heap.size w wr) := PM.hid ⟨hD.imp fun i => by (have h9 : ab.take k = ab := (by rw [hAh.out]; exact List.take_length)); rw [h9], hB⟩
      clear hD hB hBB
      obtain ⟨wr2, hwr2⟩ : ∃ W, W = wr := ⟨_, rfl⟩
      rw [← hwr2] at hS2 ⊢
      clear hwr2
      go_wp2_with fail
      go_loopw [8, 26] (fun s i wr => ∃ k : Nat, i = .int .i64 k ∧ k ≤ N ∧ Hid (PM.OM PM.idL 3 33 w.heap.size wr s (PM.toldL ab (l.take k)) ∧ PM.DS wr gs (fun i => PM.hasI ab i = true ∧ PM.hasI (PM.toldL ab (l.take k)) i = false) ∧ Below w.heap.size w wr)) (fun _ i _ => N - (intOf i).toNat)
      case atStart => exact ⟨0, rfl, by omega, PM.hid ⟨PM.OM.nilrow _, hS2.out.1.imp fun i => by simp [PM.toldL, PM.hasI], hS2.out.2⟩⟩
      case round =>
        obtain ⟨k, rfl, hk, hin⟩ := hrel
        obtain ⟨hI, hD, hB⟩ := hin.out
        have hBB := PM.hid hB
        have hle : (PM.toldL ab (l.take k)).length ≤ 16 := PM.toldL_len ab _ _ (by simp)
        clear hin
        obtain ⟨out, hout⟩ : ∃ t, t = PM.toldL ab (l.take k) := ⟨_, rfl⟩
        rw [← hout] at hI hD hle
        have houth := PM.hid hout
        clear hout
        obtain ⟨pa, pc, hpe⟩ := (hI.em PM.idL_len).len
        subst hpe
        obtain ⟨P, hP⟩ : ∃ t, t = out.length := ⟨_, rfl⟩
        rw [← hP] at hI hle ⊢
        have hPh := PM.hid hP
        clear hP
        by_cases hlt : k < N
        · obtain ⟨z, hz⟩ : ∃ z, l[k]? = some z := ⟨l[k]'(by rw [← hNh.out]; exact hlt), List.getElem?_eq_getElem _⟩
          obtain ⟨b, off, rfl, hce⟩ := PM.RR.opn hv1.out (by rw [← hNh.out]; omega)
          obtain ⟨cs, hl0, hR⟩ := hce k z hz
          obtain ⟨fa, fc, ea, ec, hcs, hzf, hze⟩ := PM.enR_open hR
          replace hl0 := hl0.keep hB
          rw [hcs] at hl0
          have d0 : wr.cell? ⟨b, off + k * 8, none⟩ = some (.int .i64 z.kind) := hl0 0 _ rfl
          have d1 : wr.cell? ⟨b, off + k * 8 + 1, none⟩ = some (.int .i64 z.id.br) := hl0 1 _ rfl
          have d2 : wr.cell? ⟨b, off + k * 8 + 2, none⟩ = some (.int .u64 (z.id.life : Int)) := hl0 2 _ rfl
          have d3 : wr.cell? ⟨b, off + k * 8 + 3, none⟩ = some (.int .u64 (z.id.ser : Int)) := hl0 3 _ rfl
          have d4 : wr.cell? ⟨b, off + k * 8 + 4, none⟩ = some (.int .i64 z.client) := hl0 4 _ rfl
          have d5 : wr.cell? ⟨b, off + k * 8 + 5, none⟩ = some (.int .u64 (z.sub : Int)) := hl0 5 _ rfl
          have d6 : wr.cell? ⟨b, off + k * 8 + 6, none⟩ = some (.slice fa z.fil.length fc) := hl0 6 _ rfl
          have d7 : wr.cell? ⟨b, off + k * 8 + 7, none⟩ = some (.slice ea z.evs.length ec) := hl0 7 _ rfl
          have hzh := PM.hid hz
          obtain ⟨zF, hzF⟩ : ∃ P, P = z.fil.length := ⟨_, rfl⟩
          obtain ⟨zE, hzE⟩ : ∃ P, P = z.evs.length := ⟨_, rfl⟩
          rw [← hzF] at d6
          rw [← hzE] at d7
          clear hz hce hl0 hR hcs cs hzf hze hzF hzE
          clear hB
          go_upto_region 11 with fail
          obtain ⟨gx, hgx⟩ : ∃ g, g = wr.heap.size := ⟨_, rfl⟩
          obtain ⟨w3, hw3⟩ : ∃ W, W = wr.alloc (.cells #[.int .i64 z.kind, .int .i64 z.id.br, .int .u64 (z.id.life : Int), .int .u64 (z.id.ser : Int), .int .i64 z.client, .int .u64 (z.sub : Int), .slice fa zF fc, .slice ea zE ec] 38) := ⟨_, rfl⟩
          have hBn : Below wr.heap.size wr w3 := by rw [hw3]; exact (Below.refl _ _).alloc (Nat.le_refl _) _
          have kx : PM.BK w3 gx #[.int .i64 z.kind, .int .i64 z.id.br, .int .u64 (z.id.life : Int), .int .u64 (z.id.ser : Int), .int .i64 z.client, .int .u64 (z.sub : Int), .slice fa zF fc, .slice ea zE ec] 38 := by rw [hw3, hgx]; exact PM.BK.new _ _ _
          rw [← hw3, ← hgx]
          clear hw3 hgx
          clear d0 d1 d2 d3 d4 d5 d6 d7
          replace hI := hI.keep hBn
          replace hD := hD.keep hBn
          replace hBB := PM.hid (PM.chain hBB.out hBn)
          clear hBn
          obtain ⟨c, hc, hlk⟩ := PM.run_lookD Try.underlying57 idKey hD z.id unitZO
          unfold PM.idv at hlk
          have hch := PM.hid hc
          clear hc
          have x0 : w3.cell? ⟨gx, 0, none⟩ = some (.int .i64 z.kind) := kx.cell 0
          have x1 : w3.cell? ⟨gx, 1, none⟩ = some (.int .i64 z.id.br) := kx.cell 1
          have x2 : w3.cell? ⟨gx, 2, none⟩ = some (.int .u64 (z.id.life : Int)) := kx.cell 2
          have x3 : w3.cell? ⟨gx, 3, none⟩ = some (.int .u64 (z.id.ser : Int)) := kx.cell 3
          have x4 : w3.cell? ⟨gx, 4, none⟩ = some (.int .i64 z.client) := kx.cell 4
          have x5 : w3.cell? ⟨gx, 5, none⟩ = some (.int .u64 (z.sub : Int)) := kx.cell 5
          have x6 : w3.cell? ⟨gx, 6, none⟩ = some (.slice fa zF fc) := kx.cell 6
          have x7 : w3.cell? ⟨gx, 7, none⟩ = some (.slice ea zE ec) := kx.cell 7
          go_upto_region 12 with fail
          obtain ⟨w4, hw4⟩ : ∃ W, W = w3.alloc (.cells #[] 58) := ⟨_, rfl⟩
          have hBn : Below w3.heap.size w3 w4 := by rw [hw4]; exact (Below.refl _ _).alloc (Nat.le_refl _) _
          rw [← hw4]
          clear hw4 hlk x0 x1 x2 x3 x4 x5 x6 x7
          replace hI := hI.keep hBn
          replace hD := hD.keep hBn
          replace kx := kx.keep hBn
          replace hBB := PM.hid (PM.chain hBB.out hBn)
          clear hBn
          by_cases hgo : c = true ∧ P < 16
          case neg =>
            have hsk : PM.td1 ab out z = out := by
              unfold PM.td1
              rw [if_neg]
              rintro ⟨h1, h2, h3⟩
              exact hgo ⟨hch.out.2 ⟨h1, h2⟩, by rw [hPh.out]; exact h3⟩
            have hin2 := PM.hid (And.intro hI (And.intro hD hBB.out))
            have hrow : Hid (PM.toldL ab (l.take (k + 1)) = out) := PM.hid (by rw [PM.toldL_snoc hzh.out, ← houth.out]; exact hsk)
            clear hI hD kx hsk
            cases c
            · clear hgo
              go_wp2_with fail
              exact ⟨⟨k + 1, by go_num, by omega, PM.hid (by rw [hrow.out]; exact hin2.out)⟩, by simp only [intOf]; omega⟩
            · have h16 : ¬ P < 16 := fun h => hgo ⟨rfl, h⟩
              have q : decide ((P : Int) < 16) = false := by simp; omega
              have q' : ¬ (P : Int) < 16 := by omega
              clear hgo
              go_wp2_with fail
              exact ⟨⟨k + 1, by go_num, by omega, PM.hid (by rw [hrow.out]; exact hin2.out)⟩, by simp only [intOf]; omega⟩
          obtain ⟨rfl, h16⟩ := hgo
          have hmem := PM.hid (hch.out.1 rfl)
          have q : decide ((P : Int) < 16) = true := by simp; omega
          have q' : (P : Int) < 16 := by omega
          clear hch
          have x0 : w4.cell? ⟨gx, 0, none⟩ = some (.int .i64 z.kind) := kx.cell 0
          have x1 : w4.cell? ⟨gx, 1, none⟩ = some (.int .i64 z.id.br) := kx.cell 1
          have x2 : w4.cell? ⟨gx, 2, none⟩ = some (.int .u64 (z.id.life : Int)) := kx.cell 2
          have x3 : w4.cell? ⟨gx, 3, none⟩ = some (.int .u64 (z.id.ser : Int)) := kx.cell 3
          have x4 : w4.cell? ⟨gx, 4, none⟩ = some (.int .i64 z.client) := kx.cell 4
          have x5 : w4.cell? ⟨gx, 5, none⟩ = some (.int .u64 (z.sub : Int)) := kx.cell 5
          have x6 : w4.cell? ⟨gx, 6, none⟩ = some (.slice fa zF fc) := kx.cell 6
          have x7 : w4.cell? ⟨gx, 7, none⟩ = some (.slice ea zE ec) := kx.cell 7
          have hl16 : (out.length + 1) * 24 ≤ 140737488355328 := by rw [← hPh.out]; omega
          have hl17 : out.length + 1 ≤ maxLen := by rw [← hPh.out]; unfold maxLen; omega
          have hsz := hBB.out.size
          have hrt := hI.rt
          rw [hPh.out] at hI
          have hfr := PM.hid (And.intro hD kx)
          go_upto_region 14 with (at_builtin; rw [hPh.out]; go_loud (refine PM.wpList_em1 (e := PM.idL) tyIdO PM.idL_len PM.idL_one w.heap.size w4 rfl _ _ rfl _ out z.id _ rfl rfl rfl rfl hI hl16 hl17 hsz ?_); intro v' w' t1 t2 t3 t4; rw [← hPh.out] at t3; have hE := PM.hid (And.intro t1 (And.intro (hBB.out.trans t2) t3)); clear t1 t2 t3 t4 hsz hI x0 x1 x2 x3 x4 x5 x6 x7 hD kx)
          have hD5 := hfr.out.1.grownK hE.out.2.2 hrt
          have kx5 := hfr.out.2.grown hE.out.2.2 hrt (by decide)
          obtain ⟨w6, hdl, hD6, hx6⟩ := PM.run_delD Try.underlying57 idKey hD5 z.id #[57, 33] 0 rfl
          unfold PM.idv at hdl
          have x0 : w'.cell? ⟨gx, 0, none⟩ = some (.int .i64 z.kind) := kx5.cell 0
          have x1 : w'.cell? ⟨gx, 1, none⟩ = some (.int .i64 z.id.br) := kx5.cell 1
          have x2 : w'.cell? ⟨gx, 2, none⟩ = some (.int .u64 (z.id.life : Int)) := kx5.cell 2
          have x3 : w'.cell? ⟨gx, 3, none⟩ = some (.int .u64 (z.id.ser : Int)) := kx5.cell 3
          have x4 : w'.cell? ⟨gx, 4, none⟩ = some (.int .i64 z.client) := kx5.cell 4
          have x5 : w'.cell? ⟨gx, 5, none⟩ = some (.int .u64 (z.sub : Int)) := kx5.cell 5
          have x6 : w'.cell? ⟨gx, 6, none⟩ = some (.slice fa zF fc) := kx5.cell 6
          have x7 : w'.cell? ⟨gx, 7, none⟩ = some (.slice ea zE ec) := kx5.cell 7
          clear kx5
          go_wp2_with fail
          refine ⟨⟨k + 1, by go_num, by omega, PM.hid ?_⟩, by simp only [intOf]; omega⟩
          rw [PM.toldL_snoc hzh.out, ← houth.out, show PM.td1 ab out z = out ++ [z.id] from by unfold PM.td1; rw [if_pos ⟨hmem.out.1, hmem.out.2, by rw [← hPh.out]; exact h16⟩]]
          refine ⟨hE.out.1.keepD hx6 hD5, hD6.imp fun i => ?_, PM.Bx.below hE.out.2.1 hx6 hgw.out hE.out.2.1.size⟩
          rw [PM.hasI_snoc', Bool.or_eq_false_iff, decide_eq_false_iff_not]
          exact ⟨fun ⟨⟨a, b⟩, c⟩ => ⟨a, b, c⟩, fun ⟨a, b, c⟩ => ⟨⟨a, b⟩, c⟩⟩
        · obtain rfl : k = N := by omega
          have htk : Hid (PM.toldL ab l = out) := PM.hid (by
            have := houth.out
            rw [hNh.out, List.take_length] at this
            exact this.symm)
          have hfin := PM.hid (And.intro hI hBB.out)
          clear hI hD hB
          go_wp2_with fail
          go_ret
          exact ⟨_, rfl, by rw [htk.out]; exact hfin.out.1, hfin.out.2⟩
end Go.Proofs.Ytlijmmldfdmajaa
