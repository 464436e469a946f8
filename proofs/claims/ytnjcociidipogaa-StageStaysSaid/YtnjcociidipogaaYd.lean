/-
  CONTRACTS of slices.Delete[Txn], stage.Settle, Abort. (Written by tools/mk_xd.py.)
-/
import Derived.Test.YtnjcociidipogaaYc
import Derived.Test.YtnjcociidipogaaYk
import Derived.Laws.Slices
namespace Go.Proofs.Ytnjcociidipogaa
open Go.RowKit
set_option linter.unusedVariables false
set_option linter.unusedSimpArgs false
namespace PM
def remT (k : Nat) (l : List Tx) : List Tx := l.take k ++ l.drop (k + 1)
noncomputable def setT (i : Id) (l : List Tx) : List Tx := if posT i l < 0 then l else remT (posT i l).toNat l
noncomputable def abtT (i : Id) (l : List Tx) : List Tx × Int := if openT i l < 0 then (l, 170) else (setT i l, 0)
theorem run_cutA {P : Program} {T E : TypeId} {c nb : Nat} (MT : MTy P T E c nb) (g n cap K : Nat) (hn : n ≤ cap) (hc : cap ≤ maxLen) (hK : K ≤ n) :
    ∃ a' : Addr, (∀ W : World, (Instr.slice T (.slice (some ⟨g, 0, none⟩) n cap) (some (.int .i64 (K : Int))) none none).run P W = .ok (.slice (some a') (n - K) (cap - K)) W) ∧ (K < n → a' = ⟨g, K * c, none⟩) ∧ a' = (if cap = K then ⟨g, 0, none⟩ else ⟨g, K * c, none⟩) := by
  obtain ⟨hT, hs⟩ := MT.size
  have ea : (⟨g, 0, none⟩ : Addr).add (K * c) = ⟨g, K * c, none⟩ := by unfold Addr.add; split <;> simp_all
  by_cases h0 : cap = K
  · refine ⟨⟨g, 0, none⟩, fun W => ?_, fun h => absurd h (by omega), by rw [if_pos h0]⟩
    rw [run_slice_l W T _ n cap hT .i64 K (by omega) (by omega), hs]
    simp [Result.andThen, sliced, h0]
  · refine ⟨⟨g, K * c, none⟩, fun W => ?_, fun _ => rfl, by rw [if_neg h0]⟩
    rw [run_slice_l W T _ n cap hT .i64 K (by omega) (by omega), hs]
    simp [Result.andThen, sliced, h0, ea]
theorem run_cutLH {P : Program} {T E : TypeId} {c nb : Nat} (MT : MTy P T E c nb) (g n cap K M : Nat) (hK : K ≤ M) (hM : M ≤ cap) (h0 : K < cap) (W : World) :
    (Instr.slice T (.slice (some ⟨g, 0, none⟩) n cap) (some (.int .i64 (K : Int))) (some (.int .i64 (M : Int))) none).run P W = .ok (.slice (some ⟨g, K * c, none⟩) (M - K) (cap - K)) W := by
  obtain ⟨hT, hs⟩ := MT.size
  have ea : (⟨g, 0, none⟩ : Addr).add (K * c) = ⟨g, K * c, none⟩ := by unfold Addr.add; split <;> simp_all
  rw [run_slice_lh W T _ n cap hT .i64 .i64 K M (by omega) (by omega) (by omega), hs]
  simp [Result.andThen, sliced, Nat.ne_of_gt h0, ea]
theorem run_cut3 {P : Program} {T E : TypeId} {c nb : Nat} (MT : MTy P T E c nb) (g n cap K M Q : Nat) (hK : K ≤ M) (hM : M ≤ Q) (hQ : Q ≤ cap) :
    ∃ v, ∀ W : World, (Instr.slice T (.slice (some ⟨g, 0, none⟩) n cap) (some (.int .i64 (K : Int))) (some (.int .i64 (M : Int))) (some (.int .i64 (Q : Int)))).run P W = .ok v W := by
  obtain ⟨hT, hs⟩ := MT.size
  refine ⟨sliced (some ⟨g, 0, none⟩) ((K : Int).toNat) ((M : Int).toNat) ((Q : Int).toNat) c, fun W => ?_⟩
  rw [run_slice_lhm W T _ n cap hT .i64 .i64 .i64 K M Q (by omega) (by omega) (by omega) (by omega), hs]
  rfl
theorem wpList_appendE {P : Program} {T : TypeId} {ops : Array Oper} {rest : List Oper} {o : Oper} {a : Act} {w w' : World} {v xv v' : Value} {Q : Exit → Act → World → Prop} (hgd : o.guard = none) (s x : Operand) (ho : o.op = .call { callee := .builtin .append, args := #[s, x], argTypes := #[T, T] }) (hs : a.eval s = v) (hx : a.eval x = xv) (hrun : (Builtin.append_ #[T, T] o.type #[v, xv]).run P w = .ok v' w') (h : wpList P ops Q rest (a.put o.dst v') w') : wpList P ops Q (o :: rest) a w := by
  refine wpList_plain hgd fun K hK => ?_
  unfold Oper.wp
  simp [execOp, ho, resolve, invoke, builtin, hs, hx, hrun, Result.andThen]
  exact hK _ _ h
theorem Bx.setRow (g : Nat) (w : World) (cs : Array Value) : Bx g w (w.setRow g cs) := ⟨rfl, rfl, rfl, by simp, fun k _ hk => setRow_other w g k cs hk⟩
/-- the row without one, in its block -/
theorem rem_take {css : List (Ce 9)} {cur : Array Value} {N k M cap : Nat} (hN : css.length = N) (hM : N = M + 1) (hk : k < N) (hc : cur.size = cap * 9) (hcap : N ≤ cap) (ht : cur.toList.take (N * 9) = css.flatMap ceL) :
    ((cur.toList.take (k * 9) ++ (css.drop (k + 1)).flatMap ceL ++ cur.toList.drop (k * 9 + ((css.drop (k + 1)).flatMap ceL).length)).toArray.toList.take (M * 9) = (css.take k ++ css.drop (k + 1)).flatMap ceL) ∧
    (cur.toList.take (k * 9) ++ (css.drop (k + 1)).flatMap ceL ++ cur.toList.drop (k * 9 + ((css.drop (k + 1)).flatMap ceL).length)).toArray.size = cap * 9 := by
  have h1 : ((css.drop (k + 1)).flatMap ceL).length = (M - k) * 9 := by rw [flat_len ceL_len, List.length_drop, hN]; congr 1; omega
  have h2 : (cur.toList.take (k * 9)).length = k * 9 := by rw [List.length_take, Array.length_toList, hc]; omega
  have h3 : cur.toList.take (k * 9) = (css.take k).flatMap ceL := by
    have e : (cur.toList.take (N * 9)).take (k * 9) = (css.flatMap ceL).take (k * 9) := by rw [ht]
    rw [List.take_take, Nat.min_eq_left (by omega)] at e
    have e2 : css.flatMap ceL = (css.take k).flatMap ceL ++ (css.drop k).flatMap ceL := by rw [← List.flatMap_append, List.take_append_drop]
    rw [e, e2, List.take_left' (by rw [flat_len ceL_len, List.length_take, hN]; congr 1; omega)]
  constructor
  · show List.take (M * 9) (List.toArray _).toList = _
    rw [List.take_left' (by rw [List.length_append, h1, h2, ← Nat.add_mul]; congr 1; omega), h3, List.flatMap_append]
  · simp only [List.size_toArray, List.length_append, List.length_drop, Array.length_toList, h1, h2, hc]
    rw [← Nat.add_mul]
    omega
end PM
set_option maxRecDepth 100000 in
set_option maxHeartbeats 8000000 in
theorem delT_any (B g N cap k : Nat) (l : List PM.Tx) (w : World) (hv : PM.TxW B w (.slice (some ⟨g, 0, none⟩) N cap) l) (hk : k < N) (hl1 : N ≤ 1000) :
    Calls Try.prog 50 #[.slice (some ⟨g, 0, none⟩) N cap, .int .i64 (k : Int), .int .i64 ((k + 1 : Nat) : Int)] w fun e w' => ∃ v', e = .returned v' ∧ PM.TxW B w' v' (PM.remT k l) ∧ w.grownBy w' (some g) := by
  have hN : N = l.length := by obtain ⟨_, _, h⟩ := hv.rr.len; injection h
  obtain ⟨css, ho, hcl, hcr⟩ := hv
  have hcN : css.length = N := by rw [hcl, hN]
  have ho' := ho
  unfold PM.OM at ho'
  rcases ho'.2 with ⟨hn0, h0⟩ | ⟨g', cap', cur, he, hBg, hg, hnc, hcm, hcs, htk⟩
  · exact absurd h0 (by omega)
  injection he with e1 e2 e3
  injection e1 with e1
  injection e1 with e1
  subst e1 e3
  rw [hcN] at hnc htk
  clear e2
  obtain ⟨M, hM⟩ : ∃ M, N = M + 1 := ⟨N - 1, by omega⟩
  obtain ⟨K1, hK1⟩ : ∃ K1, K1 = k + 1 := ⟨_, rfl⟩
  have hrem := PM.rem_take (cap := cap) hcN hM hk hcs hnc htk
  obtain ⟨cur2, hcur2⟩ : ∃ c, c = (cur.toList.take (k * 9) ++ (css.drop (k + 1)).flatMap PM.ceL ++ cur.toList.drop (k * 9 + ((css.drop (k + 1)).flatMap PM.ceL).length)).toArray := ⟨_, rfl⟩
  rw [← hcur2] at hrem
  obtain ⟨a5, hcA, ha5, ha5e⟩ := PM.run_cutA tyTxO g N cap K1 hnc hcm (by omega)
  obtain ⟨v3, hc3⟩ := PM.run_cut3 tyTxO g N cap k K1 N (by omega) (by omega) hnc
  have hcH := fun W => PM.run_cutH tyTxO g N cap k hnc hcm (by omega) (by omega) W
  have hnews : ∀ W, PM.BK W g cur 39 → ∀ j u, ((css.drop (k + 1)).flatMap PM.ceL)[j]? = some u → W.cell? (a5.add j) = some u := fun W hW j u hu => by
    have hlt := (List.getElem?_eq_some_iff.1 hu).1
    rw [PM.flat_len PM.ceL_len, List.length_drop] at hlt
    rw [ha5 (by omega)]
    have ea : (⟨g, K1 * 9, none⟩ : Addr).add j = ⟨g, K1 * 9 + j, none⟩ := by unfold Addr.add; split <;> simp_all
    rw [ea, PM.BK.cell hW]
    have e : (css.flatMap PM.ceL)[K1 * 9 + j]? = some u := by
      rw [← List.take_append_drop K1 css, List.flatMap_append, List.getElem?_append_right (by rw [PM.flat_len PM.ceL_len, List.length_take]; omega), PM.flat_len PM.ceL_len, List.length_take, Nat.min_eq_left (by omega), Nat.add_sub_cancel_left, hK1]
      exact hu
    rw [← htk, List.getElem?_take_of_lt (by omega)] at e
    simpa using e
  have hap : Hid (∀ W, PM.BK W g cur 39 → (Builtin.append_ #[27, 27] 27 #[.slice (some ⟨g, 0, none⟩) k cap, .slice (some a5) (N - K1) (cap - K1)]).run Try.prog W = .ok (.slice (some ⟨g, 0, none⟩) M cap) (W.setRow g cur2)) := PM.hid fun W hW => by
    obtain ⟨i, z, hi, hz, hsz, hby, hzs⟩ := tyTxO.row
    have hl9 : ((css.drop (k + 1)).flatMap PM.ceL).length = (N - K1) * 9 := by rw [PM.flat_len PM.ceL_len, List.length_drop, hcN, hK1]
    have h := run_append_room (P := Try.prog) W 27 27 39 i tyTxO.sl hi g k cap cur hW a5 (N - K1) (cap - K1) ((css.drop (k + 1)).flatMap PM.ceL) (by rw [hl9, hsz]) (hnews W hW) (by
      intro u hu
      obtain ⟨y, _, hy⟩ := List.mem_flatMap.1 hu
      exact PM.ceL_one y u hy) (by omega) (by rw [hl9, hsz, ← Nat.add_mul, hcs]; exact Nat.mul_le_mul_right _ (by omega))
    rw [hsz, show k + (N - K1) = M by omega, ← hcur2] at h
    exact h
  have hst : Hid (PM.BK w g cur 39) := PM.hid hg
  have hbk := hst
  replace hrem := PM.hid hrem
  have hST := PM.hid (And.intro hcN (And.intro hN (And.intro hnc (And.intro hcm (And.intro hM (And.intro hBg (And.intro hK1 hcr)))))))
  have ha5h := PM.hid ha5e
  have hkN : (k : Int) ≤ (N : Int) := by omega
  have hkK : ((k : Int) == (K1 : Int)) = false := by simp; omega
  have hKN : K1 ≤ N := by omega
  have hkc : k ≤ cap := by omega
  have hMlt : M < N := by omega
  have hkKM : k ≤ M := by omega
  have hMN : N - M = 1 := by omega
  rw [← hK1]
  have hMh := PM.hid hM
  have hKh := PM.hid hK1
  clear hM hK1
  clear hN ho hcl hcr ho' hg hcs htk ha5 ha5e hnews hcur2 hBg
  go_enter Try.func50, Try.ntmps50
  go_upto_region 5 with fail
  refine PM.wp_region_stL 6 [some 20, some 21, some 22, some 23, some 24, some 25, some 26, some 0] [fun x _ => x = .slice (some ⟨g, 0, none⟩) N cap, fun x _ => x = .int .i64 (k : Int), fun x _ => x = .slice (some ⟨g, 0, none⟩) k cap, fun x _ => x = .slice (some ⟨g, 0, none⟩) N cap, fun x _ => x = .int .i64 (K1 : Int), fun x _ => x = .slice (some a5) (N - K1) (cap - K1)] (by kernel_rfl) (by kernel_rfl) (by kernel_rfl) (by kernel_rfl) (by kernel_rfl) (of_decide_eq_true (by kernel_rfl)) (by kernel_rfl) ?_ ?_ ?_
  · simp only [List.forall_mem_cons]
    refine ⟨?_, ?_, ?_, ?_, ?_, ?_, by simp⟩
    all_goals (intro x W W' h hb; first | exact h | exact PM.BS.keep hb h | exact PM.OW.keep hb h)
  · refine ⟨?_, ?_, ?_, ?_, ?_, ?_, trivial⟩
    all_goals
      intro a W hB hF hd
      have k0 := hF 0 rfl
      have k1 := hF 1 rfl
      have k2 := hF 2 rfl
      have k26 := hF 26 rfl
      clear hF
      simp [PM.depsL, PM.spec, PM.sl, Region.binds] at hd k0 k1 k2 k26
      simp only [PM.wantL, PM.spec]
      try simp only [PM.sl]
      go_simp
    all_goals try exact Below.refl _ _
  · intro G W hB hF hS
    simp [PM.allSp, PM.spec] at hS
    obtain ⟨h20, h21, h22, h23, h24, h25⟩ := hS
    have u0 := hF 0 rfl
    have u1 := hF 1 rfl
    have u2 := hF 2 rfl
    have u3 := hF 3 rfl
    have u4 := hF 4 rfl
    have u5 := hF 5 rfl
    have u6 := hF 6 rfl
    have u7 := hF 7 rfl
    simp [PM.sl] at u0 u1 u2 u3 u4 u5 u6 u7
    rw [show ((List.range (Array.size _)).map G).toArray = #[G 0, G 1, G 2, G 3, G 4, G 5, G 6, G 7, G 8, G 9, G 10, G 11, G 12, G 13, G 14, G 15, G 16, G 17, G 18, G 19, G 20, G 21, G 22, G 23, G 24, G 25, G 26, G 27, G 28, G 29, G 30, G 31, G 32] from rfl]
    rw [u0, u1, u2, u3, u4, u5, u6, u7, h20, h21, h22, h23, h24, h25]
    clear u0 u1 u2 u3 u4 u5 u6 u7 h20 h21 h22 h23 h24 h25 hF
    have hbW := PM.BK.keep hB hbk.out
    have hrun := hap.out W hbW
    have hk2 : PM.BK (W.setRow g cur2) g cur2 39 := setRow_heap W g cur cur2 _ _ hbW
    have hB2 := (PM.Bx.of hB).trans (PM.Bx.setRow g W cur2)
    clear hB hbW
    refine PM.wpList_appendE rfl _ _ rfl rfl rfl hrun ?_
    clear hrun
    generalize W.setRow g cur2 = W at *
    obtain ⟨zs, hcl⟩ := PM.run_clearN (P := Try.prog) (t := 27) (e := 39) (c := cap - M) tyTxO.sl (fun w => rfl) (by decide) (o := M * 9) (n := N - M) (by omega) hk2 (by
      show M * 9 + (N - M) * 9 ≤ _
      rw [hrem.out.2]
      have := hST.out.2.2.1
      omega)
    obtain ⟨cs', hk1, hk2', hk3⟩ := PM.BK.setCells zs (M * 9) hk2
    have hx1 := hB2.trans (PM.Bx.setCells g zs (M * 9) W)
    have hM := hMh.out
    have hK1 := hKh.out
    have hfin : Hid (PM.TxW B (W.setCells g (M * 9) zs) (.slice (some ⟨g, 0, none⟩) M cap) (PM.remT k l) ∧ w.grownBy (W.setCells g (M * 9) zs) (some g)) := by
      obtain ⟨q1, q2, q3, q4, q5, q6, q7, q8⟩ := hST.out
      have hli : (css.take k ++ css.drop (k + 1)).length = M := by rw [List.length_append, List.length_take, List.length_drop, q1]; omega
      have kt := fun (E : TypeId) (hne : 39 ≠ E) => PM.KT.ofx hx1 hbk.out hne
      refine PM.hid ⟨⟨css.take k ++ css.drop (k + 1), ⟨by rw [PM.flat_len PM.ceL_len], .inr ⟨g, cap, cs', by rw [hli], q6, hk1, by rw [hli]; omega, q4, ?_, ?_⟩⟩, ?_, fun j c x hj hx => ?_⟩, hx1.grown⟩
      · rw [hk2', hrem.out.2]
      · rw [hli, ← hrem.out.1]
        refine List.ext_getElem? fun j => ?_
        rw [List.getElem?_take, List.getElem?_take]
        by_cases hj : j < M * 9
        · rw [if_pos hj, if_pos hj, Array.getElem?_toList, Array.getElem?_toList, hk3 j hj]
        · rw [if_neg hj, if_neg hj]
      · rw [hli]; unfold PM.remT; rw [List.length_append, List.length_take, List.length_drop, ← q2]; omega
      · have hR : PM.txO B w c.1 x := by
          unfold PM.remT at hx
          by_cases hjk : j < k
          · rw [List.getElem?_append_left (by rw [List.length_take]; omega), List.getElem?_take, if_pos hjk] at hj hx
            exact q8 j c x hj hx
          · rw [List.getElem?_append_right (by rw [List.length_take]; omega), List.getElem?_drop] at hj hx
            rw [List.length_take, q1, Nat.min_eq_left (by omega)] at hj
            rw [List.length_take, ← q2, Nat.min_eq_left (by omega)] at hx
            exact q8 _ c x hj hx
        exact PM.txO_kt (kt _ (by decide)) (kt _ (by decide)) (kt _ (by decide)) _ _ hR
    clear hM hK1
    have hcut := fun W => PM.run_cutLH tyTxO g M cap M N (by omega) (by have := hST.out.2.2.1; omega) (by have := hST.out.2.2.1; omega) W
    clear hk1 hk2' hk3 hx1 hk2 hB2 hst hap hc3 hcH hcA
    simp only [hMN] at hcl hcut
    go_wp2_with fail
    go_ret
    exact ⟨_, rfl, hfin.out.1, hfin.out.2⟩
set_option maxHeartbeats 4000000 in
theorem settle_any (la : Option Addr) (ln lc : Nat) (i : PM.Id) (l : List PM.Tx) (w : World) (hv : PM.TxL w (.slice la ln lc) l) (hl : PM.TxsS l) :
    Calls Try.prog 24 #[.slice la ln lc, .agg #[.int .i64 i.br, .int .u64 (i.life : Int), .int .u64 (i.ser : Int)]] w fun e w' => ∃ u, e = .returned u ∧ PM.TxW w.heap.size w' u (PM.setT i l) ∧ Below w.heap.size w w' := by
  obtain ⟨g, hg⟩ : ∃ g, g = w.heap.size := ⟨_, rfl⟩
  obtain ⟨w1, hw1⟩ : ∃ W, W = w.alloc (.cells #[.int .i64 i.br, .int .u64 (i.life : Int), .int .u64 (i.ser : Int)] 26) := ⟨_, rfl⟩
  have hbw1 : Below w.heap.size w w1 := by rw [hw1]; exact (Below.refl _ _).alloc (Nat.le_refl _) _
  have k1 : PM.BK w1 g #[.int .i64 i.br, .int .u64 (i.life : Int), .int .u64 (i.ser : Int)] 26 := by rw [hw1, hg]; exact PM.BK.new _ _ _
  have hv1 := PM.TxL.keep hbw1 hv
  have ht := eachTx_any (.slice la ln lc) l w1 hv1 hl
  have hop := fun (v : Value) (W : World) (hv : PM.TxL W v l) => at_any v i l W hv
  have hcs := PM.posT_cases i l
  obtain ⟨R, hR⟩ : ∃ R, R = PM.setT i l := ⟨_, rfl⟩
  have hRR : Hid (R = if PM.posT i l < 0 then l else PM.remT (PM.posT i l).toNat l) := PM.hid (by rw [hR]; rfl)
  rw [← hR]
  obtain ⟨O, hO⟩ : ∃ O, O = PM.posT i l := ⟨_, rfl⟩
  rw [← hO] at hop hcs hRR
  have hBB := PM.hid hbw1
  replace hop := PM.hid hop
  have hsz1 := hbw1.size
  have hl1 := hl.1
  clear hv hv1 hl hR hO hbw1
  obtain ⟨ib, il, ir⟩ := i
  simp only at k1 hw1 hop
  go_enter Try.func24, Try.ntmps24
  go_upto_region 1 with fail
  rw [← hw1, ← hg]
  clear hw1 hg
  go_wp2_with fail
  refine ht.mono ?_
  clear ht
  rintro e w2 ⟨u, rfl, hu, hb2⟩
  replace hu := PM.TxW.mono hsz1 hu
  have k2 := k1.keep hb2
  have ho := hop.out u w2 hu.txl
  replace hBB := PM.hid (PM.chain hBB.out hb2)
  have x0 : w2.cell? ⟨g, 0, none⟩ = some (.int .i64 ib) := k2.cell 0
  have x1 : w2.cell? ⟨g, 1, none⟩ = some (.int .u64 (il : Int)) := k2.cell 1
  have x2 : w2.cell? ⟨g, 2, none⟩ = some (.int .u64 (ir : Int)) := k2.cell 2
  obtain ⟨ua, uc, hue⟩ := hu.rr.len
  obtain ⟨N, hN⟩ : ∃ n, n = l.length := ⟨_, rfl⟩
  rw [← hN] at hue hl1
  subst hue
  have hNh := PM.hid hN
  clear hN
  clear hop hb2 k1 k2
  go_wp2_with fail
  refine ho.mono ?_
  clear ho x0 x1 x2
  rintro e w3 ⟨rfl, hb3⟩
  replace hu := PM.TxW.keep hb3 hu
  replace hBB := PM.hid (PM.chain hBB.out hb3)
  clear hb3
  rcases hcs with ⟨rfl, -⟩ | ⟨k, x, rfl, hx, -, -⟩
  · have hR2 : Hid (R = l) := PM.hid (by rw [hRR.out]; rfl)
    have hend := PM.hid (And.intro hu hBB.out)
    clear hRR hu
    go_wp2_with fail
    go_ret
    exact ⟨_, rfl, by rw [hR2.out]; exact hend.out.1, hend.out.2⟩
  · have hR2 : Hid (R = PM.remT k l) := PM.hid (by rw [hRR.out, if_neg (by omega)]; simp)
    obtain ⟨g2, cap, css, y, cur, hue, hBg, -, -, -, -, -, -, -, -⟩ := PM.TxW.opn hu hx
    rw [← hNh.out] at hue
    injection hue with e1 e2 e3
    subst e1 e3
    have hkN : k < N := by rw [hNh.out]; exact (List.getElem?_eq_some_iff.1 hx).1
    have hd := delT_any w.heap.size g2 N uc k l w3 hu hkN hl1
    rw [show ((k + 1 : Nat) : Int) = (k : Int) + 1 from by omega] at hd
    have hk0 : (k : Int) ≥ 0 := by omega
    have hwk : IntKind.i64.wrap ((k : Int) + 1) = (k : Int) + 1 := by rw [IntKind.wrap_i64]; omega
    have hgB := PM.hid hBg
    clear hRR hu hx hBg hkN
    go_wp2_with fail
    refine hd.mono ?_
    rintro e w4 ⟨v', rfl, hv', hgr⟩
    have hend := PM.hid (And.intro hv' (hBB.out.grown hgr hBB.out.size (fun j hj => by injection hj with hj; rw [← hj]; exact hgB.out)))
    obtain ⟨_, _, hve⟩ := hv'.rr.len
    subst hve
    clear hv' hgr hd
    go_wp2_with fail
    go_ret
    exact ⟨_, rfl, by rw [hR2.out]; exact hend.out.1, hend.out.2⟩
set_option maxHeartbeats 4000000 in
theorem abort17_any (la : Option Addr) (ln lc : Nat) (i : PM.Id) (l : List PM.Tx) (w : World) (hv : PM.TxL w (.slice la ln lc) l) (hl : PM.TxsS l) :
    Calls Try.prog 22 #[.slice la ln lc, .agg #[.int .i64 i.br, .int .u64 (i.life : Int), .int .u64 (i.ser : Int)]] w fun e w' => ∃ u, e = .returned (.tuple #[u, .int .i64 (PM.abtT i l).2]) ∧ PM.TxW w.heap.size w' u (PM.abtT i l).1 ∧ Below w.heap.size w w' := by
  obtain ⟨g, hg⟩ : ∃ g, g = w.heap.size := ⟨_, rfl⟩
  obtain ⟨w1, hw1⟩ : ∃ W, W = w.alloc (.cells #[.int .i64 i.br, .int .u64 (i.life : Int), .int .u64 (i.ser : Int)] 26) := ⟨_, rfl⟩
  have hbw1 : Below w.heap.size w w1 := by rw [hw1]; exact (Below.refl _ _).alloc (Nat.le_refl _) _
  have k1 : PM.BK w1 g #[.int .i64 i.br, .int .u64 (i.life : Int), .int .u64 (i.ser : Int)] 26 := by rw [hw1, hg]; exact PM.BK.new _ _ _
  have hv1 := PM.TxL.keep hbw1 hv
  have ho := open_any (.slice la ln lc) i l w1 hv1
  have hea := fun (W : World) (hb : Below w1.heap.size w1 W) => eachTx_any (.slice la ln lc) l W (PM.TxL.keep hb hv1) hl
  have hse := fun (W : World) (hb : Below w1.heap.size w1 W) => settle_any la ln lc i l W (PM.TxL.keep hb hv1) hl
  have hcs : PM.openT i l < 0 ∨ 0 ≤ PM.openT i l := by omega
  obtain ⟨R, hR⟩ : ∃ R, R = PM.abtT i l := ⟨_, rfl⟩
  have hRR : Hid (R = if PM.openT i l < 0 then (l, (170 : Int)) else (PM.setT i l, 0)) := PM.hid (by rw [hR]; rfl)
  rw [← hR]
  obtain ⟨O, hO⟩ : ∃ O, O = PM.openT i l := ⟨_, rfl⟩
  rw [← hO] at ho hcs hRR
  obtain ⟨SS, hSS⟩ : ∃ O, O = PM.setT i l := ⟨_, rfl⟩
  rw [← hSS] at hse hRR
  have hBB := PM.hid hbw1
  replace hea := PM.hid hea
  replace hse := PM.hid hse
  have hsz1 := hbw1.size
  clear hv hv1 hl hR hO hbw1 hSS
  obtain ⟨ib, il, ir⟩ := i
  simp only at k1 hw1 ho hse
  have x0 : w1.cell? ⟨g, 0, none⟩ = some (.int .i64 ib) := k1.cell 0
  have x1 : w1.cell? ⟨g, 1, none⟩ = some (.int .u64 (il : Int)) := k1.cell 1
  have x2 : w1.cell? ⟨g, 2, none⟩ = some (.int .u64 (ir : Int)) := k1.cell 2
  go_enter Try.func22, Try.ntmps22
  go_upto_region 1 with fail
  rw [← hw1, ← hg]
  clear hw1 hg
  go_wp2_with fail
  refine ho.mono ?_
  clear ho x0 x1 x2
  rintro e w2 ⟨rfl, hb2⟩
  have k2 := k1.keep hb2
  have he2 := hea.out w2 hb2
  have hs2 := hse.out w2 hb2
  have hsz2 := Nat.le_trans hsz1 hb2.size
  replace hBB := PM.hid (PM.chain hBB.out hb2)
  have x0 : w2.cell? ⟨g, 0, none⟩ = some (.int .i64 ib) := k2.cell 0
  have x1 : w2.cell? ⟨g, 1, none⟩ = some (.int .u64 (il : Int)) := k2.cell 1
  have x2 : w2.cell? ⟨g, 2, none⟩ = some (.int .u64 (ir : Int)) := k2.cell 2
  clear hea hse hb2 k1 k2
  rcases hcs with hneg | hpos
  · have hR2 : Hid (R = (l, 170)) := PM.hid (by rw [hRR.out, if_pos hneg])
    clear hRR hs2
    go_wp2_with fail
    refine he2.mono ?_
    rintro e w3 ⟨u, rfl, hu, hb3⟩
    have hend := PM.hid (And.intro (PM.TxW.mono hsz2 hu) (PM.chain hBB.out hb3))
    obtain ⟨_, _, hve⟩ := hu.rr.len
    subst hve
    clear hu hb3 he2 x0 x1 x2
    go_wp2_with fail
    go_ret2
    exact ⟨_, by rw [hR2.out]; rfl, by rw [hR2.out]; exact hend.out.1, hend.out.2⟩
  · have hR2 : Hid (R = (SS, 0)) := PM.hid (by rw [hRR.out, if_neg (by omega)])
    have hn : ¬ O < 0 := by omega
    clear hRR he2
    go_wp2_with fail
    refine hs2.mono ?_
    rintro e w3 ⟨u, rfl, hu, hb3⟩
    have hend := PM.hid (And.intro (PM.TxW.mono hsz2 hu) (PM.chain hBB.out hb3))
    obtain ⟨_, _, hve⟩ := hu.rr.len
    subst hve
    clear hu hb3 hs2 x0 x1 x2
    go_wp2_with fail
    go_ret2
    exact ⟨_, by rw [hR2.out]; rfl, by rw [hR2.out]; exact hend.out.1, hend.out.2⟩
end Go.Proofs.Ytnjcociidipogaa
