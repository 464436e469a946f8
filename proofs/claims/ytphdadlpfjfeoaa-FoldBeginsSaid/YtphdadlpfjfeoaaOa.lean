/-
  CONTRACTS of layer 19: own.Each[Entry], own.Entries, order.From, order.Told.
-/
import Derived.Test.YtphdadlpfjfeoaaWd
import Derived.Test.YtphdadlpfjfeoaaWt
namespace Go.Proofs.Ytphdadlpfjfeoaa
open Go.RowKit
set_option linter.unusedVariables false
set_option linter.unusedSimpArgs false
set_option maxRecDepth 100000 in
set_option maxHeartbeats 4000000 in
theorem eachEn_any (v : Value) (l : List PM.En) (w : World) (hv : PM.EnL w v l) (hl : PM.EnsS l) :
    Calls Try.prog 70 #[v, .func (.func 24) #[] #[]] w fun e w' => ∃ u, e = .returned u ∧ PM.OR (PM.enO 114 112 84 w.heap.size) 8 44 w.heap.size w' u l ∧ Below w.heap.size w w' := by
  obtain ⟨va, vc, hve⟩ := hv.len
  subst hve
  obtain ⟨N, hN⟩ : ∃ N, N = l.length := ⟨_, rfl⟩
  have hNh := PM.hid hN
  have hl1 := hl.1
  rw [← hN] at hv hl1 ⊢
  have hvh := PM.hid hv
  have hsh := PM.hid hl.2
  clear hN hv hl
  go_enter Try.func70, Try.ntmps70
  by_cases h0 : N = 0
  · subst h0
    have e0 : Hid (l = []) := PM.hid (List.length_eq_zero_iff.1 hNh.out.symm)
    clear hl1
    go_wp2_with fail
    go_ret
    exact ⟨_, rfl, by rw [e0.out]; exact PM.OR.nilrow _, Below.refl _ _⟩
  have g0 : ((N : Int) == 0) = false := by simp; omega
  go_wp2_with (at_make; refine PM.wpList_mkm (e := PM.ceL (c := 8)) tyEnO w.heap.size rfl _ _ rfl .i64 .i64 _ N rfl rfl rfl (by omega) (by unfold maxLen; omega) (Nat.le_refl _) ?_; intro w1 hO hB1 _; have hOh := PM.hid (And.intro hO hB1); clear hO hB1)
  go_loopw [5, 16] (fun s i wr => ∃ k : Nat, i = .int .i64 k ∧ k ≤ N ∧ PM.OR (PM.enO 114 112 84 w.heap.size) 8 44 w.heap.size wr s (l.take k) ∧ Below w.heap.size w wr) (fun _ i _ => N - (intOf i).toNat)
  case atStart => exact ⟨0, rfl, by omega, ⟨[], hOh.out.1, rfl, fun i cs x a _ => by simp at a⟩, hOh.out.2⟩
  case round =>
    obtain ⟨k, rfl, hk, hrow, hB⟩ := hrel
    have hS := PM.hid (And.intro hrow hB)
    obtain ⟨ra, rc, hre⟩ := hrow.rr.len
    have hkl : (l.take k).length = k := by rw [List.length_take]; rw [← hNh.out]; omega
    rw [hkl] at hre
    subst hre
    by_cases hlt : k < N
    · obtain ⟨z, hz⟩ : ∃ z, l[k]? = some z := ⟨l[k]'(by rw [← hNh.out]; exact hlt), List.getElem?_eq_getElem _⟩
      obtain ⟨b, off, rfl, hce⟩ := PM.RR.opn hvh.out (by rw [← hNh.out]; omega)
      obtain ⟨cs, hl0, hR⟩ := hce k z hz
      have hzs := PM.hid (hsh.out z (List.mem_of_getElem? hz))
      obtain ⟨fa, fc, ea, ec, hcs, hzf, hze⟩ := PM.enR_open hR
      replace hl0 := hl0.keep hB
      rw [hcs] at hl0
      have d0 : wr.cell? ⟨b, off + k * 8, none⟩ = some (.int .i64 z.kind) := hl0 0 _ rfl
      have d1 : wr.cell? ⟨b, off + k * 8 + 1, none⟩ = some (.int .i64 z.id.br) := hl0 1 _ rfl
      have d2 : wr.cell? ⟨b, off + k * 8 + 2, none⟩ = some (.int .u64 (z.id.life : Int)) := hl0 2 _ rfl
      have d3 : wr.cell? ⟨b, off + k * 8 + 3, none⟩ = some (.int .u64 (z.id.ser : Int)) := hl0 3 _ rfl
      have d4 : wr.cell? ⟨b, off + k * 8 + 4, none⟩ = some (.int .i64 z.client) := hl0 4 _ rfl
      have d5 : wr.cell? ⟨b, off + k * 8 + 5, none⟩ = some (.int .u64 (z.sub : Int)) := hl0 5 _ rfl
      have d6 : wr.cell? ⟨b, off + k * 8 + 6, none⟩ = some (.slice fa z.fil.length fc) := hl0 6 _ rfl
      have d7 : wr.cell? ⟨b, off + k * 8 + 7, none⟩ = some (.slice ea z.evs.length ec) := hl0 7 _ rfl
      have hzh := PM.hid hz
      obtain ⟨zF, hzF⟩ : ∃ P, P = z.fil.length := ⟨_, rfl⟩
      obtain ⟨zE, hzE⟩ : ∃ P, P = z.evs.length := ⟨_, rfl⟩
      have hen : Hid (∀ W : World, Below w.heap.size w W → Calls Try.prog 24 #[.agg #[.int .i64 z.kind, .int .i64 z.id.br, .int .u64 (z.id.life : Int), .int .u64 (z.id.ser : Int), .int .i64 z.client, .int .u64 (z.sub : Int), .slice fa zF fc, .slice ea zE ec]] W fun e w' => ∃ ua uc ta tc, e = .returned (.agg #[.int .i64 z.kind, .int .i64 z.id.br, .int .u64 (z.id.life : Int), .int .u64 (z.id.ser : Int), .int .i64 z.client, .int .u64 (z.sub : Int), .slice ua zF uc, .slice ta zE tc]) ∧ PM.enO 114 112 84 W.heap.size w' [.int .i64 z.kind, .int .i64 z.id.br, .int .u64 (z.id.life : Int), .int .u64 (z.id.ser : Int), .int .i64 z.client, .int .u64 (z.sub : Int), .slice ua zF uc, .slice ta zE tc] z ∧ Below W.heap.size W w') := PM.hid fun W hb => by
        rw [hzF, hzE]
        exact ownEn_any z _ _ W (hzf.keep hb) (PM.EVL.keepO hb hze) hzs.out
      rw [← hzF] at d6
      rw [← hzE] at d7
      clear hz hce hl0 hR hcs cs hzf hze hzF hzE
      clear hrow hkl hB
      go_upto_region 7 with fail
      obtain ⟨gx, hgx⟩ : ∃ g, g = wr.heap.size := ⟨_, rfl⟩
      obtain ⟨w3, hw3⟩ : ∃ W, W = wr.alloc (.cells #[.int .i64 z.kind, .int .i64 z.id.br, .int .u64 (z.id.life : Int), .int .u64 (z.id.ser : Int), .int .i64 z.client, .int .u64 (z.sub : Int), .slice fa zF fc, .slice ea zE ec] 44) := ⟨_, rfl⟩
      have hBn : Below wr.heap.size wr w3 := by rw [hw3]; exact (Below.refl _ _).alloc (Nat.le_refl _) _
      have kx : PM.BK w3 gx #[.int .i64 z.kind, .int .i64 z.id.br, .int .u64 (z.id.life : Int), .int .u64 (z.id.ser : Int), .int .i64 z.client, .int .u64 (z.sub : Int), .slice fa zF fc, .slice ea zE ec] 44 := by rw [hw3, hgx]; exact PM.BK.new _ _ _
      rw [← hw3, ← hgx]
      clear hw3 hgx
      clear d0 d1 d2 d3 d4 d5 d6 d7
      have hBw := PM.hid (PM.chain hS.out.2 hBn)
      have hr3 := PM.OR.keep PM.enO_lasts hBn hS.out.1
      clear hBn
      have x0 : w3.cell? ⟨gx, 0, none⟩ = some (.int .i64 z.kind) := kx.cell 0
      have x1 : w3.cell? ⟨gx, 1, none⟩ = some (.int .i64 z.id.br) := kx.cell 1
      have x2 : w3.cell? ⟨gx, 2, none⟩ = some (.int .u64 (z.id.life : Int)) := kx.cell 2
      have x3 : w3.cell? ⟨gx, 3, none⟩ = some (.int .u64 (z.id.ser : Int)) := kx.cell 3
      have x4 : w3.cell? ⟨gx, 4, none⟩ = some (.int .i64 z.client) := kx.cell 4
      have x5 : w3.cell? ⟨gx, 5, none⟩ = some (.int .u64 (z.sub : Int)) := kx.cell 5
      have x6 : w3.cell? ⟨gx, 6, none⟩ = some (.slice fa zF fc) := kx.cell 6
      have x7 : w3.cell? ⟨gx, 7, none⟩ = some (.slice ea zE ec) := kx.cell 7
      clear kx
      go_wp2_with fail
      refine (hen.out w3 hBw.out).mono ?_
      rintro e w5 ⟨ua, uc, ta, tc, rfl, hRy, hBn⟩
      clear x0 x1 x2 x3 x4 x5 x6 x7
      replace hRy := PM.enO_mono hBw.out.size hRy
      have hr5 := PM.OR.keep PM.enO_lasts hBn hr3
      have hB5h := PM.hid (PM.chain hBw.out hBn)
      have hl16 : ((l.take k).length + 1) * 96 ≤ 140737488355328 := by rw [List.length_take]; omega
      have hl17 : (l.take k).length + 1 ≤ maxLen := by rw [List.length_take]; unfold maxLen; omega
      have hsz := hB5h.out.size
      clear hBn hr3
      go_wp2_with (at_builtin; go_loud (refine PM.wpList_or1 tyEnO (PM.enO_stays (by decide) (by decide) (by decide)) PM.enO_lasts w.heap.size w5 rfl _ _ rfl _ (l.take k) z (PM.enCe z ua zF uc ta zE tc) _ rfl rfl rfl rfl hRy hr5 hl16 hl17 hsz ?_); intro v' w' t1 t2 t3; have hE := PM.hid (And.intro t1 (hB5h.out.trans t2)); clear t1 t2 t3 hr5 hRy hsz)
      refine ⟨⟨k + 1, by go_num, by omega, by rw [PM.take_at hzh.out]; exact hE.out.1, hE.out.2⟩, by simp only [intOf]; omega⟩
    · obtain rfl : k = N := by omega
      clear hB hrow hkl
      go_wp2_with fail
      go_ret
      exact ⟨_, rfl, by have := hS.out.1; have h9 : l.take k = l := (by rw [hNh.out]; exact List.take_length); rwa [h9] at this, hS.out.2⟩
theorem entries_any (v : Value) (l : List PM.En) (w : World) (hv : PM.EnL w v l) (hl : PM.EnsS l) :
    Calls Try.prog 48 #[v] w fun e w' => ∃ u, e = .returned u ∧ PM.OR (PM.enO 114 112 84 w.heap.size) 8 44 w.heap.size w' u l ∧ Below w.heap.size w w' := by
  go_enter Try.func48, Try.ntmps48
  go_wp2_with fail
  refine (eachEn_any v l w hv hl).mono ?_
  rintro e w1 ⟨u, rfl, h1, h2⟩
  have hh := PM.hid (And.intro h1 h2)
  clear h1 h2
  go_wp2_with fail
  go_ret
  exact ⟨_, rfl, hh.out⟩
namespace PM
def fromL (l : List En) (have_ : Nat) : List En := (l.drop have_).take 4
theorem EnsS.sub {l m : List En} (h : EnsS l) (hl : m.length ≤ l.length) (hm : ∀ x ∈ m, x ∈ l) : EnsS m := ⟨Nat.le_trans hl h.1, fun x hx => h.2 x (hm x hx)⟩
theorem EnL.takeS4 {w : World} {a : Option Addr} {n cap : Nat} {l : List En} (h : EnL w (.slice a n cap) l) {K : Nat} (hK : K ≤ n) : EnL w (.slice a K cap) (l.take K) := by
  obtain ⟨css, ⟨ad, cap', he, h1, h2, h3⟩, g2, g3⟩ := h
  injection he with he1 he2 he3
  subst he1 he2 he3
  have hl : (css.take K).length = K := List.length_take_of_le hK
  refine ⟨css.take K, ⟨a, cap, by rw [hl], by omega, h2, fun hp => ?_⟩, by simp [g2], fun i cs x ha hb => ?_⟩
  · obtain ⟨b, off, ha, h4⟩ := h3 (by omega)
    refine ⟨b, off, ha, fun i x hi => h4 i x ?_⟩
    rw [List.getElem?_take] at hi
    split at hi
    · exact hi
    · cases hi
  · rw [List.getElem?_take] at ha hb
    split at ha
    · rename_i hlt
      rw [if_pos hlt] at hb
      exact g3 i cs x ha hb
    · cases ha
theorem EM.restU {α : Type} {e : α → List Value} {c nb : Nat} {P : Program} {T E : TypeId} (MT : MTy P T E c nb) {w : World} {v : Value} {l : List α} (h : EM e c w v l) {K : Nat} (hK : K ≤ l.length) :
    ∃ a k, (∀ W : World, (Instr.slice T v (some (.int .u64 (K : Int))) none none).run P W = .ok (.slice a (l.length - K) k) W) ∧ EM e c w (.slice a (l.length - K) k) (l.drop K) := by
  obtain ⟨hT, hs⟩ := MT.size
  obtain ⟨ad, cap, rfl, h1, h2, h3⟩ := h
  refine ⟨if cap = K then ad else ad.map (·.add (K * c)), cap - K, fun W => ?_, ?_⟩
  · rw [run_slice_l W T ad l.length cap hT .u64 K (by omega) (by omega), hs]
    simp [Result.andThen, sliced]
  · refine ⟨_, _, by rw [List.length_drop], by rw [List.length_drop]; omega, by omega, fun hp => ?_⟩
    rw [List.length_drop] at hp
    obtain ⟨b, off, rfl, h4⟩ := h3 (by omega)
    refine ⟨b, off + K * c, ?_, fun i x hi => ?_⟩
    · rw [if_neg (by omega), Option.map_some]
      unfold Addr.add; split <;> simp_all
    · rw [List.getElem?_drop] at hi
      have := h4 (K + i) x hi
      rw [Nat.add_mul, ← Nat.add_assoc] at this
      exact this
theorem RR.restU {α : Type} {R : World → List Value → α → Prop} {c nb : Nat} {P : Program} {T E : TypeId} (MT : MTy P T E c nb) {w : World} {v : Value} {l : List α} (h : RR R c w v l) {K : Nat} (hK : K ≤ l.length) :
    ∃ a k, (∀ W : World, (Instr.slice T v (some (.int .u64 (K : Int))) none none).run P W = .ok (.slice a (l.length - K) k) W) ∧ RR R c w (.slice a (l.length - K) k) (l.drop K) := by
  obtain ⟨css, h1, h2, h3⟩ := h
  obtain ⟨a, k, g1, g2⟩ := EM.restU MT h1 (K := K) (by omega)
  rw [h2] at g1 g2
  refine ⟨a, k, g1, css.drop K, g2, by simp [h2], fun i cs x hi hx => ?_⟩
  rw [List.getElem?_drop] at hi hx
  exact h3 _ _ _ hi hx
end PM
end Go.Proofs.Ytphdadlpfjfeoaa
