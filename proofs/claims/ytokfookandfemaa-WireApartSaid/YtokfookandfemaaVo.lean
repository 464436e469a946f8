/-
  CONTRACTS OF package own: Flat, Event, Filter, Each[Event], Entry.
-/
import Derived.Test.YtokfookandfemaaVt
namespace Go.Proofs.Ytokfookandfemaa
open Go.RowKit
set_option linter.unusedVariables false
set_option linter.unusedSimpArgs false
namespace PM
theorem Bx.set8o (g : Nat) (w : World) (a b c d e f x y : Value) : Bx g w ((((((((w.setCell ⟨g, 0, Option.none⟩ a).setCell ⟨g, 1, Option.none⟩ b).setCell ⟨g, 2, Option.none⟩ c).setCell ⟨g, 3, Option.none⟩ d).setCell ⟨g, 4, Option.none⟩ e).setCell ⟨g, 5, Option.none⟩ f).setCell ⟨g, 6, Option.none⟩ x).setCell ⟨g, 7, Option.none⟩ y) :=
  ((((((((Bx.set g 0 w a)).trans (Bx.set g 1 _ b)).trans (Bx.set g 2 _ c)).trans (Bx.set g 3 _ d)).trans (Bx.set g 4 _ e)).trans (Bx.set g 5 _ f)).trans (Bx.set g 6 _ x)).trans (Bx.set g 7 _ y)
theorem BK.set8o {w : World} {r : Nat} {a b c d e f g h : Value} {T : TypeId} (k : BK w r #[a, b, c, d, e, f, g, h] T) (a' b' c' d' e' f' g' h' : Value) : BK ((((((((w.setCell ⟨r, 0, Option.none⟩ a').setCell ⟨r, 1, Option.none⟩ b').setCell ⟨r, 2, Option.none⟩ c').setCell ⟨r, 3, Option.none⟩ d').setCell ⟨r, 4, Option.none⟩ e').setCell ⟨r, 5, Option.none⟩ f').setCell ⟨r, 6, Option.none⟩ g').setCell ⟨r, 7, Option.none⟩ h') r #[a', b', c', d', e', f', g', h'] T := by
  have := (((((((k.set 0 a').set 1 b').set 2 c').set 3 d').set 4 e').set 5 f').set 6 g').set 7 h'
  simpa using this
theorem BK.seeO {w : World} {b : Nat} {cs cs' : Array Value} {T : TypeId} (h : BK w b cs T) (he : cs = cs') : BK w b cs' T := he ▸ h
/-- an event of the call's own, in a cell -/
def evO (T : TypeId) (B : Nat) (w : World) (cs : List Value) (e : List At) : Prop := ∃ v, cs = [v] ∧ OM attL 4 T B w v e
theorem evO_lasts {T : TypeId} {B : Nat} : Lasts (evO T B) := fun W w cs x hb ⟨v, h1, h2⟩ => ⟨v, h1, h2.keep hb⟩
theorem evO_stays {T E : TypeId} {B : Nat} (hne : T ≠ E) : Stays (evO T B) E := fun w w' cs x row hg ht ⟨v, h1, h2⟩ => ⟨v, h1, OM.stays hne h2 hg ht⟩
theorem EVL.keepO {W w : World} {v : Value} {ls : List (List At)} (hb : Below W.heap.size W w) (h : EVL W v ls) : EVL w v ls := RR.keep evR_lasts hb h
theorem evOr_mono {T E : TypeId} {B B' : Nat} {w : World} {v : Value} {l : List (List At)} (hb : B' ≤ B) (h : OR (evO T B) 1 E B w v l) : OR (evO T B') 1 E B' w v l := by
  obtain ⟨css, h1, h2, h3⟩ := h
  exact ⟨css, h1.mono hb, h2, fun i cs x a b => by obtain ⟨v, g1, g2⟩ := h3 i cs x a b; exact ⟨v, g1, g2.mono hb⟩⟩
theorem evOr_keepx {T E K : TypeId} {B b : Nat} {w w' : World} {v : Value} {l : List (List At)} {cs : Array Value} (h : OR (evO T B) 1 E B w v l) (hx : Bx b w w') (hb : BK w b cs K) (h1 : K ≠ T) (h2 : K ≠ E) : OR (evO T B) 1 E B w' v l := by
  obtain ⟨css, g1, g2, g3⟩ := h
  exact ⟨css, g1.keepx hx hb h2, g2, fun i cs x a b => by obtain ⟨v, f1, f2⟩ := g3 i cs x a b; exact ⟨v, f1, f2.keepx hx hb h1⟩⟩
theorem evOr_stays {T E K : TypeId} {B : Nat} {w w' : World} {v : Value} {l : List (List At)} {row : Option Nat} (h1 : T ≠ K) (h2 : E ≠ K) (h : OR (evO T B) 1 E B w v l) (hg : w.grownBy w' row) (ht : ∀ g, row = some g → ∃ cur m, w.heap[g]? = some (.cells cur K m)) : OR (evO T B) 1 E B w' v l := by
  obtain ⟨css, g1, g2, g3⟩ := h
  exact ⟨css, OM.stays h2 g1 hg ht, g2, fun i cs x a b => evO_stays h1 _ _ _ _ _ hg ht (g3 i cs x a b)⟩
/-- an entry of the call's own -/
def enO (TT TA TE : TypeId) (B : Nat) (w : World) (cs : List Value) (x : En) : Prop := ∃ fv ev, cs = enC x fv ev ∧ OM teL 5 TT B w fv x.fil ∧ OR (evO TA B) 1 TE B w ev x.evs
theorem evOr_evl {T E : TypeId} {B : Nat} {w : World} {v : Value} {l : List (List At)} (h : OR (evO T B) 1 E B w v l) : EVL w v l :=
  RR.imp h.rr fun cs x ⟨v, h1, h2⟩ => ⟨v, h1, (h2.em attL_len).ev⟩
theorem enO_lasts {TT TA TE : TypeId} {B : Nat} : Lasts (enO TT TA TE B) := fun W w cs x hb ⟨fv, ev, h1, h2, h3⟩ => ⟨fv, ev, h1, h2.keep hb, OR.keep evO_lasts hb h3⟩
theorem enO_stays {TT TA TE K : TypeId} {B : Nat} (h1 : TT ≠ K) (h2 : TA ≠ K) (h3 : TE ≠ K) : Stays (enO TT TA TE B) K := fun w w' cs x row hg ht ⟨fv, ev, g1, g2, g3⟩ => ⟨fv, ev, g1, OM.stays h1 g2 hg ht, evOr_stays h2 h3 g3 hg ht⟩
theorem enO_mono {TT TA TE : TypeId} {B B' : Nat} {w : World} {cs : List Value} {x : En} (hb : B' ≤ B) (h : enO TT TA TE B w cs x) : enO TT TA TE B' w cs x := by
  obtain ⟨fv, ev, h1, h2, h3⟩ := h
  exact ⟨fv, ev, h1, h2.mono hb, evOr_mono hb h3⟩
theorem enO_enR {TT TA TE : TypeId} {B : Nat} {w : World} {cs : List Value} {x : En} (h : enO TT TA TE B w cs x) : enR w cs x := by
  obtain ⟨fv, ev, h1, h2, h3⟩ := h
  exact ⟨fv, ev, h1, h2.em teL_len, evOr_evl h3⟩
/-- an entry of little load -/
def EnS (x : En) : Prop := x.fil.length ≤ 1000 ∧ x.evs.length ≤ 1000 ∧ ∀ e ∈ x.evs, e.length ≤ 1000
end PM
theorem tyEvO : PM.MTy Try.prog 48 114 1 24 := by
  refine ⟨Try.underlying48, by decide, ?_⟩
  obtain ⟨i, h1, h2, h3, h4⟩ := info_parts (P := Try.prog) (e := 114) (z := .slice none 0 0) (size := 1) (bytes := 24) (by kernel_rfl)
  exact ⟨i, _, h1, h2, h3, h4, by kernel_rfl⟩
theorem tyAtO : PM.MTy Try.prog 113 136 4 48 := by
  refine ⟨Try.underlying113, by decide, ?_⟩
  obtain ⟨i, h1, h2, h3, h4⟩ := info_parts (P := Try.prog) (e := 136) (z := .agg #[.string ByteArray.empty, .int .i64 0, .int .i64 0, .string ByteArray.empty]) (size := 4) (bytes := 48) (by kernel_rfl)
  exact ⟨i, _, h1, h2, h3, h4, by kernel_rfl⟩
theorem tyTeO : PM.MTy Try.prog 46 138 5 56 := by
  refine ⟨Try.underlying46, by decide, ?_⟩
  obtain ⟨i, h1, h2, h3, h4⟩ := info_parts (P := Try.prog) (e := 138) (z := .agg #[.string ByteArray.empty, .int .i64 0, .int .i64 0, .int .i64 0, .string ByteArray.empty]) (size := 5) (bytes := 56) (by kernel_rfl)
  exact ⟨i, _, h1, h2, h3, h4, by kernel_rfl⟩
theorem tyVoO : PM.MTy Try.prog 24 53 4 32 := by
  refine ⟨Try.underlying24, by decide, ?_⟩
  obtain ⟨i, h1, h2, h3, h4⟩ := info_parts (P := Try.prog) (e := 53) (z := .agg #[.int .i64 0, .int .u64 0, .int .u64 0, .bool false]) (size := 4) (bytes := 32) (by kernel_rfl)
  exact ⟨i, _, h1, h2, h3, h4, by kernel_rfl⟩
theorem tyIdO : PM.MTy Try.prog 26 45 3 24 := by
  refine ⟨Try.underlying26, by decide, ?_⟩
  obtain ⟨i, h1, h2, h3, h4⟩ := info_parts (P := Try.prog) (e := 45) (z := .agg #[.int .i64 0, .int .u64 0, .int .u64 0]) (size := 3) (bytes := 24) (by kernel_rfl)
  exact ⟨i, _, h1, h2, h3, h4, by kernel_rfl⟩
end Go.Proofs.Ytokfookandfemaa
