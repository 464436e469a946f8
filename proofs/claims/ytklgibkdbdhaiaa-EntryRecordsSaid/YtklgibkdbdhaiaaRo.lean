/-
  ROWS OF ANYTHING: a slice each of whose elements (of c cells) reads as something, by a reading of one's own. Over any program.
-/
import Derived.Test.YtklgibkdbdhaiaaGm
import Derived.Test.YtklgibkdbdhaiaaGl
import Derived.OwnWalk
namespace Go.Proofs.Ytklgibkdbdhaiaa
namespace PM
open Go.RowKit
set_option linter.unusedVariables false
/-- the cells of one element -/
abbrev Ce (c : Nat) := {l : List Value // l.length = c ∧ ∀ u ∈ l, u.oneCell' = true}
def ceL {c : Nat} (x : Ce c) : List Value := x.1
theorem ceL_len {c : Nat} (x : Ce c) : (ceL x).length = c := x.2.1
theorem ceL_one {c : Nat} (x : Ce c) : ∀ u ∈ ceL x, u.oneCell' = true := x.2.2
/-- one element of one cell -/
def ce1 (v : Value) (h : v.oneCell' = true) : Ce 1 := ⟨[v], rfl, by intro u hu; simp at hu; subst hu; exact h⟩
variable {α : Type} {R : World → List Value → α → Prop} {c : Nat} {w W : World} {v : Value} {l : List α}
/-- what a slice reads as, whose elements read by R -/
def RR (R : World → List Value → α → Prop) (c : Nat) (w : World) (v : Value) (l : List α) : Prop :=
  ∃ css : List (Ce c), EM ceL c w v css ∧ css.length = l.length ∧ ∀ (i : Nat) (cs : Ce c) (x : α), css[i]? = some cs → l[i]? = some x → R w cs.1 x
/-- a reading that lasts while memory is made -/
def Lasts (R : World → List Value → α → Prop) : Prop := ∀ (W w : World) (cs : List Value) (x : α), Below W.heap.size W w → R W cs x → R w cs x
theorem RR.keep (hR : Lasts R) (hb : Below W.heap.size W w) (h : RR R c W v l) : RR R c w v l := by
  obtain ⟨css, h1, h2, h3⟩ := h
  exact ⟨css, h1.keep hb, h2, fun i cs x a b => hR _ _ _ _ hb (h3 i cs x a b)⟩
theorem RR.nil (w : World) : RR R c w (.slice none 0 0) [] := ⟨[], EM.nil w, rfl, fun i cs x a _ => by simp at a⟩
theorem RR.len (h : RR R c w v l) : ∃ ad cap, v = .slice ad l.length cap := by
  obtain ⟨css, h1, h2, _⟩ := h
  rw [← h2]
  exact h1.len
theorem RR.bound (h : RR R c w v l) : l.length ≤ maxLen := by
  obtain ⟨css, h1, h2, _⟩ := h
  rw [← h2]
  exact h1.bound
theorem RR.opn {ad : Option Addr} {n cap : Nat} (h : RR R c w (.slice ad n cap) l) (hl : 0 < l.length) : ∃ b off, ad = some ⟨b, off, none⟩ ∧ ∀ (i : Nat) (x : α), l[i]? = some x → ∃ cs : Ce c, Lies w b (off + i * c) cs.1 ∧ R w cs.1 x := by
  obtain ⟨css, h1, h2, h3⟩ := h
  obtain ⟨b, off, cap', e, g1, g2, g3⟩ := h1.open1 (by omega)
  injection e with e1 e2 e3
  refine ⟨b, off, e1, fun i x hi => ?_⟩
  have hil := (List.getElem?_eq_some_iff.1 hi).1
  have hx : css[i]? = some (css[i]'(by omega)) := List.getElem?_eq_getElem _
  exact ⟨_, g3 i _ hx, h3 i _ x hx hi⟩
theorem RR.rest {P : Program} {T E : TypeId} {nb : Nat} (MT : MTy P T E c nb) (h : RR R c w v l) {K : Nat} (hK : K ≤ l.length) :
    ∃ a k, (∀ W : World, (Instr.slice T v (some (.int .i64 (K : Int))) none none).run P W = .ok (.slice a (l.length - K) k) W) ∧ RR R c w (.slice a (l.length - K) k) (l.drop K) := by
  obtain ⟨css, h1, h2, h3⟩ := h
  obtain ⟨a, k, g1, g2⟩ := run_restM MT h1 (K := K) (by omega)
  rw [h2] at g1 g2
  refine ⟨a, k, g1, css.drop K, g2, by simp [h2], fun i cs x hi hx => ?_⟩
  rw [List.getElem?_drop] at hi hx
  exact h3 _ _ _ hi hx
theorem RR.take {P : Program} {T E : TypeId} {nb : Nat} (MT : MTy P T E c nb) (h : RR R c w v l) {K : Nat} (hK : K ≤ l.length) :
    ∃ a k, (∀ W : World, (Instr.slice T v none (some (.int .i64 (K : Int))) none).run P W = .ok (.slice a K k) W) ∧ RR R c w (.slice a K k) (l.take K) := by
  obtain ⟨css, h1, h2, h3⟩ := h
  obtain ⟨a, k, g1, g2⟩ := run_takeM MT h1 (K := K) (by omega)
  refine ⟨a, k, g1, css.take K, g2, by simp [h2], fun i cs x hi hx => ?_⟩
  rw [List.getElem?_take] at hi hx
  split at hi
  · rename_i hK
    rw [if_pos hK] at hx
    exact h3 _ _ _ hi hx
  · cases hi
/-- a row that the call itself has made -/
def OR (R : World → List Value → α → Prop) (c : Nat) (E : TypeId) (B : Nat) (w : World) (v : Value) (l : List α) : Prop :=
  ∃ css : List (Ce c), OM ceL c E B w v css ∧ css.length = l.length ∧ ∀ (i : Nat) (cs : Ce c) (x : α), css[i]? = some cs → l[i]? = some x → R w cs.1 x
variable {E : TypeId} {B : Nat}
theorem OR.rr (h : OR R c E B w v l) : RR R c w v l := by
  obtain ⟨css, h1, h2, h3⟩ := h
  exact ⟨css, h1.em ceL_len, h2, h3⟩
theorem OR.keep (hR : Lasts R) (hb : Below W.heap.size W w) (h : OR R c E B W v l) : OR R c E B w v l := by
  obtain ⟨css, h1, h2, h3⟩ := h
  exact ⟨css, h1.keep hb, h2, fun i cs x a b => hR _ _ _ _ hb (h3 i cs x a b)⟩
theorem OR.mono {B' : Nat} (hb : B' ≤ B) (h : OR R c E B w v l) : OR R c E B' w v l := by
  obtain ⟨css, h1, h2, h3⟩ := h
  exact ⟨css, h1.mono hb, h2, h3⟩
theorem OR.nilrow (w : World) : OR R c E B w (.slice none 0 0) [] := ⟨[], OM.nilrow w, rfl, fun i cs x a _ => by simp at a⟩
theorem OR.imp {β : Type} {R' : World → List Value → β → Prop} {f : α → β} (h : OR R c E B w v l) (hi : ∀ cs x, R w cs x → R' w cs (f x)) : OR R' c E B w v (l.map f) := by
  obtain ⟨css, h1, h2, h3⟩ := h
  refine ⟨css, h1, by simp [h2], fun i cs x a b => ?_⟩
  rw [List.getElem?_map] at b
  obtain ⟨y, hy, rfl⟩ := Option.map_eq_some_iff.1 b
  exact hi _ _ (h3 i cs y a hy)
theorem RR.imp {R' : World → List Value → α → Prop} (h : RR R c w v l) (hi : ∀ cs x, R w cs x → R' w cs x) : RR R' c w v l := by
  obtain ⟨css, h1, h2, h3⟩ := h
  exact ⟨css, h1, h2, fun i cs x a b => hi _ _ (h3 i cs x a b)⟩
/-- a reading that stays while a row of E's turns -/
def Stays (R : World → List Value → α → Prop) (E : TypeId) : Prop :=
  ∀ (w w' : World) (cs : List Value) (x : α) (row : Option Nat), w.grownBy w' row → (∀ g, row = some g → ∃ cur m, w.heap[g]? = some (.cells cur E m)) → R w cs x → R w' cs x
theorem OM.rowty {β : Type} {e : β → List Value} {m : List β} (h : OM e c E B w v m) : ∀ g, v.ownBlock = some g → ∃ cur mm, w.heap[g]? = some (.cells cur E mm) := by
  intro g hg
  rcases h.2 with ⟨rfl, _⟩ | ⟨g', cap, cur, rfl, _, hgb, _⟩
  · simp [Value.ownBlock] at hg
  · simp [Value.ownBlock] at hg
    subst hg
    exact ⟨cur, _, hgb⟩
theorem OR.snoc {w' : World} {v' : Value} {css : List (Ce c)} {cs0 : Ce c} {x0 : α} (hS : Stays R E) (h1 : OM ceL c E B w v css) (h2 : css.length = l.length) (h3 : ∀ (i : Nat) (cs : Ce c) (x : α), css[i]? = some cs → l[i]? = some x → R w cs.1 x)
    (h0 : R w cs0.1 x0) (ho : OM ceL c E B w' v' (css ++ [cs0])) (hg : w.grownBy w' v.ownBlock) : OR R c E B w' v' (l ++ [x0]) := by
  refine ⟨css ++ [cs0], ho, by simp [h2], fun i cs x hi hx => ?_⟩
  have ht := OM.rowty h1
  rcases Nat.lt_trichotomy i css.length with hl | hl | hl
  · rw [List.getElem?_append_left hl] at hi
    rw [List.getElem?_append_left (by omega)] at hx
    exact hS _ _ _ _ _ hg ht (h3 i cs x hi hx)
  · subst hl
    rw [List.getElem?_append_right (Nat.le_refl _), Nat.sub_self] at hi
    rw [h2, List.getElem?_append_right (Nat.le_refl _), Nat.sub_self] at hx
    simp at hi hx
    subst hi hx
    exact hS _ _ _ _ _ hg ht h0
  · have := (List.getElem?_eq_some_iff.1 hi).1
    simp at this
    omega
/-- a row of the call's own of one type of elements stays while a row of another one turns -/
theorem OM.stays {β : Type} {e : β → List Value} {E' : TypeId} (hne : E' ≠ E) {w' : World} {m : List β} {row : Option Nat} (h : OM e c E' B w v m) (hg : w.grownBy w' row) (ht : ∀ g, row = some g → ∃ cur m, w.heap[g]? = some (.cells cur E m)) : OM e c E' B w' v m := by
  refine World.ownsRow.kept h hg ?_
  by_cases hn : v.ownBlock = none
  · exact .inl hn
  · right
    intro he
    obtain ⟨k, hk⟩ := Option.ne_none_iff_exists'.1 hn
    obtain ⟨cur, mm, h1⟩ := ht k (he ▸ hk)
    obtain ⟨cur', mm', h2⟩ := OM.rowty h k hk
    rw [h1] at h2
    simp at h2
    exact hne h2.2.1.symm
section
variable {P : Program} {ops : Array Oper} {rest : List Oper} {o : Oper} {a : Act} {Q : Exit → Act → World → Prop}
/-- make, of no element yet -/
theorem wpList_mkm {β : Type} {e : β → List Value} {T : TypeId} {nb : Nat} (ET : MTy P T E c nb) (B : Nat) (hgd : o.guard = none) (l k : Operand) (ho : o.op = Op.makeSlice T l k)
    (kl kc : IntKind) (C : Int) (n : Nat) (hl : a.eval l = .int kl 0) (hc : a.eval k = .int kc C) (hC : C = (n : Int)) (b2 : nb * n ≤ 281474976710656) (b3 : n ≤ maxLen) (hB : B ≤ w.heap.size)
    (h : ∀ w', OM e c E B w' (.slice (some ⟨w.heap.size, 0, none⟩) 0 n) [] → Below B w w' → w.grownBy w' none → wpList P ops Q rest (a.put o.dst (.slice (some ⟨w.heap.size, 0, none⟩) 0 n)) w') : wpList P ops Q (o :: rest) a w := by
  obtain ⟨i, z, hi, hz, hsz, hby, hzs⟩ := ET.row
  refine wpList_make_own w hgd l k T ho B E i z c ET.sl hi hz hsz kl kc C n hl hc hC (by rw [hby]; exact b2) b3 hB fun w' r1 r2 => ?_
  exact h w' (by simpa [OM] using r1) ((Below.refl _ _).grown r2 hB (fun k hk => by cases hk)) r2
/-- append of one element, out of a new block -/
theorem wpList_or1 {T : TypeId} {nb : Nat} (ET : MTy P T E c nb) (hS : Stays R E) (hL : Lasts R) (B : Nat) (W : World) (hgd : o.guard = none) (s x : Operand)
    (ho : o.op = .call { callee := .builtin .append, args := #[s, x], argTypes := #[T, T] })
    (v : Value) (l : List α) (y : α) (cs : Ce c) (ev : Array Value) (hs : a.eval s = v) (hx : a.eval x = .slice (Option.some ⟨W.heap.size, 0, Option.none⟩) 1 1) (hw : w = W.alloc (.cells ev E)) (hy : ev = cs.1.toArray)
    (hR : R W cs.1 y) (hown : OR R c E B W v l) (hn : (l.length + 1) * nb ≤ 140737488355328) (hn2 : l.length + 1 ≤ maxLen) (hB : B ≤ W.heap.size)
    (h : ∀ v' w', OR R c E B w' v' (l ++ [y]) → Below B W w' → W.grownBy w' v.ownBlock → wpList P ops Q rest (a.put o.dst v') w') : wpList P ops Q (o :: rest) a w := by
  obtain ⟨css, h1, h2, h3⟩ := hown
  refine wpList_em1 ET ceL_len ceL_one B W hgd s x ho v css cs ev hs hx hw hy h1 (by rw [h2]; exact hn) (by rw [h2]; exact hn2) hB ?_
  intro v' w' g1 g2 g3 g4
  exact h v' w' (OR.snoc hS h1 h2 h3 hR g1 g3) g2 g3
end
end PM
end Go.Proofs.Ytklgibkdbdhaiaa
