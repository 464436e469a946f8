/-
  CONTRACTS OF vote.knows, vote.Promise.
-/
import Derived.Test.YtnpbfjkfbobgaaaGreatVk
namespace Go.Proofs.YtnpbfjkfbobgaaaGreat
open Go.RowKit
set_option linter.unusedVariables false
set_option linter.unusedSimpArgs false
namespace PM
/-- a state's lists, as its cells read -/
def StR (w : World) (v0 v1 v2 : Value) (ls ps : List En) (ab : List Id) : Prop := EnL w v0 ls ∧ EnL w v1 ps ∧ EM idL 3 w v2 ab
theorem StR.keep {W w : World} {v0 v1 v2 : Value} {ls ps : List En} {ab : List Id} (h : StR W v0 v1 v2 ls ps ab) (hb : Below W.heap.size W w) : StR w v0 v1 v2 ls ps ab := ⟨EnL.keep h.1 hb, EnL.keep h.2.1 hb, h.2.2.keep hb⟩
def kn (ls ps : List En) (ab : List Id) (i : Id) : Bool := hasE ls i || hasE ps i || hasI ab i
/-- one entry more, of those that may come: what is promised, what is refused -/
def prm1 (k : Id → Bool) (n : Nat) (st : List En × List Id) (x : En) : List En × List Id :=
  if (hasE st.1 x.id || hasI st.2 x.id) || k x.id then st else if n + st.1.length < 6 then (st.1 ++ [x], st.2) else (st.1, st.2 ++ [x.id])
def prm (k : Id → Bool) (n : Nat) (l : List En) : List En × List Id := l.foldl (prm1 k n) ([], [])
theorem prm1_len (k : Id → Bool) (n : Nat) (st : List En × List Id) (x : En) : (prm1 k n st x).1.length + (prm1 k n st x).2.length ≤ st.1.length + st.2.length + 1 := by
  unfold prm1
  split
  · omega
  · split
    · simp; omega
    · simp; omega
theorem prm_lenA (k : Id → Bool) (n : Nat) : ∀ (l : List En) (st : List En × List Id), (l.foldl (prm1 k n) st).1.length + (l.foldl (prm1 k n) st).2.length ≤ st.1.length + st.2.length + l.length
  | [], st => by simp
  | x :: l, st => by
    have h1 := prm_lenA k n l (prm1 k n st x)
    have h2 := prm1_len k n st x
    simp only [List.foldl_cons, List.length_cons]
    omega
theorem prm_len (k : Id → Bool) (n : Nat) (l : List En) : (prm k n l).1.length + (prm k n l).2.length ≤ l.length := by
  have := prm_lenA k n l ([], [])
  simpa [prm] using this
theorem hasE_snoc (p : List En) (x : En) (i : Id) : hasE (p ++ [x]) i = (hasE p i || decide (x.id = i)) := by simp [hasE, isId]
theorem hasI_snoc (r : List Id) (x i : Id) : hasI (r ++ [x]) i = (hasI r i || decide (i = x)) := by simp [hasI]
theorem prm_snoc {k : Id → Bool} {n : Nat} {l : List En} {j : Nat} {x : En} (h : l[j]? = some x) : prm k n (l.take (j + 1)) = prm1 k n (prm k n (l.take j)) x := by
  unfold prm
  rw [take_at h, List.foldl_append]
  rfl
end PM
namespace PM
theorem prm1_seen {k : Id → Bool} {n : Nat} {p : List En} {r : List Id} {x : En} (h : (hasE p x.id || hasI r x.id) = true) : prm1 k n (p, r) x = (p, r) := by
  unfold prm1
  rw [if_pos (by simp only [h, Bool.true_or])]
theorem prm1_known {k : Id → Bool} {n : Nat} {p : List En} {r : List Id} {x : En} (h : k x.id = true) : prm1 k n (p, r) x = (p, r) := by
  unfold prm1
  rw [if_pos (by simp only [h, Bool.or_true])]
theorem prm1_in {k : Id → Bool} {n : Nat} {p : List En} {r : List Id} {x : En} (h : (hasE p x.id || hasI r x.id) = false) (h1 : k x.id = false) (h2 : n + p.length < 6) : prm1 k n (p, r) x = (p ++ [x], r) := by
  unfold prm1
  rw [if_neg (by simp only [h, h1, Bool.or_false]; decide), if_pos h2]
theorem prm1_out {k : Id → Bool} {n : Nat} {p : List En} {r : List Id} {x : En} (h : (hasE p x.id || hasI r x.id) = false) (h1 : k x.id = false) (h2 : ¬ n + p.length < 6) : prm1 k n (p, r) x = (p, r ++ [x.id]) := by
  unfold prm1
  rw [if_neg (by simp only [h, h1, Bool.or_false]; decide), if_neg h2]
end PM
end Go.Proofs.YtnpbfjkfbobgaaaGreat
