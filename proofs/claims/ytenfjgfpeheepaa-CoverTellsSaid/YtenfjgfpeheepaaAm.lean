/-
  ATTRIBUTES AS ELEMENTS OF A ROW (for layers without event.Decode's contract).
-/
import Derived.Test.YtenfjgfpeheepaaGm
import Derived.Test.YtenfjgfpeheepaaEv
import Derived.Test.YtenfjgfpeheepaaEn
namespace Go.Proofs.Ytenfjgfpeheepaa
open Go.RowKit
set_option linter.unusedVariables false
namespace PM
/-- an attribute's cells -/
def attL (x : At) : List Value := [.string x.name, .int .i64 x.k, .int .i64 x.n, .string x.s]
theorem attL_len (x : At) : (attL x).length = 4 := rfl
theorem attL_one (x : At) : ∀ u ∈ attL x, u.oneCell' = true := by intro u hu; simp [attL] at hu; rcases hu with rfl | rfl | rfl | rfl <;> rfl
theorem EV.em {w : World} {v : Value} {es : List At} (h : EV w v es) : EM attL 4 w v es := by
  obtain ⟨ad, cap, hv, h1, h2, h3⟩ := h
  refine ⟨ad, cap, hv, h1, h2, fun hp => ?_⟩
  obtain ⟨b, off, ha, h4⟩ := h3 hp
  refine ⟨b, off, ha, fun i x hi j u hu => ?_⟩
  obtain ⟨d0, d1, d2, d3⟩ := h4 i x hi
  match j, hu with
  | 0, hu => simp [attL] at hu; subst hu; exact d0
  | 1, hu => simp [attL] at hu; subst hu; exact d1
  | 2, hu => simp [attL] at hu; subst hu; exact d2
  | 3, hu => simp [attL] at hu; subst hu; exact d3
  | j + 4, hu => simp [attL] at hu
theorem EM.ev {w : World} {v : Value} {es : List At} (h : EM attL 4 w v es) : EV w v es := by
  obtain ⟨ad, cap, hv, h1, h2, h3⟩ := h
  refine ⟨ad, cap, hv, h1, h2, fun hp => ?_⟩
  obtain ⟨b, off, ha, h4⟩ := h3 hp
  exact ⟨b, off, ha, fun i x hi => ⟨h4 i x hi 0 _ rfl, h4 i x hi 1 _ rfl, h4 i x hi 2 _ rfl, h4 i x hi 3 _ rfl⟩⟩
end PM
theorem attTy : PM.MTy Try.prog 26 49 4 48 := by
  refine ⟨Try.underlying26, by decide, ?_⟩
  obtain ⟨i, h1, h2, h3, h4⟩ := info_parts (P := Try.prog) (e := 49) (z := .agg #[.string ByteArray.empty, .int .i64 0, .int .i64 0, .string ByteArray.empty]) (size := 4) (bytes := 48) (by kernel_rfl)
  exact ⟨i, _, h1, h2, h3, h4, by kernel_rfl⟩
end Go.Proofs.Ytenfjgfpeheepaa
