/-
  CONTRACT OF event.Encode, of any event.
-/
import Derived.Test.YtklgibkdbdhaiaaEj
namespace Go.Proofs.Ytklgibkdbdhaiaa
open Go.RowKit
set_option linter.unusedVariables false
/-- what Encode answers: the bytes, and the number of the error -/
def RetE (E : TypeId) (W : World) (es : List PM.At) (e : Ending) (w' : World) : Prop :=
  ∃ o, e = .returned (.tuple #[o, .int .i64 (PM.chk es)]) ∧ (PM.chkP es → PM.OW E W.heap.size w' o (PM.encB es)) ∧ (¬ PM.chkP es → o = .slice none 0 0) ∧ Below W.heap.size W w'
theorem encode_any (v : Value) (es : List PM.At) (w : World) (hv : PM.EV w v es) (hw : ∀ x ∈ es, x.wf) :
    Calls Try.prog 42 #[v] w (RetE 5 w es) := by
  by_cases hc : PM.chkP es
  · refine (encode_ok v es w hv hc hw).mono ?_
    rintro e w' ⟨o, rfl, h1, h2⟩
    exact ⟨o, by rw [PM.chk_yes hc], fun _ => h1, fun h => absurd hc h, h2⟩
  · have hck := echeck_any v es w hv
    rw [PM.chk_no hc] at hck
    have hch := PM.hid hc
    obtain ⟨ad, cap, rfl, _⟩ := hv
    clear hc
    go_enter Try.func42, Try.ntmps42
    go_wp2_with fail
    refine hck.mono ?_
    rintro e w1 ⟨rfl, hB1⟩
    have hB := PM.hid hB1
    clear hB1 hck
    go_wp2_with fail
    go_ret2
    exact ⟨.slice none 0 0, by rw [PM.chk_no hch.out]; rfl, fun h => absurd h hch.out, fun _ => rfl, hB.out⟩
end Go.Proofs.Ytklgibkdbdhaiaa
