/-
  THE WALKS OF LAYER 4's STATEMENTS: unlike events.
-/
import Derived.Test.YtfanfkocmdkllaaEa
import Derived.Test.YtfanfkocmdkllaaQe
namespace Go.Proofs.Ytfanfkocmdkllaa
open Go.RowKit
set_option linter.unusedVariables false
theorem PM.str_ne {l m : List UInt8} (h : l ≠ m) : ((⟨l.toArray⟩ : ByteArray).toList == (⟨m.toArray⟩ : ByteArray).toList) = false := by
  rw [ByteArray.toList_eq, ByteArray.toList_eq]
  simpa using h
theorem PM.encB_inj {es fs : List PM.At} (h1 : PM.chkP es) (h2 : PM.chkP fs) (w1 : ∀ x ∈ es, x.wf) (w2 : ∀ x ∈ fs, x.wf) (h : PM.encB es = PM.encB fs) : es = fs := by
  have a := PM.decE_enc h1 w1
  have b := PM.decE_enc h2 w2
  rw [h, b] at a
  injection a with a
  exact a.symm
set_option maxHeartbeats 2000000 in
theorem eventUnlike_walk (v : Value) (es : List PM.At) (u : Value) (fs : List PM.At) (w : World) (hv : PM.EV w v es) (hw : ∀ x ∈ es, x.wf) (hu : PM.EV w u fs) (hwu : ∀ x ∈ fs, x.wf) :
    Calls Try.prog 9 #[v, u] w fun e w' => e = .returned (.bool true) ∧ Below w.heap.size w w' := by
  have hwh := PM.hid (And.intro hw hwu)
  clear hw hwu
  go_enter Try.func9, Try.ntmps9
  go_wp2_with fail
  refine (awake4 _).mono ?_
  rintro e w1 ⟨rfl, hB1⟩
  replace hv := hv.keep hB1
  replace hu := hu.keep hB1
  have hB := PM.hid hB1
  clear hB1
  go_wp2_with fail
  refine (few_any _ es w1 hv).mono ?_
  rintro e w2 ⟨hF, rfl⟩
  rcases hF with ⟨rfl, hF⟩ | ⟨rfl, hF⟩
  case inr =>
    clear hF hv hu
    go_wp2_with fail
    go_ret
    exact ⟨rfl, hB.out⟩
  clear hF
  go_wp2_with fail
  refine (few_any _ fs w2 hu).mono ?_
  rintro e w3 ⟨hF, rfl⟩
  rcases hF with ⟨rfl, hF⟩ | ⟨rfl, hF⟩
  case inr =>
    clear hF hv hu
    go_wp2_with fail
    go_ret
    exact ⟨rfl, hB.out⟩
  clear hF
  go_wp2_with fail
  refine (encode_any _ es w3 hv hwh.out.1).mono ?_
  rintro e w4 ⟨o4, rfl, ho4, hn4, hB4⟩
  replace hv := hv.keep hB4
  replace hu := hu.keep hB4
  replace hB := PM.hid (PM.chain hB.out hB4)
  have h4 := PM.hid (And.intro ho4 hn4)
  clear hB4 ho4 hn4
  go_wp2_with fail
  refine (encode_any _ fs w4 hu hwh.out.2).mono ?_
  rintro e w5 ⟨o5, rfl, ho5, hn5, hB5⟩
  replace hv := hv.keep hB5
  replace hu := hu.keep hB5
  replace hB := PM.hid (PM.chain hB.out hB5)
  by_cases hc : PM.chkP es
  case neg =>
    rw [PM.chk_no hc]
    clear ho5 hn5 hB5 hc h4 hv hu
    go_wp2_with fail
    go_ret
    exact ⟨rfl, hB.out⟩
  by_cases hd : PM.chkP fs
  case neg =>
    rw [PM.chk_yes hc, PM.chk_no hd]
    clear ho5 hn5 hB5 hc h4 hd hv hu
    go_wp2_with fail
    go_ret
    exact ⟨rfl, hB.out⟩
  rw [PM.chk_yes hc, PM.chk_yes hd]
  have b4 := (h4.out.1 hc).bs.keep hB5
  have b5 := (ho5 hd).bs
  have hch := PM.hid (And.intro hc hd)
  clear ho5 hn5 hB5 hc h4 hd
  go_wp2_with fail
  refine (esame_any _ _ es fs w5 hv hu).mono ?_
  rintro e w6 ⟨hsm, hB6⟩
  have k4 := PM.run_str bty Try.underlying9 (b4.keep hB6)
  have k5 := PM.run_str bty Try.underlying9 (b5.keep hB6)
  replace hB := PM.hid (PM.chain hB.out hB6)
  clear hB6 b4 b5 hv hu
  rcases hsm with ⟨rfl, he⟩ | ⟨rfl, he⟩
  · subst he
    go_wp2_with fail
    go_ret
    exact ⟨rfl, hB.out⟩
  · have hne : (PM.encB es == PM.encB fs) = false := by simpa using fun h => he (PM.encB_inj hch.out.1 hch.out.2 hwh.out.1 hwh.out.2 h)
    have heh := PM.hid he
    clear he
    go_wp2_with fail
    go_ret
    exact ⟨by simp, hB.out⟩
end Go.Proofs.Ytfanfkocmdkllaa
