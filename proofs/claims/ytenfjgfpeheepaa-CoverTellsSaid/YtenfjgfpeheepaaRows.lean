/-
  No cell of these rows narrows 'for every input' (looked for: loops, veiled, ifaces, maps, wideKeys, modest, calm, conditions, laid).
  DERIVED. THE GIVEN ROWS OF THIS SEAT. 6 by the template 'for every input the law returns true; each argument reads behind the call as it read before'; 0 by the template 'total and deterministic' (their statements: YtenfjgfpeheepaaTotals.lean).
  GIVEN WITH THE SEED: the statements are not yours to turn. If you find one false, say at which input.
  Laid BY PROGRAM, IN A SANDBOX (cutbox-rows.mjs): the forced cells as the released guide's own fill.sh prints them over the translation f77399eb86228419… (all of the seat's roots in one cut). By AI agents, Wed Nov 11 2026. No macro, syntax, notation, axiom, sorry.
-/
import Derived.Test.YtenfjgfpeheepaaChecked
import GoSem.Claim
import GoSem.ClaimJoined
import GoSem.ClaimMapViews
import Derived.JoinedTies
import Derived.KernelRfl
namespace Go.Proofs.Ytenfjgfpeheepaa
/- THE CELL 'sum', in the pinned program and in every row, IS THE sha256 OF THE DUMP (.gsa) THAT YtenfjgfpeheepaaProg.lean LOADS. Nothing in Lean hashes anything: it is a label: what it is worth is what the hold of that sum in a sandbox is worth. -/
noncomputable def Try.pinned : Pinned := { name := "ytenfjgfpeheepaa", sum := "f77399eb862284195fcfe0b86b8f989b8121ce43e430f16ffdae3ee340511540", checked := Try.checked }
namespace Rows
def none {H : Type} : Left H := { results := [], args := [] }

/-- 'postilionlaw07.CoverTells': WHATEVER THE INPUT: true; the input reads as it did. -/
def coverTellsSpec : ChangeSpec := { name := "coverTells", fn := fun _ => fun
  | [d1, d2, d3, d4] => { results := [.lit (.bool true)], args := [d1, d2, d3, d4] }
  | _ => none }
def coverTellsRow : OpenClaim := { program := "ytenfjgfpeheepaa", sum := "f77399eb862284195fcfe0b86b8f989b8121ce43e430f16ffdae3ee340511540", func := "postilion/postilionlaw07.CoverTells", spec := "coverTells", unfollowed := true, recurses := true, apart := false }
def CoverTellsSaid : Prop := coverTellsRow.holds Try.pinned (OpenSpec.ofChange coverTellsSpec)

/-- ITS FALSE NEIGHBOUR: 'it returns false'. Refute it at one input. -/
def coverTellsWrong : ChangeSpec := { name := "coverTells", fn := fun _ => fun
  | [d1, d2, d3, d4] => { results := [.lit (.bool false)], args := [d1, d2, d3, d4] }
  | _ => none }
def CoverTellsWrongFalsely : Prop := coverTellsRow.holds Try.pinned (OpenSpec.ofChange coverTellsWrong)

/-- 'postilionlaw07.CoverSound': WHATEVER THE INPUT: true; the input reads as it did. -/
def coverSoundSpec : ChangeSpec := { name := "coverSound", fn := fun _ => fun
  | [d1, d2, d3] => { results := [.lit (.bool true)], args := [d1, d2, d3] }
  | _ => none }
def coverSoundRow : OpenClaim := { program := "ytenfjgfpeheepaa", sum := "f77399eb862284195fcfe0b86b8f989b8121ce43e430f16ffdae3ee340511540", func := "postilion/postilionlaw07.CoverSound", spec := "coverSound", unfollowed := true, recurses := true, apart := false }
def CoverSoundSaid : Prop := coverSoundRow.holds Try.pinned (OpenSpec.ofChange coverSoundSpec)

/-- ITS FALSE NEIGHBOUR: 'it returns false'. Refute it at one input. -/
def coverSoundWrong : ChangeSpec := { name := "coverSound", fn := fun _ => fun
  | [d1, d2, d3] => { results := [.lit (.bool false)], args := [d1, d2, d3] }
  | _ => none }
def CoverSoundWrongFalsely : Prop := coverSoundRow.holds Try.pinned (OpenSpec.ofChange coverSoundWrong)

/-- 'postilionlaw07.CoverReduces': WHATEVER THE INPUT: true; the input reads as it did. -/
def coverReducesSpec : ChangeSpec := { name := "coverReduces", fn := fun _ => fun
  | [d1, d2] => { results := [.lit (.bool true)], args := [d1, d2] }
  | _ => none }
def coverReducesRow : OpenClaim := { program := "ytenfjgfpeheepaa", sum := "f77399eb862284195fcfe0b86b8f989b8121ce43e430f16ffdae3ee340511540", func := "postilion/postilionlaw07.CoverReduces", spec := "coverReduces", unfollowed := true, recurses := true, apart := false }
def CoverReducesSaid : Prop := coverReducesRow.holds Try.pinned (OpenSpec.ofChange coverReducesSpec)

/-- ITS FALSE NEIGHBOUR: 'it returns false'. Refute it at one input. -/
def coverReducesWrong : ChangeSpec := { name := "coverReduces", fn := fun _ => fun
  | [d1, d2] => { results := [.lit (.bool false)], args := [d1, d2] }
  | _ => none }
def CoverReducesWrongFalsely : Prop := coverReducesRow.holds Try.pinned (OpenSpec.ofChange coverReducesWrong)

/-- 'postilionlaw07.CoverChain': WHATEVER THE INPUT: true; the input reads as it did. -/
def coverChainSpec : ChangeSpec := { name := "coverChain", fn := fun _ => fun
  | [d1, d2, d3, d4] => { results := [.lit (.bool true)], args := [d1, d2, d3, d4] }
  | _ => none }
def coverChainRow : OpenClaim := { program := "ytenfjgfpeheepaa", sum := "f77399eb862284195fcfe0b86b8f989b8121ce43e430f16ffdae3ee340511540", func := "postilion/postilionlaw07.CoverChain", spec := "coverChain", unfollowed := true, recurses := true, apart := false }
def CoverChainSaid : Prop := coverChainRow.holds Try.pinned (OpenSpec.ofChange coverChainSpec)

/-- ITS FALSE NEIGHBOUR: 'it returns false'. Refute it at one input. -/
def coverChainWrong : ChangeSpec := { name := "coverChain", fn := fun _ => fun
  | [d1, d2, d3, d4] => { results := [.lit (.bool false)], args := [d1, d2, d3, d4] }
  | _ => none }
def CoverChainWrongFalsely : Prop := coverChainRow.holds Try.pinned (OpenSpec.ofChange coverChainWrong)

/-- 'postilionlaw07.CoverAll': WHATEVER THE INPUT: true; the input reads as it did. -/
def coverAllSpec : ChangeSpec := { name := "coverAll", fn := fun _ => fun
  | [d1, d2, d3] => { results := [.lit (.bool true)], args := [d1, d2, d3] }
  | _ => none }
def coverAllRow : OpenClaim := { program := "ytenfjgfpeheepaa", sum := "f77399eb862284195fcfe0b86b8f989b8121ce43e430f16ffdae3ee340511540", func := "postilion/postilionlaw07.CoverAll", spec := "coverAll", unfollowed := true, recurses := true, apart := false }
def CoverAllSaid : Prop := coverAllRow.holds Try.pinned (OpenSpec.ofChange coverAllSpec)

/-- ITS FALSE NEIGHBOUR: 'it returns false'. Refute it at one input. -/
def coverAllWrong : ChangeSpec := { name := "coverAll", fn := fun _ => fun
  | [d1, d2, d3] => { results := [.lit (.bool false)], args := [d1, d2, d3] }
  | _ => none }
def CoverAllWrongFalsely : Prop := coverAllRow.holds Try.pinned (OpenSpec.ofChange coverAllWrong)

/-- 'postilionlaw07.CoverTwice': WHATEVER THE INPUT: true; the input reads as it did. -/
def coverTwiceSpec : ChangeSpec := { name := "coverTwice", fn := fun _ => fun
  | [d] => { results := [.lit (.bool true)], args := [d] }
  | _ => none }
def coverTwiceRow : OpenClaim := { program := "ytenfjgfpeheepaa", sum := "f77399eb862284195fcfe0b86b8f989b8121ce43e430f16ffdae3ee340511540", func := "postilion/postilionlaw07.CoverTwice", spec := "coverTwice", unfollowed := true, recurses := true, apart := false }
def CoverTwiceSaid : Prop := coverTwiceRow.holds Try.pinned (OpenSpec.ofChange coverTwiceSpec)

/-- ITS FALSE NEIGHBOUR: 'it returns false'. Refute it at one input. -/
def coverTwiceWrong : ChangeSpec := { name := "coverTwice", fn := fun _ => fun
  | [d] => { results := [.lit (.bool false)], args := [d] }
  | _ => none }
def CoverTwiceWrongFalsely : Prop := coverTwiceRow.holds Try.pinned (OpenSpec.ofChange coverTwiceWrong)

/- THE SECOND FORM. 'bulk': how many values and letters a reading holds, each counted each time it is reached (what is shared counts as often as it is met; a slice's spare places count too). A statement '..UptoSaid' is the law's where the arguments, and the package variables that the reading takes, are together of bulk at most 1048576: NARROWER than '..Said'. Prove '..Said' where nothing that the law and all that it calls make is longer than what came in: it says more and counts as full. Else prove '..UptoSaid'. A law counts once. -/
mutual
def uptoBulk {H : Type} : DataW H → Nat
  | .lit (.string bytes) => bytes.length + 1
  | .lit _ => 1
  | .nil => 1
  | .ptr d => uptoBulk d + 1
  | .slice elems spare => uptoBulkAll elems + uptoBulkAll spare + 1
  | .agg parts => uptoBulkAll parts + 1
  | .iface _ d => uptoBulk d + 1
  | .map entries => uptoBulkEntries entries + 1
  | .held _ => 1
def uptoBulkAll {H : Type} : List (DataW H) → Nat
  | [] => 0
  | d :: r => uptoBulk d + uptoBulkAll r
def uptoBulkEntries {H : Type} : List (Lit × DataW H) → Nat
  | [] => 0
  | x :: r => uptoBulkEntry x + uptoBulkEntries r
def uptoBulkEntry {H : Type} : Lit × DataW H → Nat
  | (.string bytes, d) => bytes.length + uptoBulk d + 1
  | (_, d) => uptoBulk d + 1
 end
def uptoSmall : (H : Type) → List (DataW H) → Bool := fun _ ds => decide (uptoBulkAll ds ≤ 1048576)
def OpenSpec.upto (s : _root_.Go.ChangeSpec) : _root_.Go.OpenSpec := { _root_.Go.OpenSpec.ofChange s with cond := some uptoSmall }

/-- 'postilionlaw07.CoverTells', WHERE WHAT IT READS IS OF BULK AT MOST 1048576: true; the input reads as it did. -/
def coverTellsUptoRow : OpenClaim := { program := "ytenfjgfpeheepaa", sum := "f77399eb862284195fcfe0b86b8f989b8121ce43e430f16ffdae3ee340511540", func := "postilion/postilionlaw07.CoverTells", spec := "coverTells", unfollowed := true, recurses := true, apart := false, narrowed := true }
def CoverTellsUptoSaid : Prop := coverTellsUptoRow.holds Try.pinned (OpenSpec.upto coverTellsSpec)

/-- 'postilionlaw07.CoverSound', WHERE WHAT IT READS IS OF BULK AT MOST 1048576: true; the input reads as it did. -/
def coverSoundUptoRow : OpenClaim := { program := "ytenfjgfpeheepaa", sum := "f77399eb862284195fcfe0b86b8f989b8121ce43e430f16ffdae3ee340511540", func := "postilion/postilionlaw07.CoverSound", spec := "coverSound", unfollowed := true, recurses := true, apart := false, narrowed := true }
def CoverSoundUptoSaid : Prop := coverSoundUptoRow.holds Try.pinned (OpenSpec.upto coverSoundSpec)

/-- 'postilionlaw07.CoverReduces', WHERE WHAT IT READS IS OF BULK AT MOST 1048576: true; the input reads as it did. -/
def coverReducesUptoRow : OpenClaim := { program := "ytenfjgfpeheepaa", sum := "f77399eb862284195fcfe0b86b8f989b8121ce43e430f16ffdae3ee340511540", func := "postilion/postilionlaw07.CoverReduces", spec := "coverReduces", unfollowed := true, recurses := true, apart := false, narrowed := true }
def CoverReducesUptoSaid : Prop := coverReducesUptoRow.holds Try.pinned (OpenSpec.upto coverReducesSpec)

/-- 'postilionlaw07.CoverChain', WHERE WHAT IT READS IS OF BULK AT MOST 1048576: true; the input reads as it did. -/
def coverChainUptoRow : OpenClaim := { program := "ytenfjgfpeheepaa", sum := "f77399eb862284195fcfe0b86b8f989b8121ce43e430f16ffdae3ee340511540", func := "postilion/postilionlaw07.CoverChain", spec := "coverChain", unfollowed := true, recurses := true, apart := false, narrowed := true }
def CoverChainUptoSaid : Prop := coverChainUptoRow.holds Try.pinned (OpenSpec.upto coverChainSpec)

/-- 'postilionlaw07.CoverAll', WHERE WHAT IT READS IS OF BULK AT MOST 1048576: true; the input reads as it did. -/
def coverAllUptoRow : OpenClaim := { program := "ytenfjgfpeheepaa", sum := "f77399eb862284195fcfe0b86b8f989b8121ce43e430f16ffdae3ee340511540", func := "postilion/postilionlaw07.CoverAll", spec := "coverAll", unfollowed := true, recurses := true, apart := false, narrowed := true }
def CoverAllUptoSaid : Prop := coverAllUptoRow.holds Try.pinned (OpenSpec.upto coverAllSpec)

/-- 'postilionlaw07.CoverTwice', WHERE WHAT IT READS IS OF BULK AT MOST 1048576: true; the input reads as it did. -/
def coverTwiceUptoRow : OpenClaim := { program := "ytenfjgfpeheepaa", sum := "f77399eb862284195fcfe0b86b8f989b8121ce43e430f16ffdae3ee340511540", func := "postilion/postilionlaw07.CoverTwice", spec := "coverTwice", unfollowed := true, recurses := true, apart := false, narrowed := true }
def CoverTwiceUptoSaid : Prop := coverTwiceUptoRow.holds Try.pinned (OpenSpec.upto coverTwiceSpec)

end Rows
end Go.Proofs.Ytenfjgfpeheepaa
