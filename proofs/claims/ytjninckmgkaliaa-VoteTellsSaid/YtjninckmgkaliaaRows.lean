/-
  No cell of these rows narrows 'for every input' (looked for: loops, veiled, ifaces, maps, wideKeys, modest, calm, conditions, laid).
  DERIVED. THE GIVEN ROWS OF THIS SEAT. 6 by the template 'for every input the law returns true; each argument reads behind the call as it read before'; 0 by the template 'total and deterministic' (their statements: YtjninckmgkaliaaTotals.lean).
  GIVEN WITH THE SEED: the statements are not yours to turn. If you find one false, say at which input.
  Laid BY PROGRAM, IN A SANDBOX (cutbox-rows.mjs): the forced cells as the released guide's own fill.sh prints them over the translation 77a1dfacea42b479… (all of the seat's roots in one cut). By AI agents, Wed Nov 11 2026. No macro, syntax, notation, axiom, sorry.
-/
import Derived.Test.YtjninckmgkaliaaChecked
import GoSem.Claim
import GoSem.ClaimJoined
import GoSem.ClaimMapViews
import Derived.JoinedTies
import Derived.KernelRfl
namespace Go.Proofs.Ytjninckmgkaliaa
/- THE CELL 'sum', in the pinned program and in every row, IS THE sha256 OF THE DUMP (.gsa) THAT YtjninckmgkaliaaProg.lean LOADS. Nothing in Lean hashes anything: it is a label: what it is worth is what the hold of that sum in a sandbox is worth. -/
noncomputable def Try.pinned : Pinned := { name := "ytjninckmgkaliaa", sum := "77a1dfacea42b47924470eec8d59840caa7f2967ba3c49cda0263f014e926626", checked := Try.checked }
namespace Rows
def none {H : Type} : Left H := { results := [], args := [] }

/-- 'postilionlaw18.VoteNames': WHATEVER THE INPUT: true; the input reads as it did. -/
def voteNamesSpec : ChangeSpec := { name := "voteNames", fn := fun _ => fun
  | [] => { results := [.lit (.bool true)], args := [] }
  | _ => none }
def voteNamesRow : OpenClaim := { program := "ytjninckmgkaliaa", sum := "77a1dfacea42b47924470eec8d59840caa7f2967ba3c49cda0263f014e926626", func := "postilion/postilionlaw18.VoteNames", spec := "voteNames", unfollowed := true, recurses := true, plainKeys := false, apart := false }
def VoteNamesSaid : Prop := voteNamesRow.holds Try.pinned (OpenSpec.ofChange voteNamesSpec)

/-- ITS FALSE NEIGHBOUR: 'it returns false'. Refute it at one input. -/
def voteNamesWrong : ChangeSpec := { name := "voteNames", fn := fun _ => fun
  | [] => { results := [.lit (.bool false)], args := [] }
  | _ => none }
def VoteNamesWrongFalsely : Prop := voteNamesRow.holds Try.pinned (OpenSpec.ofChange voteNamesWrong)

/-- 'postilionlaw18.VoteTells': WHATEVER THE INPUT: true; the input reads as it did. -/
def voteTellsSpec : ChangeSpec := { name := "voteTells", fn := fun _ => fun
  | [d1, d2, d3, d4, d5] => { results := [.lit (.bool true)], args := [d1, d2, d3, d4, d5] }
  | _ => none }
def voteTellsRow : OpenClaim := { program := "ytjninckmgkaliaa", sum := "77a1dfacea42b47924470eec8d59840caa7f2967ba3c49cda0263f014e926626", func := "postilion/postilionlaw18.VoteTells", spec := "voteTells", unfollowed := true, recurses := true, plainKeys := false, apart := false }
def VoteTellsSaid : Prop := voteTellsRow.holds Try.pinned (OpenSpec.ofChange voteTellsSpec)

/-- ITS FALSE NEIGHBOUR: 'it returns false'. Refute it at one input. -/
def voteTellsWrong : ChangeSpec := { name := "voteTells", fn := fun _ => fun
  | [d1, d2, d3, d4, d5] => { results := [.lit (.bool false)], args := [d1, d2, d3, d4, d5] }
  | _ => none }
def VoteTellsWrongFalsely : Prop := voteTellsRow.holds Try.pinned (OpenSpec.ofChange voteTellsWrong)

/-- 'postilionlaw18.VoteSound': WHATEVER THE INPUT: true; the input reads as it did. -/
def voteSoundSpec : ChangeSpec := { name := "voteSound", fn := fun _ => fun
  | [d1, d2, d3] => { results := [.lit (.bool true)], args := [d1, d2, d3] }
  | _ => none }
def voteSoundRow : OpenClaim := { program := "ytjninckmgkaliaa", sum := "77a1dfacea42b47924470eec8d59840caa7f2967ba3c49cda0263f014e926626", func := "postilion/postilionlaw18.VoteSound", spec := "voteSound", unfollowed := true, recurses := true, plainKeys := false, apart := false }
def VoteSoundSaid : Prop := voteSoundRow.holds Try.pinned (OpenSpec.ofChange voteSoundSpec)

/-- ITS FALSE NEIGHBOUR: 'it returns false'. Refute it at one input. -/
def voteSoundWrong : ChangeSpec := { name := "voteSound", fn := fun _ => fun
  | [d1, d2, d3] => { results := [.lit (.bool false)], args := [d1, d2, d3] }
  | _ => none }
def VoteSoundWrongFalsely : Prop := voteSoundRow.holds Try.pinned (OpenSpec.ofChange voteSoundWrong)

/-- 'postilionlaw18.VoteRoom': WHATEVER THE INPUT: true; the input reads as it did. -/
def voteRoomSpec : ChangeSpec := { name := "voteRoom", fn := fun _ => fun
  | [d1, d2] => { results := [.lit (.bool true)], args := [d1, d2] }
  | _ => none }
def voteRoomRow : OpenClaim := { program := "ytjninckmgkaliaa", sum := "77a1dfacea42b47924470eec8d59840caa7f2967ba3c49cda0263f014e926626", func := "postilion/postilionlaw18.VoteRoom", spec := "voteRoom", unfollowed := true, recurses := true, plainKeys := false, apart := false }
def VoteRoomSaid : Prop := voteRoomRow.holds Try.pinned (OpenSpec.ofChange voteRoomSpec)

/-- ITS FALSE NEIGHBOUR: 'it returns false'. Refute it at one input. -/
def voteRoomWrong : ChangeSpec := { name := "voteRoom", fn := fun _ => fun
  | [d1, d2] => { results := [.lit (.bool false)], args := [d1, d2] }
  | _ => none }
def VoteRoomWrongFalsely : Prop := voteRoomRow.holds Try.pinned (OpenSpec.ofChange voteRoomWrong)

/-- 'postilionlaw18.VoteMore': WHATEVER THE INPUT: true; the input reads as it did. -/
def voteMoreSpec : ChangeSpec := { name := "voteMore", fn := fun _ => fun
  | [d1, d2, d3] => { results := [.lit (.bool true)], args := [d1, d2, d3] }
  | _ => none }
def voteMoreRow : OpenClaim := { program := "ytjninckmgkaliaa", sum := "77a1dfacea42b47924470eec8d59840caa7f2967ba3c49cda0263f014e926626", func := "postilion/postilionlaw18.VoteMore", spec := "voteMore", unfollowed := true, recurses := true, plainKeys := false, apart := false }
def VoteMoreSaid : Prop := voteMoreRow.holds Try.pinned (OpenSpec.ofChange voteMoreSpec)

/-- ITS FALSE NEIGHBOUR: 'it returns false'. Refute it at one input. -/
def voteMoreWrong : ChangeSpec := { name := "voteMore", fn := fun _ => fun
  | [d1, d2, d3] => { results := [.lit (.bool false)], args := [d1, d2, d3] }
  | _ => none }
def VoteMoreWrongFalsely : Prop := voteMoreRow.holds Try.pinned (OpenSpec.ofChange voteMoreWrong)

/-- 'postilionlaw18.VoteEnds': WHATEVER THE INPUT: true; the input reads as it did. -/
def voteEndsSpec : ChangeSpec := { name := "voteEnds", fn := fun _ => fun
  | [d1, d2, d3] => { results := [.lit (.bool true)], args := [d1, d2, d3] }
  | _ => none }
def voteEndsRow : OpenClaim := { program := "ytjninckmgkaliaa", sum := "77a1dfacea42b47924470eec8d59840caa7f2967ba3c49cda0263f014e926626", func := "postilion/postilionlaw18.VoteEnds", spec := "voteEnds", unfollowed := true, recurses := true, plainKeys := false, apart := false }
def VoteEndsSaid : Prop := voteEndsRow.holds Try.pinned (OpenSpec.ofChange voteEndsSpec)

/-- ITS FALSE NEIGHBOUR: 'it returns false'. Refute it at one input. -/
def voteEndsWrong : ChangeSpec := { name := "voteEnds", fn := fun _ => fun
  | [d1, d2, d3] => { results := [.lit (.bool false)], args := [d1, d2, d3] }
  | _ => none }
def VoteEndsWrongFalsely : Prop := voteEndsRow.holds Try.pinned (OpenSpec.ofChange voteEndsWrong)

/- THE SECOND FORM. 'bulk': how many values and letters a reading holds, each counted each time it is reached (what is shared counts as often as it is met; a slice's spare places count too). A statement '..UptoSaid' is the law's where the arguments, and the package variables that the reading takes, are together of bulk at most 1048576: NARROWER than '..Said'. Prove '..Said' where nothing that the law and all that it calls make is longer than what came in: it says more and counts as full. Else prove '..UptoSaid'. A law counts once. -/
mutual
def uptoBulk {H : Type} : DataW H → Nat
  | .lit (.string bytes) => bytes.length + 1
  | .lit _ => 1
  | .nil => 1
  | .ptr d => uptoBulk d + 1
  | .slice elems spare => uptoBulkAll elems + uptoBulkAll spare + 1
  | .agg parts => uptoBulkAll parts + 1
  | .iface _ d => uptoBulk d + 1
  | .map entries => uptoBulkEntries entries + 1
  | .held _ => 1
def uptoBulkAll {H : Type} : List (DataW H) → Nat
  | [] => 0
  | d :: r => uptoBulk d + uptoBulkAll r
def uptoBulkEntries {H : Type} : List (Lit × DataW H) → Nat
  | [] => 0
  | x :: r => uptoBulkEntry x + uptoBulkEntries r
def uptoBulkEntry {H : Type} : Lit × DataW H → Nat
  | (.string bytes, d) => bytes.length + uptoBulk d + 1
  | (_, d) => uptoBulk d + 1
 end
def uptoSmall : (H : Type) → List (DataW H) → Bool := fun _ ds => decide (uptoBulkAll ds ≤ 1048576)
def OpenSpec.upto (s : _root_.Go.ChangeSpec) : _root_.Go.OpenSpec := { _root_.Go.OpenSpec.ofChange s with cond := some uptoSmall }

/-- 'postilionlaw18.VoteNames', WHERE WHAT IT READS IS OF BULK AT MOST 1048576: true; the input reads as it did. -/
def voteNamesUptoRow : OpenClaim := { program := "ytjninckmgkaliaa", sum := "77a1dfacea42b47924470eec8d59840caa7f2967ba3c49cda0263f014e926626", func := "postilion/postilionlaw18.VoteNames", spec := "voteNames", unfollowed := true, recurses := true, plainKeys := false, apart := false, narrowed := true }
def VoteNamesUptoSaid : Prop := voteNamesUptoRow.holds Try.pinned (OpenSpec.upto voteNamesSpec)

/-- 'postilionlaw18.VoteTells', WHERE WHAT IT READS IS OF BULK AT MOST 1048576: true; the input reads as it did. -/
def voteTellsUptoRow : OpenClaim := { program := "ytjninckmgkaliaa", sum := "77a1dfacea42b47924470eec8d59840caa7f2967ba3c49cda0263f014e926626", func := "postilion/postilionlaw18.VoteTells", spec := "voteTells", unfollowed := true, recurses := true, plainKeys := false, apart := false, narrowed := true }
def VoteTellsUptoSaid : Prop := voteTellsUptoRow.holds Try.pinned (OpenSpec.upto voteTellsSpec)

/-- 'postilionlaw18.VoteSound', WHERE WHAT IT READS IS OF BULK AT MOST 1048576: true; the input reads as it did. -/
def voteSoundUptoRow : OpenClaim := { program := "ytjninckmgkaliaa", sum := "77a1dfacea42b47924470eec8d59840caa7f2967ba3c49cda0263f014e926626", func := "postilion/postilionlaw18.VoteSound", spec := "voteSound", unfollowed := true, recurses := true, plainKeys := false, apart := false, narrowed := true }
def VoteSoundUptoSaid : Prop := voteSoundUptoRow.holds Try.pinned (OpenSpec.upto voteSoundSpec)

/-- 'postilionlaw18.VoteRoom', WHERE WHAT IT READS IS OF BULK AT MOST 1048576: true; the input reads as it did. -/
def voteRoomUptoRow : OpenClaim := { program := "ytjninckmgkaliaa", sum := "77a1dfacea42b47924470eec8d59840caa7f2967ba3c49cda0263f014e926626", func := "postilion/postilionlaw18.VoteRoom", spec := "voteRoom", unfollowed := true, recurses := true, plainKeys := false, apart := false, narrowed := true }
def VoteRoomUptoSaid : Prop := voteRoomUptoRow.holds Try.pinned (OpenSpec.upto voteRoomSpec)

/-- 'postilionlaw18.VoteMore', WHERE WHAT IT READS IS OF BULK AT MOST 1048576: true; the input reads as it did. -/
def voteMoreUptoRow : OpenClaim := { program := "ytjninckmgkaliaa", sum := "77a1dfacea42b47924470eec8d59840caa7f2967ba3c49cda0263f014e926626", func := "postilion/postilionlaw18.VoteMore", spec := "voteMore", unfollowed := true, recurses := true, plainKeys := false, apart := false, narrowed := true }
def VoteMoreUptoSaid : Prop := voteMoreUptoRow.holds Try.pinned (OpenSpec.upto voteMoreSpec)

/-- 'postilionlaw18.VoteEnds', WHERE WHAT IT READS IS OF BULK AT MOST 1048576: true; the input reads as it did. -/
def voteEndsUptoRow : OpenClaim := { program := "ytjninckmgkaliaa", sum := "77a1dfacea42b47924470eec8d59840caa7f2967ba3c49cda0263f014e926626", func := "postilion/postilionlaw18.VoteEnds", spec := "voteEnds", unfollowed := true, recurses := true, plainKeys := false, apart := false, narrowed := true }
def VoteEndsUptoSaid : Prop := voteEndsUptoRow.holds Try.pinned (OpenSpec.upto voteEndsSpec)

end Rows
end Go.Proofs.Ytjninckmgkaliaa
