/-
  No cell of these rows narrows 'for every input' (looked for: loops, veiled, ifaces, maps, wideKeys, modest, calm, conditions, laid).
  DERIVED. THE GIVEN ROWS OF THIS SEAT. 6 by the template 'for every input the law returns true; each argument reads behind the call as it read before'; 0 by the template 'total and deterministic' (their statements: YtklgibkdbdhaiaaTotals.lean).
  GIVEN WITH THE SEED: the statements are not yours to turn. If you find one false, say at which input.
  Laid BY PROGRAM, IN A SANDBOX (cutbox-rows.mjs): the forced cells as the released guide's own fill.sh prints them over the translation ca5bbd358f435745… (all of the seat's roots in one cut). By AI agents, Wed Nov 11 2026. No macro, syntax, notation, axiom, sorry.
-/
import Derived.Test.YtklgibkdbdhaiaaChecked
import GoSem.Claim
import GoSem.ClaimJoined
import GoSem.ClaimMapViews
import Derived.JoinedTies
import Derived.KernelRfl
namespace Go.Proofs.Ytklgibkdbdhaiaa
/- THE CELL 'sum', in the pinned program and in every row, IS THE sha256 OF THE DUMP (.gsa) THAT YtklgibkdbdhaiaaProg.lean LOADS. Nothing in Lean hashes anything: it is a label: what it is worth is what the hold of that sum in a sandbox is worth. -/
noncomputable def Try.pinned : Pinned := { name := "ytklgibkdbdhaiaa", sum := "ca5bbd358f43574538a90ada568e39284802e82cfaef80236e3bb2d786201eb4", checked := Try.checked }
namespace Rows
def none {H : Type} : Left H := { results := [], args := [] }

/-- 'postilionlaw11.EntryNames': WHATEVER THE INPUT: true; the input reads as it did. -/
def entryNamesSpec : ChangeSpec := { name := "entryNames", fn := fun _ => fun
  | [] => { results := [.lit (.bool true)], args := [] }
  | _ => none }
def entryNamesRow : OpenClaim := { program := "ytklgibkdbdhaiaa", sum := "ca5bbd358f43574538a90ada568e39284802e82cfaef80236e3bb2d786201eb4", func := "postilion/postilionlaw11.EntryNames", spec := "entryNames", unfollowed := true, recurses := true, apart := false }
def EntryNamesSaid : Prop := entryNamesRow.holds Try.pinned (OpenSpec.ofChange entryNamesSpec)

/-- ITS FALSE NEIGHBOUR: 'it returns false'. Refute it at one input. -/
def entryNamesWrong : ChangeSpec := { name := "entryNames", fn := fun _ => fun
  | [] => { results := [.lit (.bool false)], args := [] }
  | _ => none }
def EntryNamesWrongFalsely : Prop := entryNamesRow.holds Try.pinned (OpenSpec.ofChange entryNamesWrong)

/-- 'postilionlaw11.EntryBack': WHATEVER THE INPUT: true; the input reads as it did. -/
def entryBackSpec : ChangeSpec := { name := "entryBack", fn := fun _ => fun
  | [d1, d2, d3] => { results := [.lit (.bool true)], args := [d1, d2, d3] }
  | _ => none }
def entryBackRow : OpenClaim := { program := "ytklgibkdbdhaiaa", sum := "ca5bbd358f43574538a90ada568e39284802e82cfaef80236e3bb2d786201eb4", func := "postilion/postilionlaw11.EntryBack", spec := "entryBack", unfollowed := true, recurses := true, apart := false }
def EntryBackSaid : Prop := entryBackRow.holds Try.pinned (OpenSpec.ofChange entryBackSpec)

/-- ITS FALSE NEIGHBOUR: 'it returns false'. Refute it at one input. -/
def entryBackWrong : ChangeSpec := { name := "entryBack", fn := fun _ => fun
  | [d1, d2, d3] => { results := [.lit (.bool false)], args := [d1, d2, d3] }
  | _ => none }
def EntryBackWrongFalsely : Prop := entryBackRow.holds Try.pinned (OpenSpec.ofChange entryBackWrong)

/-- 'postilionlaw11.EntryOnce': WHATEVER THE INPUT: true; the input reads as it did. -/
def entryOnceSpec : ChangeSpec := { name := "entryOnce", fn := fun _ => fun
  | [d] => { results := [.lit (.bool true)], args := [d] }
  | _ => none }
def entryOnceRow : OpenClaim := { program := "ytklgibkdbdhaiaa", sum := "ca5bbd358f43574538a90ada568e39284802e82cfaef80236e3bb2d786201eb4", func := "postilion/postilionlaw11.EntryOnce", spec := "entryOnce", unfollowed := true, recurses := true, apart := false }
def EntryOnceSaid : Prop := entryOnceRow.holds Try.pinned (OpenSpec.ofChange entryOnceSpec)

/-- ITS FALSE NEIGHBOUR: 'it returns false'. Refute it at one input. -/
def entryOnceWrong : ChangeSpec := { name := "entryOnce", fn := fun _ => fun
  | [d] => { results := [.lit (.bool false)], args := [d] }
  | _ => none }
def EntryOnceWrongFalsely : Prop := entryOnceRow.holds Try.pinned (OpenSpec.ofChange entryOnceWrong)

/-- 'postilionlaw11.EntryLess': WHATEVER THE INPUT: true; the input reads as it did. -/
def entryLessSpec : ChangeSpec := { name := "entryLess", fn := fun _ => fun
  | [d1, d2, d3] => { results := [.lit (.bool true)], args := [d1, d2, d3] }
  | _ => none }
def entryLessRow : OpenClaim := { program := "ytklgibkdbdhaiaa", sum := "ca5bbd358f43574538a90ada568e39284802e82cfaef80236e3bb2d786201eb4", func := "postilion/postilionlaw11.EntryLess", spec := "entryLess", unfollowed := true, recurses := true, apart := false }
def EntryLessSaid : Prop := entryLessRow.holds Try.pinned (OpenSpec.ofChange entryLessSpec)

/-- ITS FALSE NEIGHBOUR: 'it returns false'. Refute it at one input. -/
def entryLessWrong : ChangeSpec := { name := "entryLess", fn := fun _ => fun
  | [d1, d2, d3] => { results := [.lit (.bool false)], args := [d1, d2, d3] }
  | _ => none }
def EntryLessWrongFalsely : Prop := entryLessRow.holds Try.pinned (OpenSpec.ofChange entryLessWrong)

/-- 'postilionlaw11.EntryApart': WHATEVER THE INPUT: true; the input reads as it did. -/
def entryApartSpec : ChangeSpec := { name := "entryApart", fn := fun _ => fun
  | [d1, d2, d3, d4] => { results := [.lit (.bool true)], args := [d1, d2, d3, d4] }
  | _ => none }
def entryApartRow : OpenClaim := { program := "ytklgibkdbdhaiaa", sum := "ca5bbd358f43574538a90ada568e39284802e82cfaef80236e3bb2d786201eb4", func := "postilion/postilionlaw11.EntryApart", spec := "entryApart", unfollowed := true, recurses := true, apart := false }
def EntryApartSaid : Prop := entryApartRow.holds Try.pinned (OpenSpec.ofChange entryApartSpec)

/-- ITS FALSE NEIGHBOUR: 'it returns false'. Refute it at one input. -/
def entryApartWrong : ChangeSpec := { name := "entryApart", fn := fun _ => fun
  | [d1, d2, d3, d4] => { results := [.lit (.bool false)], args := [d1, d2, d3, d4] }
  | _ => none }
def EntryApartWrongFalsely : Prop := entryApartRow.holds Try.pinned (OpenSpec.ofChange entryApartWrong)

/-- 'postilionlaw11.EntryRecords': WHATEVER THE INPUT: true; the input reads as it did. -/
def entryRecordsSpec : ChangeSpec := { name := "entryRecords", fn := fun _ => fun
  | [d1, d2] => { results := [.lit (.bool true)], args := [d1, d2] }
  | _ => none }
def entryRecordsRow : OpenClaim := { program := "ytklgibkdbdhaiaa", sum := "ca5bbd358f43574538a90ada568e39284802e82cfaef80236e3bb2d786201eb4", func := "postilion/postilionlaw11.EntryRecords", spec := "entryRecords", unfollowed := true, recurses := true, apart := false }
def EntryRecordsSaid : Prop := entryRecordsRow.holds Try.pinned (OpenSpec.ofChange entryRecordsSpec)

/-- ITS FALSE NEIGHBOUR: 'it returns false'. Refute it at one input. -/
def entryRecordsWrong : ChangeSpec := { name := "entryRecords", fn := fun _ => fun
  | [d1, d2] => { results := [.lit (.bool false)], args := [d1, d2] }
  | _ => none }
def EntryRecordsWrongFalsely : Prop := entryRecordsRow.holds Try.pinned (OpenSpec.ofChange entryRecordsWrong)

/- THE SECOND FORM. 'bulk': how many values and letters a reading holds, each counted each time it is reached (what is shared counts as often as it is met; a slice's spare places count too). A statement '..UptoSaid' is the law's where the arguments, and the package variables that the reading takes, are together of bulk at most 1048576: NARROWER than '..Said'. Prove '..Said' where nothing that the law and all that it calls make is longer than what came in: it says more and counts as full. Else prove '..UptoSaid'. A law counts once. -/
mutual
def uptoBulk {H : Type} : DataW H → Nat
  | .lit (.string bytes) => bytes.length + 1
  | .lit _ => 1
  | .nil => 1
  | .ptr d => uptoBulk d + 1
  | .slice elems spare => uptoBulkAll elems + uptoBulkAll spare + 1
  | .agg parts => uptoBulkAll parts + 1
  | .iface _ d => uptoBulk d + 1
  | .map entries => uptoBulkEntries entries + 1
  | .held _ => 1
def uptoBulkAll {H : Type} : List (DataW H) → Nat
  | [] => 0
  | d :: r => uptoBulk d + uptoBulkAll r
def uptoBulkEntries {H : Type} : List (Lit × DataW H) → Nat
  | [] => 0
  | x :: r => uptoBulkEntry x + uptoBulkEntries r
def uptoBulkEntry {H : Type} : Lit × DataW H → Nat
  | (.string bytes, d) => bytes.length + uptoBulk d + 1
  | (_, d) => uptoBulk d + 1
 end
def uptoSmall : (H : Type) → List (DataW H) → Bool := fun _ ds => decide (uptoBulkAll ds ≤ 1048576)
def OpenSpec.upto (s : _root_.Go.ChangeSpec) : _root_.Go.OpenSpec := { _root_.Go.OpenSpec.ofChange s with cond := some uptoSmall }

/-- 'postilionlaw11.EntryNames', WHERE WHAT IT READS IS OF BULK AT MOST 1048576: true; the input reads as it did. -/
def entryNamesUptoRow : OpenClaim := { program := "ytklgibkdbdhaiaa", sum := "ca5bbd358f43574538a90ada568e39284802e82cfaef80236e3bb2d786201eb4", func := "postilion/postilionlaw11.EntryNames", spec := "entryNames", unfollowed := true, recurses := true, apart := false, narrowed := true }
def EntryNamesUptoSaid : Prop := entryNamesUptoRow.holds Try.pinned (OpenSpec.upto entryNamesSpec)

/-- 'postilionlaw11.EntryBack', WHERE WHAT IT READS IS OF BULK AT MOST 1048576: true; the input reads as it did. -/
def entryBackUptoRow : OpenClaim := { program := "ytklgibkdbdhaiaa", sum := "ca5bbd358f43574538a90ada568e39284802e82cfaef80236e3bb2d786201eb4", func := "postilion/postilionlaw11.EntryBack", spec := "entryBack", unfollowed := true, recurses := true, apart := false, narrowed := true }
def EntryBackUptoSaid : Prop := entryBackUptoRow.holds Try.pinned (OpenSpec.upto entryBackSpec)

/-- 'postilionlaw11.EntryOnce', WHERE WHAT IT READS IS OF BULK AT MOST 1048576: true; the input reads as it did. -/
def entryOnceUptoRow : OpenClaim := { program := "ytklgibkdbdhaiaa", sum := "ca5bbd358f43574538a90ada568e39284802e82cfaef80236e3bb2d786201eb4", func := "postilion/postilionlaw11.EntryOnce", spec := "entryOnce", unfollowed := true, recurses := true, apart := false, narrowed := true }
def EntryOnceUptoSaid : Prop := entryOnceUptoRow.holds Try.pinned (OpenSpec.upto entryOnceSpec)

/-- 'postilionlaw11.EntryLess', WHERE WHAT IT READS IS OF BULK AT MOST 1048576: true; the input reads as it did. -/
def entryLessUptoRow : OpenClaim := { program := "ytklgibkdbdhaiaa", sum := "ca5bbd358f43574538a90ada568e39284802e82cfaef80236e3bb2d786201eb4", func := "postilion/postilionlaw11.EntryLess", spec := "entryLess", unfollowed := true, recurses := true, apart := false, narrowed := true }
def EntryLessUptoSaid : Prop := entryLessUptoRow.holds Try.pinned (OpenSpec.upto entryLessSpec)

/-- 'postilionlaw11.EntryApart', WHERE WHAT IT READS IS OF BULK AT MOST 1048576: true; the input reads as it did. -/
def entryApartUptoRow : OpenClaim := { program := "ytklgibkdbdhaiaa", sum := "ca5bbd358f43574538a90ada568e39284802e82cfaef80236e3bb2d786201eb4", func := "postilion/postilionlaw11.EntryApart", spec := "entryApart", unfollowed := true, recurses := true, apart := false, narrowed := true }
def EntryApartUptoSaid : Prop := entryApartUptoRow.holds Try.pinned (OpenSpec.upto entryApartSpec)

/-- 'postilionlaw11.EntryRecords', WHERE WHAT IT READS IS OF BULK AT MOST 1048576: true; the input reads as it did. -/
def entryRecordsUptoRow : OpenClaim := { program := "ytklgibkdbdhaiaa", sum := "ca5bbd358f43574538a90ada568e39284802e82cfaef80236e3bb2d786201eb4", func := "postilion/postilionlaw11.EntryRecords", spec := "entryRecords", unfollowed := true, recurses := true, apart := false, narrowed := true }
def EntryRecordsUptoSaid : Prop := entryRecordsUptoRow.holds Try.pinned (OpenSpec.upto entryRecordsSpec)

end Rows
end Go.Proofs.Ytklgibkdbdhaiaa
