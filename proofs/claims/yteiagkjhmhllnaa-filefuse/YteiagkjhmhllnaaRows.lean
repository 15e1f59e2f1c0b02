/-
  No cell of these rows narrows 'for every input' (looked for: loops, veiled, ifaces, maps, wideKeys, modest, calm, conditions, laid).
  DERIVED. THE GIVEN ROWS OF THIS SEAT. 5 by the template 'for every input the law returns true; each argument reads behind the call as it read before'; 0 by the template 'total and deterministic' (their statements: YteiagkjhmhllnaaTotals.lean).
  GIVEN WITH THE SEED: the statements are not yours to turn. If you find one false, say at which input.
  Laid BY PROGRAM, IN A SANDBOX (cutbox-rows.mjs): the forced cells as the released guide's own fill.sh prints them over the translation ad0867675b7b2a11… (all of the seat's roots in one cut). By AI agents, Wed Nov 11 2026. No macro, syntax, notation, axiom, sorry.
-/
import Derived.Test.YteiagkjhmhllnaaChecked
import GoSem.Claim
import GoSem.ClaimJoined
import GoSem.ClaimMapViews
import Derived.JoinedTies
import Derived.KernelRfl
namespace Go.Proofs.Yteiagkjhmhllnaa
/- THE CELL 'sum', in the pinned program and in every row, IS THE sha256 OF THE DUMP (.gsa) THAT YteiagkjhmhllnaaProg.lean LOADS. Nothing in Lean hashes anything: it is a label: what it is worth is what the hold of that sum in a sandbox is worth. -/
noncomputable def Try.pinned : Pinned := { name := "yteiagkjhmhllnaa", sum := "ad0867675b7b2a11b97f559c1a85cae4023b456f3d2e764b1c923651e8ae5427", checked := Try.checked }
namespace Rows
def none {H : Type} : Left H := { results := [], args := [] }

/-- 'wapentakelaw12.FileKnown': WHATEVER THE INPUT: true; the input reads as it did. -/
def fileKnownSpec : ChangeSpec := { name := "fileKnown", fn := fun _ => fun
  | [] => { results := [.lit (.bool true)], args := [] }
  | _ => none }
def fileKnownRow : OpenClaim := { program := "yteiagkjhmhllnaa", sum := "ad0867675b7b2a11b97f559c1a85cae4023b456f3d2e764b1c923651e8ae5427", func := "wapentake/wapentakelaw12.FileKnown", spec := "fileKnown", unfollowed := true, recurses := true, apart := false }
def FileKnownSaid : Prop := fileKnownRow.holds Try.pinned (OpenSpec.ofChange fileKnownSpec)

/-- ITS FALSE NEIGHBOUR: 'it returns false'. Refute it at one input. -/
def fileKnownWrong : ChangeSpec := { name := "fileKnown", fn := fun _ => fun
  | [] => { results := [.lit (.bool false)], args := [] }
  | _ => none }
def FileKnownWrongFalsely : Prop := fileKnownRow.holds Try.pinned (OpenSpec.ofChange fileKnownWrong)

/-- 'wapentakelaw12.FilePlays': WHATEVER THE INPUT: true; the input reads as it did. -/
def filePlaysSpec : ChangeSpec := { name := "filePlays", fn := fun _ => fun
  | [d] => { results := [.lit (.bool true)], args := [d] }
  | _ => none }
def filePlaysRow : OpenClaim := { program := "yteiagkjhmhllnaa", sum := "ad0867675b7b2a11b97f559c1a85cae4023b456f3d2e764b1c923651e8ae5427", func := "wapentake/wapentakelaw12.FilePlays", spec := "filePlays", unfollowed := true, recurses := true, apart := false }
def FilePlaysSaid : Prop := filePlaysRow.holds Try.pinned (OpenSpec.ofChange filePlaysSpec)

/-- ITS FALSE NEIGHBOUR: 'it returns false'. Refute it at one input. -/
def filePlaysWrong : ChangeSpec := { name := "filePlays", fn := fun _ => fun
  | [d] => { results := [.lit (.bool false)], args := [d] }
  | _ => none }
def FilePlaysWrongFalsely : Prop := filePlaysRow.holds Try.pinned (OpenSpec.ofChange filePlaysWrong)

/-- 'wapentakelaw12.FileLasts': WHATEVER THE INPUT: true; the input reads as it did. -/
def fileLastsSpec : ChangeSpec := { name := "fileLasts", fn := fun _ => fun
  | [d1, d2, d3] => { results := [.lit (.bool true)], args := [d1, d2, d3] }
  | _ => none }
def fileLastsRow : OpenClaim := { program := "yteiagkjhmhllnaa", sum := "ad0867675b7b2a11b97f559c1a85cae4023b456f3d2e764b1c923651e8ae5427", func := "wapentake/wapentakelaw12.FileLasts", spec := "fileLasts", unfollowed := true, recurses := true, apart := false }
def FileLastsSaid : Prop := fileLastsRow.holds Try.pinned (OpenSpec.ofChange fileLastsSpec)

/-- ITS FALSE NEIGHBOUR: 'it returns false'. Refute it at one input. -/
def fileLastsWrong : ChangeSpec := { name := "fileLasts", fn := fun _ => fun
  | [d1, d2, d3] => { results := [.lit (.bool false)], args := [d1, d2, d3] }
  | _ => none }
def FileLastsWrongFalsely : Prop := fileLastsRow.holds Try.pinned (OpenSpec.ofChange fileLastsWrong)

/-- 'wapentakelaw12.FileFuse': WHATEVER THE INPUT: true; the input reads as it did. -/
def fileFuseSpec : ChangeSpec := { name := "fileFuse", fn := fun _ => fun
  | [d1, d2] => { results := [.lit (.bool true)], args := [d1, d2] }
  | _ => none }
def fileFuseRow : OpenClaim := { program := "yteiagkjhmhllnaa", sum := "ad0867675b7b2a11b97f559c1a85cae4023b456f3d2e764b1c923651e8ae5427", func := "wapentake/wapentakelaw12.FileFuse", spec := "fileFuse", unfollowed := true, recurses := true, apart := false }
def FileFuseSaid : Prop := fileFuseRow.holds Try.pinned (OpenSpec.ofChange fileFuseSpec)

/-- ITS FALSE NEIGHBOUR: 'it returns false'. Refute it at one input. -/
def fileFuseWrong : ChangeSpec := { name := "fileFuse", fn := fun _ => fun
  | [d1, d2] => { results := [.lit (.bool false)], args := [d1, d2] }
  | _ => none }
def FileFuseWrongFalsely : Prop := fileFuseRow.holds Try.pinned (OpenSpec.ofChange fileFuseWrong)

/-- 'wapentakelaw12.FileRenames': WHATEVER THE INPUT: true; the input reads as it did. -/
def fileRenamesSpec : ChangeSpec := { name := "fileRenames", fn := fun _ => fun
  | [d1, d2, d3] => { results := [.lit (.bool true)], args := [d1, d2, d3] }
  | _ => none }
def fileRenamesRow : OpenClaim := { program := "yteiagkjhmhllnaa", sum := "ad0867675b7b2a11b97f559c1a85cae4023b456f3d2e764b1c923651e8ae5427", func := "wapentake/wapentakelaw12.FileRenames", spec := "fileRenames", unfollowed := true, recurses := true, apart := false }
def FileRenamesSaid : Prop := fileRenamesRow.holds Try.pinned (OpenSpec.ofChange fileRenamesSpec)

/-- ITS FALSE NEIGHBOUR: 'it returns false'. Refute it at one input. -/
def fileRenamesWrong : ChangeSpec := { name := "fileRenames", fn := fun _ => fun
  | [d1, d2, d3] => { results := [.lit (.bool false)], args := [d1, d2, d3] }
  | _ => none }
def FileRenamesWrongFalsely : Prop := fileRenamesRow.holds Try.pinned (OpenSpec.ofChange fileRenamesWrong)

/- THE SECOND FORM. 'bulk': how many values and letters a reading holds, each counted each time it is reached (what is shared counts as often as it is met; a slice's spare places count too). A statement '..UptoSaid' is the law's where the arguments, and the package variables that the reading takes, are together of bulk at most 1048576: NARROWER than '..Said'. Prove '..Said' where nothing that the law and all that it calls make is longer than what came in: it says more and counts as full. Else prove '..UptoSaid'. A law counts once. -/
mutual
def uptoBulk {H : Type} : DataW H → Nat
  | .lit (.string bytes) => bytes.length + 1
  | .lit _ => 1
  | .nil => 1
  | .ptr d => uptoBulk d + 1
  | .slice elems spare => uptoBulkAll elems + uptoBulkAll spare + 1
  | .agg parts => uptoBulkAll parts + 1
  | .iface _ d => uptoBulk d + 1
  | .map entries => uptoBulkEntries entries + 1
  | .held _ => 1
def uptoBulkAll {H : Type} : List (DataW H) → Nat
  | [] => 0
  | d :: r => uptoBulk d + uptoBulkAll r
def uptoBulkEntries {H : Type} : List (Lit × DataW H) → Nat
  | [] => 0
  | x :: r => uptoBulkEntry x + uptoBulkEntries r
def uptoBulkEntry {H : Type} : Lit × DataW H → Nat
  | (.string bytes, d) => bytes.length + uptoBulk d + 1
  | (_, d) => uptoBulk d + 1
 end
def uptoSmall : (H : Type) → List (DataW H) → Bool := fun _ ds => decide (uptoBulkAll ds ≤ 1048576)
def OpenSpec.upto (s : _root_.Go.ChangeSpec) : _root_.Go.OpenSpec := { _root_.Go.OpenSpec.ofChange s with cond := some uptoSmall }

/-- 'wapentakelaw12.FileKnown', WHERE WHAT IT READS IS OF BULK AT MOST 1048576: true; the input reads as it did. -/
def fileKnownUptoRow : OpenClaim := { program := "yteiagkjhmhllnaa", sum := "ad0867675b7b2a11b97f559c1a85cae4023b456f3d2e764b1c923651e8ae5427", func := "wapentake/wapentakelaw12.FileKnown", spec := "fileKnown", unfollowed := true, recurses := true, apart := false, narrowed := true }
def FileKnownUptoSaid : Prop := fileKnownUptoRow.holds Try.pinned (OpenSpec.upto fileKnownSpec)

/-- 'wapentakelaw12.FilePlays', WHERE WHAT IT READS IS OF BULK AT MOST 1048576: true; the input reads as it did. -/
def filePlaysUptoRow : OpenClaim := { program := "yteiagkjhmhllnaa", sum := "ad0867675b7b2a11b97f559c1a85cae4023b456f3d2e764b1c923651e8ae5427", func := "wapentake/wapentakelaw12.FilePlays", spec := "filePlays", unfollowed := true, recurses := true, apart := false, narrowed := true }
def FilePlaysUptoSaid : Prop := filePlaysUptoRow.holds Try.pinned (OpenSpec.upto filePlaysSpec)

/-- 'wapentakelaw12.FileLasts', WHERE WHAT IT READS IS OF BULK AT MOST 1048576: true; the input reads as it did. -/
def fileLastsUptoRow : OpenClaim := { program := "yteiagkjhmhllnaa", sum := "ad0867675b7b2a11b97f559c1a85cae4023b456f3d2e764b1c923651e8ae5427", func := "wapentake/wapentakelaw12.FileLasts", spec := "fileLasts", unfollowed := true, recurses := true, apart := false, narrowed := true }
def FileLastsUptoSaid : Prop := fileLastsUptoRow.holds Try.pinned (OpenSpec.upto fileLastsSpec)

/-- 'wapentakelaw12.FileFuse', WHERE WHAT IT READS IS OF BULK AT MOST 1048576: true; the input reads as it did. -/
def fileFuseUptoRow : OpenClaim := { program := "yteiagkjhmhllnaa", sum := "ad0867675b7b2a11b97f559c1a85cae4023b456f3d2e764b1c923651e8ae5427", func := "wapentake/wapentakelaw12.FileFuse", spec := "fileFuse", unfollowed := true, recurses := true, apart := false, narrowed := true }
def FileFuseUptoSaid : Prop := fileFuseUptoRow.holds Try.pinned (OpenSpec.upto fileFuseSpec)

/-- 'wapentakelaw12.FileRenames', WHERE WHAT IT READS IS OF BULK AT MOST 1048576: true; the input reads as it did. -/
def fileRenamesUptoRow : OpenClaim := { program := "yteiagkjhmhllnaa", sum := "ad0867675b7b2a11b97f559c1a85cae4023b456f3d2e764b1c923651e8ae5427", func := "wapentake/wapentakelaw12.FileRenames", spec := "fileRenames", unfollowed := true, recurses := true, apart := false, narrowed := true }
def FileRenamesUptoSaid : Prop := fileRenamesUptoRow.holds Try.pinned (OpenSpec.upto fileRenamesSpec)

end Rows
end Go.Proofs.Yteiagkjhmhllnaa
