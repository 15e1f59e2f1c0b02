/-
  No cell of these rows narrows 'for every input' (looked for: loops, veiled, ifaces, maps, wideKeys, modest, calm, conditions, laid).
  DERIVED. THE GIVEN ROWS OF THIS SEAT. 4 by the template 'for every input the law returns true; each argument reads behind the call as it read before'; 0 by the template 'total and deterministic' (their statements: YtfoghemiaidnhaaGreatTotals.lean).
  GIVEN WITH THE SEED: the statements are not yours to turn. If you find one false, say at which input.
  Laid BY PROGRAM, IN A SANDBOX (cutbox-rows.mjs): the forced cells as the released guide's own fill.sh prints them over the translation c15a24a369bdeac0… (all of the seat's roots in one cut). By AI agents, Wed Nov 11 2026. No macro, syntax, notation, axiom, sorry.
-/
import Derived.Test.YtfoghemiaidnhaaGreatChecked
import GoSem.Claim
import GoSem.ClaimJoined
import GoSem.ClaimMapViews
import Derived.JoinedTies
import Derived.KernelRfl
namespace Go.Proofs.YtfoghemiaidnhaaGreat
/- THE CELL 'sum', in the pinned program and in every row, IS THE sha256 OF THE DUMP (.gsa) THAT YtfoghemiaidnhaaGreatProg.lean LOADS. Nothing in Lean hashes anything: it is a label: what it is worth is what the hold of that sum in a sandbox is worth. -/
noncomputable def Tryz.pinned : Pinned := { name := "ytfoghemiaidnhaagreat", sum := "c15a24a369bdeac06627958692bc4aca82b021de992012faf954916d27230f82", checked := Tryz.checked }
namespace Rows
def none {H : Type} : Left H := { results := [], args := [] }

/-- 'wapentakelaw5.GraphKnown': WHATEVER THE INPUT: true; the input reads as it did. -/
def graphKnownSpec : ChangeSpec := { name := "graphKnown", fn := fun _ => fun
  | [] => { results := [.lit (.bool true)], args := [] }
  | _ => none }
def graphKnownRow : OpenClaim := { program := "ytfoghemiaidnhaagreat", sum := "c15a24a369bdeac06627958692bc4aca82b021de992012faf954916d27230f82", func := "wapentake/wapentakelaw5.GraphKnown", spec := "graphKnown", inPlace := ["internal/bytealg.IndexByteString", "internal/bytealg.IndexString", "internal/abi.NoEscape", "internal/bytealg.MakeNoZero", "internal/bytealg.abigen_runtime_cmpstring"], unfollowed := true, recurses := true, named := ["internal/bytealg.MaxLen"], apart := false }
def GraphKnownSaid : Prop := graphKnownRow.holds Tryz.pinned (OpenSpec.ofChange graphKnownSpec)

/-- ITS FALSE NEIGHBOUR: 'it returns false'. Refute it at one input. -/
def graphKnownWrong : ChangeSpec := { name := "graphKnown", fn := fun _ => fun
  | [] => { results := [.lit (.bool false)], args := [] }
  | _ => none }
def GraphKnownWrongFalsely : Prop := graphKnownRow.holds Tryz.pinned (OpenSpec.ofChange graphKnownWrong)

/-- 'wapentakelaw5.GraphLands': WHATEVER THE INPUT: true; the input reads as it did. -/
def graphLandsSpec : ChangeSpec := { name := "graphLands", fn := fun _ => fun
  | [d1, d2, d3] => { results := [.lit (.bool true)], args := [d1, d2, d3] }
  | _ => none }
def graphLandsRow : OpenClaim := { program := "ytfoghemiaidnhaagreat", sum := "c15a24a369bdeac06627958692bc4aca82b021de992012faf954916d27230f82", func := "wapentake/wapentakelaw5.GraphLands", spec := "graphLands", inPlace := ["internal/bytealg.IndexByteString", "internal/bytealg.IndexString", "internal/abi.NoEscape", "internal/bytealg.MakeNoZero", "internal/bytealg.abigen_runtime_cmpstring"], unfollowed := true, recurses := true, named := ["internal/bytealg.MaxLen"], apart := false }
def GraphLandsSaid : Prop := graphLandsRow.holds Tryz.pinned (OpenSpec.ofChange graphLandsSpec)

/-- ITS FALSE NEIGHBOUR: 'it returns false'. Refute it at one input. -/
def graphLandsWrong : ChangeSpec := { name := "graphLands", fn := fun _ => fun
  | [d1, d2, d3] => { results := [.lit (.bool false)], args := [d1, d2, d3] }
  | _ => none }
def GraphLandsWrongFalsely : Prop := graphLandsRow.holds Tryz.pinned (OpenSpec.ofChange graphLandsWrong)

/-- 'wapentakelaw5.GraphLoads': WHATEVER THE INPUT: true; the input reads as it did. -/
def graphLoadsSpec : ChangeSpec := { name := "graphLoads", fn := fun _ => fun
  | [d1, d2] => { results := [.lit (.bool true)], args := [d1, d2] }
  | _ => none }
def graphLoadsRow : OpenClaim := { program := "ytfoghemiaidnhaagreat", sum := "c15a24a369bdeac06627958692bc4aca82b021de992012faf954916d27230f82", func := "wapentake/wapentakelaw5.GraphLoads", spec := "graphLoads", inPlace := ["internal/bytealg.IndexByteString", "internal/bytealg.IndexString", "internal/abi.NoEscape", "internal/bytealg.MakeNoZero", "internal/bytealg.abigen_runtime_cmpstring"], unfollowed := true, recurses := true, named := ["internal/bytealg.MaxLen"], apart := false }
def GraphLoadsSaid : Prop := graphLoadsRow.holds Tryz.pinned (OpenSpec.ofChange graphLoadsSpec)

/-- ITS FALSE NEIGHBOUR: 'it returns false'. Refute it at one input. -/
def graphLoadsWrong : ChangeSpec := { name := "graphLoads", fn := fun _ => fun
  | [d1, d2] => { results := [.lit (.bool false)], args := [d1, d2] }
  | _ => none }
def GraphLoadsWrongFalsely : Prop := graphLoadsRow.holds Tryz.pinned (OpenSpec.ofChange graphLoadsWrong)

/-- 'wapentakelaw5.GraphClones': WHATEVER THE INPUT: true; the input reads as it did. -/
def graphClonesSpec : ChangeSpec := { name := "graphClones", fn := fun _ => fun
  | [d1, d2] => { results := [.lit (.bool true)], args := [d1, d2] }
  | _ => none }
def graphClonesRow : OpenClaim := { program := "ytfoghemiaidnhaagreat", sum := "c15a24a369bdeac06627958692bc4aca82b021de992012faf954916d27230f82", func := "wapentake/wapentakelaw5.GraphClones", spec := "graphClones", inPlace := ["internal/bytealg.IndexByteString", "internal/bytealg.IndexString", "internal/abi.NoEscape", "internal/bytealg.MakeNoZero", "internal/bytealg.abigen_runtime_cmpstring", "maps.clone"], unfollowed := true, recurses := true, named := ["internal/bytealg.MaxLen"], apart := false }
def GraphClonesSaid : Prop := graphClonesRow.holds Tryz.pinned (OpenSpec.ofChange graphClonesSpec)

/-- ITS FALSE NEIGHBOUR: 'it returns false'. Refute it at one input. -/
def graphClonesWrong : ChangeSpec := { name := "graphClones", fn := fun _ => fun
  | [d1, d2] => { results := [.lit (.bool false)], args := [d1, d2] }
  | _ => none }
def GraphClonesWrongFalsely : Prop := graphClonesRow.holds Tryz.pinned (OpenSpec.ofChange graphClonesWrong)

/- THE SECOND FORM. 'bulk': how many values and letters a reading holds, each counted each time it is reached (what is shared counts as often as it is met; a slice's spare places count too). A statement '..UptoSaid' is the law's where the arguments, and the package variables that the reading takes, are together of bulk at most 1048576: NARROWER than '..Said'. Prove '..Said' where nothing that the law and all that it calls make is longer than what came in: it says more and counts as full. Else prove '..UptoSaid'. A law counts once. -/
mutual
def uptoBulk {H : Type} : DataW H → Nat
  | .lit (.string bytes) => bytes.length + 1
  | .lit _ => 1
  | .nil => 1
  | .ptr d => uptoBulk d + 1
  | .slice elems spare => uptoBulkAll elems + uptoBulkAll spare + 1
  | .agg parts => uptoBulkAll parts + 1
  | .iface _ d => uptoBulk d + 1
  | .map entries => uptoBulkEntries entries + 1
  | .held _ => 1
def uptoBulkAll {H : Type} : List (DataW H) → Nat
  | [] => 0
  | d :: r => uptoBulk d + uptoBulkAll r
def uptoBulkEntries {H : Type} : List (Lit × DataW H) → Nat
  | [] => 0
  | x :: r => uptoBulkEntry x + uptoBulkEntries r
def uptoBulkEntry {H : Type} : Lit × DataW H → Nat
  | (.string bytes, d) => bytes.length + uptoBulk d + 1
  | (_, d) => uptoBulk d + 1
 end
def uptoSmall : (H : Type) → List (DataW H) → Bool := fun _ ds => decide (uptoBulkAll ds ≤ 1048576)
def OpenSpec.upto (s : _root_.Go.ChangeSpec) : _root_.Go.OpenSpec := { _root_.Go.OpenSpec.ofChange s with cond := some uptoSmall }

/-- 'wapentakelaw5.GraphKnown', WHERE WHAT IT READS IS OF BULK AT MOST 1048576: true; the input reads as it did. -/
def graphKnownUptoRow : OpenClaim := { program := "ytfoghemiaidnhaagreat", sum := "c15a24a369bdeac06627958692bc4aca82b021de992012faf954916d27230f82", func := "wapentake/wapentakelaw5.GraphKnown", spec := "graphKnown", inPlace := ["internal/bytealg.IndexByteString", "internal/bytealg.IndexString", "internal/abi.NoEscape", "internal/bytealg.MakeNoZero", "internal/bytealg.abigen_runtime_cmpstring"], unfollowed := true, recurses := true, named := ["internal/bytealg.MaxLen"], apart := false, narrowed := true }
def GraphKnownUptoSaid : Prop := graphKnownUptoRow.holds Tryz.pinned (OpenSpec.upto graphKnownSpec)

/-- 'wapentakelaw5.GraphLands', WHERE WHAT IT READS IS OF BULK AT MOST 1048576: true; the input reads as it did. -/
def graphLandsUptoRow : OpenClaim := { program := "ytfoghemiaidnhaagreat", sum := "c15a24a369bdeac06627958692bc4aca82b021de992012faf954916d27230f82", func := "wapentake/wapentakelaw5.GraphLands", spec := "graphLands", inPlace := ["internal/bytealg.IndexByteString", "internal/bytealg.IndexString", "internal/abi.NoEscape", "internal/bytealg.MakeNoZero", "internal/bytealg.abigen_runtime_cmpstring"], unfollowed := true, recurses := true, named := ["internal/bytealg.MaxLen"], apart := false, narrowed := true }
def GraphLandsUptoSaid : Prop := graphLandsUptoRow.holds Tryz.pinned (OpenSpec.upto graphLandsSpec)

/-- 'wapentakelaw5.GraphLoads', WHERE WHAT IT READS IS OF BULK AT MOST 1048576: true; the input reads as it did. -/
def graphLoadsUptoRow : OpenClaim := { program := "ytfoghemiaidnhaagreat", sum := "c15a24a369bdeac06627958692bc4aca82b021de992012faf954916d27230f82", func := "wapentake/wapentakelaw5.GraphLoads", spec := "graphLoads", inPlace := ["internal/bytealg.IndexByteString", "internal/bytealg.IndexString", "internal/abi.NoEscape", "internal/bytealg.MakeNoZero", "internal/bytealg.abigen_runtime_cmpstring"], unfollowed := true, recurses := true, named := ["internal/bytealg.MaxLen"], apart := false, narrowed := true }
def GraphLoadsUptoSaid : Prop := graphLoadsUptoRow.holds Tryz.pinned (OpenSpec.upto graphLoadsSpec)

/-- 'wapentakelaw5.GraphClones', WHERE WHAT IT READS IS OF BULK AT MOST 1048576: true; the input reads as it did. -/
def graphClonesUptoRow : OpenClaim := { program := "ytfoghemiaidnhaagreat", sum := "c15a24a369bdeac06627958692bc4aca82b021de992012faf954916d27230f82", func := "wapentake/wapentakelaw5.GraphClones", spec := "graphClones", inPlace := ["internal/bytealg.IndexByteString", "internal/bytealg.IndexString", "internal/abi.NoEscape", "internal/bytealg.MakeNoZero", "internal/bytealg.abigen_runtime_cmpstring", "maps.clone"], unfollowed := true, recurses := true, named := ["internal/bytealg.MaxLen"], apart := false, narrowed := true }
def GraphClonesUptoSaid : Prop := graphClonesUptoRow.holds Tryz.pinned (OpenSpec.upto graphClonesSpec)

end Rows
end Go.Proofs.YtfoghemiaidnhaaGreat
