/-
  What is asked of the program itself when arguments are opened.
-/
import Derived.Test.YteiagkjhmhllnaaRows
import Derived.Test.YteiagkjhmhllnaaProg
import Derived.ProofKit
import Derived.OpenShut
import Derived.ShutString
import Derived.ChangeMaps5
import Derived.ChangeOld
import Derived.SizedLaws
import Derived.Deep.Slices
namespace Go.Proofs.Yteiagkjhmhllnaa
open Go.ChangeShapes Go.WideShapes Go.ChangeAt Go.RowKit Go.Deep
theorem ownK:ownKnob Try.prog.godebug=none:=by kernel_rfl
theorem laidOut:laidOutB Try.prog=true:=by kernel_rfl
theorem cellsI:Try.prog.cellsOf 3=1:=by kernel_rfl
theorem cellsU:Try.prog.cellsOf 102=1:=by kernel_rfl
theorem cellsS:Try.prog.cellsOf 9=1:=by kernel_rfl
theorem cellsF:Try.prog.cellsOf 4=1:=by kernel_rfl
end Go.Proofs.Yteiagkjhmhllnaa
