/-
  What is read of the arguments.
-/
import Derived.Test.YtlkdmeeifljacaaRows
import Derived.Test.YtlkdmeeifljacaaPaCut
import Derived.ProofKit
import Derived.OpenShut
import Derived.ShutString
import Derived.ChangeMaps5
import Derived.ChangeOld
import Derived.SizedLaws
namespace Go.Proofs.Ytlkdmeeifljacaa
open Go.ChangeShapes Go.WideShapes Go.ChangeAt Go.RowKit

theorem ownK : ownKnob Try.prog.godebug = none := by kernel_rfl
theorem laidOut : laidOutB Try.prog = true := by kernel_rfl

end Go.Proofs.Ytlkdmeeifljacaa
