/-
  Texts laid as one.
-/
import Derived.Test.YtgpnlidnbldiiaaGreatM12r
import Derived.Test.YtgpnlidnbldiiaaGreatW1r
import Derived.Test.YtgpnlidnbldiiaaGreatQ11r
import Derived.Handy
import Derived.Laws.AppendOwnNone
import Derived.Deep.RegionHeld3
import Derived.Test.YtgpnlidnbldiiaaGreatQ2r
set_option maxHeartbeats 16000000
set_option maxRecDepth 100000
/-
 Clone of a graph;the document's CopyCommits.
-/
namespace Go.Proofs.YtgpnlidnbldiiaaGreat
open Go.RowKit
end Go.Proofs.YtgpnlidnbldiiaaGreat
