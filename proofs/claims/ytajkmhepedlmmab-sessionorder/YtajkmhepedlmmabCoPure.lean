/-
  A commit.
-/
import Derived.Test.YtajkmhepedlmmabM1
namespace Go.Proofs.Ytajkmhepedlmmab

/-- A commit. -/
structure Com where
  r : Int
  b : Int
  n : List UInt8
  c : List Ch
deriving DecidableEq

end Go.Proofs.Ytajkmhepedlmmab
