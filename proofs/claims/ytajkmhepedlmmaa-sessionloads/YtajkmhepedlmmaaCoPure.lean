/-
  A commit.
-/
import Derived.Test.YtajkmhepedlmmaaM1
namespace Go.Proofs.Ytajkmhepedlmmaa

/-- A commit. -/
structure Com where
  r : Int
  b : Int
  n : List UInt8
  c : List Ch
deriving DecidableEq

end Go.Proofs.Ytajkmhepedlmmaa
