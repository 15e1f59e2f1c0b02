/-
  The keys of a map of refs, sorted; a map of refs, cloned.
-/
import Derived.Test.YthhlfehdnefgoabGreatLay
import Derived.Test.YthhlfehdnefgoabGreatQ9
namespace Go.Proofs.YthhlfehdnefgoabGreat
open Go.RowKit Go.Maps Go.Sort Go.Shelf


theorem mclone_call (w : World) (b : Nat) (n : Nat) (D : DataW Unit) (hown : w.ownsMap Tryz.prog 9 mapR b n D) :
    Calls Tryz.prog 63 #[.map (some b)] w fun e w' => ∃ mb, e = .returned (.map (some mb)) ∧ w.heap.size ≤ mb ∧ w'.ownsMap Tryz.prog 9 mapR mb n D ∧ Kept [] w w' := by
  refine (AnyW.maps_Clone_owns Tryz.cloneZ 9 mapR b n D w hown).mono ?_
  rintro e w' ⟨rfl, h1, h2, h3⟩
  exact ⟨_, rfl, Nat.le_refl _, h1, Kept.of_below h3⟩

end Go.Proofs.YthhlfehdnefgoabGreat
