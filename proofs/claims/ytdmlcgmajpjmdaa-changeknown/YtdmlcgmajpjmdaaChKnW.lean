/-
  ChangeKnown: the walk.
-/
import Derived.Test.YtdmlcgmajpjmdaaChAwake
namespace Go.Proofs.Ytdmlcgmajpjmdaa
open Go.RowKit

set_option maxHeartbeats 4000000 in
set_option maxRecDepth 100000 in
theorem known_walk (w : World) :
    Calls Try.prog 3 #[] w fun e w' => e = .returned (.bool true) ∧ Kept [] w w' := by
  have hN : ∀ W, SlC W none 0 0 [] := fun W => ⟨rfl, Nat.le_refl _, Nat.zero_le _, fun i hi => by simp at hi⟩
  have c0 := fun W => check_call W _ _ _ _ (hN W) (by simp)
  rw [show errC [] = 1 from errC_bad (fun h => absurd ((checkOK_iff _).1 h) (by decide))] at c0
  have c1 := fun W => check_call _ _ _ _ _ (SlC.lit W [⟨[97, 47, 46, 46, 47, 98], false, 0⟩] rfl (by simp [maxLen]) rfl) (by simp)
  rw [show errC [⟨[97, 47, 46, 46, 47, 98], false, 0⟩] = 1 from errC_bad (fun h => absurd ((checkOK_iff _).1 h) (by decide))] at c1
  have c2 := fun W => check_call _ _ _ _ _ (SlC.lit W [⟨[98], true, 5⟩] rfl (by simp [maxLen]) rfl) (by simp)
  rw [show errC [⟨[98], true, 5⟩] = 1 from errC_bad (fun h => absurd ((checkOK_iff _).1 h) (by decide))] at c2
  go_enter Try.func3, Try.ntmps3
  go_wp2_with fail
  refine (awake_callC _).mono ?_
  rintro e w1 ⟨rfl, hK1⟩
  go_wp2_with fail
  refine (c0 _).mono ?_
  rintro e w2 ⟨rfl, hK2⟩
  go_wp2_with fail
  refine (c1 _).mono ?_
  rintro e w3 ⟨rfl, hK3⟩
  go_wp2_with fail
  refine (c2 _).mono ?_
  rintro e w4 ⟨rfl, hK4⟩
  have hK := ((hK1.trans hK2 (by simp)).trans (((Kept.refl [] _).alloc _).trans hK3 (by simp)) (by simp)).trans (((Kept.refl [] _).alloc _).trans hK4 (by simp)) (by simp)
  clear hK1 hK2 hK3 hK4 c0 c1 c2
  go_wp2_with fail
  go_ret
  exact ⟨rfl, hK⟩

end Go.Proofs.Ytdmlcgmajpjmdaa
