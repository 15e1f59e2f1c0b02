/-
  Chapter 2's examples.
-/
import Derived.Test.YtlkdmeeifljacaaPaAwake
namespace Go.Proofs.Ytlkdmeeifljacaa
open Go.RowKit

theorem with_lit (a b : List UInt8) (r : Bool) (h : withinB a b = r) (w : World) :
    Calls Try.prog 11 #[.string ⟨a.toArray⟩, .string ⟨b.toArray⟩] w fun e w' => e = .returned (.bool r) ∧ Kept [] w w' := by
  subst h; exact within_call a b w

theorem name_lit (a : List UInt8) (r : Bool) (h : wordB false a = r) (w : World) (ha : a.length ≤ 140737488355328) :
    Calls Try.prog 12 #[.string ⟨a.toArray⟩] w fun e w' => e = .returned (.bool r) ∧ w' = w := by
  subst h; exact name_call a w ha

theorem tup_none : tup none = .tuple #[.string ⟨#[]⟩, .bool false] := rfl

set_option maxHeartbeats 4000000 in
set_option maxRecDepth 100000 in
theorem known_walk (w : World) :
    Calls Try.prog 3 #[] w fun e w' => e = .returned (.bool true) ∧ Kept [] w w' := by
  go_enter Try.func3, Try.ntmps3
  go_wp2_with fail
  refine (awake_call _).mono ?_
  rintro e w0 ⟨rfl, hK0⟩
  go_wp2_with fail
  refine (norm_lit [97, 47, 46, 46, 47, 98] (some [98]) (by decide) _ (by decide)).mono ?_
  rintro e w1 ⟨rfl, hK1⟩
  rw [tup_lit]
  replace hK1 := hK0.trans hK1 (by simp)
  go_wp2_with fail
  refine (norm_lit [46, 46, 47, 97] none (by decide) _ (by decide)).mono ?_
  rintro e w2 ⟨rfl, hK2⟩
  replace hK2 := hK1.trans hK2 (by simp)
  rw [tup_none]
  go_wp2_with fail
  refine (norm_lit [] none (by decide) _ (by decide)).mono ?_
  rintro e w3 ⟨rfl, hK3⟩
  replace hK3 := hK2.trans hK3 (by simp)
  rw [tup_none]
  go_wp2_with fail
  refine (comp_lit [97] [97, 47, 98] (-1) (by decide) _ (by decide) (by decide)).mono ?_
  rintro e w4 ⟨rfl, hK4⟩
  replace hK4 := hK3.trans hK4 (by simp)
  go_wp2_with fail
  refine (with_lit [97] [97, 98] false (by decide) _).mono ?_
  rintro e w5 ⟨rfl, hK5⟩
  replace hK5 := hK4.trans hK5 (by simp)
  go_wp2_with fail
  refine (with_lit [] [120] true (by decide) _).mono ?_
  rintro e w6 ⟨rfl, hK6⟩
  replace hK6 := hK5.trans hK6 (by simp)
  go_wp2_with fail
  refine (name_lit [97, 45, 49] true (by decide) _ (by decide)).mono ?_
  rintro e w7 ⟨rfl, rfl⟩
  go_wp2_with fail
  refine (name_lit [97, 46, 98] false (by decide) _ (by decide)).mono ?_
  rintro e w8 ⟨rfl, rfl⟩
  go_wp2_with fail
  go_ret
  exact ⟨rfl, hK6⟩

end Go.Proofs.Ytlkdmeeifljacaa
