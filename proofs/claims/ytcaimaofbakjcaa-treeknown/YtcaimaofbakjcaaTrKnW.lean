/-
  Chapter 3's examples, and the nil tree.
-/
import Derived.Test.YtcaimaofbakjcaaTrAwake
import Derived.Test.YtcaimaofbakjcaaTrTold2
namespace Go.Proofs.Ytcaimaofbakjcaa
open Go.RowKit

set_option maxHeartbeats 4000000 in
set_option maxRecDepth 100000 in
theorem known_walk (w : World) :
    Calls Try.prog 3 #[] w fun e w' => e = .returned (.bool true) ∧ Kept [] w w' := by
  go_enter Try.func3, Try.ntmps3
  go_wp2_with fail
  refine (awake_call _).mono ?_
  rintro e w0 ⟨rfl, hK0⟩
  go_wp2_with fail
  refine (new_call _).mono ?_
  rintro e w1 ⟨a, rfl, hA, hK1⟩
  go_wp2_with fail
  refine (put_lit [97] 0 0 false _ _ a .nil hA (by simp [Tr.size]) (by simp)).mono ?_
  rintro e w2 ⟨b, rfl, hB, hK2⟩
  go_wp2_with fail
  refine (put_lit [97, 47, 98] 0 0 false _ _ b _ hB (by decide) (by simp)).mono ?_
  rintro e w3 ⟨c, rfl, hC, hK3⟩
  go_wp2_with fail
  refine (put_lit [97, 98] 0 0 false _ _ c _ hC (by decide) (by simp)).mono ?_
  rintro e w4 ⟨d, rfl, hD, hK4⟩
  have g4 : Good (Tr.put ⟨[97, 98], 0, 0, false⟩ (Tr.put ⟨[97, 47, 98], 0, 0, false⟩ (Tr.put ⟨[97], 0, 0, false⟩ .nil))) := ((good_nil.put _).put _).put _
  have e4 : underL [97] (Tr.put ⟨[97, 98], 0, 0, false⟩ (Tr.put ⟨[97, 47, 98], 0, 0, false⟩ (Tr.put ⟨[97], 0, 0, false⟩ .nil))).list = [⟨[97], 0, 0, false⟩, ⟨[97, 47, 98], 0, 0, false⟩] := by decide
  have cU := tUnder_call _ w4 d _ hD (by decide) g4.1 [97] (by simp)
  rw [e4] at cU
  replace cU : Calls Try.prog 12 #[.pointer d, .string ⟨#[97]⟩] w4 fun e w' => ∃ v, e = .returned v ∧ OwnL w4.heap.size w' v [⟨[97], 0, 0, false⟩, ⟨[97, 47, 98], 0, 0, false⟩] ∧ Kept [] w4 w' := cU
  go_wp2_with fail
  refine cU.mono ?_
  rintro e w5 ⟨l, rfl, hL, hK5⟩
  have tn : ∀ w : World, TAt 0 w none .nil := fun w => .inl ⟨rfl, rfl⟩
  clear cU hA hB hC hD
  go_wp2_with fail
  refine (put_lit [120] 0 0 false _ _ none .nil (tn _) (by simp [Tr.size]) (by simp)).mono ?_
  rintro e w6 ⟨u, rfl, hU, hK6⟩
  have hL6 := hL.kept hK6
  obtain ⟨ao, cc, rfl, hS⟩ := hL6.sl
  obtain ⟨lb, lo, rfl, hcell⟩ := hS.some (by decide)
  have c1 := (hcell 1 (by decide)).c0
  have hc2 := hS.2.1
  rw [Nat.one_mul] at c1
  replace c1 : w6.cell? ⟨lb, lo + 4, none⟩ = some (.string ⟨#[97, 47, 98]⟩) := c1
  have n0 := tLen_call _ w6 none .nil (tn _)
  rw [show (Tr.nil.size : Int) = 0 by decide] at n0
  have n1 := tDepth_call _ w6 none .nil (tn _)
  rw [show (Tr.nil.height : Int) = 0 by decide] at n1
  have n2 := tAll_call _ w6 none .nil (tn _) (by decide) good_nil.1
  rw [show Tr.nil.list = [] by decide] at n2
  clear hL hL6 hS hcell tn
  go_wp2_with fail
  refine n0.mono ?_
  rintro e w' ⟨rfl, rfl⟩
  go_wp2_with fail
  refine n1.mono ?_
  rintro e w' ⟨rfl, rfl⟩
  go_wp2_with fail
  refine n2.mono ?_
  rintro e w7 ⟨l7, rfl, hL7, hK7⟩
  obtain ⟨ao7, cc7, rfl, hS7⟩ := hL7.sl
  have n3 := tLen_call _ w7 u _ (hU.kept hK7)
  rw [show ((Tr.put ⟨[120], 0, 0, false⟩ .nil).size : Int) = 1 by decide] at n3
  clear n0 n1 n2
  go_wp2_with fail
  refine n3.mono ?_
  rintro e w' ⟨rfl, rfl⟩
  go_wp2_with fail
  go_ret
  exact ⟨rfl, ((((((hK0.trans hK1 (by simp)).trans hK2 (by simp)).trans hK3 (by simp)).trans hK4 (by simp)).trans hK5 (by simp)).trans hK6 (by simp)).trans hK7 (by simp)⟩

end Go.Proofs.Ytcaimaofbakjcaa
