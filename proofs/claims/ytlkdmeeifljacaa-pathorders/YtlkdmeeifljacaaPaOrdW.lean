/-
  PathOrders: the walk.
-/
import Derived.Test.YtlkdmeeifljacaaPaRef1
import Derived.Test.YtlkdmeeifljacaaPaAwake
namespace Go.Proofs.Ytlkdmeeifljacaa
open Go.RowKit

set_option maxHeartbeats 4000000 in
set_option maxRecDepth 100000 in
theorem orders_small (a b c : List UInt8) (w : World) (ha : a.length ≤ 20000) (hb : b.length ≤ 20000) (hc : c.length ≤ 20000) :
    Calls Try.prog 5 #[.string (str a), .string (str b), .string (str c)] w fun e w' => e = .returned (.bool true) ∧ Kept [] w w' := by
  have sa : ((str a).size : Int) = a.length := by rw [str_size]
  have sb : ((str b).size : Int) = b.length := by rw [str_size]
  have sc : ((str c).size : Int) = c.length := by rw [str_size]
  have ia : (a.length : Int) ≤ 20000 := by omega
  have ib : (b.length : Int) ≤ 20000 := by omega
  have ic : (c.length : Int) ≤ 20000 := by omega
  have cX := fun w => compare_call a b w (by omega) (by omega)
  have cY := fun w => compare_call b c w (by omega) (by omega)
  have cZ := fun w => compare_call a c w (by omega) (by omega)
  have cR := fun w => rcompare_call a b w (by omega) (by omega)
  have cW := fun w => compare_call b a w (by omega) (by omega)
  rw [ordT.anti a b] at cW
  have hs : ((str a).toList == (str b).toList) = (cmpT a b == 0) := by
    rw [str_toList, str_toList, Bool.eq_iff_iff, beq_iff_eq, beq_iff_eq]; exact (ordT.zero a b).symm
  have hst : cmpT a b ≤ 0 → cmpT b c ≤ 0 → cmpT a c ≤ 0 ∧ (cmpT a c < 0 ∨ (cmpT a b = 0 ∧ cmpT b c = 0)) := fun h1 h2 => ordT.strict h1 h2
  have vX : cmpT a b = -1 ∨ cmpT a b = 0 ∨ cmpT a b = 1 := cmpP_vals _ _
  have vY : cmpT b c = -1 ∨ cmpT b c = 0 ∨ cmpT b c = 1 := cmpP_vals _ _
  have vZ : cmpT a c = -1 ∨ cmpT a c = 0 ∨ cmpT a c = 1 := cmpP_vals _ _
  generalize cmpT a b = X at *
  generalize cmpT b c = Y at *
  generalize cmpT a c = Z at *
  have cases : (X = 1) ∨ (X = -1 ∧ Y = 1) ∨ (X = 0 ∧ Y = 1) ∨ (X = -1 ∧ Y = -1 ∧ Z = -1) ∨ (X = -1 ∧ Y = 0 ∧ Z = -1) ∨ (X = 0 ∧ Y = -1 ∧ Z = -1) ∨ (X = 0 ∧ Y = 0 ∧ Z = -1) ∨ (X = 0 ∧ Y = 0 ∧ Z = 0) := by omega
  have HC : Hid ((X = 1) ∨ (X = -1 ∧ Y = 1) ∨ (X = 0 ∧ Y = 1) ∨ (X = -1 ∧ Y = -1 ∧ Z = -1) ∨ (X = -1 ∧ Y = 0 ∧ Z = -1) ∨ (X = 0 ∧ Y = -1 ∧ Z = -1) ∨ (X = 0 ∧ Y = 0 ∧ Z = -1) ∨ (X = 0 ∧ Y = 0 ∧ Z = 0)) := cases
  have HS : Hid (((str a).toList == (str b).toList) = (X == 0)) := hs
  clear hst vX vY vZ cases hs ha hb hc
  go_enter Try.func5, Try.ntmps5
  go_wp2_with fail
  refine (awake_call _).mono ?_
  rintro e w0 ⟨rfl, hK0⟩
  go_wp2_with fail
  refine (cX _).mono ?_
  rintro e w1 ⟨rfl, hK1⟩
  replace hK1 := hK0.trans hK1 (by simp)
  go_wp2_with fail
  refine (cY _).mono ?_
  rintro e w2 ⟨rfl, hK2⟩
  replace hK2 := hK1.trans hK2 (by simp)
  go_wp2_with fail
  refine (cZ _).mono ?_
  rintro e w3 ⟨rfl, hK3⟩
  replace hK3 := hK2.trans hK3 (by simp)
  go_wp2_with fail
  refine (cR _).mono ?_
  rintro e w4 ⟨rfl, hK4⟩
  replace hK4 := hK3.trans hK4 (by simp)
  clear hK0 hK1 hK2 hK3 cX cY cZ cR
  go_wp2_with fail
  refine (cW _).mono ?_
  rintro e w5 ⟨rfl, hK5⟩
  replace hK5 := hK4.trans hK5 (by simp)
  clear cW hK4
  have cases := HC.out
  have hs := HS.out
  clear HC HS
  rcases cases with rfl | ⟨rfl, rfl⟩ | ⟨rfl, rfl⟩ | ⟨rfl, rfl, rfl⟩ | ⟨rfl, rfl, rfl⟩ | ⟨rfl, rfl, rfl⟩ | ⟨rfl, rfl, rfl⟩ | ⟨rfl, rfl, rfl⟩
  all_goals
    replace hs := hs.trans (by rfl : _ = _)
    go_wp2_with fail
    go_ret
    exact ⟨rfl, hK5⟩

set_option maxHeartbeats 4000000 in
set_option maxRecDepth 100000 in
theorem orders_walk (w : World) (a : List UInt8) (ha : a.length ≤ maxLen) (b : List UInt8) (hb : b.length ≤ maxLen) (c : List UInt8) (hc : c.length ≤ maxLen) :
    Calls Try.prog 5 #[.string (str a), .string (str b), .string (str c)] w fun e w' => e = .returned (.bool true) ∧ Kept [] w w' := by
  unfold maxLen at ha hb hc
  by_cases h : a.length ≤ 20000 ∧ b.length ≤ 20000 ∧ c.length ≤ 20000
  · exact orders_small a b c w h.1 h.2.1 h.2.2
  · have sa : ((str a).size : Int) = a.length := by rw [str_size]
    have sb : ((str b).size : Int) = b.length := by rw [str_size]
    have sc : ((str c).size : Int) = c.length := by rw [str_size]
    rcases (show 20000 < (a.length : Int) ∨ ((a.length : Int) ≤ 20000 ∧ 20000 < (b.length : Int)) ∨ ((a.length : Int) ≤ 20000 ∧ (b.length : Int) ≤ 20000 ∧ 20000 < (c.length : Int)) from by omega) with h1 | ⟨h1, h2⟩ | ⟨h1, h2, h3⟩
    all_goals
      go_enter Try.func5, Try.ntmps5
      go_wp2_with fail
      refine (awake_call _).mono ?_
      rintro e w0 ⟨rfl, hK0⟩
      go_wp2_with fail
      go_ret
      exact ⟨rfl, hK0⟩

end Go.Proofs.Ytlkdmeeifljacaa
