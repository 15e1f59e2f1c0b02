/-
  awake: a number is written and read.
-/
import Derived.Test.YtfmklcnilmhnbaaRd3
import Derived.Test.YtfmklcnilmhnbaaWr2
import Derived.Deep.RegionWith
namespace Go.Proofs.Ytfmklcnilmhnbaa
open Go.RowKit

set_option maxHeartbeats 1000000 in
theorem awake_call (w : World) : Calls Try.prog 9 #[] w fun r w' => r = .returned (.bool true) ∧ Kept [] w w' := by
  go_enter Try.func9, Try.ntmps9
  go_wp2_with fail
  refine (newWriter_call _).mono ?_
  rintro _ w1 ⟨rfl, hw1, hk1⟩
  go_wp2_with fail
  refine (wnum_call _ _ _ _ _ _ hw1 (by simp)).mono ?_
  rintro _ w2 ⟨rfl, g2, hw2, hf2, hk2⟩
  have e300 : wrNum 0 [] 300 = ([172, 2], 0) := by decide
  rw [e300] at hw2
  go_wp2_with fail
  refine (done_call _ _ _ _ _ hw2 (by simp)).mono ?_
  rintro _ w3 ⟨a3, c3, rfl, hs3, hb3, hk3⟩
  go_wp2_with fail
  refine (newReader_call _ _ _ _ _ hs3 (by simp) (by intro x hx; simp at hx; omega)).mono ?_
  rintro _ w4 ⟨p4, F4, rfl, hp4, hF4, hF4', hr4, hk4⟩
  obtain ⟨b, o, rfl, hc3⟩ := hs3.some (by simp)
  have hc30 : w4.cell? ⟨b, o, none⟩ = some (.int .u8 172) := hk4.cell (hc3 0 (by simp)) (by simp)
  have hc31 : w4.cell? ⟨b, o + 1, none⟩ = some (.int .u8 2) := hk4.cell (hc3 1 (by simp)) (by simp)
  clear hc3
  go_wp2_with fail
  refine (num_call _ _ _ _ _ hr4).mono ?_
  have e5 : rdNumE 0 [172, 2] = (0, 300, []) := by decide
  rw [e5]
  rintro _ w5 ⟨rfl, hr5, hk5⟩
  go_wp2_with fail
  refine (end_call _ _ _ _ _ hr5).mono ?_
  rintro _ _ ⟨rfl, rfl⟩
  go_wp2
  go_ret
  refine ⟨rfl, ?_⟩
  have h1 : Kept [] w w2 := hk1.trans hk2 (by simp)
  have h2 : Kept [] w w4 := (h1.trans hk3 (by simp)).trans hk4 (by simp)
  have h3 := h1.size
  have h4 := hk3.size
  exact h2.trans hk5 (by simp; omega)

end Go.Proofs.Ytfmklcnilmhnbaa
