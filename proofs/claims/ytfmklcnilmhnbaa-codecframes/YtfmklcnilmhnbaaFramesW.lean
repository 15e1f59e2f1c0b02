/-
  CodecFrames: the walk.
-/
import Derived.Test.YtfmklcnilmhnbaaRef2
import Derived.Test.YtfmklcnilmhnbaaAwake
namespace Go.Proofs.Ytfmklcnilmhnbaa
open Go.RowKit

theorem Made.kept {w w' w2 : World} {a : Option Addr} {n c : Nat} {L : List Int} (h : Made w a n c L w') (hk : Kept [] w' w2) : Sl w2 a n c L := Sl.kept hk h.1 (by simp)

set_option maxRecDepth 100000 in
set_option maxHeartbeats 2000000 in
theorem frames_walk (w : World) (ao bo : Option Addr) (n c m d : Nat) (l l' : List Int) (hs : Sl w ao n c l) (ho : Oct l) (hs' : Sl w bo m d l') (ho' : Oct l') :
    Calls Try.prog 8 #[.slice ao n c, .slice bo m d] w fun r w' => r = .returned (.bool true) ∧ Below w.heap.size w w' := by
  have HS : Hid (Sl w ao n c l) := hs
  have HS' : Hid (Sl w bo m d l') := hs'
  clear hs hs'
  by_cases h1 : n ≤ 5000 ∧ m ≤ 5000
  · obtain ⟨h1, h2⟩ := h1
    have h1' : ¬ (5000 : Int) < (n : Int) := by omega
    have h2' : ¬ (5000 : Int) < (m : Int) := by omega
    go_enter Try.func8, Try.ntmps8
    go_wp2_with fail
    refine (awake_call _).mono ?_
    rintro _ w1 ⟨rfl, hk1⟩
    go_wp2_with fail
    refine (frame_call _ _ _ _ _ (Sl.kept hk1 HS.out (by simp)) ho).mono ?_
    rintro _ w2 ⟨a2, n2, c2, rfl, hM2⟩
    have hK2 : Kept [] w w2 := hk1.trans hM2.2.2 (by simp)
    go_wp2_with fail
    refine (rframe_call _ _ _ _ _ (Sl.kept hK2 HS.out (by simp)) ho).mono ?_
    rintro _ w3 ⟨a3, n3, c3, rfl, hM3⟩
    have hK3 : Kept [] w w3 := hK2.trans hM3.2.2 (by simp)
    go_wp2_with fail
    refine (unframe_call _ _ _ _ _ (Sl.kept hK3 HS'.out (by simp)) ho').mono ?_
    rintro _ w4 ⟨a4, n4, c4, rfl, hM4⟩
    have hK4 : Kept [] w w4 := hK3.trans hM4.2.2 (by simp)
    go_wp2_with fail
    refine (runframe_call _ _ _ _ _ (Sl.kept hK4 HS'.out (by simp)) ho').mono ?_
    rintro _ w5 ⟨a5, n5, c5, rfl, hM5⟩
    have hK5 : Kept [] w w5 := hK4.trans hM5.2.2 (by simp)
    generalize frameE l = E at *
    generalize unframe l' = U at *
    obtain ⟨F, fe⟩ := E
    obtain ⟨B, un, ue⟩ := U
    go_wp2_with fail
    refine (same_call _ _ _ _ _ _ _ _ _ (hM2.kept ((hM3.2.2.trans hM4.2.2 (by simp)).trans hM5.2.2 (by simp))) (hM3.kept (hM4.2.2.trans hM5.2.2 (by simp)))).mono ?_
    rintro _ w6 ⟨rfl, hk6⟩
    go_wp2_with fail
    refine (same_call _ _ _ _ _ _ _ _ _ (hM4.kept (hM5.2.2.trans hk6 (by simp))) (hM5.kept hk6)).mono ?_
    rintro _ w7 ⟨rfl, hk7⟩
    have hK7 : Kept [] w w7 := (hK5.trans hk6 (by simp)).trans hk7 (by simp)
    go_wp2_with fail
    refine (crc_call _ _ _ _ _ (Sl.kept hK7 HS'.out (by simp)) ho').mono ?_
    rintro _ _ ⟨rfl, rfl⟩
    go_wp2_with fail
    refine (rcrc_call _ _ _ _ _ (Sl.kept hK7 HS'.out (by simp)) ho').mono ?_
    rintro _ _ ⟨rfl, rfl⟩
    go_wp2
    go_ret
    exact ⟨by simp, hK7.below (Nat.le_refl _) (by simp)⟩
  · by_cases h2 : n ≤ 5000
    · have h1' : ¬ (5000 : Int) < (n : Int) := by omega
      have h2' : (5000 : Int) < (m : Int) := by omega
      go_enter Try.func8, Try.ntmps8
      go_wp2_with fail
      refine (awake_call _).mono ?_
      rintro _ w1 ⟨rfl, hk1⟩
      go_wp2
      go_ret
      exact ⟨rfl, hk1.below (Nat.le_refl _) (by simp)⟩
    · have h1' : (5000 : Int) < (n : Int) := by omega
      go_enter Try.func8, Try.ntmps8
      go_wp2_with fail
      refine (awake_call _).mono ?_
      rintro _ w1 ⟨rfl, hk1⟩
      go_wp2
      go_ret
      exact ⟨rfl, hk1.below (Nat.le_refl _) (by simp)⟩

end Go.Proofs.Ytfmklcnilmhnbaa
