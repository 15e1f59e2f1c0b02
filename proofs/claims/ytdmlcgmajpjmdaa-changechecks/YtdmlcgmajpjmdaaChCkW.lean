/-
  ChangeChecks: the walk.
-/
import Derived.Test.YtdmlcgmajpjmdaaChAwake
import Derived.Test.YtdmlcgmajpjmdaaChRefC
import Derived.Test.YtdmlcgmajpjmdaaChRefS
namespace Go.Proofs.Ytdmlcgmajpjmdaa
open Go.RowKit

set_option maxHeartbeats 8000000 in
set_option maxRecDepth 100000 in
theorem checks_walk (w : World) (ao : Option Addr) (n c : Nat) (L : List Ch) (hL : SlC w ao n c L) (hz : ao = none → c = 0) (bo : Option Addr) (m d : Nat) (M : List Ch) (hM : SlC w bo m d M) (_ : bo = none → d = 0) :
    Calls Try.prog 4 #[.slice ao n c, .slice bo m d] w fun e w' => e = .returned (.bool true) ∧ Kept [] w w' := by
  have cL := fun W (h : Kept [] w W) => room_callC W ao n c L (hL.kept h (by simp))
  have cM := fun W (h : Kept [] w W) => room_callC W bo m d M (hM.kept h (by simp))
  rcases hrL : roomyC L with _ | _
  · rw [hrL] at cL
    clear hL hM cM hrL
    go_enter Try.func4, Try.ntmps4
    go_wp2_with fail
    refine (awake_callC _).mono ?_
    rintro e w1 ⟨rfl, hK1⟩
    go_wp2_with fail
    refine (cL _ hK1).mono ?_
    rintro e w' ⟨rfl, rfl⟩
    go_wp2_with fail
    go_ret
    exact ⟨rfl, hK1⟩
  rw [hrL] at cL
  rcases hrM : roomyC M with _ | _
  · rw [hrM] at cM
    clear hL hM hrL hrM
    go_enter Try.func4, Try.ntmps4
    go_wp2_with fail
    refine (awake_callC _).mono ?_
    rintro e w1 ⟨rfl, hK1⟩
    go_wp2_with fail
    refine (cL _ hK1).mono ?_
    rintro e w' ⟨rfl, rfl⟩
    go_wp2_with fail
    refine (cM _ hK1).mono ?_
    rintro e w' ⟨rfl, rfl⟩
    go_wp2_with fail
    go_ret
    exact ⟨rfl, hK1⟩
  rw [hrM] at cM
  obtain ⟨hl1, hl2⟩ := roomyC_iff.1 hrL
  have hlen := hL.1
  have cC := fun W (h : Kept [] w W) => check_call W ao n c L (hL.kept h (by simp)) (fun x hx => by have := hl2 x hx; omega)
  have cR := fun W (h : Kept [] w W) => rcheck_call W ao n c L (hL.kept h (by simp)) (fun x hx => by have := hl2 x hx; omega)
  have cS := fun W (h : Kept [] w W) => sorted_call W ao n c L (hL.kept h (by simp)) hz (by omega) (fun x hx => by have := hl2 x hx; omega)
  have cT := fun W (h : Kept [] w W) => rsorted_call W ao n c L (hL.kept h (by simp)) (by omega) (fun x hx => by have := hl2 x hx; omega)
  have cE := fun W (h : Kept [] w W) => same_kept W ao bo n m c d L M (hL.kept h (by simp)) (hM.kept h (by simp))
  have cF := fun W (h : Kept [] w W) => rsame_kept W ao bo n m c d L M (hL.kept h (by simp)) (hM.kept h (by simp))
  have cG := fun W (h : Kept [] w W) => same_kept W ao ao n n c c L L (hL.kept h (by simp)) (hL.kept h (by simp))
  rw [decide_eq_true rfl] at cG
  generalize errC L = er at cC cR
  generalize sortC L = sl at cS cT
  generalize decide (L = M) = sm at cE cF
  clear hL hM hrL hrM hl1 hl2 hlen
  go_enter Try.func4, Try.ntmps4
  go_wp2_with fail
  refine (awake_callC _).mono ?_
  rintro e w1 ⟨rfl, hK1⟩
  go_wp2_with fail
  refine (cL _ hK1).mono ?_
  rintro e w' ⟨rfl, rfl⟩
  go_wp2_with fail
  refine (cM _ hK1).mono ?_
  rintro e w' ⟨rfl, rfl⟩
  go_wp2_with fail
  refine (cC _ hK1).mono ?_
  rintro e w2 ⟨rfl, hK2⟩
  replace hK2 := hK1.trans hK2 (by simp)
  clear hK1 cC cL cM
  go_wp2_with fail
  refine (cR _ hK2).mono ?_
  rintro e w3 ⟨rfl, hK3⟩
  replace hK3 := hK2.trans hK3 (by simp)
  clear hK2 cR
  go_wp2_with fail
  refine (cS _ hK3).mono ?_
  rintro e w4 ⟨v4, rfl, hO4, hK4⟩
  replace hK4 := hK3.trans hK4 (by simp)
  obtain ⟨a4, c4, rfl, hS4⟩ := hO4.sl
  clear hK3 cS hO4
  go_wp2_with fail
  refine (cT _ hK4).mono ?_
  rintro e w5 ⟨v5, rfl, hO5, hK5⟩
  obtain ⟨a5, c5, rfl, hS5⟩ := hO5.sl
  have cU := rsame_kept w5 _ _ _ _ _ _ _ _ (hS4.kept hK5 (by simp)) hS5
  rw [decide_eq_true rfl] at cU
  replace hK5 := hK4.trans hK5 (by simp)
  clear hK4 cT hO5 hS4 hS5
  go_wp2_with fail
  refine cU.mono ?_
  rintro e w6 ⟨rfl, hK6⟩
  replace hK6 := hK5.trans hK6 (by simp)
  clear hK5 cU
  go_wp2_with fail
  refine (cE _ hK6).mono ?_
  rintro e w7 ⟨rfl, hK7⟩
  replace hK7 := hK6.trans hK7 (by simp)
  clear hK6 cE
  go_wp2_with fail
  refine (cF _ hK7).mono ?_
  rintro e w8 ⟨rfl, hK8⟩
  replace hK8 := hK7.trans hK8 (by simp)
  clear hK7 cF
  go_wp2_with fail
  refine (cG _ hK8).mono ?_
  rintro e w9 ⟨rfl, hK9⟩
  replace hK9 := hK8.trans hK9 (by simp)
  clear hK8 cG
  go_wp2_with fail
  go_ret
  exact ⟨rfl, hK9⟩

end Go.Proofs.Ytdmlcgmajpjmdaa
