/-
  PathWithin: the walk.
-/
import Derived.Test.YtlkdmeeifljacaaPaRef3
import Derived.Test.YtlkdmeeifljacaaPaAwake
namespace Go.Proofs.Ytlkdmeeifljacaa
open Go.RowKit

set_option maxHeartbeats 4000000 in
set_option maxRecDepth 100000 in
theorem within_small (d a b : List UInt8) (w : World) (hd : d.length ≤ 20000) (ha : a.length ≤ 20000) (hb : b.length ≤ 20000) :
    Calls Try.prog 6 #[.string (str d), .string (str a), .string (str b)] w fun e w' => e = .returned (.bool true) ∧ Kept [] w w' := by
  have sa : ((str a).size : Int) = a.length := by rw [str_size]
  have sb : ((str b).size : Int) = b.length := by rw [str_size]
  have sd : ((str d).size : Int) = d.length := by rw [str_size]
  have ia : (a.length : Int) ≤ 20000 := by omega
  have ib : (b.length : Int) ≤ 20000 := by omega
  have id : (d.length : Int) ≤ 20000 := by omega
  have cT := fun w => within_call d a w
  have cR := fun w => rwithin_call d a w (by omega)
  have cN := fun w => name_call a w (by omega)
  have cM := fun w => rname_call a w (by omega)
  have cX := fun w => compare_call d a w (by omega) (by omega)
  have cY := fun w => compare_call a (d ++ 47 :: b) w (by omega) (by simp; omega)
  have vX : cmpT d a = -1 ∨ cmpT d a = 0 ∨ cmpT d a = 1 := cmpP_vals _ _
  have vY : cmpT a (d ++ 47 :: b) = -1 ∨ cmpT a (d ++ 47 :: b) = 0 ∨ cmpT a (d ++ 47 :: b) = 1 := cmpP_vals _ _
  have f1 := within_first d a
  have f2 := within_between d a b
  have hcat : str d ++ ⟨#[47]⟩ ++ str b = str (d ++ 47 :: b) := by
    rw [show (⟨#[47]⟩ : ByteArray) = str [47] from rfl, str_app, str_app]; simp
  by_cases h0 : d = []
  · subst h0
    have e0 := str_void
    rw [show withinB [] a = true from rfl] at cT cR
    generalize wordB false a = N at cN cM
    clear cX cY vX vY f1 f2 hcat
    go_enter Try.func6, Try.ntmps6
    go_wp2_with fail
    refine (awake_call _).mono ?_
    rintro e w0 ⟨rfl, hK0⟩
    go_wp2_with fail
    refine (cT _).mono ?_
    rintro e w1 ⟨rfl, hK1⟩
    replace hK1 := hK0.trans hK1 (by simp)
    go_wp2_with fail
    refine (cR _).mono ?_
    rintro e w' ⟨rfl, rfl⟩
    go_wp2_with fail
    refine (cN _).mono ?_
    rintro e w' ⟨rfl, rfl⟩
    go_wp2_with fail
    refine (cM _).mono ?_
    rintro e w' ⟨rfl, rfl⟩
    go_wp2_with fail
    refine (cT _).mono ?_
    rintro e w2 ⟨rfl, hK2⟩
    replace hK2 := hK1.trans hK2 (by simp)
    go_wp2_with fail
    go_ret
    exact ⟨rfl, hK2⟩
  · have e0 := str_full h0
    replace f1 := f1 h0
    generalize wordB false a = N at cN cM
    generalize cmpT d a = X at *
    generalize cmpT a (d ++ 47 :: b) = Y at *
    generalize withinB d a = T at *
    have cs : (T = true ∧ X ≤ 0 ∧ 0 < Y) ∨ (T = true ∧ X ≤ 0 ∧ Y ≤ 0) ∨ (T = false ∧ 0 < X) ∨ (T = false ∧ X ≤ 0 ∧ 0 < Y) := by
      cases T with
      | true => have := f1 rfl; by_cases h : Y ≤ 0 <;> simp [this, h] ; omega
      | false =>
        by_cases h : X ≤ 0
        · by_cases h' : Y ≤ 0
          · exact absurd (f2 h h') (by simp)
          · simp [h]; omega
        · simp; omega
    clear f1 f2 vX vY
    rcases cs with ⟨rfl, x1, y1⟩ | ⟨rfl, x1, y1⟩ | ⟨rfl, x1⟩ | ⟨rfl, x1, y1⟩
    all_goals
      go_enter Try.func6, Try.ntmps6
      go_wp2_with fail
      refine (awake_call _).mono ?_
      rintro e w0 ⟨rfl, hK0⟩
      go_wp2_with fail
      refine (cT _).mono ?_
      rintro e w1 ⟨rfl, hK1⟩
      replace hK1 := hK0.trans hK1 (by simp)
      go_wp2_with fail
      refine (cR _).mono ?_
      rintro e w' ⟨rfl, rfl⟩
      go_wp2_with fail
      refine (cN _).mono ?_
      rintro e w' ⟨rfl, rfl⟩
      go_wp2_with fail
      refine (cM _).mono ?_
      rintro e w' ⟨rfl, rfl⟩
      go_wp2_with fail
      refine (cT _).mono ?_
      rintro e w2 ⟨rfl, hK2⟩
      replace hK2 := hK1.trans hK2 (by simp)
      go_wp2_with fail
      refine (cX _).mono ?_
      rintro e w3 ⟨rfl, hK3⟩
      replace hK3 := hK2.trans hK3 (by simp)
      go_wp2_with fail
    · refine (cX _).mono ?_
      rintro e w4 ⟨rfl, hK4⟩
      replace hK4 := hK3.trans hK4 (by simp)
      go_wp2_with fail
      refine (cY _).mono ?_
      rintro e w5 ⟨rfl, hK5⟩
      replace hK5 := hK4.trans hK5 (by simp)
      go_wp2_with fail
      go_ret
      exact ⟨rfl, hK5⟩
    · refine (cX _).mono ?_
      rintro e w4 ⟨rfl, hK4⟩
      replace hK4 := hK3.trans hK4 (by simp)
      go_wp2_with fail
      refine (cY _).mono ?_
      rintro e w5 ⟨rfl, hK5⟩
      replace hK5 := hK4.trans hK5 (by simp)
      go_wp2_with fail
      refine (cT _).mono ?_
      rintro e w6 ⟨rfl, hK6⟩
      replace hK6 := hK5.trans hK6 (by simp)
      go_wp2_with fail
      go_ret
      exact ⟨rfl, hK6⟩
    · go_ret
      exact ⟨rfl, hK3⟩
    · refine (cY _).mono ?_
      rintro e w4 ⟨rfl, hK4⟩
      replace hK4 := hK3.trans hK4 (by simp)
      go_wp2_with fail
      go_ret
      exact ⟨rfl, hK4⟩

set_option maxHeartbeats 4000000 in
set_option maxRecDepth 100000 in
theorem within_walk (w : World) (d : List UInt8) (hd : d.length ≤ maxLen) (a : List UInt8) (ha : a.length ≤ maxLen) (b : List UInt8) (hb : b.length ≤ maxLen) :
    Calls Try.prog 6 #[.string (str d), .string (str a), .string (str b)] w fun e w' => e = .returned (.bool true) ∧ Kept [] w w' := by
  unfold maxLen at ha hb hd
  by_cases h : d.length ≤ 20000 ∧ a.length ≤ 20000 ∧ b.length ≤ 20000
  · exact within_small d a b w h.1 h.2.1 h.2.2
  · have sa : ((str a).size : Int) = a.length := by rw [str_size]
    have sb : ((str b).size : Int) = b.length := by rw [str_size]
    have sd : ((str d).size : Int) = d.length := by rw [str_size]
    rcases (show 20000 < (a.length : Int) ∨ ((a.length : Int) ≤ 20000 ∧ 20000 < (b.length : Int)) ∨ ((a.length : Int) ≤ 20000 ∧ (b.length : Int) ≤ 20000 ∧ 20000 < (d.length : Int)) from by omega) with h1 | ⟨h1, h2⟩ | ⟨h1, h2, h3⟩
    all_goals
      go_enter Try.func6, Try.ntmps6
      go_wp2_with fail
      refine (awake_call _).mono ?_
      rintro e w0 ⟨rfl, hK0⟩
      go_wp2_with fail
      go_ret
      exact ⟨rfl, hK0⟩

end Go.Proofs.Ytlkdmeeifljacaa
