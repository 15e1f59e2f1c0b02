/-
  PathNormals: the walk.
-/
import Derived.Test.YtlkdmeeifljacaaPaRef4
import Derived.Test.YtlkdmeeifljacaaPaAwake
namespace Go.Proofs.Ytlkdmeeifljacaa
open Go.RowKit

set_option maxHeartbeats 4000000 in
set_option maxRecDepth 100000 in
theorem normals_walk (w : World) (a : List UInt8) (ha : a.length ≤ maxLen) :
    Calls Try.prog 4 #[.string (str a)] w fun e w' => e = .returned (.bool true) ∧ Kept [] w w' := by
  unfold maxLen at ha
  have sa : ((str a).size : Int) = a.length := by rw [str_size]
  by_cases h : a.length ≤ 20000
  · have ia : (a.length : Int) ≤ 20000 := by omega
    have cP := fun w => normal_call a w (by omega)
    have cQ := fun w => rnormal_call a w (by omega)
    cases hp : normB a with
    | none =>
      have cR := fun w => norm_lit [] none (by decide) w (by decide)
      rw [hp] at cP cQ
      unfold tup at cP cQ cR
      go_enter Try.func4, Try.ntmps4
      go_wp2_with fail
      refine (awake_call _).mono ?_
      rintro e w0 ⟨rfl, hK0⟩
      go_wp2_with fail
      refine (cP _).mono ?_
      rintro e w1 ⟨rfl, hK1⟩
      replace hK1 := hK0.trans hK1 (by simp)
      go_wp2_with fail
      refine (cQ _).mono ?_
      rintro e w2 ⟨rfl, hK2⟩
      replace hK2 := hK1.trans hK2 (by simp)
      go_wp2_with fail
      refine (cR _).mono ?_
      rintro e w3 ⟨rfl, hK3⟩
      replace hK3 := hK2.trans hK3 (by simp)
      go_wp2_with fail
      go_ret
      exact ⟨rfl, hK3⟩
    | some p =>
      have cR := fun w => normal_call p w (by have := normB_len hp; omega)
      rw [normB_again hp] at cR
      rw [hp] at cP cQ
      unfold tup at cP cQ cR
      go_enter Try.func4, Try.ntmps4
      go_wp2_with fail
      refine (awake_call _).mono ?_
      rintro e w0 ⟨rfl, hK0⟩
      go_wp2_with fail
      refine (cP _).mono ?_
      rintro e w1 ⟨rfl, hK1⟩
      replace hK1 := hK0.trans hK1 (by simp)
      go_wp2_with fail
      refine (cQ _).mono ?_
      rintro e w2 ⟨rfl, hK2⟩
      replace hK2 := hK1.trans hK2 (by simp)
      go_wp2_with fail
      refine (cR _).mono ?_
      rintro e w3 ⟨rfl, hK3⟩
      replace hK3 := hK2.trans hK3 (by simp)
      go_wp2_with fail
      go_ret
      exact ⟨rfl, hK3⟩
  · have ia : 20000 < (a.length : Int) := by omega
    go_enter Try.func4, Try.ntmps4
    go_wp2_with fail
    refine (awake_call _).mono ?_
    rintro e w0 ⟨rfl, hK0⟩
    go_wp2_with fail
    go_ret
    exact ⟨rfl, hK0⟩

end Go.Proofs.Ytlkdmeeifljacaa
