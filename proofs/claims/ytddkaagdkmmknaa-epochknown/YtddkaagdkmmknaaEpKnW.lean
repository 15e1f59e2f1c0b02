/-
  EpochKnown: the walk.
-/
import Derived.Test.YtddkaagdkmmknaaEpAwake
import Derived.Test.YtddkaagdkmmknaaEpMost
namespace Go.Proofs.Ytddkaagdkmmknaa
open Go.RowKit

def L3 : List Ep := [⟨0, [0, 1, 2]⟩, ⟨7, [0, 1, 2, 3]⟩, ⟨9, [1, 2, 3]⟩]

theorem chE2 : chE 2 L2 6 0 false = 12 := by decide
theorem chL2 : chL 2 L2 6 0 false = L2 := by decide
theorem chE3 : chE 2 L2 7 0 false = 0 := by decide
theorem chL3 : chL 2 L2 7 0 false = L3 := by decide
theorem okL3 : OkL L3 := by rw [← chL3]; exact okL_ch (by omega) okL2 _ _ _
theorem at9 : atL L3 9 = [1, 2, 3] := by decide
theorem most1 : mostB [0, 1, 2] [2, 2, 0] = true := by decide
theorem most2 : mostB [0, 1, 2] [2, 2, 7] = false := by decide

theorem SlI.lit2 (w : World) (l m : List Int) (t : TypeId) (vs us : Array Value) (hv : vs = (l.map (Value.int .i64)).toArray) (hu : us = (m.map (Value.int .i64)).toArray) (hl : l.length = 3) (hm : m.length = 3) :
    SlI ((w.alloc (.cells vs t)).alloc (.cells us t)) (some ⟨w.heap.size, 0, none⟩) 3 3 l ∧ SlI ((w.alloc (.cells vs t)).alloc (.cells us t)) (some ⟨w.heap.size + 1, 0, none⟩) 3 3 m := by
  refine ⟨(SlI.lit w l t vs 3 hl hv (by omega)).kept ((Kept.refl _ _).alloc _), ?_⟩
  have := SlI.lit (w.alloc (.cells vs t)) m t us 3 hm hu (by omega)
  rwa [World.size_alloc] at this

set_option maxHeartbeats 8000000 in
set_option maxRecDepth 100000 in
theorem known_walk (w : World) : Calls Try.prog 3 #[] w fun e w' => e = .returned (.bool true) ∧ Kept [] w w' := by
  have cW := awake_call w
  go_enter Try.func3, Try.ntmps3
  go_upto_region 8 with (first
    | (go_at_call 9; refine cW.mono ?_; clear cW; rintro _ w0 ⟨rfl, hK0⟩
       have HK0 : Hid (Kept [] w (w0.alloc (.cells #[.int .i64 0, .int .i64 1, .int .i64 2] 3))) := hK0.alloc _
       have cN := newE_ok _ _ 3 3 [0, 1, 2] (SlI.lit w0 [0, 1, 2] 3 #[.int .i64 0, .int .i64 1, .int .i64 2] 3 rfl rfl (by omega)) 2 may012 (by omega)
       clear hK0)
    | (go_at_call 10; refine cN.mono ?_; clear cN; rintro _ w1 ⟨p, rfl, hE1, hK1⟩
       have cC := changeE_call _ w1 p 2 L1 hE1 okL1 (by omega) (by omega) (by decide) hK1.size 5 3 true
       have HK1 : Hid (Kept [] w w1) := HK0.out.trans hK1 (by simp)
       have HZ1 := hide hK1.size
       have HZ0 := hide HK0.out.size
       generalize (w0.alloc (.cells #[.int .i64 0, .int .i64 1, .int .i64 2] 3)).heap.size = B0 at *
       clear hK1 hE1)
    | (go_at_call 11; refine cC.mono ?_; clear cC; rintro _ w2 ⟨rfl, hE2, hT2⟩
       rw [chE1]
       rw [chL1] at hE2
       have HK2 : Hid (Kept [] w w2) := Tn.low HK1.out hT2 HZ0.out
       have HZ2 := hide (Nat.le_trans HZ1.out hT2.size)
       have cC2 := changeE_call _ w2 p 2 L2 hE2 okL2 (by omega) (by omega) (by decide) HZ2.out 6 0 false
       clear hE2 hT2)
    | (go_at_call 11; refine cC2.mono ?_; clear cC2; rintro _ w3 ⟨rfl, hE2, hT2⟩
       rw [chE2]
       rw [chL2] at hE2
       have HK3 : Hid (Kept [] w w3) := Tn.low HK2.out hT2 HZ0.out
       have HZ3 := hide (Nat.le_trans HZ2.out hT2.size)
       have cC3 := changeE_call _ w3 p 2 L2 hE2 okL2 (by omega) (by omega) (by decide) HZ3.out 7 0 false
       clear hE2 hT2)
    | (go_at_call 11; refine cC3.mono ?_; clear cC3; rintro _ w4 ⟨rfl, hE2, hT2⟩
       rw [chE3]
       rw [chL3] at hE2
       have HK4 : Hid (Kept [] w w4) := Tn.low HK3.out hT2 HZ0.out
       have cA := atR_call _ w4 p 2 L3 hE2 okL3 (by decide) 9
       rw [at9] at cA
       clear hE2 hT2))
  go_wp2_with (first
    | (go_at_call 13; refine cA.mono ?_; clear cA; rintro _ w5 ⟨ao5, c5, rfl, hS5, hK5⟩
       have HK5 : Hid (Kept [] w (w5.alloc (.cells #[.int .i64 1, .int .i64 2, .int .i64 3] 3))) := (HK4.out.trans hK5 (by simp)).alloc _
       have cS := sameI_call _ ao5 _ 3 c5 3 3 [1, 2, 3] [1, 2, 3] (hS5.kept ((Kept.refl _ _).alloc (.cells #[.int .i64 1, .int .i64 2, .int .i64 3] 3))) (SlI.lit w5 [1, 2, 3] 3 #[.int .i64 1, .int .i64 2, .int .i64 3] 3 rfl rfl (by omega))
       rw [show decide (([1, 2, 3] : List Int) = [1, 2, 3]) = true from rfl] at cS
       clear hS5 hK5)
    | (go_at_call 12; refine cS.mono ?_; clear cS; rintro _ w6 ⟨rfl, hK6⟩
       have HK6 : Hid (Kept [] w (w6.alloc (.cells #[.int .i64 0, .int .i64 1, .int .i64 2, .int .i64 3] 3))) := (HK5.out.trans hK6 (by simp)).alloc _
       have cQ := quorum_call (w6.alloc (.cells #[.int .i64 0, .int .i64 1, .int .i64 2, .int .i64 3] 3)) (some ⟨w6.heap.size, 0, none⟩) 4 4 (by omega)
       clear hK6)
    | (go_at_call 14; refine cQ.mono ?_; clear cQ; rintro _ _ ⟨rfl, rfl⟩
       obtain ⟨w7, hw7⟩ : ∃ w7, w7 = w6.alloc (.cells #[.int .i64 0, .int .i64 1, .int .i64 2, .int .i64 3] 3) := ⟨_, rfl⟩
       rw [← hw7] at HK6 ⊢
       have hlt := SlI.lit2 w7 [0, 1, 2] [2, 2, 0] 3 #[.int .i64 0, .int .i64 1, .int .i64 2] #[.int .i64 2, .int .i64 2, .int .i64 0] rfl rfl rfl rfl
       have cM := most_call _ _ _ 3 3 3 3 [0, 1, 2] [2, 2, 0] hlt.1 hlt.2 (by unfold WfI; decide) (by unfold WfI; decide) (by omega)
       rw [most1] at cM
       clear hw7 hlt)
    | (go_at_call 15; refine cM.mono ?_; clear cM; rintro _ w8 ⟨rfl, hK8⟩
       have HK8 : Hid (Kept [] w w8) := ((HK6.out.alloc _).alloc _).trans hK8 (by simp)
       have hlt := SlI.lit2 w8 [0, 1, 2] [2, 2, 7] 3 #[.int .i64 0, .int .i64 1, .int .i64 2] #[.int .i64 2, .int .i64 2, .int .i64 7] rfl rfl rfl rfl
       have cM2 := most_call _ _ _ 3 3 3 3 [0, 1, 2] [2, 2, 7] hlt.1 hlt.2 (by unfold WfI; decide) (by unfold WfI; decide) (by omega)
       rw [most2] at cM2
       clear hK8 hlt)
    | (go_at_call 15; refine cM2.mono ?_; clear cM2; rintro _ w9 ⟨rfl, hK9⟩
       have HK9 : Hid (Kept [] w w9) := ((HK8.out.alloc _).alloc _).trans hK9 (by simp)
       clear hK9))
  go_ret
  exact ⟨rfl, HK9.out⟩

end Go.Proofs.Ytddkaagdkmmknaa
