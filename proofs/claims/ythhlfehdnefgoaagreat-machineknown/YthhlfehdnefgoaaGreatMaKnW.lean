/-
  MachineKnown: the walk.
-/
import Derived.Test.YthhlfehdnefgoaaGreatQ19
namespace Go.Proofs.YthhlfehdnefgoaaGreat
open Go.RowKit

/-- The head, looked at. -/
def xHd : Rm := ⟨⟨3, [], 0, 0, 0, [], [], [], 0, 0, 0⟩, none, 0, 0⟩

theorem xHd_ok (w : World) : RqOk w xHd := ⟨⟨⟨rfl, Nat.le_refl _, Nat.zero_le _, fun i hi => by simp [xHd] at hi⟩, fun _ => rfl, by simp [xHd], by simp [xHd], by simp [xHd]⟩, by simp [xHd], by simp [xHd], by simp [xHd], by simp [xHd], by simp [xHd]⟩

theorem exPk : (if exM2.a = 1099511627776 then vtC 5 else peekT exM2.g xHd.r) = ⟨8, 0, 1, [], 0, [], 0⟩ := by
  rw [if_neg (by decide)]
  unfold peekT
  rw [if_pos (show xHd.r.k = 3 from rfl)]
  rfl

theorem exA9 : apV 2 exM2 (rqL 9 1 0 [97] 5) = vtC 6 := (expired (sz := 3) (by decide) (by decide) (by decide) (by decide)).1

theorem not_may_nil : ¬ (May [] ∧ (1 : Int) ≤ 1 ∧ (1 : Int) ≤ 8 ∧ (1 : Int) ≤ 1 ∧ (1 : Int) ≤ 16) := by decide
theorem not_size0 : ¬ (May [0] ∧ (1 : Int) ≤ 1 ∧ (1 : Int) ≤ 8 ∧ (1 : Int) ≤ 0 ∧ (0 : Int) ≤ 16) := by decide

set_option maxHeartbeats 16000000 in
set_option maxRecDepth 100000 in
theorem mknown_walk (w : World) : Calls Tryz.prog 3 #[] w fun e w' => e = .returned (.bool true) ∧ Kept [] w w' := by
  have cW := awakeM_call w
  go_enter Tryz.func3, Tryz.ntmps3
  go_wp2_with fail
  refine cW.mono ?_
  rintro _ w0 ⟨rfl, hK0⟩
  have cF := fresh_call w0 [] (fun k hk => by cases hk)
  have HK0 := hide hK0
  clear cW hK0
  go_wp2_with fail
  refine cF.mono ?_
  rintro _ w1 ⟨b, p, F, rfl, hL1⟩
  have cA := apply_call hL1 (by decide) (by decide) xOp (xOp_ok w1)
  rw [exA1.1, exA1.2] at cA
  unfold rqV xOp str at cA
  clear hL1 cF
  dsimp only at cA
  go_wp2_with fail
  refine cA.mono ?_
  rintro _ w2 ⟨a2, n2, c2, rfl, _, F2, hL2, _, _, _⟩
  have HL2 := hide hL2
  have cL := landL_call w2 1 1 0 [97] 5 (by simp) (by omega)
  unfold str at cL
  clear cA hL2
  go_wp2_with fail
  refine cL.mono ?_
  rintro _ w4 ⟨x4, hx4, rfl, hR4, hK4⟩
  have cA := apply_call (HL2.out.kept hK4) (by decide) (by decide) x4 hR4
  rw [hx4, exA2.1, exA2.2] at cA
  clear cL hx4 hR4 hK4
  go_wp2_with fail
  refine cA.mono ?_
  rintro _ w5 ⟨a5, n5, c5, rfl, _, F5, hL5, _, _, _⟩
  have cP := peek_call hL5 (by decide) xHd (xHd_ok w5)
  rw [exPk] at cP
  unfold rqV xHd str at cP
  dsimp only at cP
  clear hL5 cA
  go_wp2_with fail
  refine cP.mono ?_
  rintro _ w6 ⟨a6, n6, c6, rfl, _, F6, hL6, _, _, _⟩
  obtain ⟨w7, hw7⟩ : ∃ w7, w7 = w6.alloc (.cells (vdL ⟨8, 0, 1, [], 0, [], 0⟩ (.slice a6 n6 c6)).toArray 28) := ⟨_, rfl⟩
  have hK7 : Kept [] w6 w7 := by rw [hw7]; exact (Kept.refl _ _).alloc _
  have HB7 : Hid (VdB w7 w6.heap.size ⟨8, 0, 1, [], 0, [], 0⟩ (.slice a6 n6 c6)) := by rw [hw7]; exact vd_new _ _ _
  have HL7 := hide (hL6.kept hK7)
  have cL := landL_call w7 9 1 0 [97] 5 (by simp) (by omega)
  unfold str at cL
  unfold vtV
  clear hL6 cP hK7
  unfold vdL at hw7
  go_wp2_with fail
  rw [← hw7]
  clear hw7
  refine cL.mono ?_
  rintro _ w8 ⟨x8, hx8, rfl, hR8, hK8⟩
  have cA := apply_call (HL7.out.kept hK8) (by decide) (by decide) x8 hR8
  rw [hx8, exA9] at cA
  have HB8 := hide (HB7.out.kept hK8)
  clear cL hx8 hR8 hK8
  go_wp2_with fail
  refine cA.mono ?_
  rintro _ w9 ⟨a9, n9, c9, rfl, _, F9, hL9, hF9, _, _⟩
  obtain ⟨wA, hwA⟩ : ∃ wA, wA = w9.alloc (.cells (vdL (vtC 6) (.slice a9 n9 c9)).toArray 28) := ⟨_, rfl⟩
  have hKA : Kept [] w9 wA := by rw [hwA]; exact (Kept.refl _ _).alloc _
  have HBA := hide ((HB8.out.fr hF9).kept hKA)
  have HCA : Hid (VdB wA w9.heap.size (vtC 6) (.slice a9 n9 c9)) := by rw [hwA]; exact vd_new _ _ _
  have HKA := hide ((HK0.out.trans hL9.keeps (by simp)).trans hKA (by simp))
  have cN := newM_call wA [] (fun k hk => by cases hk) none 0 0 [] ⟨rfl, Nat.le_refl _, Nat.zero_le _, fun i hi => by simp at hi⟩ 1 1
  unfold vtV vtC
  clear hL9 hF9 cA hKA
  unfold vdL vtC at hwA
  go_upto_region 10 with fail
  rw [← hwA]
  clear hwA
  go_upto_region 11 with (go_at_call 14; refine cN.mono ?_; clear cN)
  rintro _ wB (⟨h, _⟩ | ⟨_, rfl, hKB⟩)
  · exact absurd h not_may_nil
  have hKc : Kept [] wB (wB.alloc (.cells #[.int .i64 0] 3)) := (Kept.refl _ _).alloc _
  have cN := newM_call (wB.alloc (.cells #[.int .i64 0] 3)) [] (fun k hk => by cases hk) _ 1 1 [0] (SlI.lit wB [0] 3 #[.int .i64 0] 1 rfl rfl (by omega)) 1 0
  have HBB := hide ((HBA.out.kept hKB).kept hKc)
  have HCB := hide ((HCA.out.kept hKB).kept hKc)
  have HKB := hide ((HKA.out.trans hKB (by simp)).trans hKc (by simp))
  clear hKB hKc
  go_upto_region 12 with (go_at_call 14; refine cN.mono ?_; clear cN)
  rintro _ wC (⟨h, _⟩ | ⟨_, rfl, hKC⟩)
  · exact absurd h not_size0
  obtain ⟨b0, _, b2, _, _, _, _⟩ := (HBB.out.kept hKC).cells
  obtain ⟨g0, _, _, _, _, _, _⟩ := (HCB.out.kept hKC).cells
  unfold vtC at g0
  dsimp only at b0 b2 g0
  have HKC := hide (HKB.out.trans hKC (by simp))
  clear hKC
  go_wp2_with fail
  go_ret
  exact ⟨rfl, HKC.out⟩

end Go.Proofs.YthhlfehdnefgoaaGreat
