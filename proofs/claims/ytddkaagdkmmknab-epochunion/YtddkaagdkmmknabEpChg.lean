/-
  (set).change.
-/
import Derived.Test.YtddkaagdkmmknabEpOps
namespace Go.Proofs.Ytddkaagdkmmknab
open Go.RowKit

def ChP (S : Nat → Bool) (q : Nat) (add : Bool) (w : World) (e : Ending) (w' : World) : Prop :=
  ∃ T, e = .returned (.tuple #[setV T, .int .i64 (chgE S q add)]) ∧ (chgE S q add = 0 → T = updB S q add) ∧ Kept [] w w'

set_option maxHeartbeats 4000000 in
set_option maxRecDepth 100000 in
theorem change_call (w : World) (S : Nat → Bool) (q : Nat) (add : Bool) (hq : q < 15) :
    Calls Try.prog 14 #[setV S, .int .i64 (q : Int), .bool add] w fun e w' => ChP S q add w e w' := by
  have hq' : (q : Int) < 15 := by omega
  unfold setV
  go_enter Try.func14, Try.ntmps14
  go_upto_region 1 with fail
  obtain ⟨W, hW⟩ : ∃ W, W = (w.alloc (.cells (setC S).toArray 38)).alloc (.cells #[.bool false, .bool false, .bool false, .bool false, .bool false, .bool false, .bool false, .bool false, .bool false, .bool false, .bool false, .bool false, .bool false, .bool false, .bool false] 38) := ⟨_, rfl⟩
  have hL := lay2 w (setC S).toArray (setC fun _ => false).toArray 38
  have H0 : Hid (SetAt W w.heap.size S) := by show SetAt _ _ _; rw [hW]; exact hL.1
  have H1 : Hid (SetAt W (w.heap.size + 1) fun _ => false) := by show SetAt _ _ _; rw [hW]; exact hL.2
  have HK : Hid (Kept [] w W) := by show Kept _ _ _; rw [hW]; exact ((Kept.refl _ _).alloc _).alloc _
  rw [← hW]
  clear hW hL
  have c0 := H0.out.cell hq
  have f0 := froz3 H0.out q
  go_upto_region 3 with fail
  obtain ⟨W2, hW2⟩ : ∃ W2, W2 = W.setCell ⟨w.heap.size, q, none⟩ (.bool add) := ⟨_, rfl⟩
  have G0 : Hid (SetAt W2 w.heap.size (updB S q add)) := by show SetAt _ _ _; rw [hW2]; exact H0.out.set add hq
  have G1 : Hid (SetAt W2 (w.heap.size + 1) fun _ => false) := by show SetAt _ _ _; rw [hW2]; exact H1.out.kept ((Kept.refl [w.heap.size] W).setCell (by simp) _) (by simp)
  have GK : Hid (Kept [] w W2) := by show Kept _ _ _; rw [hW2]; exact HK.out.setCell (.inr (Nat.le_refl _)) _
  rw [← hW2]
  clear hW2 c0 f0 H0 H1 HK
  cases hS : S q <;> cases add
  · -- not there, and dropped
    have HE : Hid (chgE S q false = 8) := by show _ = _; simp [chgE, hS]
    clear hS
    go_wp2_with ((with_reducible refine wl_store_set (fun _ => false) ?_ ?_ G1.out ?_); rfl; rfl; intro w1 HS1 HK1)
    refine bodyPost_ret (set_res2 (by rfl) _ (by rfl) HS1.out) rfl ?_
    exact ⟨_, by rw [HE.out]; rfl, fun h => absurd h (by rw [HE.out]; decide), GK.out.trans HK1.out (by simp)⟩
  · have HE : Hid (chgE S q true = if told (updB S q true) = [] then 1 else 0) := by show _ = _; simp [chgE, hS]
    clear hS
    generalize hU : updB S q true = U at *
    have HU := hide hU
    clear hU
    by_cases hd : told U = []
    · have HE2 : Hid (chgE S q true = 1) := by show _ = _; rw [HE.out, if_pos hd]
      have hd' : decide (told U = []) = true := by simpa using hd
      clear hd
      go_wp2_with (first | ((with_reducible refine wl_load_set ?_ G0.out.range ?_); rfl) | ((with_reducible refine wl_eql_set (S := U) ?_ ?_ ?_); rfl; rfl; rw [hd']) | ((with_reducible refine wl_store_set (fun _ => false) ?_ ?_ G1.out ?_); rfl; rfl; intro w1 HS1 HK1))
      refine bodyPost_ret (set_res2 (by rfl) _ (by rfl) HS1.out) rfl ?_
      exact ⟨_, by rw [HE2.out]; rfl, fun h => absurd h (by rw [HE2.out]; decide), GK.out.trans HK1.out (by simp)⟩
    · have HE2 : Hid (chgE S q true = 0) := by show _ = _; rw [HE.out, if_neg hd]
      have hd' : decide (told U = []) = false := by simpa using hd
      clear hd
      go_wp2_with (first | ((with_reducible refine wl_load_set ?_ G0.out.range ?_); rfl) | ((with_reducible refine wl_eql_set (S := U) ?_ ?_ ?_); rfl; rfl; rw [hd']) | ((with_reducible refine wl_store_set U ?_ ?_ G1.out ?_); rfl; rfl; intro w1 HS1 HK1))
      refine bodyPost_ret (set_res2 (by rfl) _ (by rfl) HS1.out) rfl ?_
      exact ⟨U, by rw [HE2.out]; rfl, fun _ => HU.out.symm, GK.out.trans HK1.out (by simp)⟩
  · have HE : Hid (chgE S q false = if told (updB S q false) = [] then 1 else 0) := by show _ = _; simp [chgE, hS]
    clear hS
    generalize hU : updB S q false = U at *
    have HU := hide hU
    clear hU
    by_cases hd : told U = []
    · have HE2 : Hid (chgE S q false = 1) := by show _ = _; rw [HE.out, if_pos hd]
      have hd' : decide (told U = []) = true := by simpa using hd
      clear hd
      go_wp2_with (first | ((with_reducible refine wl_load_set ?_ G0.out.range ?_); rfl) | ((with_reducible refine wl_eql_set (S := U) ?_ ?_ ?_); rfl; rfl; rw [hd']) | ((with_reducible refine wl_store_set (fun _ => false) ?_ ?_ G1.out ?_); rfl; rfl; intro w1 HS1 HK1))
      refine bodyPost_ret (set_res2 (by rfl) _ (by rfl) HS1.out) rfl ?_
      exact ⟨_, by rw [HE2.out]; rfl, fun h => absurd h (by rw [HE2.out]; decide), GK.out.trans HK1.out (by simp)⟩
    · have HE2 : Hid (chgE S q false = 0) := by show _ = _; rw [HE.out, if_neg hd]
      have hd' : decide (told U = []) = false := by simpa using hd
      clear hd
      go_wp2_with (first | ((with_reducible refine wl_load_set ?_ G0.out.range ?_); rfl) | ((with_reducible refine wl_eql_set (S := U) ?_ ?_ ?_); rfl; rfl; rw [hd']) | ((with_reducible refine wl_store_set U ?_ ?_ G1.out ?_); rfl; rfl; intro w1 HS1 HK1))
      refine bodyPost_ret (set_res2 (by rfl) _ (by rfl) HS1.out) rfl ?_
      exact ⟨U, by rw [HE2.out]; rfl, fun _ => HU.out.symm, GK.out.trans HK1.out (by simp)⟩
  · -- there, and added
    have HE : Hid (chgE S q true = 9) := by show _ = _; simp [chgE, hS]
    clear hS
    go_wp2_with ((with_reducible refine wl_store_set (fun _ => false) ?_ ?_ G1.out ?_); rfl; rfl; intro w1 HS1 HK1)
    refine bodyPost_ret (set_res2 (by rfl) _ (by rfl) HS1.out) rfl ?_
    exact ⟨_, by rw [HE.out]; rfl, fun h => absurd h (by rw [HE.out]; decide), GK.out.trans HK1.out (by simp)⟩

end Go.Proofs.Ytddkaagdkmmknab
