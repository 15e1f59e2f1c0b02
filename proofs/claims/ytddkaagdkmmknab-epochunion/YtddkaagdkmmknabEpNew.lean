/-
  New.
-/
import Derived.Test.YtddkaagdkmmknabEpStep
import Derived.Test.YtddkaagdkmmknabEpPlace
import Derived.Test.YtddkaagdkmmknabEpOf
namespace Go.Proofs.Ytddkaagdkmmknab
open Go.RowKit

theorem wl_build0 {ops : Array Oper} {rest : List Oper} {a : Act} {w : World} {Q : Exit → Act → World → Prop} {d : Option Tmp} {x : Operand} {ty : TypeId} {ps : String} {af : Array Edge}
    {S : Nat → Bool} (hx : a.eval x = setV S) (h : wpList Try.prog ops Q rest (a.put d (spV 0 S)) w) : wpList Try.prog ops Q (⟨d, .build 43 #[(1, x)], ty, ps, af, none⟩ :: rest) a w :=
  wpList_plain rfl fun _ hK => by
    unfold Oper.wp execOp
    simp only [List.map_toArray, List.map_cons, List.map_nil, hx, Sem.run_bind, build_span0, Result.andThen_ok, Sem.run_pure]
    exact hK _ _ h

theorem wl_slice {ops : Array Oper} {rest : List Oper} {a : Act} {w : World} {Q : Exit → Act → World → Prop} {d : Option Tmp} {x : Operand} {ty : TypeId} {ps : String} {af : Array Edge}
    {f : Int} {S : Nat → Bool} (hx : a.eval x = spV f S) (h : ∀ w', Hid (SpAt w' w.heap.size f S) → Hid (Kept [] w w') → w'.heap.size = w.heap.size + 1 → wpList Try.prog ops Q rest (a.put d (.slice (some ⟨w.heap.size, 0, none⟩) 1 1)) w') : wpList Try.prog ops Q (⟨d, .buildSlice 44 1 #[(0, x)], ty, ps, af, none⟩ :: rest) a w :=
  wpList_plain rfl fun _ hK => by
    unfold Oper.wp execOp
    simp only [List.map_toArray, List.map_cons, List.map_nil, hx, Sem.run_bind, slice_span, Result.andThen_ok, Sem.run_pure]
    exact hK _ _ (h _ (heap_alloc_new w _) ((Kept.refl _ _).alloc _) (by simp))

theorem SpAt.row {B : Nat} {w : World} {b : Nat} {x : Ep} (h : SpAt w b x.f (setB x.m)) (hB : B ≤ b) : RowE B w (.slice (some ⟨b, 0, none⟩) 1 1) [x] :=
  ⟨by simp [epC, spC_len], .inr ⟨b, 1, _, rfl, hB, h, Nat.le_refl _, by decide, by simp [spC_len], by simp only [List.flatMap_cons, List.flatMap_nil, List.append_nil]; exact List.take_of_length_le (by simp [spC_len])⟩⟩

def NewP (m : List Int) (al : Int) (w : World) (e : Ending) (w' : World) : Prop :=
  ((May m ∧ 1 ≤ al ∧ al ≤ 8) ∧ ∃ p : Nat, e = .returned (.tuple #[.pointer (some ⟨p, 0, none⟩), .int .i64 0]) ∧ EpA w.heap.size w' p al [⟨0, m⟩] ∧ Kept [] w w') ∨
  (¬ (May m ∧ 1 ≤ al ∧ al ≤ 8) ∧ e = .returned (.tuple #[.pointer none, .int .i64 1]) ∧ Kept [] w w')

set_option maxHeartbeats 4000000 in
set_option maxRecDepth 100000 in
theorem newE_call (w : World) (ao : Option Addr) (n c : Nat) (m : List Int) (hS : SlI w ao n c m) (al : Int) :
    Calls Try.prog 5 #[.slice ao n c, .int .i64 al] w fun e w' => NewP m al w e w' := by
  have cS := setOf_call w ao n c m hS
  have cA := fun W => isAlpha_call W al
  clear hS
  go_enter Try.func5, Try.ntmps5
  go_upto_region 2 with (first | ((with_reducible refine wl_store_set S ?_ ?_ HX6 ?_); rfl; rfl; intro w7 HS7 HK7a) | (go_at_call 10; refine cS.mono ?_; clear cS; rintro _ w6 ⟨S, rfl, hS6, hK6⟩; have HX6 : SetAt (w6.alloc (.cells #[.bool false, .bool false, .bool false, .bool false, .bool false, .bool false, .bool false, .bool false, .bool false, .bool false, .bool false, .bool false, .bool false, .bool false, .bool false] 38)) w6.heap.size (fun _ => false) := heap_alloc_new w6 _))
  have HK7 : Hid (Kept [] w w7) := (hK6.alloc _).trans HK7a.out (fun i hi => .inr (by simp at hi; subst hi; exact hK6.size))
  have HSm := hide hS6
  have h67 : w.heap.size ≤ w6.heap.size := hK6.size
  clear hS6 hK6 HK7a HX6
  generalize w6.heap.size = b6 at *
  by_cases hm : May m
  · by_cases ha : 1 ≤ al ∧ al ≤ 8
    · have cA1 := cA w7
      rw [show decide (1 ≤ al ∧ al ≤ 8) = true by simpa using ha] at cA1
      have HE : Hid (setB m = S) := (HSm.out hm).symm
      rw [show decide (May m) = true by simpa using hm]
      have HM := hide (show May m ∧ 1 ≤ al ∧ al ≤ 8 from ⟨hm, ha⟩)
      clear hm ha HSm
      go_wp2_with (first | ((with_reducible refine wl_load_set ?_ HS7.out.range ?_); rfl) | ((with_reducible refine wl_build0 (S := S) ?_ ?_); rfl) | ((with_reducible refine wl_slice (f := 0) (S := S) ?_ ?_); rfl; intro w8 HS8 HK8 hz8) | (go_at_call 11; refine cA1.mono ?_; clear cA1; rintro _ _ ⟨rfl, rfl⟩))
      go_ret2
      refine .inl ⟨HM.out, w8.heap.size, by rw [hz8]; rfl, ⟨_, ?_, heap_alloc_new w8 _, ?_⟩, (HK7.out.trans HK8.out (by simp)).alloc _⟩
      · exact Nat.le_trans HK7.out.size HK8.out.size
      · have h1 : SpAt w8 w7.heap.size (0 : Int) (setB m) := by rw [HE.out]; exact HS8.out
        exact ((Kept.refl [] w8).alloc _).ownsRow (SpAt.row (x := ⟨0, m⟩) h1 HK7.out.size) (by simp)
    · have cA1 := cA w7
      rw [show decide (1 ≤ al ∧ al ≤ 8) = false by simpa using ha] at cA1
      rw [show decide (May m) = true by simpa using hm]
      have HM := hide (show ¬ (May m ∧ 1 ≤ al ∧ al ≤ 8) from fun h => ha h.2)
      clear hm ha HSm
      go_wp2_with (go_at_call 11; refine cA1.mono ?_; clear cA1; rintro _ _ ⟨rfl, rfl⟩)
      go_ret2
      exact .inr ⟨HM.out, rfl, HK7.out⟩
  · rw [show decide (May m) = false by simpa using hm]
    have HM := hide (show ¬ (May m ∧ 1 ≤ al ∧ al ≤ 8) from fun h => hm h.1)
    clear hm HSm
    go_wp2_with fail
    go_ret2
    exact .inr ⟨HM.out, rfl, HK7.out⟩

end Go.Proofs.Ytddkaagdkmmknab
