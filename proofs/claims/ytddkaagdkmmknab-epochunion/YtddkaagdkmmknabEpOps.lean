/-
  Operations on sets and epochs as values.
-/
import Derived.Test.YtddkaagdkmmknabEpSet
import Derived.Great.Ranges
import Derived.ChangeKeysEq
import Derived.Laws.StructEq
namespace Go.Proofs.Ytddkaagdkmmknab
open Go.RowKit

theorem build_span (w : World) (f : Int) (S : Nat → Bool) : (Instr.build 43 #[(0, .int .i64 f), (1, setV S)]).run Try.prog w = .ok (spV f S) w := by kernel_rfl

theorem build_span0 (w : World) (S : Nat → Bool) : (Instr.build 43 #[(1, setV S)]).run Try.prog w = .ok (spV 0 S) w := by kernel_rfl

theorem slice_span (w : World) (f : Int) (S : Nat → Bool) : (Instr.buildSlice 44 1 #[(0, spV f S)]).run Try.prog w = .ok (.slice (some ⟨w.heap.size, 0, none⟩) 1 1) (w.alloc (.cells (spC f S).toArray 43)) := by kernel_rfl

theorem part_set (w : World) (S : Nat → Bool) {i : Nat} (h : i < 15) : (part 4 (setC S).toArray i).run Try.prog w = .ok (.bool (S i)) w := by
  simp [part, Sem.run_bind, setC_get S h]

theorem cells_bool : Try.prog.cellsOf 4 = 1 := by kernel_rfl

theorem eq_items (w : World) (d : Nat) (S T : Nat → Bool) : ∀ (is : List Nat), (∀ i ∈ is, i < 15) → (Op.eqItems (d + 1) 4 1 (setC S).toArray (setC T).toArray is).run Try.prog w = .ok (is.all fun i => S i == T i) w
  | [], _ => by simp [Op.eqItems]
  | i :: is, h => by
    have hi := h i (by simp)
    have ih := eq_items w d S T is (fun j hj => h j (by simp [hj]))
    simp only [Op.eqItems, Sem.run_bind, Nat.mul_one, part_set w _ hi, run_equalIn_bool' w d 4 (S i) (T i) Try.underlying4, Result.andThen_ok, List.all_cons]
    cases hb : (S i == T i)
    · simp
    · simpa using ih

/-- Are two sets the same? -/
theorem eq_sets (w : World) (S T : Nat → Bool) : (binOp .eql 38 (setV S) (setV T)).run Try.prog w = .ok (.bool ((List.range 15).all fun i => S i == T i)) w := by
  unfold setV
  obtain ⟨i0, hi⟩ : ∃ i, Try.prog.info? 4 = some i := by
    have := cells_bool
    cases h : Try.prog.info? 4 with
    | none => simp [Program.cellsOf, h] at this
    | some i => exact ⟨i, rfl⟩
  rw [run_eql_struct, run_equalIn_array (P := Try.prog) w 9999 (setC S).toArray (setC T).toArray (t := 38) Try.underlying38 hi, cells_bool, eq_items w 9998 S T (List.range 15) (fun i h => by simpa using h)]
  rfl

theorem all_void (S : Nat → Bool) : ((List.range 15).all fun i => S i == false) = decide (told S = []) := by
  rw [Bool.eq_iff_iff]
  simp only [List.all_eq_true, List.mem_range, decide_eq_true_eq, beq_iff_eq]
  refine ⟨fun h => ?_, fun h k hk => ?_⟩
  · cases ht : told S with
    | nil => rfl
    | cons x l =>
      obtain ⟨k, _, h1, h2⟩ := mem_told.1 (show x ∈ told S by rw [ht]; simp)
      rw [h k h1] at h2
      cases h2
  · cases hs : S k with
    | false => rfl
    | true =>
      have := mem_told.2 ⟨k, rfl, hk, hs⟩
      rw [h] at this
      simp at this

theorem guard_type : Try.prog.eqGuardType Try.prog.depth 38 = false := by kernel_rfl

theorem guard_set (x y : Operand) (S T : Nat → Bool) (w : World) : (eqGuard .eql 38 x y (setV S) (setV T)).run Try.prog w = .ok () w :=
  run_eqGuard_agg (P := Try.prog) w .eql 38 x y (setC S).toArray (setC T).toArray guard_type

/-- A set is put beside none. -/
theorem wl_eql_set {ops : Array Oper} {rest : List Oper} {a : Act} {w : World} {Q : Exit → Act → World → Prop} {d : Option Tmp} {x y : Operand} {ty : TypeId} {ps : String} {af : Array Edge}
    {S : Nat → Bool} (hx : a.eval x = setV S) (hy : a.eval y = setV fun _ => false) (h : wpList Try.prog ops Q rest (a.put d (.bool (decide (told S = [])))) w) : wpList Try.prog ops Q (⟨d, .binOp .eql 38 x y 38, ty, ps, af, none⟩ :: rest) a w :=
  wpList_plain rfl fun _ hK => by
    unfold Oper.wp execOp
    simp only [hx, hy, Sem.run_bind, guard_set, Result.andThen_ok, eq_sets, all_void]
    exact hK _ _ h

theorem index_set (w : World) (S : Nat → Bool) {i : Nat} (hi : i < 15) : (Instr.index 38 (setV S) (.int .i64 (i : Int))).run Try.prog w = .ok (.bool (S i)) w := by
  unfold setV
  have h2 : (0 : Int) ≤ (i : Int) ∧ (i : Int) < ((15 : Nat) : Int) := by omega
  have h3 : (sizeOf 4).run Try.prog w = .ok 1 w := by kernel_rfl
  simp only [Instr.index, asIntOf, Sem.run_bind, Sem.run_pure, Result.andThen_ok, run_underlying Try.underlying38 w]
  rw [if_pos h2]
  simp only [Sem.run_bind, h3, Result.andThen_ok, Nat.mul_one, Int.toNat_natCast]
  exact part_set w S hi

/-- A set's cell, by its number. -/
theorem wl_index_set {ops : Array Oper} {rest : List Oper} {a : Act} {w : World} {Q : Exit → Act → World → Prop} {d : Option Tmp} {x y : Operand} {ty : TypeId} {ps : String} {af : Array Edge}
    {S : Nat → Bool} {i : Nat} (hx : a.eval x = setV S) (hy : a.eval y = .int .i64 (i : Int)) (hi : i < 15) (h : wpList Try.prog ops Q rest (a.put d (.bool (S i))) w) : wpList Try.prog ops Q (⟨d, .index 38 x y, ty, ps, af, none⟩ :: rest) a w :=
  wpList_plain rfl fun _ hK => by
    unfold Oper.wp execOp
    simp only [hx, hy, Sem.run_bind, index_set w S hi, Result.andThen_ok]
    exact hK _ _ h

/-- A set is laid into a new block. -/
theorem wl_box_set {ops : Array Oper} {rest : List Oper} {a : Act} {w : World} {Q : Exit → Act → World → Prop} {d : Option Tmp} {x : Operand} {ty : TypeId} {ps : String} {af : Array Edge}
    {S : Nat → Bool} (hx : a.eval x = setV S) (h : ∀ w', Hid (SetAt w' w.heap.size S) → Hid (Kept [] w w') → w'.heap.size = w.heap.size + 1 → wpList Try.prog ops Q rest (a.put d (.pointer (some ⟨w.heap.size, 0, none⟩))) w') : wpList Try.prog ops Q (⟨d, .box 38 x, ty, ps, af, none⟩ :: rest) a w :=
  Great.wpList_boxTo rfl _ x rfl d rfl _ rfl (setC S).toArray (by rw [hx]; rfl) (h _ (heap_alloc_new w _) ((Kept.refl _ _).alloc _) (by simp))

end Go.Proofs.Ytddkaagdkmmknab
