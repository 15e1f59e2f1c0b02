/-
  awake, and chapter 2's examples.
-/
import Derived.Test.YtlkdmeeifljacaaPaNorm2
namespace Go.Proofs.Ytlkdmeeifljacaa
open Go.RowKit

theorem norm_lit (l : List UInt8) (r : Option (List UInt8)) (h : normB l = r) (w : World) (hl : l.length ≤ 1000000000000) :
    Calls Try.prog 9 #[.string ⟨l.toArray⟩] w fun e w' => e = .returned (tup r) ∧ Kept [] w w' := by
  subst h; exact normal_call l w hl

theorem comp_lit (a b : List UInt8) (r : Int) (h : cmpT a b = r) (w : World) (ha : a.length ≤ 140737488355328) (hb : b.length ≤ 140737488355328) :
    Calls Try.prog 10 #[.string ⟨a.toArray⟩, .string ⟨b.toArray⟩] w fun e w' => e = .returned (.int .i64 r) ∧ Kept [] w w' := by
  subst h; exact compare_call a b w ha hb

theorem tup_lit (l : List UInt8) : tup (some l) = .tuple #[.string ⟨l.toArray⟩, .bool true] := rfl

set_option maxHeartbeats 4000000 in
set_option maxRecDepth 100000 in
theorem awake_call (w : World) :
    Calls Try.prog 8 #[] w fun e w' => e = .returned (.bool true) ∧ Kept [] w w' := by
  go_enter Try.func8, Try.ntmps8
  go_wp2_with fail
  refine (norm_lit [97, 47, 47, 98, 47, 46, 47, 99] (some [97, 47, 98, 47, 99]) (by decide) _ (by decide)).mono ?_
  rintro e w1 ⟨rfl, hK1⟩
  rw [tup_lit]
  go_wp2_with fail
  refine (comp_lit [97, 47, 98] [97, 45, 98] (-1) (by decide) _ (by decide) (by decide)).mono ?_
  rintro e w2 ⟨rfl, hK2⟩
  go_wp2_with fail
  go_ret
  exact ⟨rfl, hK1.trans hK2 (by simp)⟩

end Go.Proofs.Ytlkdmeeifljacaa
