/-
  SessionKnown: the walk.
-/
import Derived.Test.YtajkmhepedlmmaaSeLive
namespace Go.Proofs.Ytajkmhepedlmmaa
open Go.RowKit

set_option maxHeartbeats 4000000 in
set_option maxRecDepth 100000 in
theorem sknown_walk (w : World) : Calls Try.prog 3 #[] w fun e w' => e = .returned (.bool true) ∧ Kept [] w w' := by
  have cW := awakeT_call w
  go_enter Try.func3, Try.ntmps3
  go_wp2_with fail
  refine cW.mono ?_
  rintro _ w0 ⟨rfl, hK0⟩
  have cN := liveT_new w0 1 (by omega) (by omega)
  rw [show ((1 : Nat) : Int) = 1 from rfl] at cN
  clear cW
  go_wp2_with fail
  refine cN.mono ?_
  rintro _ w1 ⟨b, rfl, h1⟩
  have cO := liveT_open h1 [97] (by simp) 1
  rw [show openI [97] 1 [] = 1 from rfl] at cO
  unfold str at cO
  clear h1 cN
  go_wp2_with fail
  refine cO.mono ?_
  rintro _ w2 ⟨rfl, h2, _⟩
  have cA := liveT_ask h2 1 0
  rw [show askV 1 0 (openL 1 [97] 1 []) = (vtC 5, true) from by decide, show askL 1 (openL 1 [97] 1 []) = [⟨1, 0, [97], vtC 0⟩] from by decide] at cA
  clear cO h2
  go_wp2_with fail
  refine cA.mono ?_
  rintro _ w3 ⟨⟨a3, n3, c3, rfl, _⟩, h3, _⟩
  have hKa : Kept [] w3 (w3.alloc (.cells #[.int .i64 5, .int .i64 0, .int .i64 0, .string ⟨#[]⟩, .int .u64 0, .slice a3 n3 c3, .int .i64 0] 31)) := (Kept.refl _ _).alloc _
  have HB := hide (heap_alloc_new w3 (.cells #[.int .i64 5, .int .i64 0, .int .i64 0, .string ⟨#[]⟩, .int .u64 0, .slice a3 n3 c3, .int .i64 0] 31))
  have h3b := h3.kept hKa
  have hb3 := h3.lt
  have cP := liveT_open h3b [97] (by simp) 7
  rw [show openI [97] 7 [⟨1, 0, [97], vtC 0⟩] = 1 from by decide, show openL 1 [97] 7 [⟨1, 0, [97], vtC 0⟩] = [⟨1, 0, [97], vtC 0⟩] from by decide] at cP
  unfold str at cP
  unfold vtV vtC
  simp only [str_nil]
  clear cA h3 h3b
  go_wp2_with fail
  refine cP.mono ?_
  rintro _ w4 ⟨rfl, h4, hK4⟩
  have cQ := liveT_open h4 [98] (by simp) 9
  rw [show openI [98] 9 [⟨1, 0, [97], vtC 0⟩] = 9 from by decide, show openL 1 [98] 9 [⟨1, 0, [97], vtC 0⟩] = [⟨9, 0, [98], vtC 0⟩] from by decide] at cQ
  unfold str at cQ
  clear cP h4
  go_wp2_with fail
  refine cQ.mono ?_
  rintro _ w5 ⟨rfl, h5, hK5⟩
  have cR := liveT_ask h5 1 2
  rw [show askV 1 2 [⟨9, 0, [98], vtC 0⟩] = (vtC 6, true) from by decide, show askL 1 [⟨9, 0, [98], vtC 0⟩] = [⟨9, 0, [98], vtC 0⟩] from by decide] at cR
  clear cQ h5
  go_wp2_with fail
  refine cR.mono ?_
  rintro _ w6 ⟨⟨a6, n6, c6, rfl, _⟩, h6, hK6⟩
  have hB6 := hK6.at (hK5.at (hK4.at HB.out (by simp; omega)) (by simp; omega)) (by simp; omega)
  have hKb : Kept [] w6 (w6.alloc (.cells #[.int .i64 6, .int .i64 0, .int .i64 0, .string ⟨#[]⟩, .int .u64 0, .slice a6 n6 c6, .int .i64 0] 31)) := (Kept.refl _ _).alloc _
  have q0 := cell_inC (k := 0) (hKb.at hB6 (by simp)) rfl
  have r0 := cell_inC (k := 0) (heap_alloc_new w6 (.cells #[.int .i64 6, .int .i64 0, .int .i64 0, .string ⟨#[]⟩, .int .u64 0, .slice a6 n6 c6, .int .i64 0] 31)) rfl
  have HK6 := hide (hK0.trans (h6.keeps.trans hKb (by simp)) (by simp))
  have cZ := newT_bad (w6.alloc (.cells #[.int .i64 6, .int .i64 0, .int .i64 0, .string ⟨#[]⟩, .int .u64 0, .slice a6 n6 c6, .int .i64 0] 31)) 0 (by omega)
  unfold vtV vtC
  simp only [str_nil]
  clear cR h6 hB6 hK6 hK5 hK4 hKb hKa hb3 hK0
  go_wp2_with fail
  refine cZ.mono ?_
  rintro _ W ⟨rfl, hW0⟩
  obtain rfl := hW0.symm
  go_wp2_with fail
  go_ret
  exact ⟨rfl, HK6.out⟩

end Go.Proofs.Ytajkmhepedlmmaa
