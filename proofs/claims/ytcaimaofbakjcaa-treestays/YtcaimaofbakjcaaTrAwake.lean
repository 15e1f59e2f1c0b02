/-
  awake.
-/
import Derived.Test.YtcaimaofbakjcaaTrRow
namespace Go.Proofs.Ytcaimaofbakjcaa
open Go.RowKit

/-- A tree that was made by puts: its leaves in order, and not deep. -/
def Good (t : Tr) : Prop := Srt t.list ∧ t.bal

theorem good_nil : Good .nil := ⟨by unfold Srt; simp [Tr.list], trivial⟩
theorem Good.put {t : Tr} (h : Good t) (x : Lf) : Good (t.put x) := ⟨put_srt x t h.1, (put_bal x t h.2).1⟩

theorem put_lit (p : List UInt8) (d r : Int) (g : Bool) (w : World) (B : Nat) (q : Option Addr) (t : Tr) (h : TAt B w q t) (hs : t.size ≤ 100000000000) (hp : p.length ≤ 140737488355328) :
    Calls Try.prog 11 #[.pointer q, .agg #[.string ⟨p.toArray⟩, .int .u64 d, .int .i64 r, .bool g]] w fun e w' => ∃ q', e = .returned (.pointer q') ∧ TAt w'.heap.size w' q' (t.put ⟨p, d, r, g⟩) ∧ Kept [] w w' :=
  tPut_call ⟨p, d, r, g⟩ hp B w q t h hs

set_option maxHeartbeats 4000000 in
set_option maxRecDepth 100000 in
theorem awake_call (w : World) :
    Calls Try.prog 9 #[] w fun e w' => e = .returned (.bool true) ∧ Kept [] w w' := by
  go_enter Try.func9, Try.ntmps9
  go_wp2_with fail
  refine (new_call _).mono ?_
  rintro e w1 ⟨a, rfl, hA, hK1⟩
  go_wp2_with fail
  refine (put_lit [98] 0 1 false _ _ a .nil hA (by simp [Tr.size]) (by simp)).mono ?_
  rintro e w2 ⟨b, rfl, hB, hK2⟩
  go_wp2_with fail
  refine (put_lit [97] 0 2 false _ _ b _ hB (by decide) (by simp)).mono ?_
  rintro e w3 ⟨c, rfl, hC, hK3⟩
  have g1 : Good (Tr.put ⟨[98], 0, 1, false⟩ .nil) := good_nil.put _
  have g2 : Good (Tr.put ⟨[97], 0, 2, false⟩ (Tr.put ⟨[98], 0, 1, false⟩ .nil)) := g1.put _
  have e1 : (Tr.put ⟨[98], 0, 1, false⟩ .nil).list = [⟨[98], 0, 1, false⟩] := by decide
  have e2 : (Tr.put ⟨[97], 0, 2, false⟩ (Tr.put ⟨[98], 0, 1, false⟩ .nil)).list = [⟨[97], 0, 2, false⟩, ⟨[98], 0, 1, false⟩] := by decide
  have cl := tAll_call _ w3 c _ hC (by decide) g2.1
  rw [e2] at cl
  have cn := tLen_call _ w1 a .nil hA
  go_wp2_with fail
  refine cl.mono ?_
  rintro e w4 ⟨l, rfl, hL, hK4⟩
  have hA4 := (hA.kept hK2).kept hK3 |>.kept hK4
  have hB4 := (hB.kept hK3).kept hK4
  have n0 := tLen_call _ w4 a .nil hA4
  have n1 := tLen_call _ w4 b _ hB4
  have cb := tAll_call _ w4 b _ hB4 (by decide) g1.1
  rw [e1] at cb
  rw [show ((Tr.put ⟨[98], 0, 1, false⟩ .nil).size : Int) = 1 by decide] at n1
  rw [show (Tr.nil.size : Int) = 0 by decide] at n0
  obtain ⟨ao, cc, rfl, hS⟩ := hL.sl
  obtain ⟨lb, lo, rfl, hcell⟩ := hS.some (by decide)
  have c0 := (hcell 0 (by decide)).c0
  have hc2 := hS.2.1
  rw [Nat.zero_mul, Nat.add_zero] at c0
  replace c0 : w4.cell? ⟨lb, lo, none⟩ = some (.string ⟨#[97]⟩) := c0
  clear hS hcell cl cn hA hB hC hL
  go_wp2_with fail
  refine n0.mono ?_
  rintro e w' ⟨rfl, rfl⟩
  go_wp2_with fail
  refine n1.mono ?_
  rintro e w' ⟨rfl, rfl⟩
  go_wp2_with fail
  refine cb.mono ?_
  rintro e w5 ⟨l5, rfl, hL5, hK5⟩
  obtain ⟨ao5, cc5, rfl, hS5⟩ := hL5.sl
  go_wp2_with fail
  go_ret
  exact ⟨rfl, (((hK1.trans hK2 (by simp)).trans hK3 (by simp)).trans hK4 (by simp)).trans hK5 (by simp)⟩

end Go.Proofs.Ytcaimaofbakjcaa
