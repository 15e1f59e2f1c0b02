/-
  The turns of a node, and level.
-/
import Derived.Test.YtcaimaofbakjcaaTrJoin
namespace Go.Proofs.Ytcaimaofbakjcaa
open Go.RowKit

/-- What a call leaves that makes a tree: it stands at what is returned, and all that was there is as it was. -/
def Made (w : World) (t : Tr) (e : Ending) (w' : World) : Prop := ∃ p, e = .returned (.pointer p) ∧ NAt w'.heap.size w' p t ∧ Kept [] w w'

theorem join_made (B : Nat) (w : World) (pl pr : Option Addr) (l r : Tr) (x : Lf) (hl : NAt B w pl l) (hr : NAt B w pr r) (hs : l.size + r.size ≤ 1000000000000) (hx : x.p.length ≤ 140737488355328) :
    Calls Try.prog 44 #[.pointer pl, lfV x, .pointer pr] w (Made w (.node l x r)) :=
  (join_call B w pl pr l r x hl hr hs hx).mono fun _ _ ⟨_, he, _, hN, hK⟩ => ⟨_, he, hN, hK⟩

set_option maxHeartbeats 4000000 in
set_option maxRecDepth 100000 in
theorem turnR_call (B : Nat) (w : World) (p : Option Addr) (a b r : Tr) (y x : Lf) (h : NAt B w p (.node (.node a y b) x r)) (hs : (Tr.size (.node (.node a y b) x r)) ≤ 1000000000000) :
    Calls Try.prog 56 #[.pointer p] w (Made w (.node a y (.node b x r))) := by
  obtain ⟨g, pl, pr, rfl, hg, h0, hx, hl, hr⟩ := h
  obtain ⟨u, pa, pb, rfl, hu, k0, hy, ha, hb⟩ := hl
  obtain ⟨c0, c1, c2, c3, c4, c5, _, _⟩ := cells8 h0
  obtain ⟨d0, d1, d2, d3, d4, d5, _, _⟩ := cells8 k0
  simp only [Tr.size] at hs
  have j1 := fun w' (hk : Kept [] w w') => join_made B w' pb pr b r x (hb.kept hk) (hr.kept hk) (by omega) hx
  have j2 := fun w' q (hk : Kept [] w w') (hq : NAt w'.heap.size w' q (.node b x r)) => join_made w'.heap.size w' pa q a (.node b x r) y (ha.kept hk).full hq (by simp only [Tr.size]; omega) hy
  unfold lfV at j1 j2
  clear h0 k0 ha hb hs hx hy hg hu
  go_enter Try.func56, Try.ntmps56
  go_wp2_with fail
  go_region_held3 (fun w' => w'.cell? ⟨g, 0, none⟩ = some (.string (str x.p)) ∧ w'.cell? ⟨g, 1, none⟩ = some (.int .u64 x.d) ∧ w'.cell? ⟨g, 2, none⟩ = some (.int .i64 x.r) ∧ w'.cell? ⟨g, 3, none⟩ = some (.bool x.g) ∧ w'.cell? ⟨g, 4, none⟩ = some (.pointer (some ⟨u, 0, none⟩)) ∧ w'.cell? ⟨g, 5, none⟩ = some (.pointer pr) ∧ w'.cell? ⟨u, 0, none⟩ = some (.string (str y.p)) ∧ w'.cell? ⟨u, 1, none⟩ = some (.int .u64 y.d) ∧ w'.cell? ⟨u, 2, none⟩ = some (.int .i64 y.r) ∧ w'.cell? ⟨u, 3, none⟩ = some (.bool y.g) ∧ w'.cell? ⟨u, 4, none⟩ = some (.pointer pa) ∧ w'.cell? ⟨u, 5, none⟩ = some (.pointer pb))
    (first | go_keep | exact ⟨hK1.cell c0 (by simp), hK1.cell c1 (by simp), hK1.cell c2 (by simp), hK1.cell c3 (by simp), hK1.cell c4 (by simp), hK1.cell c5 (by simp), hK1.cell d0 (by simp), hK1.cell d1 (by simp), hK1.cell d2 (by simp), hK1.cell d3 (by simp), hK1.cell d4 (by simp), hK1.cell d5 (by simp)⟩)
    (first
      | (go_at_call_of 44 pb; refine (j1 _ ?_).mono ?_; exact (Kept.refl _ _).drew; rintro e w1 ⟨q, rfl, hq, hK1⟩; replace hK1 : Kept [] w w1 := (Kept.refl [] w).drew.trans hK1 (by simp))
      | (go_at_call_of 44 pa; refine (j2 _ q ?_ ?_).mono ?_; exact hK1; exact hq; rintro e w2 ⟨q2, rfl, hq2, hK2⟩; replace hK1 := hK1.trans hK2 (by simp)))
  all_goals go_wp2
  all_goals go_ret
  all_goals exact ⟨_, rfl, hq2, hK1⟩

set_option maxHeartbeats 4000000 in
set_option maxRecDepth 100000 in
theorem turnL_call (B : Nat) (w : World) (p : Option Addr) (a b r : Tr) (y x : Lf) (h : NAt B w p (.node r x (.node a y b))) (hs : (Tr.size (.node r x (.node a y b))) ≤ 1000000000000) :
    Calls Try.prog 58 #[.pointer p] w (Made w (.node (.node r x a) y b)) := by
  obtain ⟨g, pl, pr, rfl, hg, h0, hx, hl, hr⟩ := h
  obtain ⟨u, pa, pb, rfl, hu, k0, hy, ha, hb⟩ := hr
  obtain ⟨c0, c1, c2, c3, c4, c5, _, _⟩ := cells8 h0
  obtain ⟨d0, d1, d2, d3, d4, d5, _, _⟩ := cells8 k0
  simp only [Tr.size] at hs
  have j1 := fun w' (hk : Kept [] w w') => join_made B w' pl pa r a x (hl.kept hk) (ha.kept hk) (by omega) hx
  have j2 := fun w' q (hk : Kept [] w w') (hq : NAt w'.heap.size w' q (.node r x a)) => join_made w'.heap.size w' q pb (.node r x a) b y hq (hb.kept hk).full (by simp only [Tr.size]; omega) hy
  unfold lfV at j1 j2
  clear h0 k0 ha hb hs hx hy hg hu
  go_enter Try.func58, Try.ntmps58
  go_wp2_with fail
  go_region_held3 (fun w' => w'.cell? ⟨g, 0, none⟩ = some (.string (str x.p)) ∧ w'.cell? ⟨g, 1, none⟩ = some (.int .u64 x.d) ∧ w'.cell? ⟨g, 2, none⟩ = some (.int .i64 x.r) ∧ w'.cell? ⟨g, 3, none⟩ = some (.bool x.g) ∧ w'.cell? ⟨g, 4, none⟩ = some (.pointer pl) ∧ w'.cell? ⟨g, 5, none⟩ = some (.pointer (some ⟨u, 0, none⟩)) ∧ w'.cell? ⟨u, 0, none⟩ = some (.string (str y.p)) ∧ w'.cell? ⟨u, 1, none⟩ = some (.int .u64 y.d) ∧ w'.cell? ⟨u, 2, none⟩ = some (.int .i64 y.r) ∧ w'.cell? ⟨u, 3, none⟩ = some (.bool y.g) ∧ w'.cell? ⟨u, 4, none⟩ = some (.pointer pa) ∧ w'.cell? ⟨u, 5, none⟩ = some (.pointer pb))
    (first | go_keep | exact ⟨hK1.cell c0 (by simp), hK1.cell c1 (by simp), hK1.cell c2 (by simp), hK1.cell c3 (by simp), hK1.cell c4 (by simp), hK1.cell c5 (by simp), hK1.cell d0 (by simp), hK1.cell d1 (by simp), hK1.cell d2 (by simp), hK1.cell d3 (by simp), hK1.cell d4 (by simp), hK1.cell d5 (by simp)⟩)
    (first
      | (go_at_call_of 44 pa; refine (j1 _ ?_).mono ?_; exact (Kept.refl _ _).drew; rintro e w1 ⟨q, rfl, hq, hK1⟩; replace hK1 : Kept [] w w1 := (Kept.refl [] w).drew.trans hK1 (by simp))
      | (go_at_call_of 44 pb; refine (j2 _ q ?_ ?_).mono ?_; exact hK1; exact hq; rintro e w2 ⟨q2, rfl, hq2, hK2⟩; replace hK1 := hK1.trans hK2 (by simp)))
  all_goals go_wp2
  all_goals go_ret
  all_goals exact ⟨_, rfl, hq2, hK1⟩

end Go.Proofs.Ytcaimaofbakjcaa
