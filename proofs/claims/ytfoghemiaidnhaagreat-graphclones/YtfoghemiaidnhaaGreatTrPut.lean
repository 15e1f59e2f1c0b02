/-
  put: one leaf more.
-/
import Derived.Test.YtfoghemiaidnhaaGreatM4
import Derived.Test.YtfoghemiaidnhaaGreatPaComp
namespace Go.Proofs.YtfoghemiaidnhaaGreat
open Go.RowKit

theorem level_size (t : Tr) : t.level.size = t.size := by rw [← tr_size, ← tr_size, level_list]

theorem put_size (x : Lf) (t : Tr) : t.size ≤ (t.put x).size ∧ (t.put x).size ≤ t.size + 1 := by
  induction t with
  | nil => simp [Tr.put, Tr.size]
  | node l y r h1 h2 =>
    simp only [Tr.put]
    split
    · rw [level_size]; simp only [Tr.size]; omega
    · split
      · rw [level_size]; simp only [Tr.size]; omega
      · simp only [Tr.size]; omega

set_option maxHeartbeats 8000000 in
set_option maxRecDepth 100000 in
theorem put_call (x : Lf) (hx : x.p.length ≤ 140737488355328) (t : Tr) : ∀ (B : Nat) (w : World) (p : Option Addr), NAt B w p t → t.size ≤ 100000000000 →
    Calls Tryz.prog 87 #[.pointer p, lfV x] w (Made w (t.put x)) := by
  induction t with
  | nil =>
    intro B w p h hs
    obtain rfl : p = none := h
    have j1 := fun w' => join_made 0 w' none none .nil .nil x rfl rfl (by simp [Tr.size]) hx
    have ev : Tr.put x .nil = .node .nil x .nil := rfl
    rw [ev]
    have hK0 := (Kept.refl [] w).alloc (.cells #[.string (str x.p), .int .u64 x.d, .int .i64 x.r, .bool x.g] 79)
    unfold lfV at j1 ⊢
    go_enter Tryz.func87, Tryz.ntmps87
    go_wp2_with fail
    refine (j1 _).mono ?_
    rintro e w1 ⟨q, rfl, hq, hK⟩
    go_wp2_with fail
    go_ret
    exact ⟨_, rfl, hq, hK0.trans hK (by simp)⟩
  | node l y r ihl ihr =>
    intro B w p h hs
    obtain ⟨g, pl, pr, rfl, hg, h0, hy, hl, hr⟩ := h
    obtain ⟨c0, c1, c2, c3, c4, c5, _, _⟩ := cells8 h0
    have hK0 := (Kept.refl [] w).alloc (.cells #[.string (str x.p), .int .u64 x.d, .int .i64 x.r, .bool x.g] 79)
    obtain ⟨b0, b1, b2, b3⟩ := cells4 (heap_alloc_new w (.cells #[.string (str x.p), .int .u64 x.d, .int .i64 x.r, .bool x.g] 79))
    have cc := fun w' => compare_call x.p y.p w' hx hy
    simp only [Tr.size] at hs
    have p1 := put_size x l
    have p2 := put_size x r
    rcases cmpT_vals x.p y.p with e | e | e
    · have ev : Tr.put x (.node l y r) = Tr.level (.node (l.put x) y r) := by simp only [Tr.put]; rw [if_pos e]
      rw [ev]
      rw [e] at cc
      have j1 := fun w' (hk : Kept [] w w') => ihl B w' pl (hl.kept hk) (by omega)
      have j2 := fun w' q (hk : Kept [] w w') (hq : NAt w'.heap.size w' q (l.put x)) => join_made w'.heap.size w' q pr (l.put x) r y hq (hr.kept hk).full (by omega) hy
      have j3 := fun w' q (hq : NAt w'.heap.size w' q (.node (l.put x) y r)) => level_call w'.heap.size w' q (l.put x) r y hq (by simp only [Tr.size]; omega)
      unfold lfV at j1 j2 ⊢
      clear h0 hs hy hg hl hr ihl ihr e ev p1 p2
      go_enter Tryz.func87, Tryz.ntmps87
      go_wp2_with fail
      go_region_held3 (fun w' => w'.cell? ⟨g, 0, none⟩ = some (.string (str y.p)) ∧ w'.cell? ⟨g, 1, none⟩ = some (.int .u64 y.d) ∧ w'.cell? ⟨g, 2, none⟩ = some (.int .i64 y.r) ∧ w'.cell? ⟨g, 3, none⟩ = some (.bool y.g) ∧ w'.cell? ⟨g, 4, none⟩ = some (.pointer pl) ∧ w'.cell? ⟨g, 5, none⟩ = some (.pointer pr) ∧ w'.cell? ⟨w.heap.size, 0, none⟩ = some (.string (str x.p)) ∧ w'.cell? ⟨w.heap.size, 1, none⟩ = some (.int .u64 x.d) ∧ w'.cell? ⟨w.heap.size, 2, none⟩ = some (.int .i64 x.r) ∧ w'.cell? ⟨w.heap.size, 3, none⟩ = some (.bool x.g))
        (first | go_keep | exact ⟨hK1.cell c0 (by simp), hK1.cell c1 (by simp), hK1.cell c2 (by simp), hK1.cell c3 (by simp), hK1.cell c4 (by simp), hK1.cell c5 (by simp), hKb.cell b0 (by simp), hKb.cell b1 (by simp), hKb.cell b2 (by simp), hKb.cell b3 (by simp)⟩)
        (first
          | (go_at_call 60; refine (cc _).mono ?_; rintro e w1 ⟨rfl, hKb⟩; have hK1 : Kept [] w w1 := hK0.drew.trans hKb (by simp)))
      all_goals
        go_wp2_with fail
      have m0 := hK1.cell c0 (by simp)
      have m1 := hK1.cell c1 (by simp)
      have m2 := hK1.cell c2 (by simp)
      have m3 := hK1.cell c3 (by simp)
      have m4 := hK1.cell c4 (by simp)
      have m5 := hK1.cell c5 (by simp)
      have n0 := hKb.cell b0 (by simp)
      have n1 := hKb.cell b1 (by simp)
      have n2 := hKb.cell b2 (by simp)
      have n3 := hKb.cell b3 (by simp)
      clear c0 c1 c2 c3 c4 c5 b0 b1 b2 b3 hKb hK0
      go_region_held3 (fun w' => w'.cell? ⟨g, 0, none⟩ = some (.string (str y.p)) ∧ w'.cell? ⟨g, 1, none⟩ = some (.int .u64 y.d) ∧ w'.cell? ⟨g, 2, none⟩ = some (.int .i64 y.r) ∧ w'.cell? ⟨g, 3, none⟩ = some (.bool y.g) ∧ w'.cell? ⟨g, 4, none⟩ = some (.pointer pl) ∧ w'.cell? ⟨g, 5, none⟩ = some (.pointer pr) ∧ w'.cell? ⟨w.heap.size, 0, none⟩ = some (.string (str x.p)) ∧ w'.cell? ⟨w.heap.size, 1, none⟩ = some (.int .u64 x.d) ∧ w'.cell? ⟨w.heap.size, 2, none⟩ = some (.int .i64 x.r) ∧ w'.cell? ⟨w.heap.size, 3, none⟩ = some (.bool x.g))
        (first | go_keep | exact ⟨hKc.cell m0 (by simp), hKc.cell m1 (by simp), hKc.cell m2 (by simp), hKc.cell m3 (by simp), hKc.cell m4 (by simp), hKc.cell m5 (by simp), hKc.cell n0 (by simp), hKc.cell n1 (by simp), hKc.cell n2 (by simp), hKc.cell n3 (by simp)⟩)
        (first
          | (go_at_call 87; refine (j1 _ ?_).mono ?_; exact hK1.drew; rintro e w2 ⟨q, rfl, hq, hKc⟩; replace hK1 : Kept [] w w2 := hK1.drew.trans hKc (by simp); replace hKc : Kept [] w1 w2 := (Kept.refl [] w1).drew.trans hKc (by simp))
          | (go_at_call 103; refine (j2 _ q ?_ ?_).mono ?_; exact hK1; exact hq; rintro e w3 ⟨q2, rfl, hq2, hK2⟩; replace hK1 := hK1.trans hK2 (by simp); replace hKc := hKc.trans hK2 (by simp))
          | (go_at_call 104; refine (j3 _ q2 ?_).mono ?_; exact hq2; rintro e w4 ⟨q3, rfl, hq3, hK3⟩; replace hK1 := hK1.trans hK3 (by simp); replace hKc := hKc.trans hK3 (by simp)))
      all_goals go_wp2
      all_goals go_ret
      all_goals exact ⟨_, rfl, hq3, hK1⟩
    · have ev : Tr.put x (.node l y r) = .node l x r := by simp only [Tr.put]; rw [if_neg (by omega), if_neg (by omega)]
      rw [ev]
      rw [e] at cc
      have j2 := fun w' (hk : Kept [] w w') => join_made B w' pl pr l r x (hl.kept hk) (hr.kept hk) (by omega) hx
      unfold lfV at j2 ⊢
      clear h0 hs hy hg hl hr ihl ihr e ev p1 p2
      go_enter Tryz.func87, Tryz.ntmps87
      go_wp2_with fail
      go_region_held3 (fun w' => w'.cell? ⟨g, 0, none⟩ = some (.string (str y.p)) ∧ w'.cell? ⟨g, 1, none⟩ = some (.int .u64 y.d) ∧ w'.cell? ⟨g, 2, none⟩ = some (.int .i64 y.r) ∧ w'.cell? ⟨g, 3, none⟩ = some (.bool y.g) ∧ w'.cell? ⟨g, 4, none⟩ = some (.pointer pl) ∧ w'.cell? ⟨g, 5, none⟩ = some (.pointer pr) ∧ w'.cell? ⟨w.heap.size, 0, none⟩ = some (.string (str x.p)) ∧ w'.cell? ⟨w.heap.size, 1, none⟩ = some (.int .u64 x.d) ∧ w'.cell? ⟨w.heap.size, 2, none⟩ = some (.int .i64 x.r) ∧ w'.cell? ⟨w.heap.size, 3, none⟩ = some (.bool x.g))
        (first | go_keep | exact ⟨hK1.cell c0 (by simp), hK1.cell c1 (by simp), hK1.cell c2 (by simp), hK1.cell c3 (by simp), hK1.cell c4 (by simp), hK1.cell c5 (by simp), hKb.cell b0 (by simp), hKb.cell b1 (by simp), hKb.cell b2 (by simp), hKb.cell b3 (by simp)⟩)
        (first
          | (go_at_call 60; refine (cc _).mono ?_; rintro e w1 ⟨rfl, hKb⟩; have hK1 : Kept [] w w1 := hK0.drew.trans hKb (by simp)))
      all_goals
        go_wp2_with fail
      have m0 := hK1.cell c0 (by simp)
      have m1 := hK1.cell c1 (by simp)
      have m2 := hK1.cell c2 (by simp)
      have m3 := hK1.cell c3 (by simp)
      have m4 := hK1.cell c4 (by simp)
      have m5 := hK1.cell c5 (by simp)
      have n0 := hKb.cell b0 (by simp)
      have n1 := hKb.cell b1 (by simp)
      have n2 := hKb.cell b2 (by simp)
      have n3 := hKb.cell b3 (by simp)
      clear c0 c1 c2 c3 c4 c5 b0 b1 b2 b3 hKb hK0
      go_region_held3 (fun w' => w'.cell? ⟨g, 0, none⟩ = some (.string (str y.p)) ∧ w'.cell? ⟨g, 1, none⟩ = some (.int .u64 y.d) ∧ w'.cell? ⟨g, 2, none⟩ = some (.int .i64 y.r) ∧ w'.cell? ⟨g, 3, none⟩ = some (.bool y.g) ∧ w'.cell? ⟨g, 4, none⟩ = some (.pointer pl) ∧ w'.cell? ⟨g, 5, none⟩ = some (.pointer pr) ∧ w'.cell? ⟨w.heap.size, 0, none⟩ = some (.string (str x.p)) ∧ w'.cell? ⟨w.heap.size, 1, none⟩ = some (.int .u64 x.d) ∧ w'.cell? ⟨w.heap.size, 2, none⟩ = some (.int .i64 x.r) ∧ w'.cell? ⟨w.heap.size, 3, none⟩ = some (.bool x.g))
        (first | go_keep | exact ⟨hKc.cell m0 (by simp), hKc.cell m1 (by simp), hKc.cell m2 (by simp), hKc.cell m3 (by simp), hKc.cell m4 (by simp), hKc.cell m5 (by simp), hKc.cell n0 (by simp), hKc.cell n1 (by simp), hKc.cell n2 (by simp), hKc.cell n3 (by simp)⟩)
        (first
          | (go_at_call 103; refine (j2 _ ?_).mono ?_; exact hK1.drew; rintro e w2 ⟨q2, rfl, hq2, hKc⟩; replace hK1 : Kept [] w w2 := hK1.drew.trans hKc (by simp); replace hKc : Kept [] w1 w2 := (Kept.refl [] w1).drew.trans hKc (by simp)))
      all_goals go_wp2
      all_goals go_ret
      all_goals exact ⟨_, rfl, hq2, hK1⟩
    · have ev : Tr.put x (.node l y r) = Tr.level (.node l y (r.put x)) := by simp only [Tr.put]; rw [if_neg (by omega), if_pos e]
      rw [ev]
      rw [e] at cc
      have j1 := fun w' (hk : Kept [] w w') => ihr B w' pr (hr.kept hk) (by omega)
      have j2 := fun w' q (hk : Kept [] w w') (hq : NAt w'.heap.size w' q (r.put x)) => join_made w'.heap.size w' pl q l (r.put x) y (hl.kept hk).full hq (by omega) hy
      have j3 := fun w' q (hq : NAt w'.heap.size w' q (.node l y (r.put x))) => level_call w'.heap.size w' q l (r.put x) y hq (by simp only [Tr.size]; omega)
      unfold lfV at j1 j2 ⊢
      clear h0 hs hy hg hl hr ihl ihr e ev p1 p2
      go_enter Tryz.func87, Tryz.ntmps87
      go_wp2_with fail
      go_region_held3 (fun w' => w'.cell? ⟨g, 0, none⟩ = some (.string (str y.p)) ∧ w'.cell? ⟨g, 1, none⟩ = some (.int .u64 y.d) ∧ w'.cell? ⟨g, 2, none⟩ = some (.int .i64 y.r) ∧ w'.cell? ⟨g, 3, none⟩ = some (.bool y.g) ∧ w'.cell? ⟨g, 4, none⟩ = some (.pointer pl) ∧ w'.cell? ⟨g, 5, none⟩ = some (.pointer pr) ∧ w'.cell? ⟨w.heap.size, 0, none⟩ = some (.string (str x.p)) ∧ w'.cell? ⟨w.heap.size, 1, none⟩ = some (.int .u64 x.d) ∧ w'.cell? ⟨w.heap.size, 2, none⟩ = some (.int .i64 x.r) ∧ w'.cell? ⟨w.heap.size, 3, none⟩ = some (.bool x.g))
        (first | go_keep | exact ⟨hK1.cell c0 (by simp), hK1.cell c1 (by simp), hK1.cell c2 (by simp), hK1.cell c3 (by simp), hK1.cell c4 (by simp), hK1.cell c5 (by simp), hKb.cell b0 (by simp), hKb.cell b1 (by simp), hKb.cell b2 (by simp), hKb.cell b3 (by simp)⟩)
        (first
          | (go_at_call 60; refine (cc _).mono ?_; rintro e w1 ⟨rfl, hKb⟩; have hK1 : Kept [] w w1 := hK0.drew.trans hKb (by simp)))
      all_goals
        go_wp2_with fail
      have m0 := hK1.cell c0 (by simp)
      have m1 := hK1.cell c1 (by simp)
      have m2 := hK1.cell c2 (by simp)
      have m3 := hK1.cell c3 (by simp)
      have m4 := hK1.cell c4 (by simp)
      have m5 := hK1.cell c5 (by simp)
      have n0 := hKb.cell b0 (by simp)
      have n1 := hKb.cell b1 (by simp)
      have n2 := hKb.cell b2 (by simp)
      have n3 := hKb.cell b3 (by simp)
      clear c0 c1 c2 c3 c4 c5 b0 b1 b2 b3 hKb hK0
      go_region_held3 (fun w' => w'.cell? ⟨g, 0, none⟩ = some (.string (str y.p)) ∧ w'.cell? ⟨g, 1, none⟩ = some (.int .u64 y.d) ∧ w'.cell? ⟨g, 2, none⟩ = some (.int .i64 y.r) ∧ w'.cell? ⟨g, 3, none⟩ = some (.bool y.g) ∧ w'.cell? ⟨g, 4, none⟩ = some (.pointer pl) ∧ w'.cell? ⟨g, 5, none⟩ = some (.pointer pr) ∧ w'.cell? ⟨w.heap.size, 0, none⟩ = some (.string (str x.p)) ∧ w'.cell? ⟨w.heap.size, 1, none⟩ = some (.int .u64 x.d) ∧ w'.cell? ⟨w.heap.size, 2, none⟩ = some (.int .i64 x.r) ∧ w'.cell? ⟨w.heap.size, 3, none⟩ = some (.bool x.g))
        (first | go_keep | exact ⟨hKc.cell m0 (by simp), hKc.cell m1 (by simp), hKc.cell m2 (by simp), hKc.cell m3 (by simp), hKc.cell m4 (by simp), hKc.cell m5 (by simp), hKc.cell n0 (by simp), hKc.cell n1 (by simp), hKc.cell n2 (by simp), hKc.cell n3 (by simp)⟩)
        (first
          | (go_at_call 87; refine (j1 _ ?_).mono ?_; exact hK1.drew; rintro e w2 ⟨q, rfl, hq, hKc⟩; replace hK1 : Kept [] w w2 := hK1.drew.trans hKc (by simp); replace hKc : Kept [] w1 w2 := (Kept.refl [] w1).drew.trans hKc (by simp))
          | (go_at_call 103; refine (j2 _ q ?_ ?_).mono ?_; exact hK1; exact hq; rintro e w3 ⟨q2, rfl, hq2, hK2⟩; replace hK1 := hK1.trans hK2 (by simp); replace hKc := hKc.trans hK2 (by simp))
          | (go_at_call 104; refine (j3 _ q2 ?_).mono ?_; exact hq2; rintro e w4 ⟨q3, rfl, hq3, hK3⟩; replace hK1 := hK1.trans hK3 (by simp); replace hKc := hKc.trans hK3 (by simp)))
      all_goals go_wp2
      all_goals go_ret
      all_goals exact ⟨_, rfl, hq3, hK1⟩

end Go.Proofs.YtfoghemiaidnhaaGreat
