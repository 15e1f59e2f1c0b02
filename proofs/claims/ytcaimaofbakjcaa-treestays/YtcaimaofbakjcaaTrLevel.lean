/-
  The double turns, and level.
-/
import Derived.Test.YtcaimaofbakjcaaTrTurn
namespace Go.Proofs.Ytcaimaofbakjcaa
open Go.RowKit

set_option maxHeartbeats 4000000 in
set_option maxRecDepth 100000 in
theorem turnRR_call (B : Nat) (w : World) (p : Option Addr) (a c d r : Tr) (z u x : Lf) (h : NAt B w p (.node (.node a z (.node c u d)) x r)) (hs : (Tr.node (.node a z (.node c u d)) x r).size ≤ 1000000000000) :
    Calls Try.prog 55 #[.pointer p] w (Made w (.node (.node a z c) u (.node d x r))) := by
  obtain ⟨g, pl, pr, rfl, hg, h0, hx, hl, hr⟩ := h
  obtain ⟨c0, c1, c2, c3, c4, c5, _, _⟩ := cells8 h0
  simp only [Tr.size] at hs
  have j1 := fun w' (hk : Kept [] w w') => turnL_call B w' pl c d a u z (hl.kept hk) (by simp only [Tr.size]; omega)
  have j2 := fun w' q (hk : Kept [] w w') (hq : NAt w'.heap.size w' q (.node (.node a z c) u d)) => join_made w'.heap.size w' q pr (.node (.node a z c) u d) r x hq (hr.kept hk).full (by simp only [Tr.size]; omega) hx
  have j3 := fun w' q (hq : NAt w'.heap.size w' q (.node (.node (.node a z c) u d) x r)) => turnR_call w'.heap.size w' q (.node a z c) d r u x hq (by simp only [Tr.size]; omega)
  unfold lfV at j2
  clear h0 hs hx hg hl hr
  go_enter Try.func55, Try.ntmps55
  go_wp2_with fail
  go_region_held3 (fun w' => w'.cell? ⟨g, 0, none⟩ = some (.string (str x.p)) ∧ w'.cell? ⟨g, 1, none⟩ = some (.int .u64 x.d) ∧ w'.cell? ⟨g, 2, none⟩ = some (.int .i64 x.r) ∧ w'.cell? ⟨g, 3, none⟩ = some (.bool x.g) ∧ w'.cell? ⟨g, 4, none⟩ = some (.pointer pl) ∧ w'.cell? ⟨g, 5, none⟩ = some (.pointer pr))
    (first | go_keep | exact ⟨hK1.cell c0 (by simp), hK1.cell c1 (by simp), hK1.cell c2 (by simp), hK1.cell c3 (by simp), hK1.cell c4 (by simp), hK1.cell c5 (by simp)⟩)
    (first
      | (go_at_call 58; refine (j1 _ ?_).mono ?_; exact (Kept.refl _ _).drew; rintro e w1 ⟨q, rfl, hq, hK1⟩; replace hK1 : Kept [] w w1 := (Kept.refl [] w).drew.trans hK1 (by simp))
      | (go_at_call 44; refine (j2 _ q ?_ ?_).mono ?_; exact hK1; exact hq; rintro e w2 ⟨q2, rfl, hq2, hK2⟩; replace hK1 := hK1.trans hK2 (by simp))
      | (go_at_call 56; refine (j3 _ q2 ?_).mono ?_; exact hq2; rintro e w3 ⟨q3, rfl, hq3, hK3⟩; replace hK1 := hK1.trans hK3 (by simp)))
  all_goals go_wp2
  all_goals go_ret
  all_goals exact ⟨_, rfl, hq3, hK1⟩

set_option maxHeartbeats 4000000 in
set_option maxRecDepth 100000 in
theorem turnLL_call (B : Nat) (w : World) (p : Option Addr) (l c d b : Tr) (x u z : Lf) (h : NAt B w p (.node l x (.node (.node c u d) z b))) (hs : (Tr.node l x (.node (.node c u d) z b)).size ≤ 1000000000000) :
    Calls Try.prog 57 #[.pointer p] w (Made w (.node (.node l x c) u (.node d z b))) := by
  obtain ⟨g, pl, pr, rfl, hg, h0, hx, hl, hr⟩ := h
  obtain ⟨c0, c1, c2, c3, c4, c5, _, _⟩ := cells8 h0
  simp only [Tr.size] at hs
  have j1 := fun w' (hk : Kept [] w w') => turnR_call B w' pr c d b u z (hr.kept hk) (by simp only [Tr.size]; omega)
  have j2 := fun w' q (hk : Kept [] w w') (hq : NAt w'.heap.size w' q (.node c u (.node d z b))) => join_made w'.heap.size w' pl q l (.node c u (.node d z b)) x (hl.kept hk).full hq (by simp only [Tr.size]; omega) hx
  have j3 := fun w' q (hq : NAt w'.heap.size w' q (.node l x (.node c u (.node d z b)))) => turnL_call w'.heap.size w' q c (.node d z b) l u x hq (by simp only [Tr.size]; omega)
  unfold lfV at j2
  clear h0 hs hx hg hl hr
  go_enter Try.func57, Try.ntmps57
  go_wp2_with fail
  go_region_held3 (fun w' => w'.cell? ⟨g, 0, none⟩ = some (.string (str x.p)) ∧ w'.cell? ⟨g, 1, none⟩ = some (.int .u64 x.d) ∧ w'.cell? ⟨g, 2, none⟩ = some (.int .i64 x.r) ∧ w'.cell? ⟨g, 3, none⟩ = some (.bool x.g) ∧ w'.cell? ⟨g, 4, none⟩ = some (.pointer pl) ∧ w'.cell? ⟨g, 5, none⟩ = some (.pointer pr))
    (first | go_keep | exact ⟨hK1.cell c0 (by simp), hK1.cell c1 (by simp), hK1.cell c2 (by simp), hK1.cell c3 (by simp), hK1.cell c4 (by simp), hK1.cell c5 (by simp)⟩)
    (first
      | (go_at_call 56; refine (j1 _ ?_).mono ?_; exact (Kept.refl _ _).drew; rintro e w1 ⟨q, rfl, hq, hK1⟩; replace hK1 : Kept [] w w1 := (Kept.refl [] w).drew.trans hK1 (by simp))
      | (go_at_call 44; refine (j2 _ q ?_ ?_).mono ?_; exact hK1; exact hq; rintro e w2 ⟨q2, rfl, hq2, hK2⟩; replace hK1 := hK1.trans hK2 (by simp))
      | (go_at_call 58; refine (j3 _ q2 ?_).mono ?_; exact hq2; rintro e w3 ⟨q3, rfl, hq3, hK3⟩; replace hK1 := hK1.trans hK3 (by simp)))
  all_goals go_wp2
  all_goals go_ret
  all_goals exact ⟨_, rfl, hq3, hK1⟩

set_option maxHeartbeats 1000000 in
theorem stay_call (w : World) (p : Option Addr) :
    Calls Try.prog 53 #[.pointer p] w fun e w' => e = .returned (.pointer p) ∧ w' = w := by
  go_enter Try.func53, Try.ntmps53
  go_wp2
  go_ret
  exact ⟨rfl, rfl⟩

theorem Made.from {a w : World} {t : Tr} {e : Ending} {w' : World} (hk : Kept [] a w) (h : Made w t e w') : Made a t e w' := by
  obtain ⟨p, he, hN, hK⟩ := h
  exact ⟨p, he, hN, hk.trans hK (by simp)⟩

theorem kept_drewN {S : List Nat} {a w : World} (h : Kept S a w) (n : Nat) : Kept S a (w.drewN n) := ⟨h.os, h.tape, h.output, h.size, h.block⟩

set_option maxHeartbeats 4000000 in
set_option maxRecDepth 100000 in
theorem level_call (B : Nat) (w : World) (p : Option Addr) (l r : Tr) (x : Lf) (h : NAt B w p (.node l x r)) (hs : (Tr.node l x r).size ≤ 1000000000000) :
    Calls Try.prog 45 #[.pointer p] w (Made w (Tr.level (.node l x r))) := by
  have hh := h
  obtain ⟨g, pl, pr, rfl, hg, h0, hx, hl, hr⟩ := h
  obtain ⟨_, _, _, _, c4, c5, _, _⟩ := cells8 h0
  have LN := lean_call B w _ l r x hh hs
  have hLn : (Tr.node l x r).lean = (r.height : Int) - l.height := rfl
  clear h0
  by_cases e1 : (Tr.node l x r).lean < -1
  · cases l with
    | nil => simp only [Tr.height] at hLn; omega
    | node a z b =>
      have LL := fun n => lean_call B (w.drewN n) pl a b z (hl.drewN n) (by simp only [Tr.size] at hs ⊢; omega)
      have hL2 : (Tr.node a z b).lean = (b.height : Int) - a.height := rfl
      by_cases e2 : 0 < (Tr.node a z b).lean
      · cases b with
        | nil => simp only [Tr.height] at hL2; omega
        | node c u d =>
          have ev : Tr.level (.node (.node a z (.node c u d)) x r) = .node (.node a z c) u (.node d x r) := by
            unfold Tr.level; rw [if_pos e1, if_pos (show 0 < (Tr.node (.node a z (.node c u d)) x r).left.lean from e2)]; rfl
          rw [ev]
          have TT := fun n => turnRR_call B (w.drewN n) _ a c d r z u x (hh.drewN n) hs
          clear hLn hL2 ev hl hr hx hg hs hh
          generalize (Tr.node (.node a z (.node c u d)) x r).lean = L1 at *
          generalize (Tr.node a z (.node c u d)).lean = L2 at *
          go_enter Try.func45, Try.ntmps45
          go_wp2_with fail
          refine LN.mono ?_
          rintro e w' ⟨rfl, n1, rfl⟩
          go_wp2_with fail
          refine (LL n1).mono ?_
          rintro e w' ⟨rfl, n2, rfl⟩
          go_wp2_with fail
          refine (TT _).mono ?_
          rintro e w' ⟨q, rfl, hq, hK⟩
          go_wp2_with fail
          go_ret
          exact ⟨q, rfl, hq, (kept_drewN (Kept.refl _ _) _).trans hK (by simp)⟩
      · have ev : Tr.level (.node (.node a z b) x r) = .node a z (.node b x r) := by
          unfold Tr.level; rw [if_pos e1, if_neg (show ¬ 0 < (Tr.node (.node a z b) x r).left.lean from e2)]; rfl
        rw [ev]
        have TT := fun n => turnR_call B (w.drewN n) _ a b r z x (hh.drewN n) hs
        clear hLn hL2 ev hl hr hx hg hs hh
        generalize (Tr.node (.node a z b) x r).lean = L1 at *
        generalize (Tr.node a z b).lean = L2 at *
        go_enter Try.func45, Try.ntmps45
        go_wp2_with fail
        refine LN.mono ?_
        rintro e w' ⟨rfl, n1, rfl⟩
        go_wp2_with fail
        refine (LL n1).mono ?_
        rintro e w' ⟨rfl, n2, rfl⟩
        go_wp2_with fail
        refine (TT _).mono ?_
        rintro e w' ⟨q, rfl, hq, hK⟩
        go_wp2_with fail
        go_ret
        exact ⟨q, rfl, hq, (kept_drewN (Kept.refl _ _) _).trans hK (by simp)⟩
  · by_cases e2 : 1 < (Tr.node l x r).lean
    · cases r with
      | nil => simp only [Tr.height] at hLn; omega
      | node a z b =>
        have LL := fun n => lean_call B (w.drewN n) pr a b z (hr.drewN n) (by simp only [Tr.size] at hs ⊢; omega)
        have hL2 : (Tr.node a z b).lean = (b.height : Int) - a.height := rfl
        by_cases e3 : (Tr.node a z b).lean < 0
        · cases a with
          | nil => simp only [Tr.height] at hL2; omega
          | node c u d =>
            have ev : Tr.level (.node l x (.node (.node c u d) z b)) = .node (.node l x c) u (.node d z b) := by
              unfold Tr.level; rw [if_neg e1, if_pos e2, if_pos (show (Tr.node l x (.node (.node c u d) z b)).right.lean < 0 from e3)]; rfl
            rw [ev]
            have TT := fun n => turnLL_call B (w.drewN n) _ l c d b x u z (hh.drewN n) hs
            clear hLn hL2 ev hl hr hx hg hs hh
            generalize (Tr.node l x (.node (.node c u d) z b)).lean = L1 at *
            generalize (Tr.node (.node c u d) z b).lean = L2 at *
            go_enter Try.func45, Try.ntmps45
            go_wp2_with fail
            refine LN.mono ?_
            rintro e w' ⟨rfl, n1, rfl⟩
            go_wp2_with fail
            refine (LL n1).mono ?_
            rintro e w' ⟨rfl, n2, rfl⟩
            go_wp2_with fail
            refine (TT _).mono ?_
            rintro e w' ⟨q, rfl, hq, hK⟩
            go_wp2_with fail
            go_ret
            exact ⟨q, rfl, hq, (kept_drewN (Kept.refl _ _) _).trans hK (by simp)⟩
        · have ev : Tr.level (.node l x (.node a z b)) = .node (.node l x a) z b := by
            unfold Tr.level; rw [if_neg e1, if_pos e2, if_neg (show ¬ (Tr.node l x (.node a z b)).right.lean < 0 from e3)]; rfl
          rw [ev]
          have TT := fun n => turnL_call B (w.drewN n) _ a b l z x (hh.drewN n) hs
          clear hLn hL2 ev hl hr hx hg hs hh
          generalize (Tr.node l x (.node a z b)).lean = L1 at *
          generalize (Tr.node a z b).lean = L2 at *
          go_enter Try.func45, Try.ntmps45
          go_wp2_with fail
          refine LN.mono ?_
          rintro e w' ⟨rfl, n1, rfl⟩
          go_wp2_with fail
          refine (LL n1).mono ?_
          rintro e w' ⟨rfl, n2, rfl⟩
          go_wp2_with fail
          refine (TT _).mono ?_
          rintro e w' ⟨q, rfl, hq, hK⟩
          go_wp2_with fail
          go_ret
          exact ⟨q, rfl, hq, (kept_drewN (Kept.refl _ _) _).trans hK (by simp)⟩
    · have ev : Tr.level (.node l x r) = .node l x r := by
        unfold Tr.level; rw [if_neg e1, if_neg e2]
      rw [ev]
      have HN : Hid (NAt B w (some ⟨g, 0, none⟩) (.node l x r)) := hh
      clear hLn ev hl hr hx hg hs hh
      generalize (Tr.node l x r).lean = L1 at *
      go_enter Try.func45, Try.ntmps45
      go_wp2_with fail
      refine LN.mono ?_
      rintro e w' ⟨rfl, n1, rfl⟩
      go_wp2_with fail
      refine (stay_call _ _).mono ?_
      rintro e w' ⟨rfl, rfl⟩
      go_wp2_with fail
      go_ret
      exact ⟨_, rfl, (HN.out.drewN n1).full, kept_drewN (Kept.refl _ _) _⟩

end Go.Proofs.Ytcaimaofbakjcaa
