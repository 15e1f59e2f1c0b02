/-
  join: a node out of two trees and a leaf.
-/
import Derived.Test.YtcaimaofbakjcaaTrNode
namespace Go.Proofs.Ytcaimaofbakjcaa
open Go.RowKit

theorem joined {B : Nat} {w : World} {pl pr : Option Addr} {l r : Tr} {x : Lf} (o : Obj) {y z : Int} (hl : NAt B w pl l) (hr : NAt B w pr r) (hx : x.p.length ≤ 140737488355328) (hy : ((Tr.node l x r).size : Int) = y) (hz : ((Tr.node l x r).height : Int) = z) :
    NAt ((w.alloc o).alloc (.cells #[.string (str x.p), .int .u64 x.d, .int .i64 x.r, .bool x.g, .pointer pl, .pointer pr, .int .i64 y, .int .i64 z] 64)).drew.heap.size ((w.alloc o).alloc (.cells #[.string (str x.p), .int .u64 x.d, .int .i64 x.r, .bool x.g, .pointer pl, .pointer pr, .int .i64 y, .int .i64 z] 64)).drew (some ⟨w.heap.size + 1, 0, none⟩) (.node l x r) := by
  subst hy; subst hz
  have hk : Kept [] w ((w.alloc o).alloc (.cells #[.string (str x.p), .int .u64 x.d, .int .i64 x.r, .bool x.g, .pointer pl, .pointer pr, .int .i64 ((Tr.node l x r).size : Int), .int .i64 ((Tr.node l x r).height : Int)] 64)).drew := (((Kept.refl _ _).alloc _).alloc _).drew
  refine ⟨w.heap.size + 1, pl, pr, rfl, by show _ < ((w.alloc _).alloc _).heap.size; simp, ?_, hx, (hl.kept hk).full, (hr.kept hk).full⟩
  have := heap_alloc_new (w.alloc o) (.cells #[.string (str x.p), .int .u64 x.d, .int .i64 x.r, .bool x.g, .pointer pl, .pointer pr, .int .i64 ((Tr.node l x r).size : Int), .int .i64 ((Tr.node l x r).height : Int)] 64)
  rw [World.size_alloc] at this
  exact this

set_option maxHeartbeats 4000000 in
set_option maxRecDepth 100000 in
theorem join_call (B : Nat) (w : World) (pl pr : Option Addr) (l r : Tr) (x : Lf) (hl : NAt B w pl l) (hr : NAt B w pr r) (hs : l.size + r.size ≤ 1000000000000) (hx : x.p.length ≤ 140737488355328) :
    Calls Try.prog 44 #[.pointer pl, lfV x, .pointer pr] w fun e w' => ∃ b, e = .returned (.pointer (some ⟨b, 0, none⟩)) ∧ w.heap.size ≤ b ∧ NAt w'.heap.size w' (some ⟨b, 0, none⟩) (.node l x r) ∧ Kept [] w w' := by
  have sl := fun w' (hk : Kept [] w w') => size_call B w' pl l (hl.kept hk)
  have sr := fun w' (hk : Kept [] w w') => size_call B w' pr r (hr.kept hk)
  have tl := fun w' (hk : Kept [] w w') => height_call B w' pl l (hl.kept hk)
  have tr := fun w' (hk : Kept [] w w') => height_call B w' pr r (hr.kept hk)
  have hh1 := tr_height l
  have hh2 := tr_height r
  have b1 : (l.height : Int) ≤ 1000000000000 := by omega
  have b2 : (r.height : Int) ≤ 1000000000000 := by omega
  have b3 : (0 : Int) ≤ l.height := by omega
  have b4 : (0 : Int) ≤ r.height := by omega
  have d1 : (l.size : Int) ≤ 1000000000000 := by omega
  have d2 : (r.size : Int) ≤ 1000000000000 := by omega
  have d3 : (0 : Int) ≤ l.size := by omega
  have d4 : (0 : Int) ≤ r.size := by omega
  have e1 : ((Tr.node l x r).size : Int) = (l.size : Int) + 1 + r.size := by simp only [Tr.size]; omega
  have e2 : ((Tr.node l x r).height : Int) = max (l.height : Int) r.height + 1 := by simp only [Tr.height]; omega
  have HS : Hid (((Tr.node l x r).size : Int) = (l.size : Int) + 1 + r.size ∧ ((Tr.node l x r).height : Int) = max (l.height : Int) r.height + 1) := ⟨e1, e2⟩
  have HN : Hid (NAt B w pl l ∧ NAt B w pr r) := ⟨hl, hr⟩
  clear hh1 hh2 hl hr e1 e2 hs
  generalize (l.height : Int) = zl at *
  generalize (r.height : Int) = zr at *
  generalize (l.size : Int) = yl at *
  generalize (r.size : Int) = yr at *
  unfold lfV
  go_enter Try.func44, Try.ntmps44
  go_wp2_with fail
  go_region_held3 (fun w' => w'.cell? ⟨w.heap.size, 0, none⟩ = some (.string (str x.p)) ∧ w'.cell? ⟨w.heap.size, 1, none⟩ = some (.int .u64 x.d) ∧ w'.cell? ⟨w.heap.size, 2, none⟩ = some (.int .i64 x.r) ∧ w'.cell? ⟨w.heap.size, 3, none⟩ = some (.bool x.g)) (go_keep)
    (first
      | (go_at_call_of 31 pl; refine (sl _ ?_).mono ?_; exact ((Kept.refl _ _).alloc _).drew; rintro e w' ⟨rfl, rfl⟩)
      | (go_at_call_of 31 pr; refine (sr _ ?_).mono ?_; exact ((Kept.refl _ _).alloc _).drew; rintro e w' ⟨rfl, rfl⟩)
      | (go_at_call_of 32 pl; refine (tl _ ?_).mono ?_; exact ((Kept.refl _ _).alloc _).drew; rintro e w' ⟨rfl, rfl⟩)
      | (go_at_call_of 32 pr; refine (tr _ ?_).mono ?_; exact ((Kept.refl _ _).alloc _).drew; rintro e w' ⟨rfl, rfl⟩))
  all_goals go_wp2
  all_goals go_ret
  all_goals
    refine ⟨_, rfl, Nat.le_succ _, joined _ HN.out.1 HN.out.2 hx ?_ ?_, (((Kept.refl _ _).alloc _).alloc _).drew⟩
    · rw [HS.out.1, IntWalk.i64_in (yl + 1) (by omega), IntWalk.i64_in (yl + 1 + yr) (by omega)]
    · first | rw [HS.out.2, IntWalk.i64_in (zr + 1) (by omega)] | rw [HS.out.2, IntWalk.i64_in (zl + 1) (by omega)]
      omega

end Go.Proofs.Ytcaimaofbakjcaa
