/-
  All, Range, Under, Get: what a tree tells.
-/
import Derived.Test.YtfoghemiaidnhaaGreatTrRun
namespace Go.Proofs.YtfoghemiaidnhaaGreat
open Go.RowKit

theorem OwnL.mono {B C : Nat} {w : World} {v : Value} {L : List Lf} (h : OwnL C w v L) (hB : B ≤ C) : OwnL B w v L := by
  obtain ⟨h1, h2⟩ := h
  refine ⟨h1, ?_⟩
  rcases h2 with h2 | ⟨g, cap, cur, hv, hg, r⟩
  · exact .inl h2
  · exact .inr ⟨g, cap, cur, hv, Nat.le_trans hB hg, r⟩

theorem OwnL.kept {B : Nat} {a w : World} {v : Value} {L : List Lf} (h : OwnL B a v L) (k : Kept [] a w) : OwnL B w v L := owns_keep h k

set_option maxHeartbeats 1000000 in
theorem all1_call (q : List UInt8) (w : World) :
    Calls Tryz.prog 95 #[.string (str q)] w fun e w' => e = .returned (.bool true) ∧ Kept [] w w' := by
  go_enter Tryz.func95, Tryz.ntmps95
  go_wp2
  go_ret
  exact ⟨rfl, Kept.refl _ _⟩

set_option maxHeartbeats 1000000 in
theorem tAll_call (B : Nat) (w : World) (p : Option Addr) (t : Tr) (h : TAt B w p t) (hs : t.size ≤ 100000000000) (hS : Srt t.list) :
    Calls Tryz.prog 74 #[.pointer p] w fun e w' => ∃ v, e = .returned v ∧ OwnL w.heap.size w' v t.list ∧ Kept [] w w' := by
  have c := runAll_call B w p t h hs [] (by simp) (fun _ => true) (fun x W _ => all1_call x.1.p W)
  rw [all_told t hS] at c
  replace c : Calls Tryz.prog 94 #[.pointer p, .string ⟨#[]⟩, .func (.func 95) #[] #[]] w fun e w' => ∃ v, e = .returned v ∧ OwnL w.heap.size w' v t.list ∧ Kept [] w w' := c
  clear h
  go_enter Tryz.func74, Tryz.ntmps74
  go_wp2_with fail
  refine c.mono ?_
  rintro e w' ⟨v, rfl, hO, hK⟩
  go_wp2_with fail
  go_ret
  exact ⟨v, rfl, hO, hK⟩

set_option maxHeartbeats 1000000 in
theorem tGet_call (B : Nat) (w : World) (p : Option Addr) (t : Tr) (f : List UInt8) (h : TAt B w p t) (hf : f.length ≤ 140737488355328) :
    Calls Tryz.prog 34 #[.pointer p, .string (str f)] w fun e w' => e = .returned (tupL (t.get f)) ∧ Kept [] w w' := by
  have q4 := heap_alloc_new w (.cells #[.string ⟨#[]⟩, .int .u64 0, .int .i64 0, .bool false] 79)
  have hK0 := (Kept.refl [] w).alloc (.cells #[.string ⟨#[]⟩, .int .u64 0, .int .i64 0, .bool false] 79)
  have c1 := fun w' (hk : Kept [] w w') => top_call B w' p t (h.kept hk)
  have c2 := fun w' q (hq : NAt B w' q t) => get_call B w' q t f hq hf
  obtain ⟨R, hR⟩ : ∃ R, R = t.get f := ⟨_, rfl⟩
  rw [← hR]
  rw [← hR] at c2
  clear hR h
  obtain ⟨y0, y1, y2, y3, y4, hy⟩ : ∃ y0 y1 y2 y3 y4, tupL R = .tuple #[.agg #[.string y0, .int .u64 y1, .int .i64 y2, .bool y3], .bool y4] := by
    cases R with
    | none => exact ⟨_, _, _, _, _, rfl⟩
    | some x => exact ⟨_, _, _, _, _, rfl⟩
  rw [hy] at c2 ⊢
  clear hy
  go_enter Tryz.func34, Tryz.ntmps34
  go_wp2_with fail
  refine (c1 _ hK0).mono ?_
  rintro e w' ⟨⟨q, rfl, hq⟩, rfl⟩
  go_wp2_with fail
  refine (c2 _ q hq).mono ?_
  rintro e w1 ⟨rfl, hK1⟩
  have q6 := hK1.at q4 (by simp)
  have f6 := frozen_in q6
  have g0 := f6 0
  have g1 := f6 1
  have g2 := f6 2
  have g3 := f6 3
  obtain ⟨k0, k1, k2, k3⟩ := cells4 q6
  obtain ⟨s0, s1, s2, s3⟩ := stores4 q6 (.string y0) (.int .u64 y1) (.int .i64 y2) (.bool y3)
  have hKw : Kept [] w w1 := hK0.trans hK1 (by simp)
  clear q4 hK0 q6 f6 hK1 hq c1 c2
  go_wp2_with fail
  refine bodyPost_ret (v := .tuple #[.agg #[.string y0, .int .u64 y1, .int .i64 y2, .bool y3], .bool y4]) ?_ rfl ⟨rfl, kept4 hKw (Nat.le_refl _) _ _ _ _⟩
  rw [results_cell_tmp rfl]
  go_simp

end Go.Proofs.YtfoghemiaidnhaaGreat
