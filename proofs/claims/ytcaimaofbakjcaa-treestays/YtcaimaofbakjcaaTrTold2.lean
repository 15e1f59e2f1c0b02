/-
  Range, Under: what a tree tells.
-/
import Derived.Test.YtcaimaofbakjcaaTrTold
namespace Go.Proofs.Ytcaimaofbakjcaa
open Go.RowKit

set_option maxHeartbeats 1000000 in
theorem range1_call (c : Nat) (to q : List UInt8) (w : World) (hc : w.cell? ⟨c, 0, none⟩ = some (.string (str to))) (ht : to.length ≤ 140737488355328) (hq : q.length ≤ 140737488355328) :
    Calls Try.prog 36 #[.string (str q), .pointer (some ⟨c, 0, none⟩)] w fun e w' => e = .returned (.bool (ahead to q)) ∧ Kept [] w w' := by
  by_cases h0 : to = []
  · subst h0
    have e0 := str_void
    rw [show ahead [] q = true from rfl]
    go_enter Try.func36, Try.ntmps36
    go_wp2_with fail
    go_ret
    exact ⟨rfl, Kept.refl _ _⟩
  · have e0 := str_full h0
    have cc := compare_call q to w hq ht
    have ev : ahead to q = decide (cmpT q to < 0) := by
      unfold ahead
      have : to.isEmpty = false := by cases to <;> simp_all
      rw [this]; rfl
    rw [ev]
    generalize cmpT q to = cv at *
    go_enter Try.func36, Try.ntmps36
    go_wp2_with fail
    refine cc.mono ?_
    rintro e w1 ⟨rfl, hK1⟩
    go_wp2_with fail
    go_ret
    exact ⟨rfl, hK1⟩

set_option maxHeartbeats 1000000 in
theorem under1_call (c : Nat) (d q : List UInt8) (w : World) (hc : w.cell? ⟨c, 0, none⟩ = some (.string (str d))) :
    Calls Try.prog 30 #[.string (str q), .pointer (some ⟨c, 0, none⟩)] w fun e w' => e = .returned (.bool (withinB d q)) ∧ Kept [] w w' := by
  have cc := within_call d q w
  generalize withinB d q = cv at *
  go_enter Try.func30, Try.ntmps30
  go_wp2_with fail
  refine cc.mono ?_
  rintro e w1 ⟨rfl, hK1⟩
  go_wp2_with fail
  go_ret
  exact ⟨rfl, hK1⟩

set_option maxHeartbeats 1000000 in
theorem tRange_call (B : Nat) (w : World) (p : Option Addr) (t : Tr) (h : TAt B w p t) (hs : t.size ≤ 100000000000) (hS : Srt t.list) (f to : List UInt8) (hf : f.length ≤ 140737488355328) (ht : to.length ≤ 140737488355328) :
    Calls Try.prog 21 #[.pointer p, .string (str f), .string (str to)] w fun e w' => ∃ v, e = .returned v ∧ OwnL w.heap.size w' v (rangeL f to t.list) ∧ Kept [] w w' := by
  have hK0 := (Kept.refl [] w).alloc (.cells #[.string (str to)] 9)
  have bT := cell_of_one (heap_alloc_new w (.cells #[.string (str to)] 9))
  have c := runRange_call w.heap.size B _ p t (h.kept hK0) hs f hf (fun x => ahead to x.p) (fun x W hb => range1_call w.heap.size to x.1.p W ((hb.cell (p := ⟨w.heap.size, 0, none⟩) (by simp)).trans bT) ht x.2)
  rw [range_told t hS] at c
  clear h
  go_enter Try.func21, Try.ntmps21
  go_wp2_with fail
  refine c.mono ?_
  rintro e w' ⟨v, rfl, hO, hK⟩
  go_wp2_with fail
  go_ret
  exact ⟨v, rfl, hO.mono (by simp), hK0.trans hK (by simp)⟩

set_option maxHeartbeats 1000000 in
theorem tUnder_call (B : Nat) (w : World) (p : Option Addr) (t : Tr) (h : TAt B w p t) (hs : t.size ≤ 100000000000) (hS : Srt t.list) (d : List UInt8) (hd : d.length ≤ 140737488355328) :
    Calls Try.prog 12 #[.pointer p, .string (str d)] w fun e w' => ∃ v, e = .returned v ∧ OwnL w.heap.size w' v (underL d t.list) ∧ Kept [] w w' := by
  have hK0 := (Kept.refl [] w).alloc (.cells #[.string (str d)] 9)
  have bT := cell_of_one (heap_alloc_new w (.cells #[.string (str d)] 9))
  have c := runUnder_call w.heap.size B _ p t (h.kept hK0) hs d hd (fun x => withinB d x.p) (fun x W hb => under1_call w.heap.size d x.1.p W ((hb.cell (p := ⟨w.heap.size, 0, none⟩) (by simp)).trans bT))
  rw [under_told t hS] at c
  clear h
  go_enter Try.func12, Try.ntmps12
  go_wp2_with fail
  refine c.mono ?_
  rintro e w' ⟨v, rfl, hO, hK⟩
  go_wp2_with fail
  go_ret
  exact ⟨v, rfl, hO.mono (by simp), hK0.trans hK (by simp)⟩

end Go.Proofs.Ytcaimaofbakjcaa
