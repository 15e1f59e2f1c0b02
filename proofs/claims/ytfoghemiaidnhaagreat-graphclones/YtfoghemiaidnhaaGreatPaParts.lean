/-
  path.parts and the closure that it hands back: the parts of a text, one at each call.
-/
import Derived.Test.YtfoghemiaidnhaaGreatPaCut
namespace Go.Proofs.YtfoghemiaidnhaaGreat
open Go.RowKit

/-- The closure's two variables: the parts that are left are ps. -/
def PtAt (w : World) (m a : Nat) (ps : List (List UInt8)) : Prop :=
  m ≠ a ∧ ∃ (b : Bool) (l : List UInt8), w.heap[m]? = some (.cells #[.bool b] 4 (0, 0)) ∧ w.heap[a]? = some (.cells #[.string (str l)] 9 (0, 0)) ∧ l.length ≤ 140737488355328 ∧
    ((ps = [] ∧ b = false) ∨ (b = true ∧ partsB l = ps))

theorem PtAt.kept {S : List Nat} {w w' : World} {m a : Nat} {ps : List (List UInt8)} (h : PtAt w m a ps) (k : Kept S w w') (hm : m ∉ S) (ha : a ∉ S) : PtAt w' m a ps := by
  obtain ⟨h0, b, l, h1, h2, h3⟩ := h
  exact ⟨h0, b, l, k.at h1 hm, k.at h2 ha, h3⟩

set_option maxHeartbeats 2000000 in
set_option maxRecDepth 100000 in
theorem next_none (w : World) (m a : Nat) (h : PtAt w m a []) :
    Calls Tryz.prog 100 #[.pointer (some ⟨m, 0, none⟩), .pointer (some ⟨a, 0, none⟩)] w fun e w' => e = .returned (.tuple #[.string ByteArray.empty, .bool false]) ∧ w' = w := by
  obtain ⟨h0, b, l, h1, h2, h3, h4⟩ := h
  rcases h4 with ⟨_, rfl⟩ | ⟨_, h5⟩
  · have c1 := cell_of_one h1
    go_enter Tryz.func100, Tryz.ntmps100
    go_wp2
    go_ret2
    exact ⟨rfl, rfl⟩
  · exact absurd h5 (partsB_ne l)

theorem next_turn {w : World} {m a : Nat} {b0 : Bool} {l0 : List UInt8} (h0 : m ≠ a) (h1 : w.heap[m]? = some (.cells #[.bool b0] 4 (0, 0))) (h2 : w.heap[a]? = some (.cells #[.string (str l0)] 9 (0, 0))) (b : Bool) (l : List UInt8) (hl : l.length ≤ 140737488355328) {ps : List (List UInt8)} (h : (ps = [] ∧ b = false) ∨ (b = true ∧ partsB l = ps)) :
    PtAt ((w.setCell ⟨a, 0, none⟩ (.string (str l))).setCell ⟨m, 0, none⟩ (.bool b)) m a ps := by
  refine ⟨h0, b, l, ?_, ?_, hl, h⟩
  · refine one_setCell (v := .bool b0) ?_
    rw [Below.heap_setCell _ _ _ _ h0]; exact h1
  · rw [Below.heap_setCell _ _ _ _ (Ne.symm h0)]; exact one_setCell h2

theorem next_kept (w : World) {m a : Nat} (x y : Value) : Kept [m, a] w ((w.setCell ⟨a, 0, none⟩ x).setCell ⟨m, 0, none⟩ y) :=
  ((Kept.refl _ w).setCell (by simp) _).setCell (by simp) _

set_option maxHeartbeats 2000000 in
set_option maxRecDepth 100000 in
theorem next_some (w : World) (m a : Nat) (p : List UInt8) (ps : List (List UInt8)) (h : PtAt w m a (p :: ps)) :
    Calls Tryz.prog 100 #[.pointer (some ⟨m, 0, none⟩), .pointer (some ⟨a, 0, none⟩)] w fun e w' => e = .returned (.tuple #[.string (str p), .bool true]) ∧ PtAt w' m a ps ∧ Kept [m, a] w w' := by
  obtain ⟨h0, b, l, h1, h2, h3, h4⟩ := h
  rcases h4 with ⟨h5, _⟩ | ⟨rfl, h5⟩
  · cases h5
  · have c1 := cell_of_one h1
    have c2 := cell_of_one h2
    have f1 := free_of_one h1
    have f2 := free_of_one h2
    rcases split47 l with hm | ⟨x, y, rfl, hm⟩
    · go_enter Tryz.func100, Tryz.ntmps100
      go_wp2_with (go_at_call 101; refine (cut_miss l _ hm).mono ?_; rintro e w' ⟨rfl, rfl⟩)
      go_ret2
      rw [partsB_miss l hm] at h5
      cases h5
      exact ⟨rfl, next_turn h0 h1 h2 _ [] (by simp) (.inl ⟨rfl, rfl⟩), next_kept _ _ _⟩
    · go_enter Tryz.func100, Tryz.ntmps100
      go_wp2_with (go_at_call 101; refine (cut_hit x y _ hm h3).mono ?_; rintro e w' ⟨rfl, rfl⟩)
      go_ret2
      rw [partsB_hit x y hm] at h5
      cases h5
      exact ⟨rfl, next_turn h0 h1 h2 _ y (by simp at h3; omega) (.inr ⟨rfl, rfl⟩), (next_kept _ _ _).drew⟩

set_option maxHeartbeats 2000000 in
set_option maxRecDepth 100000 in
theorem parts_call (l : List UInt8) (w : World) (hl : l.length ≤ 140737488355328) :
    Calls Tryz.prog 85 #[.string (str l)] w fun e w' => ∃ m a, e = .returned (.func (.func 100) #[] #[.pointer (some ⟨m, 0, none⟩), .pointer (some ⟨a, 0, none⟩)]) ∧ PtAt w' m a (partsB l) ∧ Kept [] w w' ∧ w.heap.size ≤ m ∧ w.heap.size ≤ a := by
  go_enter Tryz.func85, Tryz.ntmps85
  go_wp2
  go_ret
  refine ⟨w.heap.size + 1, w.heap.size, rfl, ⟨by omega, true, l, ?_, ?_, hl, .inr ⟨rfl, rfl⟩⟩, ((Kept.refl [] w).alloc _).alloc _, by omega, Nat.le_refl _⟩
  · simpa using heap_alloc_new (w.alloc (Obj.cells #[Value.string (str l)] 9)) (Obj.cells #[Value.bool true] 4)
  · exact (Below.heap_alloc _ _ _ (by simp)).trans (heap_alloc_new w _)

end Go.Proofs.YtfoghemiaidnhaaGreat
