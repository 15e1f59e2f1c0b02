/-
  Structs that are stored cell by cell; results that lie in a block.
-/
import Derived.Test.YtajkmhepedlmmaaCoMem
import Derived.Laws.Rows
import Derived.Laws.ResultCell
namespace Go.Proofs.Ytajkmhepedlmmaa
open Go.RowKit

/-- Cells written one behind the other. -/
def sets (w : World) (b : Nat) : Nat → List Value → World
  | _, [] => w
  | k, u :: l => sets (w.setCell ⟨b, k, none⟩ u) b (k + 1) l

theorem sets_at : ∀ (l : List Value) {w : World} {b : Nat} {vs : Array Value} {t : TypeId} (pre old post : List Value), w.heap[b]? = some (.cells vs t (0, 0)) → vs.toList = pre ++ old ++ post → old.length = l.length →
    (sets w b pre.length l).heap[b]? = some (.cells (pre ++ l ++ post).toArray t (0, 0))
  | [], w, b, vs, t, pre, old, post, h, hv, hl => by
    have : old = [] := List.eq_nil_of_length_eq_zero (by simpa using hl)
    subst this
    rw [show vs = (pre ++ [] ++ post).toArray by rw [← hv]] at h
    exact h
  | u :: l, w, b, vs, t, pre, old, post, h, hv, hl => by
    cases old with
    | nil => simp at hl
    | cons x old =>
      have h1 := heap_setCell_same w b pre.length vs _ u h
      have h2 := sets_at l (pre ++ [u]) old post h1 (by
        rw [Array.toList_setIfInBounds, hv]
        simp) (by simpa using hl)
      simp only [List.length_append, List.length_singleton] at h2
      rw [show pre ++ u :: l ++ post = pre ++ [u] ++ l ++ post by simp]
      exact h2

theorem sets_all {w : World} {b : Nat} {vs : Array Value} {t : TypeId} (h : w.heap[b]? = some (.cells vs t (0, 0))) (l : List Value) (hs : vs.size = l.length) : (sets w b 0 l).heap[b]? = some (.cells l.toArray t (0, 0)) := by
  have := sets_at l [] vs.toList [] h (by simp) (by simpa using hs)
  simpa using this

theorem sets_kept {S : List Nat} {a : World} {b : Nat} (hb : b ∈ S ∨ a.heap.size ≤ b) : ∀ (l : List Value) (k : Nat) {w : World}, Kept S a w → Kept S a (sets w b k l)
  | [], _, _, h => h
  | u :: l, k, _, h => sets_kept hb l (k + 1) (h.setCell hb u)

def setA3 (w : World) (b : Nat) (u0 u1 u2 : Value) : World := ((w.setCell ⟨b, 0, none⟩ u0).setCell ⟨b, 1, none⟩ u1).setCell ⟨b, 2, none⟩ u2

theorem setA3_at {w : World} {b : Nat} {vs : Array Value} {t : TypeId} (h : w.heap[b]? = some (.cells vs t (0, 0))) (hs : vs.size = 3) (u0 u1 u2 : Value) : (setA3 w b u0 u1 u2).heap[b]? = some (.cells #[u0, u1, u2] t (0, 0)) := sets_all h [u0, u1, u2] hs

theorem setA3_kept {S : List Nat} {a w : World} (h : Kept S a w) {b : Nat} (hb : b ∈ S ∨ a.heap.size ≤ b) (u0 u1 u2 : Value) : Kept S a (setA3 w b u0 u1 u2) := sets_kept hb [u0, u1, u2] 0 h

def setA4 (w : World) (b : Nat) (u0 u1 u2 u3 : Value) : World := (((w.setCell ⟨b, 0, none⟩ u0).setCell ⟨b, 1, none⟩ u1).setCell ⟨b, 2, none⟩ u2).setCell ⟨b, 3, none⟩ u3

theorem setA4_at {w : World} {b : Nat} {vs : Array Value} {t : TypeId} (h : w.heap[b]? = some (.cells vs t (0, 0))) (hs : vs.size = 4) (u0 u1 u2 u3 : Value) : (setA4 w b u0 u1 u2 u3).heap[b]? = some (.cells #[u0, u1, u2, u3] t (0, 0)) := sets_all h [u0, u1, u2, u3] hs

theorem setA4_kept {S : List Nat} {a w : World} (h : Kept S a w) {b : Nat} (hb : b ∈ S ∨ a.heap.size ≤ b) (u0 u1 u2 u3 : Value) : Kept S a (setA4 w b u0 u1 u2 u3) := sets_kept hb [u0, u1, u2, u3] 0 h

def setA7 (w : World) (b : Nat) (u0 u1 u2 u3 u4 u5 u6 : Value) : World := ((((((w.setCell ⟨b, 0, none⟩ u0).setCell ⟨b, 1, none⟩ u1).setCell ⟨b, 2, none⟩ u2).setCell ⟨b, 3, none⟩ u3).setCell ⟨b, 4, none⟩ u4).setCell ⟨b, 5, none⟩ u5).setCell ⟨b, 6, none⟩ u6

theorem setA7_at {w : World} {b : Nat} {vs : Array Value} {t : TypeId} (h : w.heap[b]? = some (.cells vs t (0, 0))) (hs : vs.size = 7) (u0 u1 u2 u3 u4 u5 u6 : Value) : (setA7 w b u0 u1 u2 u3 u4 u5 u6).heap[b]? = some (.cells #[u0, u1, u2, u3, u4, u5, u6] t (0, 0)) := sets_all h [u0, u1, u2, u3, u4, u5, u6] hs

theorem setA7_kept {S : List Nat} {a w : World} (h : Kept S a w) {b : Nat} (hb : b ∈ S ∨ a.heap.size ≤ b) (u0 u1 u2 u3 u4 u5 u6 : Value) : Kept S a (setA7 w b u0 u1 u2 u3 u4 u5 u6) := sets_kept hb [u0, u1, u2, u3, u4, u5, u6] 0 h

def setA10 (w : World) (b : Nat) (u0 u1 u2 u3 u4 u5 u6 u7 u8 u9 : Value) : World := (((((((((w.setCell ⟨b, 0, none⟩ u0).setCell ⟨b, 1, none⟩ u1).setCell ⟨b, 2, none⟩ u2).setCell ⟨b, 3, none⟩ u3).setCell ⟨b, 4, none⟩ u4).setCell ⟨b, 5, none⟩ u5).setCell ⟨b, 6, none⟩ u6).setCell ⟨b, 7, none⟩ u7).setCell ⟨b, 8, none⟩ u8).setCell ⟨b, 9, none⟩ u9

theorem setA10_at {w : World} {b : Nat} {vs : Array Value} {t : TypeId} (h : w.heap[b]? = some (.cells vs t (0, 0))) (hs : vs.size = 10) (u0 u1 u2 u3 u4 u5 u6 u7 u8 u9 : Value) : (setA10 w b u0 u1 u2 u3 u4 u5 u6 u7 u8 u9).heap[b]? = some (.cells #[u0, u1, u2, u3, u4, u5, u6, u7, u8, u9] t (0, 0)) := sets_all h [u0, u1, u2, u3, u4, u5, u6, u7, u8, u9] hs

theorem setA10_kept {S : List Nat} {a w : World} (h : Kept S a w) {b : Nat} (hb : b ∈ S ∨ a.heap.size ≤ b) (u0 u1 u2 u3 u4 u5 u6 u7 u8 u9 : Value) : Kept S a (setA10 w b u0 u1 u2 u3 u4 u5 u6 u7 u8 u9) := sets_kept hb [u0, u1, u2, u3, u4, u5, u6, u7, u8, u9] 0 h

def setB7 (w : World) (b : Nat) (u0 u1 u2 u3 u4 u5 u6 : Value) : World := ((((((w.setCell ⟨b, 3, none⟩ u0).setCell ⟨b, 4, none⟩ u1).setCell ⟨b, 5, none⟩ u2).setCell ⟨b, 6, none⟩ u3).setCell ⟨b, 7, none⟩ u4).setCell ⟨b, 8, none⟩ u5).setCell ⟨b, 9, none⟩ u6

theorem setB7_at {w : World} {b : Nat} {v0 v1 v2 v3 v4 v5 v6 v7 v8 v9 : Value} {t : TypeId} (h : w.heap[b]? = some (.cells #[v0, v1, v2, v3, v4, v5, v6, v7, v8, v9] t (0, 0))) (u0 u1 u2 u3 u4 u5 u6 : Value) : (setB7 w b u0 u1 u2 u3 u4 u5 u6).heap[b]? = some (.cells #[v0, v1, v2, u0, u1, u2, u3, u4, u5, u6] t (0, 0)) :=
  sets_at [u0, u1, u2, u3, u4, u5, u6] [v0, v1, v2] [v3, v4, v5, v6, v7, v8, v9] [] h rfl rfl

theorem setB7_kept {S : List Nat} {a w : World} (h : Kept S a w) {b : Nat} (hb : b ∈ S ∨ a.heap.size ≤ b) (u0 u1 u2 u3 u4 u5 u6 : Value) : Kept S a (setB7 w b u0 u1 u2 u3 u4 u5 u6) := sets_kept hb [u0, u1, u2, u3, u4, u5, u6] 3 h

theorem size_ch : (Try.prog.info? 89).map (·.size) = some 3 := by kernel_rfl

theorem ch_res {w : World} {g : Nat} {cs : Array Value} {fn : Func} {p : Tmp} (hr : fn.results = #[.cell p 89]) (tmps : Array Value) (hp : tmps.getD p undef = .pointer (some ⟨g, 0, none⟩)) (hg : w.heap[g]? = some (.cells cs 89 (0, 0))) (hs : cs.size = 3) :
    (results fn tmps).run Try.prog w = .ok (.agg cs) w :=
  results_cell_row hr tmps w g _ cs _ _ hp hg Try.underlying89 rfl (by rw [hs]; exact size_ch)

theorem size_com : (Try.prog.info? 65).map (·.size) = some 4 := by kernel_rfl

theorem com_res {w : World} {g : Nat} {cs : Array Value} {fn : Func} {p : Tmp} (hr : fn.results = #[.cell p 65]) (tmps : Array Value) (hp : tmps.getD p undef = .pointer (some ⟨g, 0, none⟩)) (hg : w.heap[g]? = some (.cells cs 65 (0, 0))) (hs : cs.size = 4) :
    (results fn tmps).run Try.prog w = .ok (.agg cs) w :=
  results_cell_row hr tmps w g _ cs _ _ hp hg Try.underlying65 rfl (by rw [hs]; exact size_com)

theorem size_vt : (Try.prog.info? 31).map (·.size) = some 7 := by kernel_rfl

theorem vt_res {w : World} {g : Nat} {cs : Array Value} {fn : Func} {p : Tmp} (hr : fn.results = #[.cell p 31]) (tmps : Array Value) (hp : tmps.getD p undef = .pointer (some ⟨g, 0, none⟩)) (hg : w.heap[g]? = some (.cells cs 31 (0, 0))) (hs : cs.size = 7) :
    (results fn tmps).run Try.prog w = .ok (.agg cs) w :=
  results_cell_row hr tmps w g _ cs _ _ hp hg Try.underlying31 rfl (by rw [hs]; exact size_vt)

theorem size_se : (Try.prog.info? 44).map (·.size) = some 10 := by kernel_rfl

theorem se_res {w : World} {g : Nat} {cs : Array Value} {fn : Func} {p : Tmp} (hr : fn.results = #[.cell p 44]) (tmps : Array Value) (hp : tmps.getD p undef = .pointer (some ⟨g, 0, none⟩)) (hg : w.heap[g]? = some (.cells cs 44 (0, 0))) (hs : cs.size = 10) :
    (results fn tmps).run Try.prog w = .ok (.agg cs) w :=
  results_cell_row hr tmps w g _ cs _ _ hp hg Try.underlying44 rfl (by rw [hs]; exact size_se)

theorem vt_res2 {w : World} {g : Nat} {cs : Array Value} {fn : Func} {p u : Tmp} (hr : fn.results = #[.cell p 31, .tmp u]) (tmps : Array Value) (hp : tmps.getD p undef = .pointer (some ⟨g, 0, none⟩)) (hg : w.heap[g]? = some (.cells cs 31 (0, 0))) (hs : cs.size = 7) :
    (results fn tmps).run Try.prog w = .ok (.tuple #[.agg cs, tmps.getD u undef]) w := by
  have hp' : tmps[p]?.getD undef = .pointer (some ⟨g, 0, none⟩) := by simpa using hp
  rw [results_cell_tmp hr]
  simp [hp', asAddr, run_loadVar_row w g _ 31 cs _ _ hg Try.underlying31 rfl (by rw [hs]; exact size_vt)]

theorem se_res2 {w : World} {g : Nat} {cs : Array Value} {fn : Func} {p u : Tmp} (hr : fn.results = #[.cell p 44, .tmp u]) (tmps : Array Value) (hp : tmps.getD p undef = .pointer (some ⟨g, 0, none⟩)) (hg : w.heap[g]? = some (.cells cs 44 (0, 0))) (hs : cs.size = 10) :
    (results fn tmps).run Try.prog w = .ok (.tuple #[.agg cs, tmps.getD u undef]) w := by
  have hp' : tmps[p]?.getD undef = .pointer (some ⟨g, 0, none⟩) := by simpa using hp
  rw [results_cell_tmp hr]
  simp [hp', asAddr, run_loadVar_row w g _ 44 cs _ _ hg Try.underlying44 rfl (by rw [hs]; exact size_se)]

end Go.Proofs.Ytajkmhepedlmmaa
