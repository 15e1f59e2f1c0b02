/-
  Sets of replicas in memory: fifteen cells of yes and no.
-/
import Derived.Test.YtddkaagdkmmknabEpPure
import Derived.Test.YtddkaagdkmmknabInts
import Derived.Deep.MidRow
import Derived.Deep.WholeRow
import Derived.Laws.Rows
import Derived.Laws.ResultCell
import Derived.Deep.CutRange
namespace Go.Proofs.Ytddkaagdkmmknab
open Go.RowKit

/-- The cells of a set. -/
def setC (S : Nat → Bool) : List Value := [.bool (S 0), .bool (S 1), .bool (S 2), .bool (S 3), .bool (S 4), .bool (S 5), .bool (S 6), .bool (S 7), .bool (S 8), .bool (S 9), .bool (S 10), .bool (S 11), .bool (S 12), .bool (S 13), .bool (S 14)]

/-- A set as a value. -/
def setV (S : Nat → Bool) : Value := .agg (setC S).toArray

/-- The cells of an epoch. -/
def spC (f : Int) (S : Nat → Bool) : List Value := .int .i64 f :: setC S

def spV (f : Int) (S : Nat → Bool) : Value := .agg (spC f S).toArray

theorem setC_len (S : Nat → Bool) : (setC S).length = 15 := rfl

theorem spC_len (f : Int) (S : Nat → Bool) : (spC f S).length = 16 := rfl

theorem setC_get (S : Nat → Bool) {k : Nat} (h : k < 15) : (setC S)[k]? = some (.bool (S k)) := by
  have : k = 0 ∨ k = 1 ∨ k = 2 ∨ k = 3 ∨ k = 4 ∨ k = 5 ∨ k = 6 ∨ k = 7 ∨ k = 8 ∨ k = 9 ∨ k = 10 ∨ k = 11 ∨ k = 12 ∨ k = 13 ∨ k = 14 := by omega
  rcases this with rfl | rfl | rfl | rfl | rfl | rfl | rfl | rfl | rfl | rfl | rfl | rfl | rfl | rfl | rfl <;> rfl

theorem setC_one (S : Nat → Bool) : ∀ v ∈ setC S, v.oneCell' = true := by
  intro v hv
  obtain ⟨k, h, rfl⟩ := List.getElem_of_mem hv
  have h1 := setC_get S (k := k) (by simpa [setC_len] using h)
  rw [List.getElem?_eq_getElem h] at h1
  rw [Option.some.inj h1]
  rfl

theorem spC_one (f : Int) (S : Nat → Bool) : ∀ v ∈ spC f S, v.oneCell' = true := by
  intro v hv
  rcases List.mem_cons.1 hv with rfl | hv
  · rfl
  · exact setC_one S v hv

theorem setC_congr {S T : Nat → Bool} (h : ∀ k, k < 15 → S k = T k) : setC S = setC T := by
  apply List.ext_getElem?
  intro k
  by_cases hk : k < 15
  · rw [setC_get S hk, setC_get T hk, h k hk]
  · rw [List.getElem?_eq_none (by rw [setC_len]; omega), List.getElem?_eq_none (by rw [setC_len]; omega)]

theorem setC_inj {S T : Nat → Bool} (h : setC S = setC T) : ∀ k, k < 15 → S k = T k := fun k hk => by
  have h1 := setC_get S hk
  rw [h, setC_get T hk] at h1
  simpa using h1.symm

/-- A set lies in a block. -/
def SetAt (w : World) (b : Nat) (S : Nat → Bool) : Prop := w.heap[b]? = some (.cells (setC S).toArray 38 (0, 0))

theorem SetAt.cell {w : World} {b : Nat} {S : Nat → Bool} (h : SetAt w b S) {k : Nat} (hk : k < 15) : w.cell? ⟨b, k, none⟩ = some (.bool (S k)) :=
  cell_inC h (by simpa using setC_get S hk)

theorem SetAt.range {w : World} {b : Nat} {S : Nat → Bool} (h : SetAt w b S) : w.rangeAt b 0 (setC S) := fun j v hv => by
  rw [Nat.zero_add]
  exact cell_inC h (by simpa using hv)

theorem SetAt.there {w : World} {b : Nat} {S : Nat → Bool} (h : SetAt w b S) : w.there b 0 15 := fun j hj => by
  rw [Nat.zero_add]
  exact ⟨by rw [h.cell hj]; rfl, froz3 h j⟩

theorem SetAt.set {w : World} {b : Nat} {S : Nat → Bool} (h : SetAt w b S) {q : Nat} (v : Bool) (hq : q < 15) : SetAt (w.setCell ⟨b, q, none⟩ (.bool v)) b (updB S q v) := by
  unfold SetAt
  rw [heap_setCell_same _ _ q _ _ _ h]
  congr 2
  apply Array.ext_getElem?
  intro i
  rw [Array.getElem?_setIfInBounds]
  by_cases hi : i < 15
  · have h1 : (setC (updB S q v)).toArray[i]? = some (.bool (updB S q v i)) := by simpa using setC_get _ hi
    have h2 : (setC S).toArray[i]? = some (.bool (S i)) := by simpa using setC_get S hi
    rw [h1, h2]
    unfold updB
    by_cases e : q = i
    · subst e; simp [setC_len, hq]
    · have e' : ¬ i = q := fun h => e h.symm
      simp [e, e']
  · have h1 : (setC (updB S q v)).toArray[i]? = none := by simp [setC_len]; omega
    have h2 : (setC S).toArray[i]? = none := by simp [setC_len]; omega
    rw [h1, h2]
    by_cases e : q = i
    · omega
    · simp [e]

theorem SetAt.kept {S' : List Nat} {a w : World} {b : Nat} {S : Nat → Bool} (h : SetAt a b S) (k : Kept S' a w) (hb : b ∉ S') : SetAt w b S := k.at h hb

theorem setCells_block (b : Nat) : ∀ (vs : List Value) (o : Nat) (w : World) (k : Nat), k ≠ b → (w.setCells b o vs).heap[k]? = w.heap[k]?
  | [], _, _, _, _ => rfl
  | v :: r, o, w, k, h => by
    rw [World.setCells, setCells_block b r (o + 1) _ k h, heap_setCell_other _ _ _ _ h]

theorem setCells_row (b : Nat) : ∀ (vs pre old post : List Value) (w : World) (t : TypeId), w.heap[b]? = some (.cells (pre ++ old ++ post).toArray t (0, 0)) → old.length = vs.length →
    (w.setCells b pre.length vs).heap[b]? = some (.cells (pre ++ vs ++ post).toArray t (0, 0))
  | [], pre, old, post, w, t, h, hl => by
    obtain rfl := List.eq_nil_of_length_eq_zero (by simpa using hl)
    simpa [World.setCells] using h
  | v :: r, pre, [], post, w, t, h, hl => by simp at hl
  | v :: r, pre, x :: old, post, w, t, h, hl => by
    have h1 := heap_setCell_same w b pre.length _ _ v h
    have h2 := setCells_row b r (pre ++ [v]) old post (w.setCell ⟨b, pre.length, none⟩ v) t (by
      rw [h1]
      congr 2
      apply Array.ext'
      rw [Array.toList_setIfInBounds]
      simp) (by simpa using hl)
    rw [World.setCells]
    simpa using h2

theorem setCells_kept {S : List Nat} {a : World} {b : Nat} (hb : b ∈ S ∨ a.heap.size ≤ b) : ∀ (l : List Value) (k : Nat) {w : World}, Kept S a w → Kept S a (w.setCells b k l)
  | [], _, _, h => h
  | u :: l, k, w, h => by rw [World.setCells]; exact setCells_kept hb l (k + 1) (h.setCell hb u)

theorem SetAt.store {w : World} {b : Nat} {S : Nat → Bool} (h : SetAt w b S) (T : Nat → Bool) : SetAt (w.setCells b 0 (setC T)) b T := by
  have h1 := setCells_row b (setC T) [] (setC S) [] w _ (by simpa [SetAt] using h) rfl
  simpa [SetAt] using h1

theorem size_set : (Try.prog.info? 38).map (·.size) = some 15 := by kernel_rfl
theorem size_span : (Try.prog.info? 43).map (·.size) = some 16 := by kernel_rfl

/-- A set is read out of its block. -/
theorem load_set {w : World} {b : Nat} {S : Nat → Bool} (h : SetAt w b S) : (Instr.loadAt 38 (.pointer (some ⟨b, 0, none⟩))).run Try.prog w = .ok (setV S) w :=
  run_loadAt_mid w b 0 _ (setC S) _ h.range Try.underlying38 rfl size_set

theorem load_setm {w : World} {b o : Nat} {S : Nat → Bool} (h : w.rangeAt b o (setC S)) : (Instr.loadAt 38 (.pointer (some ⟨b, o, none⟩))).run Try.prog w = .ok (setV S) w :=
  run_loadAt_mid w b o _ (setC S) _ h Try.underlying38 rfl size_set

theorem load_span {w : World} {b o : Nat} {f : Int} {S : Nat → Bool} (h : w.rangeAt b o (spC f S)) : (Instr.loadAt 43 (.pointer (some ⟨b, o, none⟩))).run Try.prog w = .ok (spV f S) w :=
  run_loadAt_mid w b o _ (spC f S) _ h Try.underlying43 rfl size_span

theorem store_set {w : World} {b : Nat} {S : Nat → Bool} (h : SetAt w b S) (T : Nat → Bool) : (Instr.storeAt 38 (.pointer (some ⟨b, 0, none⟩)) (setV T)).run Try.prog w = .ok () (w.setCells b 0 (setC T)) := by
  have := run_storeAt_mid (P := Try.prog) w b 0 38 (setC T).toArray (by simpa [setC_len] using h.there) size_set (all_oneCell_toArray (setC_one T))
  simpa [setV] using this

/-- A set is loaded. -/
theorem wl_load_set {ops : Array Oper} {rest : List Oper} {a : Act} {w : World} {Q : Exit → Act → World → Prop} {d : Option Tmp} {x : Operand} {ty : TypeId} {ps : String} {af : Array Edge}
    {b o : Nat} {S : Nat → Bool} (hx : a.eval x = .pointer (some ⟨b, o, none⟩)) (hc : w.rangeAt b o (setC S)) (h : wpList Try.prog ops Q rest (a.put d (setV S)) w) : wpList Try.prog ops Q (⟨d, .load 38 x, ty, ps, af, none⟩ :: rest) a w :=
  wpList_load_mid rfl _ x rfl b o hx (setC S) _ hc Try.underlying38 rfl size_set h

theorem wl_load_span {ops : Array Oper} {rest : List Oper} {a : Act} {w : World} {Q : Exit → Act → World → Prop} {d : Option Tmp} {x : Operand} {ty : TypeId} {ps : String} {af : Array Edge}
    {b o : Nat} {f : Int} {S : Nat → Bool} (hx : a.eval x = .pointer (some ⟨b, o, none⟩)) (hc : w.rangeAt b o (spC f S)) (h : wpList Try.prog ops Q rest (a.put d (spV f S)) w) : wpList Try.prog ops Q (⟨d, .load 43 x, ty, ps, af, none⟩ :: rest) a w :=
  wpList_load_mid rfl _ x rfl b o hx (spC f S) _ hc Try.underlying43 rfl size_span h

/-- A set is stored. -/
theorem wl_store_set {ops : Array Oper} {rest : List Oper} {a : Act} {w : World} {Q : Exit → Act → World → Prop} {d : Option Tmp} {x y : Operand} {ty : TypeId} {ps : String} {af : Array Edge}
    (T : Nat → Bool) {b : Nat} (hx : a.eval x = .pointer (some ⟨b, 0, none⟩)) (hy : a.eval y = setV T) {S : Nat → Bool} (hc : SetAt w b S) (h : ∀ w', Hid (SetAt w' b T) → Hid (Kept [b] w w') → wpList Try.prog ops Q rest (a.put d undef) w') : wpList Try.prog ops Q (⟨d, .store 38 x y, ty, ps, af, none⟩ :: rest) a w :=
  wpList_store_mid rfl _ x y rfl b 0 (setC T).toArray hx hy (by simpa [setC_len] using hc.there) size_set (all_oneCell_toArray (setC_one T)) (h _ (hc.store T) (setCells_kept (by simp) _ _ (Kept.refl _ _)))

/-- An epoch lies in a block of its own. -/
def SpAt (w : World) (b : Nat) (f : Int) (S : Nat → Bool) : Prop := w.heap[b]? = some (.cells (spC f S).toArray 43 (0, 0))

theorem SpAt.range {w : World} {b : Nat} {f : Int} {S : Nat → Bool} (h : SpAt w b f S) : w.rangeAt b 0 (spC f S) := fun j v hv => by
  rw [Nat.zero_add]
  exact cell_inC h (by simpa using hv)

theorem spC_set {w : World} {b o : Nat} {f : Int} {S : Nat → Bool} (h : w.rangeAt b o (spC f S)) : w.rangeAt b (o + 1) (setC S) := fun j v hv => by
  have := h (j + 1) v (by simpa [spC] using hv)
  rwa [show o + (j + 1) = o + 1 + j by omega] at this

theorem spC_from {w : World} {b o : Nat} {f : Int} {S : Nat → Bool} (h : w.rangeAt b o (spC f S)) : w.cell? ⟨b, o, none⟩ = some (.int .i64 f) := h 0 _ rfl

theorem SpAt.there {w : World} {b : Nat} {f : Int} {S : Nat → Bool} (h : SpAt w b f S) : w.there b 0 16 := fun j hj => by
  obtain ⟨v, hv⟩ : ∃ v, (spC f S)[j]? = some v := ⟨_, List.getElem?_eq_getElem (by rw [spC_len]; exact hj)⟩
  rw [Nat.zero_add]
  exact ⟨by rw [show w.cell? ⟨b, j, none⟩ = some v from cell_inC h (by simpa using hv)]; rfl, froz3 h j⟩

theorem SpAt.store {w : World} {b : Nat} {f g : Int} {S T : Nat → Bool} (h : SpAt w b f S) : SpAt (w.setCells b 0 (spC g T)) b g T := by
  have h1 := setCells_row b (spC g T) [] (spC f S) [] w _ (by simpa [SpAt] using h) rfl
  simpa [SpAt] using h1

theorem wl_store_span {ops : Array Oper} {rest : List Oper} {a : Act} {w : World} {Q : Exit → Act → World → Prop} {d : Option Tmp} {x y : Operand} {ty : TypeId} {ps : String} {af : Array Edge}
    (g : Int) (T : Nat → Bool) {b : Nat} (hx : a.eval x = .pointer (some ⟨b, 0, none⟩)) (hy : a.eval y = spV g T) {f : Int} {S : Nat → Bool} (hc : SpAt w b f S) (h : ∀ w', Hid (SpAt w' b g T) → Hid (Kept [b] w w') → wpList Try.prog ops Q rest (a.put d undef) w') : wpList Try.prog ops Q (⟨d, .store 43 x y, ty, ps, af, none⟩ :: rest) a w :=
  wpList_store_mid rfl _ x y rfl b 0 (spC g T).toArray hx hy (by simpa [spC_len] using hc.there) size_span (all_oneCell_toArray (spC_one g T)) (h _ hc.store (setCells_kept (by simp) _ _ (Kept.refl _ _)))

theorem set_res2 {w : World} {g : Nat} {S : Nat → Bool} {fn : Func} {p u : Tmp} (hr : fn.results = #[.cell p 38, .tmp u]) (tmps : Array Value) (hp : tmps.getD p undef = .pointer (some ⟨g, 0, none⟩)) (hg : SetAt w g S) :
    (results fn tmps).run Try.prog w = .ok (.tuple #[setV S, tmps.getD u undef]) w := by
  have hp' : tmps[p]?.getD undef = .pointer (some ⟨g, 0, none⟩) := by simpa using hp
  rw [results_cell_tmp hr]
  simp [hp', asAddr, run_loadVar_row w g _ 38 _ _ _ hg Try.underlying38 rfl size_set, setV]

end Go.Proofs.Ytddkaagdkmmknab
