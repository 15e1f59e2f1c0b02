/-
  Changes in memory: rows that are read, rows that are written in their place.
-/
import Derived.Test.YtajkmhepedlmmaaM1
import Derived.Test.YtajkmhepedlmmaaProg
import Derived.Laws.OwnMore
import Derived.Deep.QuietTactic
import Derived.BigQuiet
import Derived.Deep.RegionHeld3
import Derived.Handy
namespace Go.Proofs.Ytajkmhepedlmmaa
open Go.RowKit

/-- A change's cells. -/
def chC (x : Ch) : List Value := [.string (str x.p), .bool x.g, .int .u64 x.d]
/-- A change as a value. -/
def chV (x : Ch) : Value := .agg #[.string (str x.p), .bool x.g, .int .u64 x.d]

/-- A change in memory, from the cell at block b, place o, on. -/
structure ChAt (w : World) (b o : Nat) (x : Ch) : Prop where
  c0 : w.cell? ⟨b, o, none⟩ = some (.string (str x.p))
  c1 : w.cell? ⟨b, o + 1, none⟩ = some (.bool x.g)
  c2 : w.cell? ⟨b, o + 2, none⟩ = some (.int .u64 x.d)

theorem ChAt.kept {S : List Nat} {a w : World} {b o : Nat} {x : Ch} (h : ChAt a b o x) (k : Kept S a w) (hb : b ∉ S) : ChAt w b o x :=
  ⟨k.cell h.c0 hb, k.cell h.c1 hb, k.cell h.c2 hb⟩

/-- A slice of changes. -/
def SlC (w : World) (ao : Option Addr) (n c : Nat) (L : List Ch) : Prop :=
  L.length = n ∧ n ≤ c ∧ c ≤ maxLen ∧ ∀ i (h : i < L.length), ∃ b o, ao = some ⟨b, o, none⟩ ∧ ChAt w b (o + i * 3) L[i]

theorem SlC.kept {S : List Nat} {a w : World} {ao : Option Addr} {n c : Nat} {L : List Ch} (h : SlC a ao n c L) (k : Kept S a w) (hb : ∀ g ∈ blk ao, g ∉ S) : SlC w ao n c L :=
  ⟨h.1, h.2.1, h.2.2.1, fun i hi => by obtain ⟨b, o, e, h1⟩ := h.2.2.2 i hi; exact ⟨b, o, e, h1.kept k (hb b (by rw [e]; simp [blk]))⟩⟩

theorem SlC.some {w : World} {ao : Option Addr} {n c : Nat} {L : List Ch} (h : SlC w ao n c L) (hn : 0 < n) :
    ∃ b o, ao = Option.some ⟨b, o, none⟩ ∧ ∀ i (hi : i < L.length), ChAt w b (o + i * 3) L[i] := by
  obtain ⟨b, o, e, _⟩ := h.2.2.2 0 (by rw [h.1]; exact hn)
  refine ⟨b, o, e, fun i hi => ?_⟩
  obtain ⟨b', o', e', h⟩ := h.2.2.2 i hi
  rw [e] at e'
  cases e'
  exact h

theorem chC_length (L : List Ch) : (L.flatMap chC).length = L.length * 3 := by
  induction L with
  | nil => rfl
  | cons x L ih => simp [chC, ih]; omega

theorem chC_get (L : List Ch) (i : Nat) (h : i < L.length) (j : Nat) (hj : j < 3) : (L.flatMap chC)[i * 3 + j]? = (chC L[i])[j]? := by
  induction L generalizing i with
  | nil => simp at h
  | cons x L ih =>
    rw [List.flatMap_cons]
    cases i with
    | zero => rw [List.getElem?_append_left (by simp [chC]; omega)]; simp
    | succ i =>
      rw [List.getElem?_append_right (by simp [chC]; omega)]
      have e : (i + 1) * 3 + j - (chC x).length = i * 3 + j := by simp [chC]; omega
      rw [e, ih i (by simpa using h)]
      simp

/-- The row is the changes L, in a block that is new since B. -/
def OwnC (B : Nat) (w : World) (v : Value) (L : List Ch) : Prop := w.ownsRow B 89 3 v L.length (L.flatMap chC)

theorem OwnC.sl {B : Nat} {w : World} {v : Value} {L : List Ch} (h : OwnC B w v L) : ∃ ao c, v = .slice ao L.length c ∧ SlC w ao L.length c L := by
  have h' := h
  obtain ⟨h1, h2⟩ := h
  rcases h2 with ⟨hv, hn⟩ | ⟨g, cap, cur, hv, hg, hh, h3, h4, h5, h6⟩
  · have : L = [] := by simpa using hn
    subst this
    exact ⟨none, 0, by rw [hv]; rfl, rfl, Nat.le_refl _, Nat.zero_le _, fun i hi => by simp at hi⟩
  · refine ⟨some ⟨g, 0, none⟩, cap, hv, rfl, h3, h4, fun i hi => ⟨g, 0, rfl, ?_⟩⟩
    unfold OwnC at h'
    rw [hv] at h'
    have c : ∀ j, j < 3 → w.cell? ⟨g, 0 + i * 3 + j, none⟩ = (chC L[i])[j]? := fun j hj => by
      rw [Nat.zero_add, World.ownsRow.cellAt h' (i * 3 + j) (by omega), chC_get L i hi j hj]
    exact ⟨c 0 (by omega), c 1 (by omega), c 2 (by omega)⟩

/-- The first n changes of block g are those of f; they may be written. -/
structure RowC (w : World) (g n cap : Nat) (f : Nat → Ch) : Prop where
  le : n ≤ cap
  max : cap ≤ maxLen
  row : ∃ cur : Array Value, w.heap[g]? = some (.cells cur 89 (0, 0)) ∧ cur.size = cap * 3 ∧
    ∀ i, i < n → cur[i * 3]? = some (.string (str (f i).p)) ∧ cur[i * 3 + 1]? = some (.bool (f i).g) ∧ cur[i * 3 + 2]? = some (.int .u64 (f i).d)

theorem RowC.ch {w : World} {g n cap : Nat} {f : Nat → Ch} (h : RowC w g n cap f) {i : Nat} (hi : i < n) : ChAt w g (i * 3) (f i) := by
  obtain ⟨cur, hh, hs, hc⟩ := h.row
  obtain ⟨c0, c1, c2⟩ := hc i hi
  refine ⟨?_, ?_, ?_⟩ <;> simp [World.cell?, hh, c0, c1, c2]

theorem RowC.froz {w : World} {g n cap : Nat} {f : Nat → Ch} (h : RowC w g n cap f) (j : Nat) : w.frozen? ⟨g, j, none⟩ = false := by
  obtain ⟨cur, hh, _⟩ := h.row
  simp [World.frozen?, hh]

theorem RowC.lt {w : World} {g n cap : Nat} {f : Nat → Ch} (h : RowC w g n cap f) : g < w.heap.size := by
  obtain ⟨cur, hh, _⟩ := h.row
  exact lt_of_at hh

theorem RowC.kept {S : List Nat} {a w : World} {g n cap : Nat} {f : Nat → Ch} (h : RowC a g n cap f) (k : Kept S a w) (hg : g ∉ S) : RowC w g n cap f := by
  obtain ⟨h1, h2, cur, hh, r⟩ := h
  exact ⟨h1, h2, cur, k.at hh hg, r⟩

theorem RowC.congr {w : World} {g n cap : Nat} {f f' : Nat → Ch} (h : RowC w g n cap f) (e : ∀ i, i < n → f' i = f i) : RowC w g n cap f' := by
  obtain ⟨h1, h2, cur, hh, hs, r⟩ := h
  exact ⟨h1, h2, cur, hh, hs, fun i hi => by rw [e i hi]; exact r i hi⟩

/-- One change written. -/
def put3 (w : World) (g i : Nat) (x : Ch) : World :=
  ((w.setCell ⟨g, i * 3, none⟩ (.string (str x.p))).setCell ⟨g, i * 3 + 1, none⟩ (.bool x.g)).setCell ⟨g, i * 3 + 2, none⟩ (.int .u64 x.d)

theorem RowC.put {w : World} {g n cap : Nat} {f : Nat → Ch} (h : RowC w g n cap f) {i : Nat} (hi : i < n) (x : Ch) : RowC (put3 w g i x) g n cap (fun k => if k = i then x else f k) := by
  obtain ⟨h1, h2, cur, hh, hs, r⟩ := h
  have e1 := heap_setCell_same w g (i * 3) cur _ (.string (str x.p)) hh
  have e2 := heap_setCell_same _ g (i * 3 + 1) _ _ (.bool x.g) e1
  have e3 := heap_setCell_same _ g (i * 3 + 2) _ _ (.int .u64 x.d) e2
  refine ⟨h1, h2, _, e3, by simpa using hs, fun k hk => ?_⟩
  obtain ⟨r0, r1, r2⟩ := r k hk
  by_cases hki : k = i
  · subst hki
    simp only [if_true]
    have hb : k * 3 + 2 < cur.size := by omega
    refine ⟨?_, ?_, ?_⟩ <;> simp [Array.getElem?_setIfInBounds] <;> omega
  · simp only [if_neg hki]
    refine ⟨?_, ?_, ?_⟩
    · rw [Array.getElem?_setIfInBounds_ne (by omega), Array.getElem?_setIfInBounds_ne (by omega), Array.getElem?_setIfInBounds_ne (by omega)]; exact r0
    · rw [Array.getElem?_setIfInBounds_ne (by omega), Array.getElem?_setIfInBounds_ne (by omega), Array.getElem?_setIfInBounds_ne (by omega)]; exact r1
    · rw [Array.getElem?_setIfInBounds_ne (by omega), Array.getElem?_setIfInBounds_ne (by omega), Array.getElem?_setIfInBounds_ne (by omega)]; exact r2

theorem put3_kept (w : World) (g i : Nat) (x : Ch) : Kept [g] w (put3 w g i x) :=
  (((Kept.refl [g] w).setCell (by simp) _).setCell (by simp) _).setCell (by simp) _

theorem RowC.swap {w : World} {g n cap : Nat} {f : Nat → Ch} (h : RowC w g n cap f) {i j : Nat} (hi : i < n) (hj : j < n) : RowC (put3 (put3 w g i (f j)) g j (f i)) g n cap (swp f i j) := by
  refine ((h.put hi (f j)).put hj (f i)).congr fun k _ => ?_
  simp only [swp]
  by_cases h1 : k = i <;> by_cases h2 : k = j <;> simp_all

/-- What is owned, and not empty, is such a row. -/
theorem OwnC.row {B : Nat} {w : World} {v : Value} {L : List Ch} (h : OwnC B w v L) (hn : 0 < L.length) (z : Ch) : ∃ g cap, v = .slice (some ⟨g, 0, none⟩) L.length cap ∧ B ≤ g ∧ RowC w g L.length cap (fun i => L.getD i z) := by
  obtain ⟨h1, h2⟩ := h
  rcases h2 with ⟨hv, h0⟩ | ⟨g, cap, cur, hv, hg, hh, h3, h4, h5, h6⟩
  · omega
  · refine ⟨g, cap, hv, hg, h3, h4, cur, hh, h5, fun i hi => ?_⟩
    have c : ∀ j, j < 3 → cur[i * 3 + j]? = (chC (L.getD i z))[j]? := fun j hj => by
      have e : L.getD i z = L[i] := by simp [List.getD, hi]
      rw [e, ← chC_get L i hi j hj, ← h6, List.getElem?_take, if_pos (by omega)]
      simp
    exact ⟨c 0 (by omega), c 1 (by omega), c 2 (by omega)⟩

/-- Such a row is owned. -/
theorem RowC.own {w : World} {g n cap : Nat} {f : Nat → Ch} (h : RowC w g n cap f) {B : Nat} (hB : B ≤ g) : OwnC B w (.slice (some ⟨g, 0, none⟩) n cap) (seg f 0 n) := by
  obtain ⟨h1, h2, cur, hh, hs, r⟩ := h
  have hl : (seg f 0 n).length = n := by rw [seg_length]; omega
  unfold OwnC
  refine ⟨chC_length _, .inr ⟨g, cap, cur, by rw [hl], hB, hh, by rw [hl]; exact h1, h2, hs, ?_⟩⟩
  rw [hl]
  apply List.ext_getElem?
  intro q
  by_cases hq : q < n * 3
  · rw [List.getElem?_take, if_pos hq]
    obtain ⟨r0, r1, r2⟩ := r (q / 3) (by omega)
    have e := chC_get (seg f 0 n) (q / 3) (by rw [hl]; omega) (q % 3) (by omega)
    have e2 : q / 3 * 3 + q % 3 = q := by omega
    rw [e2, seg_get, Nat.zero_add] at e
    rw [e]
    have h3 : q % 3 = 0 ∨ q % 3 = 1 ∨ q % 3 = 2 := by omega
    generalize q / 3 = u at *
    rcases h3 with h3 | h3 | h3
    · rw [h3] at e2 ⊢; subst e2; simpa [chC] using r0
    · rw [h3] at e2 ⊢; subst e2; simpa [chC] using r1
    · rw [h3] at e2 ⊢; subst e2; simpa [chC] using r2
  · rw [List.getElem?_eq_none (by simp; omega), List.getElem?_eq_none (by rw [chC_length, hl]; omega)]

end Go.Proofs.Ytajkmhepedlmmaa
