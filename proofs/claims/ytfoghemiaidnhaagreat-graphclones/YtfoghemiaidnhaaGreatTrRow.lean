/-
  Rows of leaves, as they are read: room.
-/
import Derived.Test.YtfoghemiaidnhaaGreatTrTold
namespace Go.Proofs.YtfoghemiaidnhaaGreat
open Go.RowKit

/-- A leaf in memory, from the cell at block b, place o, on. -/
structure LfAt (w : World) (b o : Nat) (x : Lf) : Prop where
  c0 : w.cell? ⟨b, o, none⟩ = some (.string (str x.p))
  c1 : w.cell? ⟨b, o + 1, none⟩ = some (.int .u64 x.d)
  c2 : w.cell? ⟨b, o + 2, none⟩ = some (.int .i64 x.r)
  c3 : w.cell? ⟨b, o + 3, none⟩ = some (.bool x.g)

theorem LfAt.kept {a w : World} {b o : Nat} {x : Lf} (h : LfAt a b o x) (k : Kept [] a w) : LfAt w b o x :=
  ⟨k.cell h.c0 (by simp), k.cell h.c1 (by simp), k.cell h.c2 (by simp), k.cell h.c3 (by simp)⟩

/-- A slice of leaves. -/
def SlL (w : World) (ao : Option Addr) (n c : Nat) (L : List Lf) : Prop :=
  L.length = n ∧ n ≤ c ∧ c ≤ maxLen ∧ ∀ i (h : i < L.length), ∃ b o, ao = some ⟨b, o, none⟩ ∧ LfAt w b (o + i * 4) L[i]

theorem SlL.kept {a w : World} {ao : Option Addr} {n c : Nat} {L : List Lf} (h : SlL a ao n c L) (k : Kept [] a w) : SlL w ao n c L :=
  ⟨h.1, h.2.1, h.2.2.1, fun i hi => by obtain ⟨b, o, e, h1⟩ := h.2.2.2 i hi; exact ⟨b, o, e, h1.kept k⟩⟩

theorem SlL.some {w : World} {ao : Option Addr} {n c : Nat} {L : List Lf} (h : SlL w ao n c L) (hn : 0 < n) :
    ∃ b o, ao = Option.some ⟨b, o, none⟩ ∧ ∀ i (hi : i < L.length), LfAt w b (o + i * 4) L[i] := by
  obtain ⟨b, o, e, _⟩ := h.2.2.2 0 (by rw [h.1]; exact hn)
  refine ⟨b, o, e, fun i hi => ?_⟩
  obtain ⟨b', o', e', h⟩ := h.2.2.2 i hi
  rw [e] at e'
  cases e'
  exact h

theorem lfC_length (L : List Lf) : (L.flatMap lfC).length = L.length * 4 := by
  induction L with
  | nil => rfl
  | cons x L ih => simp [lfC, ih]; omega

theorem lfC_get (L : List Lf) (i : Nat) (h : i < L.length) (j : Nat) (hj : j < 4) : (L.flatMap lfC)[i * 4 + j]? = (lfC L[i])[j]? := by
  induction L generalizing i with
  | nil => simp at h
  | cons x L ih =>
    rw [List.flatMap_cons]
    cases i with
    | zero => rw [List.getElem?_append_left (by simp [lfC]; omega)]; simp
    | succ i =>
      rw [List.getElem?_append_right (by simp [lfC]; omega)]
      have e : (i + 1) * 4 + j - (lfC x).length = i * 4 + j := by simp [lfC]; omega
      rw [e, ih i (by simpa using h)]
      simp

theorem OwnL.sl {B : Nat} {w : World} {v : Value} {L : List Lf} (h : OwnL B w v L) : ∃ ao c, v = .slice ao L.length c ∧ SlL w ao L.length c L := by
  have h' := h
  obtain ⟨h1, h2⟩ := h
  rcases h2 with ⟨hv, hn⟩ | ⟨g, cap, cur, hv, hg, hh, h3, h4, h5, h6⟩
  · have : L = [] := by simpa using hn
    subst this
    exact ⟨none, 0, by rw [hv]; rfl, rfl, Nat.le_refl _, Nat.zero_le _, fun i hi => by simp at hi⟩
  · refine ⟨some ⟨g, 0, none⟩, cap, hv, rfl, h3, h4, fun i hi => ⟨g, 0, rfl, ?_⟩⟩
    unfold OwnL at h'
    rw [hv] at h'
    have c : ∀ j, j < 4 → w.cell? ⟨g, 0 + i * 4 + j, none⟩ = (lfC L[i])[j]? := fun j hj => by
      rw [Nat.zero_add, World.ownsRow.cellAt h' (i * 4 + j) (by omega), lfC_get L i hi j hj]
    exact ⟨c 0 (by omega), c 1 (by omega), c 2 (by omega), c 3 (by omega)⟩

/-- Few and small. -/
def roomy (L : List Lf) : Bool := decide (L.length ≤ 300) && L.all fun x => decide (x.p.length ≤ 300)

theorem not_roomy {L : List Lf} {k : Nat} (hk : k < L.length) (h : 300 < L[k].p.length) : roomy L = false := by
  unfold roomy
  have h1 : (L.all fun x => decide (x.p.length ≤ 300)) = false := by
    rw [List.all_eq_false]
    exact ⟨L[k], List.getElem_mem hk, by simp; omega⟩
  rw [h1]; simp

theorem roomy_iff {L : List Lf} : roomy L = true ↔ L.length ≤ 300 ∧ ∀ x ∈ L, x.p.length ≤ 300 := by
  unfold roomy; simp

/-- How two leaves are held against each other: the same, or the first thing in which they part. -/
theorem lf_parts (x y : Lf) : (x = y ∧ (str x.p).toList = (str y.p).toList ∧ x.d = y.d ∧ x.r = y.r ∧ x.g = y.g) ∨ (x ≠ y ∧ ((¬ (str x.p).toList = (str y.p).toList) ∨ ((str x.p).toList = (str y.p).toList ∧ ¬ x.d = y.d) ∨
    ((str x.p).toList = (str y.p).toList ∧ x.d = y.d ∧ ¬ x.r = y.r) ∨ ((str x.p).toList = (str y.p).toList ∧ x.d = y.d ∧ x.r = y.r ∧ ¬ x.g = y.g))) := by
  have e : ∀ a b : List UInt8, ((str a).toList = (str b).toList ↔ a = b) := fun a b => by
    rw [Go.ByteArray.toList_eq, Go.ByteArray.toList_eq, str_data, str_data]
  rw [e]
  obtain ⟨p, d, r, g⟩ := x
  obtain ⟨p', d', r', g'⟩ := y
  simp only [Lf.mk.injEq]
  by_cases h1 : p = p' <;> by_cases h2 : d = d' <;> by_cases h3 : r = r' <;> by_cases h4 : g = g' <;> simp [h1, h2, h3, h4]

end Go.Proofs.YtfoghemiaidnhaaGreat
