/-
  The document's own tree: Get, Put.
-/
import Derived.Test.YtfoghemiaidnhaaGreatTrRef
import Derived.Laws.AppendOwnNone
import Derived.Laws.AppendOwn
import Derived.OwnWalk
namespace Go.Proofs.YtfoghemiaidnhaaGreat
open Go.RowKit

/-- A slice that is nil, or not empty. -/
def NilOr (ao : Option Addr) (c : Nat) (L : List Lf) : Prop := (ao = none ∧ c = 0 ∧ L = []) ∨ L ≠ []

theorem flat_take (L : List Lf) (k : Nat) : (L.take k).flatMap lfC = (L.flatMap lfC).take (k * 4) := by
  induction L generalizing k with
  | nil => simp
  | cons x L ih =>
    cases k with
    | zero => simp
    | succ k =>
      rw [List.take_succ_cons, List.flatMap_cons, List.flatMap_cons, ih k, List.take_append]
      have e : (lfC x).length = 4 := rfl
      rw [List.take_of_length_le (l := lfC x) (by omega), e, show (k + 1) * 4 - 4 = k * 4 by omega]

theorem flat_drop (L : List Lf) (k : Nat) : (L.drop k).flatMap lfC = (L.flatMap lfC).drop (k * 4) := by
  induction L generalizing k with
  | nil => simp
  | cons x L ih =>
    cases k with
    | zero => simp
    | succ k =>
      rw [List.drop_succ_cons, List.flatMap_cons, ih k, List.drop_append]
      have e : (lfC x).length = 4 := rfl
      rw [List.drop_of_length_le (l := lfC x) (by omega), e, show (k + 1) * 4 - 4 = k * 4 by omega]; simp

theorem cells_run {w : World} {b o : Nat} {L : List Lf} (h : ∀ i (hi : i < L.length), LfAt w b (o + i * 4) L[i]) (j : Nat) (u : Value) (hj : (L.flatMap lfC)[j]? = some u) : w.cell? ⟨b, o + j, none⟩ = some u := by
  have hlt : j < L.length * 4 := by
    rw [← lfC_length]
    by_cases e : j < (L.flatMap lfC).length
    · exact e
    · rw [List.getElem?_eq_none (by omega)] at hj; cases hj
  have hi : j / 4 < L.length := by omega
  have hc := h (j / 4) hi
  have e := lfC_get L (j / 4) hi (j % 4) (by omega)
  rw [show j / 4 * 4 + j % 4 = j by omega, hj] at e
  have hr : j % 4 = 0 ∨ j % 4 = 1 ∨ j % 4 = 2 ∨ j % 4 = 3 := by omega
  have ho : o + j = o + j / 4 * 4 + j % 4 := by omega
  rw [ho]
  rcases hr with h0 | h0 | h0 | h0
  · rw [h0] at e ⊢; rw [Nat.add_zero, hc.c0]; exact e.symm
  · rw [h0] at e ⊢; rw [hc.c1]; exact e.symm
  · rw [h0] at e ⊢; rw [hc.c2]; exact e.symm
  · rw [h0] at e ⊢; rw [hc.c3]; exact e.symm

theorem run_take {w : World} {b o : Nat} {L : List Lf} (h : ∀ i (hi : i < L.length), LfAt w b (o + i * 4) L[i]) (k : Nat) : ∀ (j : Nat) (u : Value), ((L.take k).flatMap lfC)[j]? = some u → w.cell? ((⟨b, o, none⟩ : Addr).add j) = some u := by
  intro j u hj
  rw [adr_add]
  refine cells_run h j u ?_
  rw [flat_take, List.getElem?_take] at hj
  split at hj
  · exact hj
  · cases hj

theorem run_drop {w : World} {b o : Nat} {L : List Lf} (h : ∀ i (hi : i < L.length), LfAt w b (o + i * 4) L[i]) (k : Nat) : ∀ (j : Nat) (u : Value), ((L.drop k).flatMap lfC)[j]? = some u → w.cell? ((⟨b, o + k * 4, none⟩ : Addr).add j) = some u := by
  intro j u hj
  rw [adr_add, Nat.add_assoc]
  refine cells_run h _ u ?_
  rw [flat_drop, List.getElem?_drop] at hj
  exact hj

theorem one_cells (L : List Lf) : ∀ u ∈ L.flatMap lfC, u.oneCell' = true := by
  intro u hu
  simp only [List.mem_flatMap, lfC] at hu
  obtain ⟨x, _, hx⟩ := hu
  simp at hx
  rcases hx with rfl | rfl | rfl | rfl <;> rfl

theorem own_void (w : World) (B : Nat) (hB : B ≤ w.heap.size) : OwnL B (w.alloc (.cells #[] 79)) (.slice (some ⟨w.heap.size, 0, none⟩) 0 0) [] :=
  ⟨rfl, .inr ⟨w.heap.size, 0, #[], rfl, hB, heap_alloc_new w _, Nat.le_refl _, Nat.zero_le _, rfl, rfl⟩⟩

set_option maxHeartbeats 4000000 in
set_option maxRecDepth 100000 in
theorem rget_call (w : World) (ao : Option Addr) (n c : Nat) (L : List Lf) (ht : SlL w ao n c L) (hS : Srt L) (hp : ∀ x ∈ L, x.p.length ≤ 100000000000) (f : List UInt8) (hf : f.length ≤ 100000000000) :
    Calls Tryz.prog 41 #[.agg #[.slice ao n c], .string (str f)] w fun e w' => e = .returned (tupL (L.find? (fun x => decide (f = x.p)))) ∧ Kept [] w w' := by
  have hn := ht.1
  subst hn
  have hm := ht.2.2.1
  have hc := ht.2.1
  unfold maxLen at hm
  have hle := placeL_le f L
  have cp := fun w' (hk : Kept [] w w') => place_call w' ao L.length c L (ht.kept hk) hp f hf
  rw [find_place f L hS]
  obtain ⟨W0, hW0⟩ : ∃ W0, W0 = (w.alloc (.cells #[.slice ao L.length c] 43)).alloc (.cells #[.string ⟨#[]⟩, .int .u64 0, .int .i64 0, .bool false] 79) := ⟨_, rfl⟩
  have hK0 : Kept [] w W0 := by rw [hW0]; exact ((Kept.refl [] w).alloc _).alloc _
  have q1 : W0.heap[w.heap.size]? = some (.cells #[.slice ao L.length c] 43 (0, 0)) := by
    rw [hW0]; exact (Below.heap_alloc _ _ _ (by simp)).trans (heap_alloc_new w _)
  have q2 : W0.heap[w.heap.size + 1]? = some (.cells #[.string ⟨#[]⟩, .int .u64 0, .int .i64 0, .bool false] 79 (0, 0)) := by
    rw [hW0]
    have := heap_alloc_new (w.alloc (.cells #[.slice ao L.length c] 43)) (.cells #[.string ⟨#[]⟩, .int .u64 0, .int .i64 0, .bool false] 79)
    rw [World.size_alloc] at this
    exact this
  have bT := cell_of_one q1
  have HL : Hid (∀ i (hi : i < L.length), ∃ b o, ao = some ⟨b, o, none⟩ ∧ LfAt w b (o + i * 4) L[i]) := ht.2.2.2
  clear hS hp ht
  rcases hpl : placeL f L with ⟨i, there⟩
  rw [hpl] at cp hle
  simp only at cp hle ⊢
  obtain ⟨hle1, hle2⟩ := hle
  cases there with
  | false =>
    simp only [Bool.false_eq_true, if_false]
    clear hle2 hpl
    go_enter Tryz.func41, Tryz.ntmps41
    go_wp2_with fail
    rw [← hW0]
    refine (cp _ hK0).mono ?_
    rintro e w1 ⟨rfl, hK1⟩
    have q6 := hK1.at q2 (by simp)
    have f6 := frozen_in q6
    have g0 := f6 0
    have g1 := f6 1
    have g2 := f6 2
    have g3 := f6 3
    obtain ⟨k0, k1, k2, k3⟩ := cells4 q6
    obtain ⟨s0, s1, s2, s3⟩ := stores4 q6 (.string ⟨#[]⟩) (.int .u64 0) (.int .i64 0) (.bool false)
    have hKw := hK0.trans hK1 (by simp)
    clear q6 f6 q1 q2 hK0 hK1 cp bT hW0
    go_wp2_with fail
    refine bodyPost_ret (v := tupL none) ?_ rfl ⟨rfl, kept4 hKw (Nat.le_succ _) _ _ _ _⟩
    rw [results_cell_tmp rfl]
    unfold tupL
    go_simp
  | true =>
    have hi := hle2 rfl
    simp only [if_true]
    rw [List.getElem?_eq_getElem hi]
    obtain ⟨b, o, rfl, hx⟩ := HL.out i hi
    generalize L[i] = x at *
    clear hpl hle2
    go_enter Tryz.func41, Tryz.ntmps41
    go_wp2_with fail
    rw [← hW0]
    refine (cp _ hK0).mono ?_
    rintro e w1 ⟨rfl, hK1⟩
    have hKw := hK0.trans hK1 (by simp)
    obtain ⟨y0, y1, y2, y3⟩ := hx.kept hKw
    have bT1 := hK1.cell bT (by simp)
    have q6 := hK1.at q2 (by simp)
    have f6 := frozen_in q6
    have g0 := f6 0
    have g1 := f6 1
    have g2 := f6 2
    have g3 := f6 3
    obtain ⟨k0, k1, k2, k3⟩ := cells4 q6
    obtain ⟨s0, s1, s2, s3⟩ := stores4 q6 (.string (str x.p)) (.int .u64 x.d) (.int .i64 x.r) (.bool x.g)
    clear q6 f6 q1 q2 hK0 hK1 cp bT hW0 hx
    go_wp2_with fail
    refine bodyPost_ret (v := tupL (some x)) ?_ rfl ⟨rfl, kept4 hKw (Nat.le_succ _) _ _ _ _⟩
    rw [results_cell_tmp rfl]
    unfold tupL lfV
    go_simp

end Go.Proofs.YtfoghemiaidnhaaGreat
