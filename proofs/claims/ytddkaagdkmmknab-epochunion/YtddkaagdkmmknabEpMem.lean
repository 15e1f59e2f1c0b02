/-
  Epochs in memory.
-/
import Derived.Test.YtddkaagdkmmknabEpOps
namespace Go.Proofs.Ytddkaagdkmmknab
open Go.RowKit

/-- The cells of an epoch. -/
def epC (x : Ep) : List Value := spC x.f (setB x.m)

theorem epC_len (L : List Ep) : (L.flatMap epC).length = L.length * 16 := by
  induction L with
  | nil => rfl
  | cons x L ih => rw [List.flatMap_cons, List.length_append, ih, List.length_cons]; simp only [epC, spC_len]; omega

theorem epC_get (L : List Ep) (i : Nat) (h : i < L.length) (j : Nat) (hj : j < 16) : (L.flatMap epC)[i * 16 + j]? = (epC L[i])[j]? := by
  induction L generalizing i with
  | nil => simp at h
  | cons x L ih =>
    rw [List.flatMap_cons]
    cases i with
    | zero => rw [List.getElem?_append_left (by simp only [epC, spC_len]; omega)]; simp
    | succ i =>
      rw [List.getElem?_append_right (by simp only [epC, spC_len]; omega)]
      simp only [epC, spC_len, List.getElem_cons_succ]
      rw [show (i + 1) * 16 + j - 16 = i * 16 + j by omega]
      exact ih i (by simpa using h)

theorem epC_one (L : List Ep) : ∀ u ∈ L.flatMap epC, u.oneCell' = true := by
  intro u hu
  obtain ⟨x, _, hx⟩ := List.mem_flatMap.1 hu
  exact spC_one _ _ u hx

/-- A row of epochs that is owned. -/
def RowE (B : Nat) (w : World) (v : Value) (L : List Ep) : Prop := w.ownsRow B 43 16 v L.length (L.flatMap epC)

theorem RowE.slice {B : Nat} {w : World} {v : Value} {L : List Ep} (h : RowE B w v L) (hn : L ≠ []) :
    ∃ g cap, v = .slice (some ⟨g, 0, none⟩) L.length cap ∧ B ≤ g ∧ L.length ≤ cap ∧ cap ≤ maxLen ∧ ∀ i (hi : i < L.length), w.rangeAt g (i * 16) (epC L[i]) := by
  have h' := h
  obtain ⟨h1, h2⟩ := h
  rcases h2 with ⟨hv, h0⟩ | ⟨g, cap, cur, hv, hg, hh, h3, h4, h5, h6⟩
  · exact absurd (List.eq_nil_of_length_eq_zero h0) hn
  · refine ⟨g, cap, hv, hg, h3, h4, fun i hi j u hj => ?_⟩
    unfold RowE at h'
    rw [hv] at h'
    have hj' : j < 16 := by have := (List.getElem?_eq_some_iff.1 hj).1; simpa [epC, spC_len] using this
    rw [World.ownsRow.cellAt h' (i * 16 + j) (by omega), epC_get L i hi j hj', hj]

/-- Epochs that New, Load or Clone made. -/
def EpA (B : Nat) (w : World) (p : Nat) (al : Int) (L : List Ep) : Prop :=
  ∃ v, B ≤ p ∧ w.heap[p]? = some (.cells #[.int .i64 al, v] 46 (0, 0)) ∧ RowE B w v L

/-- What turns is new since B, and of these types. -/
def Tn (B : Nat) (Ts : List TypeId) (w w' : World) : Prop := ∃ S, Kept S w w' ∧ (∀ k ∈ S, B ≤ k) ∧ Typed w S Ts

theorem Tn.refl (B : Nat) (Ts : List TypeId) (w : World) : Tn B Ts w w := ⟨[], Kept.refl _ _, by simp, typed_nil _ _⟩

theorem Tn.kept {B : Nat} {Ts : List TypeId} {w w' : World} (h : Kept [] w w') : Tn B Ts w w' := ⟨[], h, by simp, typed_nil _ _⟩

theorem Tn.trans {B : Nat} {Ts : List TypeId} {a b c : World} (h : Tn B Ts a b) (k : Tn B Ts b c) : Tn B Ts a c := by
  obtain ⟨S, h1, h2, h3⟩ := h
  obtain ⟨T, k1, k2, k3⟩ := k
  refine ⟨S ++ T.filter fun i => decide (i < a.heap.size), ?_, ?_, ?_⟩
  · refine (h1.mono (T := S ++ T.filter fun i => decide (i < a.heap.size)) (fun i hi => .inl (by simp [hi]))).trans k1 fun i hi => ?_
    by_cases hlt : i < a.heap.size
    · exact .inl (by simp [hi, hlt])
    · exact .inr (by omega)
  · intro i hi
    rcases List.mem_append.1 hi with hi | hi
    · exact h2 i hi
    · exact k2 i (List.mem_filter.1 hi).1
  · intro i hi cur t mk hh
    by_cases hs : i ∈ S
    · exact h3 i hs cur t mk hh
    · rcases List.mem_append.1 hi with hi | hi
      · exact absurd hi hs
      · exact k3 i (List.mem_filter.1 hi).1 cur t mk (h1.at hh hs)

theorem Tn.size {B : Nat} {Ts : List TypeId} {w w' : World} (h : Tn B Ts w w') : w.heap.size ≤ w'.heap.size := by
  obtain ⟨S, h1, _⟩ := h
  exact h1.size

/-- Blocks of other types stay. -/
theorem Tn.at {B : Nat} {Ts : List TypeId} {w w' : World} (h : Tn B Ts w w') {k : Nat} {cur : Array Value} {t : TypeId} {mk : Nat × Nat} (hk : w.heap[k]? = some (.cells cur t mk)) (ht : t ∉ Ts) : w'.heap[k]? = some (.cells cur t mk) := by
  obtain ⟨S, h1, _, h3⟩ := h
  exact h1.typed h3 hk ht

theorem Tn.row {B : Nat} {Ts : List TypeId} {w w' : World} (h : Tn B Ts w w') {B' e size n : Nat} {v : Value} {xs : List Value} (hr : w.ownsRow B' e size v n xs) (ht : e ∉ Ts) : w'.ownsRow B' e size v n xs := by
  obtain ⟨S, h1, _, h3⟩ := h
  exact row_typed h1 h3 hr ht

/-- What is older stays. -/
theorem Tn.below {B : Nat} {Ts : List TypeId} {w w' : World} (h : Tn B Ts w w') (hB : B ≤ w.heap.size) : Below B w w' := by
  obtain ⟨S, h1, h2, _⟩ := h
  exact h1.below hB h2

theorem Tn.low {a w w' : World} {B : Nat} {Ts : List TypeId} (k : Kept [] a w) (h : Tn B Ts w w') (hB : a.heap.size ≤ B) : Kept [] a w' := by
  obtain ⟨S, h1, h2, _⟩ := h
  exact k.trans h1 fun i hi => .inr (Nat.le_trans hB (h2 i hi))

theorem Tn.mono {B B' : Nat} {Ts Ts' : List TypeId} {w w' : World} (h : Tn B Ts w w') (hB : B' ≤ B) (hT : ∀ t ∈ Ts, t ∈ Ts') : Tn B' Ts' w w' := by
  obtain ⟨S, h1, h2, h3⟩ := h
  exact ⟨S, h1, fun k hk => Nat.le_trans hB (h2 k hk), fun k hk cur t mk hh => hT t (h3 k hk cur t mk hh)⟩

theorem EpA.kept {B : Nat} {w w' : World} {p : Nat} {al : Int} {L : List Ep} (h : EpA B w p al L) (k : Kept [] w w') : EpA B w' p al L := by
  obtain ⟨v, h1, h2, h3⟩ := h
  exact ⟨v, h1, k.at h2 (by simp), k.ownsRow h3 (by simp)⟩

theorem EpA.tn {B B' : Nat} {Ts : List TypeId} {w w' : World} {p : Nat} {al : Int} {L : List Ep} (h : EpA B w p al L) (k : Tn B' Ts w w') (h1 : 46 ∉ Ts) (h2 : 43 ∉ Ts) : EpA B w' p al L := by
  obtain ⟨v, a, b, c⟩ := h
  exact ⟨v, a, k.at b h1, k.row c h2⟩

theorem EpA.open {B : Nat} {w : World} {p : Nat} {al : Int} {L : List Ep} (h : EpA B w p al L) (hn : L ≠ []) :
    ∃ g cap, w.heap[p]? = some (.cells #[.int .i64 al, .slice (some ⟨g, 0, none⟩) L.length cap] 46 (0, 0)) ∧ L.length ≤ cap ∧ cap ≤ maxLen ∧ ∀ i (hi : i < L.length), w.rangeAt g (i * 16) (epC L[i]) := by
  obtain ⟨v, _, h2, h3⟩ := h
  obtain ⟨g, cap, rfl, _, h5, h6, h7⟩ := h3.slice hn
  exact ⟨g, cap, h2, h5, h6, h7⟩

theorem EpA.ge {B : Nat} {w : World} {p : Nat} {al : Int} {L : List Ep} (h : EpA B w p al L) : B ≤ p := by
  obtain ⟨v, h1, _⟩ := h
  exact h1

end Go.Proofs.Ytddkaagdkmmknab
