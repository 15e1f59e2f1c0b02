/-
  Rows of commits that may be written over.
-/
import Derived.Test.YtajkmhepedlmmaaPtPair
namespace Go.Proofs.Ytajkmhepedlmmaa
open Go.RowKit

/-- A row of commits in memory that is as new as B. -/
def WrK (B : Nat) (w : World) (u : Value) : Prop :=
  ∃ ao n c, u = .slice ao n c ∧ n ≤ c ∧ c ≤ maxLen ∧ (n = 0 ∨ ∃ g cur, ao = some ⟨g, 0, none⟩ ∧ B ≤ g ∧ w.heap[g]? = some (.cells cur 65 (0, 0)) ∧ n * 4 ≤ cur.size)

theorem KoO.wr {B : Nat} {w : World} {u : Value} {k : List Com} (h : KoO B w u k) : WrK B w u := by
  obtain ⟨K, ⟨h1, h2⟩, _, _⟩ := h
  rcases h2 with ⟨hv, hn⟩ | ⟨g, cap, cur, hv, hg, hh, h3, h4, h5, h6⟩
  · exact ⟨none, 0, 0, hv, Nat.le_refl _, Nat.zero_le _, .inl rfl⟩
  · refine ⟨_, _, _, hv, h3, h4, .inr ⟨g, cur, rfl, hg, hh, ?_⟩⟩
    have := congrArg List.length h6
    rw [List.length_take, coC_length] at this
    simp at this
    omega

/-- A cell of such a row is written. -/
theorem WrK.set {B : Nat} {w : World} {u : Value} (h : WrK B w u) (b j : Nat) (x : Value) : WrK B (w.setCell ⟨b, j, none⟩ x) u := by
  obtain ⟨ao, n, c, h1, h2, h3, h4⟩ := h
  refine ⟨ao, n, c, h1, h2, h3, ?_⟩
  rcases h4 with h4 | ⟨g, cur, h5, h6, h7, h8⟩
  · exact .inl h4
  · refine .inr ⟨g, ?_⟩
    by_cases hp : g = b
    · subst hp
      exact ⟨_, h5, h6, heap_setCell_same w g j _ _ _ h7, by simpa using h8⟩
    · exact ⟨cur, h5, h6, ((Kept.refl [b] w).setCell (.inl (by simp)) x).at h7 (by simpa using hp), h8⟩

theorem WrK.kept {B : Nat} {w w' : World} {u : Value} (h : WrK B w u) (hk : Kept [] w w') : WrK B w' u := by
  obtain ⟨ao, n, c, h1, h2, h3, h4⟩ := h
  refine ⟨ao, n, c, h1, h2, h3, ?_⟩
  rcases h4 with h4 | ⟨g, cur, h5, h6, h7, h8⟩
  · exact .inl h4
  · exact .inr ⟨g, cur, h5, h6, hk.at h7 (by simp), h8⟩

theorem TRow.addr {w : World} {ao : Option Addr} {n c : Nat} {X : List (Se × Value)} (h : TRow w (.slice ao n c) X) {i : Nat} (hi : i < X.length) : ∃ g, ao = some ⟨g, 0, none⟩ := by
  obtain ⟨a, c', e, _, _, _, hat⟩ := h.shape
  cases e
  obtain ⟨g, hg, _⟩ := hat i hi
  exact ⟨g, hg⟩

/-- Sessions whose commits may be written over. -/
def Spoil (w5 : World) (v : Value) (X : List (Se × Value)) (w : World) : Prop := Kept [] w5 w ∧ TRow w v X ∧ ∀ x ∈ X, WrK w5.heap.size w x.2

theorem Spoil.set {w5 w : World} {v : Value} {X : List (Se × Value)} (h : Spoil w5 v X w) {g j : Nat} (hg : w5.heap.size ≤ g) {cur : Array Value} (hh : w.heap[g]? = some (.cells cur 65 (0, 0))) (x : Value) : Spoil w5 v X (w.setCell ⟨g, j, none⟩ x) :=
  ⟨h.1.setCell (.inr hg) x, h.2.1.typed ((Kept.refl [g] w).setCell (.inl (by simp)) x) (typed1 hh) (by decide), fun y hy => (h.2.2 y hy).set _ _ _⟩

end Go.Proofs.Ytajkmhepedlmmaa
