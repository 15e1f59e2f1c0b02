/-
  Sessions that may be loaded.
-/
import Derived.Test.YtajkmhepedlmmaaSeOnP0
namespace Go.Proofs.Ytajkmhepedlmmaa

/-- No number and no name twice, and no number of a request below 0. -/
def LdOk (L : List Se) : Prop := Uniq L ∧ ∀ x ∈ L, 0 ≤ x.q

theorem ldOk_nil : LdOk [] := ⟨uniq_nil, fun x hx => by cases hx⟩

theorem ldOk_sub {L M : List Se} (h : LdOk L) (hs : M.Sublist L) : LdOk M := ⟨uniq_sub h.1 hs, fun x hx => h.2 x (hs.subset hx)⟩

theorem none_byI {id : Int} {L : List Se} (h : ∀ x ∈ L, x.i ≠ id) : byI id L = none := by
  unfold byI
  rw [List.findIdx?_eq_none_iff]
  intro x hx
  simpa using h x hx

theorem none_byN {n : List UInt8} {L : List Se} (h : ∀ x ∈ L, x.n ≠ n) : byN n L = none := by
  unfold byN
  rw [List.findIdx?_eq_none_iff]
  intro x hx
  simpa using h x hx

theorem ldOk_push {M : List Se} {x : Se} (h : LdOk M) (h0 : 0 ≤ x.q) (h1 : ∀ y ∈ M, y.i ≠ x.i) (h2 : ∀ y ∈ M, y.n ≠ x.n) : LdOk (M ++ [x]) := by
  refine ⟨⟨?_, ?_⟩, fun y hy => ?_⟩
  · rw [List.map_append, List.nodup_append]
    refine ⟨h.1.1, by simp, fun a ha b hb => ?_⟩
    obtain ⟨y, hy, rfl⟩ := List.mem_map.1 ha
    rw [show b = x.i by simpa using hb]
    exact h1 y hy
  · rw [List.map_append, List.nodup_append]
    refine ⟨h.1.2, by simp, fun a ha b hb => ?_⟩
    obtain ⟨y, hy, rfl⟩ := List.mem_map.1 ha
    rw [show b = x.n by simpa using hb]
    exact h2 y hy
  · rcases List.mem_append.1 hy with hy | hy
    · exact h.2 y hy
    · rw [show y = x by simpa using hy]; exact h0

theorem ldOk_next {L : List Se} {j : Nat} {x : Se} (hx : L[j]? = some x) (h : LdOk (L.take j)) (h0 : 0 ≤ x.q) (h1 : ∀ y ∈ L.take j, y.i ≠ x.i) (h2 : ∀ y ∈ L.take j, y.n ≠ x.n) : LdOk (L.take (j + 1)) := by
  obtain ⟨hj, rfl⟩ := List.getElem?_eq_some_iff.1 hx
  rw [List.take_succ_eq_append_getElem hj]
  exact ldOk_push h h0 h1 h2

theorem take_next {L : List Se} {j : Nat} {x : Se} (hx : L[j]? = some x) : L.take (j + 1) = L.take j ++ [x] := by
  obtain ⟨hj, rfl⟩ := List.getElem?_eq_some_iff.1 hx
  exact List.take_succ_eq_append_getElem hj

/-- What is wrong with the one at the place j is wrong with all. -/
theorem ldOk_q {L : List Se} {j : Nat} {x : Se} (hx : L[j]? = some x) (h : x.q < 0) : ¬ LdOk L := fun hl => by
  have := hl.2 x (List.mem_of_getElem? hx)
  omega

theorem ldOk_i {L : List Se} {j k : Nat} {x y : Se} (hx : L[j]? = some x) (hy : L[k]? = some y) (hk : k < j) (h : y.i = x.i) : ¬ LdOk L := fun hl => by
  obtain ⟨hj, rfl⟩ := List.getElem?_eq_some_iff.1 hx
  obtain ⟨hk2, rfl⟩ := List.getElem?_eq_some_iff.1 hy
  have h2 := (uniq_ne hl.1 hj hk2 hk).1
  simp [h] at h2

theorem ldOk_n {L : List Se} {j k : Nat} {x y : Se} (hx : L[j]? = some x) (hy : L[k]? = some y) (hk : k < j) (h : y.n = x.n) : ¬ LdOk L := fun hl => by
  obtain ⟨hj, rfl⟩ := List.getElem?_eq_some_iff.1 hx
  obtain ⟨hk2, rfl⟩ := List.getElem?_eq_some_iff.1 hy
  have h2 := (uniq_ne hl.1 hj hk2 hk).2
  rw [h] at h2; simp at h2

theorem take_at {L : List Se} {j k : Nat} (hj : j ≤ L.length) (hk : k < (L.take j).length) : L[k]? = some (L.take j)[k] ∧ k < j := by
  have h : k < j := by simp at hk; omega
  refine ⟨?_, h⟩
  rw [List.getElem_take, List.getElem?_eq_getElem]

theorem bad_byI {L : List Se} {j k : Nat} {x : Se} (hx : L[j]? = some x) (h : byI x.i (L.take j) = some k) : ¬ LdOk L := by
  obtain ⟨hk, he⟩ := byI_lt h
  obtain ⟨hj, _⟩ := List.getElem?_eq_some_iff.1 hx
  obtain ⟨h1, h2⟩ := take_at (Nat.le_of_lt hj) hk
  exact ldOk_i hx h1 h2 he

theorem bad_byN {L : List Se} {j k : Nat} {x : Se} (hx : L[j]? = some x) (h : byN x.n (L.take j) = some k) : ¬ LdOk L := by
  obtain ⟨hk, he⟩ := byN_lt h
  obtain ⟨hj, _⟩ := List.getElem?_eq_some_iff.1 hx
  obtain ⟨h1, h2⟩ := take_at (Nat.le_of_lt hj) hk
  exact ldOk_n hx h1 h2 he

theorem ldOk_use {L : List Se} (h : LdOk L) {i : Nat} (hi : i < L.length) : LdOk (useL L i) :=
  ⟨uniq_use h.1 hi, fun x hx => h.2 x (mem_useL hi hx)⟩

theorem ldOk_ask {L : List Se} (h : LdOk L) (id : Int) : LdOk (askL id L) := by
  refine ⟨uniq_ask h.1 id, fun x hx => ?_⟩
  unfold askL at hx
  cases hb : byI id L with
  | some i => rw [hb] at hx; obtain ⟨hi, _⟩ := byI_lt hb; exact h.2 x (mem_useL hi hx)
  | none => rw [hb] at hx; exact h.2 x hx

theorem ldOk_open {L : List Se} (h : LdOk L) (sz : Nat) (n : List UInt8) (id : Int) : LdOk (openL sz n id L) := by
  refine ⟨uniq_open h.1 sz n id, fun x hx => ?_⟩
  unfold openL at hx
  cases hb : byN n L with
  | some i => rw [hb] at hx; obtain ⟨hi, _⟩ := byN_lt hb; exact h.2 x (mem_useL hi hx)
  | none =>
    rw [hb] at hx
    rcases List.mem_append.1 hx with hx | hx
    · exact h.2 x (((fit_sub sz (restI id L)).trans (rest_sub id L)).subset hx)
    · simp at hx; subst hx; exact Int.le_refl 0

theorem ldOk_done {L : List Se} (h : LdOk L) (id seq : Int) (v : Vt) : LdOk (doneL id seq v L) := by
  refine ⟨uniq_done h.1 id seq v, fun x hx => ?_⟩
  unfold doneL at hx
  cases hb : doneI id seq L with
  | none => rw [hb] at hx; exact h.2 x hx
  | some i =>
    rw [hb] at hx
    obtain ⟨hi, _, hq, _⟩ := doneI_lt hb
    rcases List.mem_or_eq_of_mem_set hx with hx | hx
    · exact h.2 x hx
    · subst hx
      have := h.2 _ (List.getElem_mem hi)
      show 0 ≤ seq
      omega

end Go.Proofs.Ytajkmhepedlmmaa
