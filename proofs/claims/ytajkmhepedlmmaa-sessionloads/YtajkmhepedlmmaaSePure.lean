/-
  Verdicts, sessions, tables of sessions, as lists.
-/
import Derived.Test.YtajkmhepedlmmaaCoPure
namespace Go.Proofs.Ytajkmhepedlmmaa

/-- A verdict. -/
structure Vt where
  c : Int
  s : Int
  r : Int
  p : List UInt8
  d : Int
  k : List Com
  m : Int
deriving DecidableEq

/-- A session. -/
structure Se where
  i : Int
  q : Int
  n : List UInt8
  v : Vt
deriving DecidableEq

/-- A verdict of a code alone. -/
def vtC (c : Int) : Vt := ⟨c, 0, 0, [], 0, [], 0⟩

def se0 : Se := ⟨0, 0, [], vtC 0⟩

/-- Where the session with that number, of that name, stands. -/
def byI (id : Int) (L : List Se) : Option Nat := L.findIdx? fun x => decide (x.i = id)
def byN (n : List UInt8) (L : List Se) : Option Nat := L.findIdx? fun x => decide (x.n = n)

/-- Without the one at the place i. -/
def outL {α : Type} (L : List α) (i : Nat) : List α := L.take i ++ L.drop (i + 1)

/-- The one at the place i behind all others. -/
def useL (L : List Se) (i : Nat) : List Se := outL L i ++ [L.getD i se0]

def restI (id : Int) (L : List Se) : List Se := match byI id L with
  | some i => outL L i
  | none => L

def fitL (sz : Nat) (L : List Se) : List Se := if L.length = sz then L.drop 1 else L

def openL (sz : Nat) (n : List UInt8) (id : Int) (L : List Se) : List Se := match byN n L with
  | some i => useL L i
  | none => fitL sz (restI id L) ++ [⟨id, 0, n, vtC 0⟩]

def openI (n : List UInt8) (id : Int) (L : List Se) : Int := match byN n L with
  | some i => (L.getD i se0).i
  | none => id

def askL (id : Int) (L : List Se) : List Se := match byI id L with
  | some i => useL L i
  | none => L

/-- What a session is told that asks its seq. -/
def tellV (seq : Int) (x : Se) : Vt × Bool :=
  if seq < 1 then (vtC 5, true) else if seq < x.q then (vtC 7, true) else if seq = x.q then (x.v, true) else (vtC 0, false)

def askV (id seq : Int) (L : List Se) : Vt × Bool := match byI id L with
  | some i => tellV seq (L.getD i se0)
  | none => (vtC 6, true)

/-- The place of what Done changes. -/
def doneI (id seq : Int) (L : List Se) : Option Nat := match byI id L with
  | some i => if (L.getD i se0).q < seq then some i else none
  | none => none

def doneS (seq : Int) (v : Vt) (x : Se) : Se := ⟨x.i, seq, x.n, v⟩

def doneL (id seq : Int) (v : Vt) (L : List Se) : List Se := match doneI id seq L with
  | some i => L.set i (doneS seq v (L.getD i se0))
  | none => L

theorem byI_lt {id : Int} {L : List Se} {i : Nat} (h : byI id L = some i) : ∃ hi : i < L.length, L[i].i = id := by
  unfold byI at h
  rw [List.findIdx?_eq_some_iff_getElem] at h
  obtain ⟨hi, h1, _⟩ := h
  exact ⟨hi, by simpa using h1⟩

theorem byN_lt {n : List UInt8} {L : List Se} {i : Nat} (h : byN n L = some i) : ∃ hi : i < L.length, L[i].n = n := by
  unfold byN at h
  rw [List.findIdx?_eq_some_iff_getElem] at h
  obtain ⟨hi, h1, _⟩ := h
  exact ⟨hi, by simpa using h1⟩

theorem outL_length {α : Type} {L : List α} {i : Nat} (h : i < L.length) : (outL L i).length = L.length - 1 := by
  unfold outL; simp; omega

theorem map_outL {α β : Type} (f : α → β) (L : List α) (i : Nat) : (outL L i).map f = outL (L.map f) i := by
  unfold outL; simp

theorem getD_get {L : List Se} {i : Nat} (h : i < L.length) : L.getD i se0 = L[i] := by simp [List.getD, h]

/-- What may be written: lists and texts that are not too great for memory. -/
def okC (x : Ch) : Prop := x.p.length ≤ 140737488351232
def okK (x : Com) : Prop := x.n.length ≤ 140737488351232 ∧ x.c.length ≤ 4398046510976 ∧ ∀ y ∈ x.c, okC y
def okV (v : Vt) : Prop := v.p.length ≤ 140737488351232 ∧ v.k.length ≤ 2513169434843 ∧ ∀ x ∈ v.k, okK x
def okS (x : Se) : Prop := x.n.length ≤ 140737488351232 ∧ okV x.v

theorem okV_vtC (c : Int) : okV (vtC c) := ⟨by simp [vtC], by simp [vtC], by simp [vtC]⟩

theorem mem_outL {α : Type} {L : List α} {i : Nat} {x : α} (h : x ∈ outL L i) : x ∈ L := by
  unfold outL at h
  rcases List.mem_append.1 h with h | h
  · exact List.mem_of_mem_take h
  · exact List.mem_of_mem_drop h

theorem mem_useL {L : List Se} {i : Nat} (hi : i < L.length) {x : Se} (h : x ∈ useL L i) : x ∈ L := by
  unfold useL at h
  rcases List.mem_append.1 h with h | h
  · exact mem_outL h
  · simp [List.getD, hi] at h; subst h; exact List.getElem_mem hi

theorem useL_length {L : List Se} {i : Nat} (hi : i < L.length) : (useL L i).length = L.length := by
  unfold useL; rw [List.length_append, outL_length hi]; simp; omega

theorem restI_length (id : Int) (L : List Se) : (restI id L).length ≤ L.length := by
  unfold restI
  cases h : byI id L with
  | none => simp
  | some i => obtain ⟨hi, _⟩ := byI_lt h; simp only; rw [outL_length hi]; omega

theorem fitL_length {sz : Nat} {L : List Se} (h : L.length ≤ sz) (h1 : 1 ≤ sz) : (fitL sz L).length + 1 ≤ sz := by
  unfold fitL; split
  · simp; omega
  · omega

theorem openL_length {sz : Nat} {n : List UInt8} {id : Int} {L : List Se} (h : L.length ≤ sz) (h1 : 1 ≤ sz) : (openL sz n id L).length ≤ sz := by
  unfold openL
  cases hb : byN n L with
  | some i => obtain ⟨hi, _⟩ := byN_lt hb; simp only; rw [useL_length hi]; exact h
  | none =>
    simp only
    have h2 := restI_length id L
    have := fitL_length (sz := sz) (L := restI id L) (by omega) h1
    simp; omega

theorem askL_length {id : Int} {L : List Se} : (askL id L).length = L.length := by
  unfold askL
  cases hb : byI id L with
  | some i => obtain ⟨hi, _⟩ := byI_lt hb; simp only; rw [useL_length hi]
  | none => rfl

theorem doneL_length {id seq : Int} {v : Vt} {L : List Se} : (doneL id seq v L).length = L.length := by
  unfold doneL
  cases doneI id seq L with
  | some i => simp
  | none => rfl

theorem ok_openL {sz : Nat} {n : List UInt8} {id : Int} {L : List Se} (h : ∀ x ∈ L, okS x) (hn : n.length ≤ 140737488351232) : ∀ x ∈ openL sz n id L, okS x := by
  intro x hx
  unfold openL at hx
  cases hb : byN n L with
  | some i => rw [hb] at hx; obtain ⟨hi, _⟩ := byN_lt hb; exact h x (mem_useL hi hx)
  | none =>
    rw [hb] at hx
    rcases List.mem_append.1 hx with hx | hx
    · have : x ∈ restI id L := by
        unfold fitL at hx; split at hx
        · exact List.mem_of_mem_drop hx
        · exact hx
      unfold restI at this
      cases hc : byI id L with
      | some i => rw [hc] at this; exact h x (mem_outL this)
      | none => rw [hc] at this; exact h x this
    · simp at hx; subst hx; exact ⟨hn, okV_vtC 0⟩

theorem ok_askL {id : Int} {L : List Se} (h : ∀ x ∈ L, okS x) : ∀ x ∈ askL id L, okS x := by
  intro x hx
  unfold askL at hx
  cases hb : byI id L with
  | some i => rw [hb] at hx; obtain ⟨hi, _⟩ := byI_lt hb; exact h x (mem_useL hi hx)
  | none => rw [hb] at hx; exact h x hx

theorem doneI_lt {id seq : Int} {L : List Se} {i : Nat} (h : doneI id seq L = some i) : ∃ hi : i < L.length, L[i].i = id ∧ L[i].q < seq ∧ byI id L = some i := by
  unfold doneI at h
  cases hb : byI id L with
  | none => rw [hb] at h; cases h
  | some j =>
    rw [hb] at h
    obtain ⟨hj, h1⟩ := byI_lt hb
    simp only [getD_get hj] at h
    split at h
    · cases h; exact ⟨hj, h1, by assumption, rfl⟩
    · cases h

theorem ok_doneL {id seq : Int} {v : Vt} {L : List Se} (h : ∀ x ∈ L, okS x) (hv : okV v) : ∀ x ∈ doneL id seq v L, okS x := by
  intro x hx
  unfold doneL at hx
  cases hb : doneI id seq L with
  | none => rw [hb] at hx; exact h x hx
  | some i =>
    rw [hb] at hx
    obtain ⟨hi, _⟩ := doneI_lt hb
    rcases List.mem_or_eq_of_mem_set hx with hx | hx
    · exact h x hx
    · subst hx
      rw [getD_get hi]
      exact ⟨(h _ (List.getElem_mem hi)).1, hv⟩

end Go.Proofs.Ytajkmhepedlmmaa
