/-
  Changes and their order: lists that rise, lists that have of each path the same changes in the same order; rows as functions of places.
-/
import Derived.Test.YtdmlcgmajpjmdaaPaPure
namespace Go.Proofs.Ytdmlcgmajpjmdaa

/-- A change. -/
structure Ch where
  p : List UInt8
  g : Bool
  d : Int
deriving DecidableEq

/-- Their paths rise, or stay. -/
def Ris (L : List Ch) : Prop := L.Pairwise fun a b => cmpT a.p b.p ≤ 0

/-- Those of one path. -/
def ofP (k : List UInt8) (L : List Ch) : List Ch := L.filter fun x => decide (x.p = k)

/-- Of each path they have the same, in the same order. -/
def Alike (L M : List Ch) : Prop := ∀ k, ofP k L = ofP k M

theorem Alike.refl (L : List Ch) : Alike L L := fun _ => rfl
theorem Alike.symm {L M : List Ch} (h : Alike L M) : Alike M L := fun k => (h k).symm
theorem Alike.trans {L M K : List Ch} (h : Alike L M) (h2 : Alike M K) : Alike L K := fun k => (h k).trans (h2 k)
theorem ofP_app (k : List UInt8) (L M : List Ch) : ofP k (L ++ M) = ofP k L ++ ofP k M := List.filter_append ..
theorem Alike.app {L L' M M' : List Ch} (h : Alike L L') (h2 : Alike M M') : Alike (L ++ M) (L' ++ M') := fun k => by
  rw [ofP_app, ofP_app, h k, h2 k]

theorem ofP_none {k : List UInt8} {L : List Ch} (h : ∀ x ∈ L, x.p ≠ k) : ofP k L = [] := by
  unfold ofP
  rw [List.filter_eq_nil_iff]
  intro x hx
  simpa using h x hx

theorem Alike.swap {U V : List Ch} (h : ∀ u ∈ U, ∀ v ∈ V, u.p ≠ v.p) : Alike (U ++ V) (V ++ U) := fun k => by
  rw [ofP_app, ofP_app]
  by_cases hu : ∃ u ∈ U, u.p = k
  · obtain ⟨u, hu, rfl⟩ := hu
    rw [ofP_none (L := V) (fun v hv e => h u hu v hv e.symm)]; simp
  · rw [ofP_none (L := U) (fun u h2 e => hu ⟨u, h2, e⟩)]; simp

theorem Alike.mem {L M : List Ch} (h : Alike L M) (x : Ch) : x ∈ L ↔ x ∈ M := by
  have e : ∀ K : List Ch, x ∈ K ↔ x ∈ ofP x.p K := fun K => by simp [ofP]
  rw [e L, e M, h]

theorem Alike.perm {L M : List Ch} (h : Alike L M) : L.Perm M := by
  rw [List.perm_iff_count]
  intro x
  have e : ∀ K : List Ch, K.count x = (ofP x.p K).count x := fun K => by
    unfold ofP; rw [List.count_filter]; simp
  rw [e L, e M, h]

theorem Alike.length {L M : List Ch} (h : Alike L M) : L.length = M.length := h.perm.length_eq

theorem cmpT_le {a b c : List UInt8} (h1 : cmpT a b ≤ 0) (h2 : cmpT b c ≤ 0) : cmpT a c ≤ 0 := (ordT.strict h1 h2).1
theorem cmpT_eq {a b : List UInt8} (h1 : cmpT a b ≤ 0) (h2 : cmpT b a ≤ 0) : a = b := by
  apply (ordT.zero a b).1
  have := ordT.anti a b
  omega
theorem cmpT_refl (a : List UInt8) : cmpT a a = 0 := (ordT.zero a a).2 rfl
theorem cmpT_ne {a b : List UInt8} (h : cmpT a b < 0) : a ≠ b := fun e => by subst e; rw [cmpT_refl] at h; omega
theorem cmpT_not {a b : List UInt8} (h : ¬ cmpT a b < 0) : cmpT b a ≤ 0 := by
  have := ordT.anti a b
  omega

/-- Two that rise and are alike are one. -/
theorem Alike.one {L M : List Ch} (h : Alike L M) (hL : Ris L) (hM : Ris M) : L = M := by
  induction L generalizing M with
  | nil =>
    cases M with
    | nil => rfl
    | cons y M => have := h.length; simp at this
  | cons x L ih =>
    cases M with
    | nil => have := h.length; simp at this
    | cons y M =>
      have hx : x ∈ y :: M := (h.mem x).1 (by simp)
      have hy : y ∈ x :: L := (h.mem y).2 (by simp)
      have h1 : cmpT y.p x.p ≤ 0 := by
        rcases List.mem_cons.1 hx with e | hx
        · rw [e, cmpT_refl]; omega
        · exact (List.pairwise_cons.1 hM).1 x hx
      have h2 : cmpT x.p y.p ≤ 0 := by
        rcases List.mem_cons.1 hy with e | hy
        · rw [e, cmpT_refl]; omega
        · exact (List.pairwise_cons.1 hL).1 y hy
      have e : x.p = y.p := cmpT_eq h2 h1
      have h3 := h x.p
      have e1 : ofP x.p (x :: L) = x :: ofP x.p L := by simp [ofP]
      have e2 : ofP x.p (y :: M) = y :: ofP x.p M := by simp [ofP, e]
      rw [e1, e2] at h3
      obtain ⟨rfl, _⟩ := List.cons.inj h3
      congr 1
      refine ih (fun k => ?_) (List.pairwise_cons.1 hL).2 (List.pairwise_cons.1 hM).2
      have h4 := h k
      by_cases hk : x.p = k
      · subst hk; rw [e1, e2] at h4; exact (List.cons.inj h4).2
      · simpa [ofP, hk] using h4

/-- A row's part, as a list. -/
def seg (f : Nat → Ch) (a b : Nat) : List Ch := (List.range' a (b - a)).map f

theorem seg_length (f : Nat → Ch) (a b : Nat) : (seg f a b).length = b - a := by simp [seg]
theorem seg_get (f : Nat → Ch) (a b i : Nat) (h : i < (seg f a b).length) : (seg f a b)[i] = f (a + i) := by simp [seg]
theorem seg_void (f : Nat → Ch) {a b : Nat} (h : b ≤ a) : seg f a b = [] := by
  unfold seg; rw [show b - a = 0 by omega]; rfl

theorem seg_app (f : Nat → Ch) {a m b : Nat} (h1 : a ≤ m) (h2 : m ≤ b) : seg f a b = seg f a m ++ seg f m b := by
  unfold seg
  rw [← List.map_append]
  congr 1
  rw [show b - a = (m - a) + (b - m) by omega, ← List.range'_append]
  congr 2
  omega

theorem seg_same {f g : Nat → Ch} {a b : Nat} (h : ∀ k, a ≤ k → k < b → f k = g k) : seg f a b = seg g a b := by
  unfold seg
  apply List.map_congr_left
  intro k hk
  rw [List.mem_range'_1] at hk
  exact h k hk.1 (by omega)

theorem seg_one (f : Nat → Ch) (a : Nat) : seg f a (a + 1) = [f a] := by
  unfold seg; rw [show a + 1 - a = 1 by omega]; rfl

theorem seg_shift {f g : Nat → Ch} {a b c : Nat} (h : ∀ k, k < b - a → f (a + k) = g (c + k)) : seg f a b = seg g c (c + (b - a)) := by
  apply List.ext_getElem
  · rw [seg_length, seg_length]; omega
  · intro i h1 h2
    rw [seg_get, seg_get]
    rw [seg_length] at h1
    exact h i h1

theorem mem_seg {f : Nat → Ch} {a b : Nat} {x : Ch} : x ∈ seg f a b ↔ ∃ k, a ≤ k ∧ k < b ∧ f k = x := by
  unfold seg
  rw [List.mem_map]
  constructor
  · rintro ⟨k, hk, rfl⟩
    rw [List.mem_range'_1] at hk
    exact ⟨k, hk.1, by omega, rfl⟩
  · rintro ⟨k, h1, h2, rfl⟩
    exact ⟨k, by rw [List.mem_range'_1]; omega, rfl⟩

/-- A row's part rises. -/
def RisF (f : Nat → Ch) (a b : Nat) : Prop := ∀ p q, a ≤ p → p < q → q < b → cmpT (f p).p (f q).p ≤ 0

theorem RisF.ris {f : Nat → Ch} {a b : Nat} (h : RisF f a b) : Ris (seg f a b) := by
  unfold Ris
  rw [List.pairwise_iff_getElem]
  intro i j hi hj hij
  rw [seg_get, seg_get]
  rw [seg_length] at hi hj
  exact h _ _ (by omega) (by omega) (by omega)

/-- Two rows are alike from a to b, and the same elsewhere. -/
structure AlikeF (f g : Nat → Ch) (a b : Nat) : Prop where
  alike : Alike (seg f a b) (seg g a b)
  same : ∀ k, k < a ∨ b ≤ k → g k = f k

theorem AlikeF.refl (f : Nat → Ch) (a b : Nat) : AlikeF f f a b := ⟨Alike.refl _, fun _ _ => rfl⟩
theorem AlikeF.trans {f g h : Nat → Ch} {a b : Nat} (h1 : AlikeF f g a b) (h2 : AlikeF g h a b) : AlikeF f h a b :=
  ⟨h1.alike.trans h2.alike, fun k hk => (h2.same k hk).trans (h1.same k hk)⟩

theorem AlikeF.wide {f g : Nat → Ch} {a b c d : Nat} (h : AlikeF f g c d) (h1 : a ≤ c) (h2 : c ≤ d) (h3 : d ≤ b) : AlikeF f g a b := by
  refine ⟨?_, fun k hk => h.same k (by omega)⟩
  rw [seg_app f h1 (by omega : c ≤ b), seg_app g h1 (by omega : c ≤ b), seg_app f h2 h3, seg_app g h2 h3]
  have e1 : seg g a c = seg f a c := seg_same fun k _ hk => h.same k (by omega)
  have e2 : seg g d b = seg f d b := seg_same fun k hk _ => h.same k (by omega)
  rw [e1, e2]
  exact (Alike.refl _).app (h.alike.app (Alike.refl _))

/-- What is in the part stays in it. -/
theorem AlikeF.find {f g : Nat → Ch} {a b : Nat} (h : AlikeF f g a b) {k : Nat} (h1 : a ≤ k) (h2 : k < b) : ∃ j, a ≤ j ∧ j < b ∧ f j = g k :=
  mem_seg.1 ((h.alike.mem (g k)).2 (mem_seg.2 ⟨k, h1, h2, rfl⟩))

/-- Two places changed. -/
def swp (f : Nat → Ch) (i j : Nat) : Nat → Ch := fun k => if k = i then f j else if k = j then f i else f k

theorem swp_alike (f : Nat → Ch) (j : Nat) (h : (f j).p ≠ (f (j + 1)).p) : AlikeF f (swp f j (j + 1)) j (j + 2) := by
  refine ⟨?_, fun k hk => ?_⟩
  · have e : ∀ g : Nat → Ch, seg g j (j + 2) = [g j] ++ [g (j + 1)] := fun g => by
      rw [seg_app g (by omega : j ≤ j + 1) (by omega), seg_one, show j + 2 = j + 1 + 1 from rfl, seg_one]
    rw [e, e]
    have e1 : swp f j (j + 1) j = f (j + 1) := by simp [swp]
    have e2 : swp f j (j + 1) (j + 1) = f j := by simp [swp]
    rw [e1, e2]
    exact Alike.swap (by simpa using h)
  · simp only [swp]
    rw [if_neg (by omega), if_neg (by omega)]

theorem swp_comm (f : Nat → Ch) (i j : Nat) : swp f i j = swp f j i := by
  funext k
  simp only [swp]
  by_cases h1 : k = i <;> by_cases h2 : k = j <;> simp_all

end Go.Proofs.Ytdmlcgmajpjmdaa
