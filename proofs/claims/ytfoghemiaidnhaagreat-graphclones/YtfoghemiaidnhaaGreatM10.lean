/-
  Texts of this claim that are laid as one: TrGood, TrLaP.
-/
import Derived.Test.YtfoghemiaidnhaaGreatTrPure
/-
  Trees that puts made.
-/
namespace Go.Proofs.YtfoghemiaidnhaaGreat

/-- A tree that was made by puts: its leaves in order, and not deep. -/
def Good (t : Tr) : Prop := Srt t.list ∧ t.bal

theorem good_nil : Good .nil := ⟨by unfold Srt; simp [Tr.list], trivial⟩
theorem Good.put {t : Tr} (h : Good t) (x : Lf) : Good (t.put x) := ⟨put_srt x t h.1, (put_bal x t h.2).1⟩

end Go.Proofs.YtfoghemiaidnhaaGreat

/-
  Leaves put one behind the other: of each path the last one is there; there are as many as unlike paths.
-/
namespace Go.Proofs.YtfoghemiaidnhaaGreat

/-- All leaves of a list, put one behind the other. -/
def insAll (M : List Lf) : List Lf → List Lf
  | [] => M
  | x :: L => insAll (ins x M) L

theorem insAll_app (M A B : List Lf) : insAll M (A ++ B) = insAll (insAll M A) B := by
  induction A generalizing M with
  | nil => rfl
  | cons x A ih => exact ih _

theorem find_ins (p : List UInt8) (x : Lf) (M : List Lf) : (ins x M).find? (fun y => decide (p = y.p)) = if p = x.p then some x else M.find? (fun y => decide (p = y.p)) := by
  induction M with
  | nil => by_cases h : p = x.p <;> simp [ins, h]
  | cons y M ih =>
    simp only [ins]
    by_cases h0 : cmpT x.p y.p = 0
    · have e := (ordT.zero _ _).1 h0
      rw [if_pos h0, List.find?_cons, List.find?_cons, ← e]
      by_cases h : p = x.p <;> simp [h]
    · have hne : x.p ≠ y.p := fun e => h0 ((ordT.zero _ _).2 e)
      rw [if_neg h0]
      by_cases h1 : cmpT x.p y.p < 0
      · rw [if_pos h1, List.find?_cons]
        by_cases h : p = x.p <;> simp [h]
      · rw [if_neg h1, List.find?_cons, ih, List.find?_cons]
        by_cases h : p = y.p
        · have : p ≠ x.p := fun e => hne (e.symm.trans h)
          rw [decide_eq_true h, if_neg this, if_neg this]
        · rw [decide_eq_false h]

def pathsL (L : List Lf) : List (List UInt8) := L.map (·.p)

theorem find_insAll (p : List UInt8) (M C : List Lf) (z : Lf) (hz : M.find? (fun y => decide (p = y.p)) = some z) : ∃ z', (insAll M C).find? (fun y => decide (p = y.p)) = some z' ∧ (p ∉ pathsL C → z' = z) := by
  induction C generalizing M z with
  | nil => exact ⟨z, hz, fun _ => rfl⟩
  | cons x C ih =>
    by_cases h : p = x.p
    · obtain ⟨z', h1, _⟩ := ih (ins x M) x (by rw [find_ins, if_pos h])
      exact ⟨z', h1, fun hn => absurd (by rw [h]; simp [pathsL]) hn⟩
    · obtain ⟨z', h1, h2⟩ := ih (ins x M) z (by rw [find_ins, if_neg h]; exact hz)
      exact ⟨z', h1, fun hn => h2 (fun hm => hn (by unfold pathsL at hm ⊢; simp only [List.map_cons, List.mem_cons]; exact .inr hm))⟩

/-- Of each path of the list the leaf that was put last is there. -/
theorem last_there (L : List Lf) (i : Nat) (hi : i < L.length) : ∃ z, (insAll [] L).find? (fun y => decide (L[i].p = y.p)) = some z ∧ (L[i].p ∉ pathsL (L.drop (i + 1)) → z = L[i]) := by
  have e : L = L.take i ++ L[i] :: L.drop (i + 1) := by rw [← List.drop_eq_getElem_cons hi, List.take_append_drop]
  have e2 : insAll [] L = insAll (ins L[i] (insAll [] (L.take i))) (L.drop (i + 1)) := by
    conv => lhs; rw [e]
    rw [insAll_app]
    rfl
  rw [e2]
  exact find_insAll _ _ _ _ (by rw [find_ins, if_pos rfl])

/-- The leaves behind which no one of the same path stands. -/
def lastL : List Lf → List Lf
  | [] => []
  | x :: L => if x.p ∈ pathsL L then lastL L else x :: lastL L

theorem lastL_mem (p : List UInt8) (L : List Lf) : p ∈ pathsL (lastL L) ↔ p ∈ pathsL L := by
  induction L with
  | nil => simp [lastL]
  | cons x L ih =>
    simp only [lastL]
    split
    · rename_i h
      rw [ih]
      unfold pathsL at h ⊢
      simp only [List.map_cons, List.mem_cons]
      constructor
      · exact .inr
      · rintro (rfl | h1)
        · exact h
        · exact h1
    · unfold pathsL at ih ⊢
      simp only [List.map_cons, List.mem_cons]
      rw [ih]

theorem lastL_nodup (L : List Lf) : (pathsL (lastL L)).Nodup := by
  induction L with
  | nil => simp [lastL, pathsL]
  | cons x L ih =>
    simp only [lastL]
    split
    · exact ih
    · rename_i h
      have h2 : x.p ∉ pathsL (lastL L) := fun h1 => h ((lastL_mem _ _).1 h1)
      unfold pathsL at ih h2 ⊢
      simp only [List.map_cons, List.nodup_cons]
      exact ⟨h2, ih⟩

theorem ins_mem (p : List UInt8) (x : Lf) (M : List Lf) : p ∈ pathsL (ins x M) ↔ p = x.p ∨ p ∈ pathsL M := by
  unfold pathsL
  induction M with
  | nil => simp [ins]
  | cons y M ih =>
    simp only [ins]
    split
    · rename_i h
      have e := (ordT.zero _ _).1 h
      simp only [List.map_cons, List.mem_cons]
      rw [e]; simp
    · split
      · simp only [List.map_cons, List.mem_cons]
      · simp only [List.map_cons, List.mem_cons, ih]
        constructor
        · rintro (h | h | h)
          · exact .inr (.inl h)
          · exact .inl h
          · exact .inr (.inr h)
        · rintro (h | h | h)
          · exact .inr (.inl h)
          · exact .inl h
          · exact .inr (.inr h)

theorem insAll_mem (p : List UInt8) (M L : List Lf) : p ∈ pathsL (insAll M L) ↔ p ∈ pathsL M ∨ p ∈ pathsL L := by
  induction L generalizing M with
  | nil => simp [insAll, pathsL]
  | cons x L ih =>
    simp only [insAll]
    rw [ih, ins_mem]
    unfold pathsL
    simp only [List.map_cons, List.mem_cons]
    constructor
    · rintro ((h | h) | h)
      · exact .inr (.inl h)
      · exact .inl h
      · exact .inr (.inr h)
    · rintro (h | h | h)
      · exact .inl (.inr h)
      · exact .inl (.inl h)
      · exact .inr h

theorem srt_nodup {L : List Lf} (h : Srt L) : (pathsL L).Nodup := by
  unfold pathsL Srt at *
  rw [List.nodup_iff_pairwise_ne, List.pairwise_map]
  refine List.Pairwise.imp ?_ h
  intro a b hab e
  rw [e, cmpT_self] at hab
  omega

theorem nodup_le {A B : List (List UInt8)} (h : A.Nodup) (hs : ∀ a ∈ A, a ∈ B) : A.length ≤ B.length := by
  induction A generalizing B with
  | nil => simp
  | cons a A ih =>
    rw [List.nodup_cons] at h
    have ha : a ∈ B := hs a (by simp)
    have h1 := ih (B := B.erase a) h.2 (fun b hb => by
      have hne : b ≠ a := fun e => h.1 (by rw [← e]; exact hb)
      exact (List.mem_erase_of_ne hne).2 (hs b (by simp [hb])))
    rw [List.length_erase_of_mem ha] at h1
    have : 0 < B.length := List.length_pos_of_mem ha
    simp only [List.length_cons]
    omega

theorem unlike_count {L : List Lf} (h : Srt (insAll [] L)) : (insAll [] L).length = (lastL L).length := by
  have n1 := srt_nodup h
  have n2 := lastL_nodup L
  have l1 : (pathsL (insAll [] L)).length = (insAll [] L).length := by simp [pathsL]
  have l2 : (pathsL (lastL L)).length = (lastL L).length := by simp [pathsL]
  have a := nodup_le (B := pathsL (lastL L)) n1 (fun p hp => (lastL_mem p L).2 (by rcases (insAll_mem p [] L).1 hp with h | h; simp [pathsL] at h; exact h))
  have b := nodup_le (B := pathsL (insAll [] L)) n2 (fun p hp => (insAll_mem p [] L).2 (.inr ((lastL_mem p L).1 hp)))
  omega

theorem lastL_drop {L : List Lf} {j : Nat} (hj : j < L.length) : lastL (L.drop j) = if L[j].p ∈ pathsL (L.drop (j + 1)) then lastL (L.drop (j + 1)) else L[j] :: lastL (L.drop (j + 1)) := by
  rw [List.drop_eq_getElem_cons hj]; rfl

theorem lastL_le (L : List Lf) : (lastL L).length ≤ L.length := by
  induction L with
  | nil => simp [lastL]
  | cons x L ih => simp only [lastL]; split <;> simp <;> omega

end Go.Proofs.YtfoghemiaidnhaaGreat
