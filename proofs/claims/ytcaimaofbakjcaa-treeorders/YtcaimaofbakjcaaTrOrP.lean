/-
  Leaves of unlike paths: in whatever order they are put, the list is the same.
-/
import Derived.Test.YtcaimaofbakjcaaTrLaP
namespace Go.Proofs.Ytcaimaofbakjcaa

theorem srt_ext : ∀ {A B : List Lf}, Srt A → Srt B → (∀ p : List UInt8, A.find? (fun y => decide (p = y.p)) = B.find? (fun y => decide (p = y.p))) → A = B := by
  intro A
  induction A with
  | nil =>
    intro B _ _ h
    cases B with
    | nil => rfl
    | cons b B => have := h b.p; simp at this
  | cons a A ih =>
    intro B hA hB h
    cases B with
    | nil => have := h a.p; simp at this
    | cons b B =>
      unfold Srt at hA hB
      rw [List.pairwise_cons] at hA hB
      have far : ∀ {L : List Lf} {p : List UInt8}, (∀ y ∈ L, cmpT p y.p < 0) → L.find? (fun y => decide (p = y.p)) = none := fun hL => by
        rw [List.find?_eq_none]
        intro y hy e
        simp at e
        have := hL y hy
        rw [e, cmpT_self] at this
        omega
      rcases cmpT_vals a.p b.p with e | e | e
      · have h1 := h a.p
        rw [List.find?_cons, decide_eq_true rfl, far (L := b :: B) (fun y hy => by
          simp only [List.mem_cons] at hy
          rcases hy with rfl | hy
          · omega
          · exact cmpT_lt (show cmpT a.p b.p < 0 by omega) (hB.1 y hy))] at h1
        cases h1
      · have e' := (ordT.zero _ _).1 e
        have h1 := h a.p
        rw [List.find?_cons, List.find?_cons, decide_eq_true rfl, decide_eq_true e'] at h1
        simp at h1
        subst h1
        congr 1
        refine ih hA.2 hB.2 fun p => ?_
        by_cases hp : p = a.p
        · rw [hp, far hA.1, far hB.1]
        · have h2 := h p
          rw [List.find?_cons, List.find?_cons, decide_eq_false hp] at h2
          exact h2
      · have h1 := h b.p
        rw [List.find?_cons (a := b), decide_eq_true rfl, far (L := a :: A) (fun y hy => by
          have hba : cmpT b.p a.p < 0 := by rw [ordT.anti a.p b.p]; omega
          simp only [List.mem_cons] at hy
          rcases hy with rfl | hy
          · exact hba
          · exact cmpT_lt hba (hA.1 y hy))] at h1
        cases h1

theorem find_all (p : List UInt8) (M L : List Lf) : (insAll M L).find? (fun y => decide (p = y.p)) = (L.reverse.find? (fun y => decide (p = y.p))).or (M.find? (fun y => decide (p = y.p))) := by
  induction L generalizing M with
  | nil => simp [insAll]
  | cons x L ih =>
    simp only [insAll, ih, find_ins, List.reverse_cons, List.find?_append]
    cases L.reverse.find? (fun y => decide (p = y.p)) with
    | some z => simp
    | none => by_cases h : p = x.p <;> simp [h]

theorem find_reverse (p : List UInt8) (A : List Lf) (h : (pathsL A).Nodup) : A.reverse.find? (fun y => decide (p = y.p)) = A.find? (fun y => decide (p = y.p)) := by
  induction A with
  | nil => rfl
  | cons x A ih =>
    have h' : x.p ∉ pathsL A ∧ (pathsL A).Nodup := by unfold pathsL at h ⊢; rw [List.map_cons, List.nodup_cons] at h; exact h
    rw [List.reverse_cons, List.find?_append, ih h'.2, List.find?_cons, List.find?_cons]
    by_cases hp : p = x.p
    · have hn : A.find? (fun y => decide (p = y.p)) = none := by
        rw [List.find?_eq_none]
        intro y hy e
        simp at e
        exact h'.1 (by unfold pathsL; rw [← hp, e]; exact List.mem_map_of_mem hy)
      rw [hn, decide_eq_true hp]; rfl
    · rw [decide_eq_false hp]; simp

theorem ins_all_srt (M L : List Lf) (h : Srt M) : Srt (insAll M L) := by
  induction L generalizing M with
  | nil => exact h
  | cons x L ih => exact ih _ (ins_srt x M h)

theorem any_order (A : List Lf) (h : (pathsL A).Nodup) : insAll [] A = insAll [] A.reverse := by
  refine srt_ext (ins_all_srt _ _ (by simp [Srt])) (ins_all_srt _ _ (by simp [Srt])) fun p => ?_
  rw [find_all, find_all, List.reverse_reverse, find_reverse p A h]

theorem nodup_snoc {O : List Lf} {x : Lf} (h : (pathsL O).Nodup) (hx : x.p ∉ pathsL O) : (pathsL (O ++ [x])).Nodup := by
  unfold pathsL at h hx ⊢
  rw [List.map_append, List.nodup_append]
  refine ⟨h, by simp, ?_⟩
  intro a ha b hb e
  simp at hb
  rw [e, hb] at ha
  exact hx ha

theorem take_paths {O : List Lf} {k : Nat} (hk : k < O.length) (p : List UInt8) : decide (p ∈ pathsL (O.take (k + 1))) = (decide (p ∈ pathsL (O.take k)) || decide (O[k].p = p)) := by
  rw [List.take_succ_eq_append_getElem hk]
  unfold pathsL
  rw [List.map_append, Bool.eq_iff_iff]
  simp only [decide_eq_true_eq, Bool.or_eq_true, List.mem_append, List.map_cons, List.map_nil, List.mem_singleton]
  constructor
  · rintro (h | h)
    · exact .inl h
    · exact .inr h.symm
  · rintro (h | h)
    · exact .inl h
    · exact .inr h.symm

theorem ins_all_step (O : List Lf) (k : Nat) (hk : k < O.length) : insAll [] (O.take (k + 1)) = ins O[k] (insAll [] (O.take k)) := by
  rw [List.take_succ_eq_append_getElem hk, insAll_app]; rfl

end Go.Proofs.Ytcaimaofbakjcaa
