/-
  Tables in which no two sessions have one number, or one name.
-/
import Derived.Test.YtajkmhepedlmmaaSePure
namespace Go.Proofs.Ytajkmhepedlmmaa

def Uniq (L : List Se) : Prop := (L.map fun x => x.i).Nodup ∧ (L.map fun x => x.n).Nodup

theorem uniq_nil : Uniq [] := ⟨by simp, by simp⟩

theorem outL_sub {α : Type} (L : List α) (i : Nat) : (outL L i).Sublist L := by
  unfold outL
  have h : (L.take i ++ L.drop (i + 1)).Sublist (L.take i ++ L.drop i) := List.Sublist.append_left (by
    rw [← List.drop_drop]
    exact List.drop_sublist _ _) _
  rwa [List.take_append_drop] at h

theorem uniq_sub {L M : List Se} (h : Uniq L) (hs : M.Sublist L) : Uniq M := ⟨h.1.sublist (hs.map _), h.2.sublist (hs.map _)⟩

theorem use_perm {L : List Se} {i : Nat} (hi : i < L.length) : (useL L i).Perm L := by
  unfold useL outL
  rw [getD_get hi]
  have h1 : L = L.take i ++ L[i] :: L.drop (i + 1) := by
    rw [← List.drop_eq_getElem_cons hi, List.take_append_drop]
  conv => rhs; rw [h1]
  rw [List.append_assoc]
  refine List.Perm.append_left _ ?_
  exact (List.perm_append_comm (l₁ := L.drop (i + 1)) (l₂ := [L[i]]))

theorem uniq_use {L : List Se} (h : Uniq L) {i : Nat} (hi : i < L.length) : Uniq (useL L i) :=
  ⟨((use_perm hi).map _).nodup_iff.2 h.1, ((use_perm hi).map _).nodup_iff.2 h.2⟩

theorem uniq_ask {L : List Se} (h : Uniq L) (id : Int) : Uniq (askL id L) := by
  unfold askL
  cases hb : byI id L with
  | some i => obtain ⟨hi, _⟩ := byI_lt hb; exact uniq_use h hi
  | none => exact h

theorem byI_none {id : Int} {L : List Se} (h : byI id L = none) : ∀ x ∈ L, x.i ≠ id := by
  unfold byI at h
  rw [List.findIdx?_eq_none_iff] at h
  intro x hx
  simpa using h x hx

theorem byN_none {n : List UInt8} {L : List Se} (h : byN n L = none) : ∀ x ∈ L, x.n ≠ n := by
  unfold byN at h
  rw [List.findIdx?_eq_none_iff] at h
  intro x hx
  simpa using h x hx

theorem parts_at {L : List Se} {i : Nat} (hi : i < L.length) : L = L.take i ++ L[i] :: L.drop (i + 1) := by
  rw [← List.drop_eq_getElem_cons hi, List.take_append_drop]

theorem rest_ne {L : List Se} (h : Uniq L) (id : Int) : ∀ x ∈ restI id L, x.i ≠ id := by
  unfold restI
  cases hb : byI id L with
  | none => exact byI_none hb
  | some i =>
    obtain ⟨hi, he⟩ := byI_lt hb
    intro x hx
    have h1 := h.1
    rw [parts_at hi, List.map_append, List.map_cons, List.nodup_append] at h1
    obtain ⟨_, h3, h4⟩ := h1
    rcases List.mem_append.1 hx with hx | hx
    · have := h4 x.i (List.mem_map.2 ⟨x, hx, rfl⟩) L[i].i (by simp)
      rw [he] at this; exact this
    · have h5 := (List.nodup_cons.1 h3).1
      intro e
      exact h5 (List.mem_map.2 ⟨x, hx, by rw [e, he]⟩)

theorem rest_sub (id : Int) (L : List Se) : (restI id L).Sublist L := by
  unfold restI
  cases byI id L with
  | none => exact List.Sublist.refl _
  | some i => exact outL_sub L i

theorem fit_sub (sz : Nat) (L : List Se) : (fitL sz L).Sublist L := by
  unfold fitL
  split
  · exact List.drop_sublist _ _
  · exact List.Sublist.refl _

theorem uniq_open {L : List Se} (h : Uniq L) (sz : Nat) (n : List UInt8) (id : Int) : Uniq (openL sz n id L) := by
  unfold openL
  cases hb : byN n L with
  | some i => obtain ⟨hi, _⟩ := byN_lt hb; exact uniq_use h hi
  | none =>
    have hs := (fit_sub sz (restI id L))
    have h1 := uniq_sub h (hs.trans (rest_sub id L))
    refine ⟨?_, ?_⟩
    · simp only [List.map_append, List.nodup_append]
      refine ⟨h1.1, by simp, fun a ha b hb => ?_⟩
      obtain ⟨x, hx, rfl⟩ := List.mem_map.1 ha
      rw [show b = id by simpa using hb]
      exact rest_ne h id x (hs.subset hx)
    · simp only [List.map_append, List.nodup_append]
      refine ⟨h1.2, by simp, fun a ha b hb2 => ?_⟩
      obtain ⟨x, hx, rfl⟩ := List.mem_map.1 ha
      rw [show b = n by simpa using hb2]
      exact byN_none hb x ((hs.trans (rest_sub id L)).subset hx)

theorem uniq_done {L : List Se} (h : Uniq L) (id seq : Int) (v : Vt) : Uniq (doneL id seq v L) := by
  unfold doneL
  cases hb : doneI id seq L with
  | none => exact h
  | some i =>
    obtain ⟨hi, _⟩ := doneI_lt hb
    simp only [getD_get hi]
    refine ⟨?_, ?_⟩
    · rw [List.map_set]
      have e : (L.map fun x => x.i).set i (doneS seq v L[i]).i = L.map fun x => x.i := by
        have : (doneS seq v L[i]).i = (L.map fun x => x.i)[i]'(by simpa using hi) := by simp [doneS]
        rw [this, List.set_getElem_self]
      rw [e]; exact h.1
    · rw [List.map_set]
      have e : (L.map fun x => x.n).set i (doneS seq v L[i]).n = L.map fun x => x.n := by
        have : (doneS seq v L[i]).n = (L.map fun x => x.n)[i]'(by simpa using hi) := by simp [doneS]
        rw [this, List.set_getElem_self]
      rw [e]; exact h.2

theorem uniq_ne {L : List Se} (h : Uniq L) {i j : Nat} (hi : i < L.length) (hj : j < L.length) (hne : j < i) : (L[i].i == L[j].i) = false ∧ ((L[i].n) = (L[j].n)) = False := by
  have h1 := (List.pairwise_iff_getElem.1 h.1) j i (by simpa using hj) (by simpa using hi) hne
  have h2 := (List.pairwise_iff_getElem.1 h.2) j i (by simpa using hj) (by simpa using hi) hne
  simp at h1 h2
  exact ⟨by simpa using fun e => h1 e.symm, eq_false fun e => h2 e.symm⟩

/-- The number of the last one of that name among the first k; else id. -/
def wasI (n : List UInt8) (id : Int) (L : List Se) : Int := L.foldl (fun a x => if x.n = n then x.i else a) id

theorem was_none {n : List UInt8} {L : List Se} (h : ∀ x ∈ L, x.n ≠ n) (id : Int) : wasI n id L = id := by
  unfold wasI
  induction L generalizing id with
  | nil => rfl
  | cons x L ih =>
    rw [List.foldl_cons, if_neg (h x (by simp))]
    exact ih (fun y hy => h y (by simp [hy])) id

theorem was_app (n : List UInt8) (id : Int) (L M : List Se) : wasI n id (L ++ M) = wasI n (wasI n id L) M := by
  unfold wasI; rw [List.foldl_append]

theorem was_open {L : List Se} (h : Uniq L) (n : List UInt8) (id : Int) : wasI n id L = openI n id L := by
  unfold openI
  cases hb : byN n L with
  | none => exact was_none (byN_none hb) id
  | some i =>
    obtain ⟨hi, he⟩ := byN_lt hb
    simp only [getD_get hi]
    have h1 := h.2
    rw [parts_at hi, List.map_append, List.map_cons, List.nodup_append] at h1
    obtain ⟨_, h3, h4⟩ := h1
    conv => lhs; rw [parts_at hi]
    rw [was_app, was_none (L := L.take i) (fun x hx => by
      have := h4 x.n (List.mem_map.2 ⟨x, hx, rfl⟩) L[i].n (by simp)
      rw [he] at this; exact this)]
    have h5 := (List.nodup_cons.1 h3).1
    show wasI n (if L[i].n = n then L[i].i else id) (L.drop (i + 1)) = _
    rw [if_pos he]
    refine was_none (fun x hx e => h5 (List.mem_map.2 ⟨x, hx, by rw [e, he]⟩)) _

theorem was_next {n : List UInt8} {id : Int} {L : List Se} {k : Nat} (hk : k < L.length) : wasI n id (L.take (k + 1)) = if L[k].n = n then L[k].i else wasI n id (L.take k) := by
  rw [List.take_succ_eq_append_getElem hk, was_app]; rfl

end Go.Proofs.Ytajkmhepedlmmaa
