/-
  SessionOrder: what the order is, in pure terms.
-/
import Derived.Test.YtajkmhepedlmmabSeOnP0
namespace Go.Proofs.Ytajkmhepedlmmab

def nmR (a : Nat) : List UInt8 := [110, UInt8.ofNat (97 + a)]

theorem nmR_ne {a b : Nat} (ha : a < 16) (hb : b < 16) (h : nmR a = nmR b) : a = b := by
  unfold nmR at h
  have h1 : UInt8.ofNat (97 + a) = UInt8.ofNat (97 + b) := by simpa using h
  have h2 := congrArg UInt8.toNat h1
  rw [UInt8.toNat_ofNat', UInt8.toNat_ofNat'] at h2
  omega

/-- The numbers of a table. -/
def idsL (L : List Se) : List Int := L.map fun x => x.i

/-- What stands in the table behind i deeds. -/
def OrdT (i : Nat) (L : List Se) : Prop := (idsL L).Nodup ∧ L.length ≤ i ∧ ∀ x ∈ L, ∃ j, j < i ∧ x.i = ((100 + j : Nat) : Int) ∧ x.n = nmR j

/-- The order without one number. -/
def dropI (z : Int) (S : List Int) : List Int := S.filter fun y => decide (y ≠ z)

theorem dropI_take_pos {z : Int} {S : List Int} {k : Nat} (hk : k < S.length) (h : S[k] ≠ z) : dropI z (S.take (k + 1)) = dropI z (S.take k) ++ [S[k]] := by
  rw [List.take_succ_eq_append_getElem hk]
  unfold dropI
  rw [List.filter_append]
  simp [h]

theorem dropI_take_neg {z : Int} {S : List Int} {k : Nat} (hk : k < S.length) (h : S[k] = z) : dropI z (S.take (k + 1)) = dropI z (S.take k) := by
  rw [List.take_succ_eq_append_getElem hk]
  unfold dropI
  rw [List.filter_append]
  simp [h]

theorem dropI_le (z : Int) (S : List Int) : (dropI z S).length ≤ S.length := List.length_filter_le _ _

theorem ord_nil : OrdT 0 [] := ⟨by simp [idsL], Nat.le_refl _, by simp⟩

theorem ord_up {i : Nat} {L : List Se} (h : OrdT i L) : OrdT (i + 1) L :=
  ⟨h.1, Nat.le_succ_of_le h.2.1, fun x hx => by obtain ⟨j, h1, h2⟩ := h.2.2 x hx; exact ⟨j, by omega, h2⟩⟩

theorem ord_open {i : Nat} {L : List Se} (h : OrdT i L) (hi : i < 16) :
    openI (nmR i) ((100 + i : Nat) : Int) L = ((100 + i : Nat) : Int) ∧ OrdT (i + 1) (openL 16 (nmR i) ((100 + i : Nat) : Int) L) ∧ idsL (openL 16 (nmR i) ((100 + i : Nat) : Int) L) = dropI ((100 + i : Nat) : Int) (idsL L) ++ [((100 + i : Nat) : Int)] := by
  have hN : byN (nmR i) L = none := by
    unfold byN
    rw [List.findIdx?_eq_none_iff]
    intro x hx
    obtain ⟨j, hj, _, hn⟩ := h.2.2 x hx
    simp only [decide_eq_false_iff_not]
    intro e
    rw [hn] at e
    have := nmR_ne (by omega) hi e
    omega
  have hI : byI ((100 + i : Nat) : Int) L = none := by
    unfold byI
    rw [List.findIdx?_eq_none_iff]
    intro x hx
    obtain ⟨j, hj, hxi, _⟩ := h.2.2 x hx
    simp only [decide_eq_false_iff_not]
    rw [hxi]
    omega
  have hnot : ((100 + i : Nat) : Int) ∉ idsL L := by
    intro hm
    obtain ⟨x, hx, e⟩ := List.mem_map.1 hm
    exact byI_none hI x hx e
  have hO : openL 16 (nmR i) ((100 + i : Nat) : Int) L = L ++ [⟨((100 + i : Nat) : Int), 0, nmR i, vtC 0⟩] := by
    unfold openL restI fitL
    rw [hN, hI]
    have := h.2.1
    simp only
    rw [if_neg (by omega)]
  have hD : dropI ((100 + i : Nat) : Int) (idsL L) = idsL L := by
    unfold dropI
    rw [List.filter_eq_self]
    intro y hy
    simp only [decide_eq_true_eq]
    intro e; rw [e] at hy; exact hnot hy
  refine ⟨by unfold openI; rw [hN], ?_, ?_⟩
  · rw [hO]
    refine ⟨?_, by simp; exact h.2.1, fun x hx => ?_⟩
    · show (List.map _ _).Nodup
      rw [List.map_append, List.nodup_append]
      refine ⟨h.1, by simp, fun a ha b hb => ?_⟩
      simp at hb
      rintro rfl
      rw [hb] at ha
      apply hnot
      simpa [idsL] using ha
    · rcases List.mem_append.1 hx with hx | hx
      · obtain ⟨j, h1, h2⟩ := h.2.2 x hx; exact ⟨j, by omega, h2⟩
      · simp only [List.mem_singleton] at hx; subst hx; exact ⟨i, by omega, rfl, rfl⟩
  · rw [hO, hD]; simp [idsL]

theorem nodup_byI {L : List Se} (h : (idsL L).Nodup) {k : Nat} (hk : k < L.length) : byI L[k].i L = some k := by
  cases hb : byI L[k].i L with
  | none => exact absurd rfl (byI_none hb L[k] (List.getElem_mem hk))
  | some j =>
    obtain ⟨hj, e⟩ := byI_lt hb
    have : j = k := by
      have h1 : (idsL L)[j]'(by simpa [idsL] using hj) = (idsL L)[k]'(by simpa [idsL] using hk) := by simpa [idsL] using e
      exact (List.getElem_inj h).1 h1
    rw [this]

theorem drop_out {S : List Int} (h : S.Nodup) {k : Nat} (hk : k < S.length) : dropI S[k] S = outL S k := by
  have e : S = S.take k ++ S[k] :: S.drop (k + 1) := by rw [← List.drop_eq_getElem_cons hk, List.take_append_drop]
  have h2 := h
  rw [e, List.nodup_append] at h2
  obtain ⟨_, h3, h4⟩ := h2
  rw [List.nodup_cons] at h3
  generalize S[k] = z at *
  unfold dropI outL
  conv => lhs; rw [e]
  rw [List.filter_append, List.filter_cons]
  simp only [ne_eq, not_true_eq_false, decide_false, Bool.false_eq_true, if_false]
  congr 1
  · rw [List.filter_eq_self]
    intro y hy
    simpa using h4 y hy z (by simp)
  · rw [List.filter_eq_self]
    intro y hy
    simp only [decide_eq_true_eq]
    rintro rfl
    exact h3.1 hy

theorem ord_ask {i : Nat} {L : List Se} (h : OrdT i L) {k : Nat} (hk : k < (idsL L).length) :
    OrdT (i + 1) (askL (idsL L)[k] L) ∧ idsL (askL (idsL L)[k] L) = dropI (idsL L)[k] (idsL L) ++ [(idsL L)[k]] := by
  have hk' : k < L.length := by simpa [idsL] using hk
  have e : (idsL L)[k] = L[k].i := by simp [idsL]
  have hA : askL (idsL L)[k] L = useL L k := by rw [e]; unfold askL; rw [nodup_byI h.1 hk']
  rw [hA]
  have hp := use_perm hk'
  refine ⟨⟨(hp.map _).nodup_iff.2 h.1, by rw [useL_length hk']; exact Nat.le_succ_of_le h.2.1, fun x hx => ?_⟩, ?_⟩
  · obtain ⟨j, h1, h2⟩ := h.2.2 x (hp.mem_iff.1 hx); exact ⟨j, by omega, h2⟩
  · rw [drop_out h.1 hk]
    show List.map _ (outL L k ++ [L.getD k se0]) = _
    rw [List.map_append, map_outL, getD_get hk', e]
    rfl

theorem ids_done (id seq : Int) (v : Vt) (L : List Se) : idsL (doneL id seq v L) = idsL L := by
  unfold doneL
  cases hb : doneI id seq L with
  | none => rfl
  | some k =>
    obtain ⟨hk, _⟩ := doneI_lt hb
    simp only [idsL]
    refine List.ext_getElem (by simp) fun j h1 h2 => ?_
    simp only [List.getElem_map, List.getElem_set]
    split
    · rename_i e; subst e; rw [getD_get hk]; rfl
    · rfl

theorem ord_done {i : Nat} {L : List Se} (h : OrdT i L) (id seq : Int) (v : Vt) : OrdT (i + 1) (doneL id seq v L) := by
  refine ⟨by rw [ids_done]; exact h.1, by rw [doneL_length]; exact Nat.le_succ_of_le h.2.1, fun x hx => ?_⟩
  unfold doneL at hx
  cases hb : doneI id seq L with
  | none => rw [hb] at hx; obtain ⟨j, h1, h2⟩ := h.2.2 x hx; exact ⟨j, by omega, h2⟩
  | some k =>
    rw [hb] at hx
    obtain ⟨hk, _⟩ := doneI_lt hb
    rcases List.mem_or_eq_of_mem_set hx with hx | hx
    · obtain ⟨j, h1, h2⟩ := h.2.2 x hx; exact ⟨j, by omega, h2⟩
    · obtain ⟨j, h1, h2, h3⟩ := h.2.2 L[k] (List.getElem_mem hk)
      rw [getD_get hk] at hx
      subst hx
      exact ⟨j, by omega, h2, h3⟩

end Go.Proofs.Ytajkmhepedlmmab
