/-
  What is so of epochs that changes made one by one; what a cut keeps.
-/
import Derived.Test.YtddkaagdkmmknabEpChP
namespace Go.Proofs.Ytddkaagdkmmknab

theorem len_drop1 {m : List Int} {q : Nat} (hm : May m) (hq : q < 15) (h : setB m q = true) : m.length = (told (updB (setB m) q false)).length + 1 := by
  have hin : (q : Int) ∈ m := by simpa [setB] using h
  have hn : (q : Int) ∉ told (updB (setB m) q false) := by
    have := upd_mem (m := m) (add := false) hq
    simpa using this
  have h1 : ((q : Int) :: told (updB (setB m) q false)).Nodup := List.nodup_cons.2 ⟨hn, told_nodup _⟩
  refine Nat.le_antisymm (len_le (m := (q : Int) :: told (updB (setB m) q false)) (may_nodup hm) fun x hx => ?_) (len_le h1 fun x hx => ?_)
  · by_cases e : x = q
    · simp [e]
    · have h2 := hm.2.2 x hx
      refine List.mem_cons_of_mem _ (mem_told.2 ⟨x.toNat, by omega, by omega, ?_⟩)
      have e' : ¬ x.toNat = q := by omega
      simp only [updB, if_neg e', setB, decide_eq_true_eq]
      rw [show ((x.toNat : Nat) : Int) = x by omega]
      exact hx
  · rcases List.mem_cons.1 hx with rfl | hx
    · exact hin
    · obtain ⟨k, rfl, _, h2⟩ := mem_told.1 hx
      by_cases e : k = q
      · simp [updB, e] at h2
      · simpa [updB, e, setB] using h2

/-- One change at a time, by one member, two slots later. -/
def StepL (L : List Ep) : Prop := ∀ i (h : i + 1 < L.length), ((L[i + 1].m.length : Int) - (L[i]'(by omega)).m.length = 1 ∨ (L[i + 1].m.length : Int) - (L[i]'(by omega)).m.length = -1) ∧ (L[i]'(by omega)).f + 2 ≤ L[i + 1].f

theorem lastE_get {L : List Ep} (h : L ≠ []) : lastE L = L[L.length - 1]'(by have := List.length_pos_iff.2 h; omega) := by
  unfold lastE
  rw [List.getLastD_eq_getLast?, List.getLast?_eq_some_getLast h, Option.getD_some, List.getLast_eq_getElem]

theorem step_ch {L : List Ep} (hok : OkL L) (hs : StepL L) (z q : Int) (add : Bool) : StepL (chL 2 L z q add) := by
  unfold chL
  split
  · rename_i h0
    unfold chE at h0
    split at h0
    · cases h0
    · rename_i h1
      split at h0
      · cases h0
      · rename_i h2
        have hq15 : q.toNat < 15 := by omega
        obtain ⟨_, hS⟩ := chgE_zero h0
        have hmay := (hok.2.2 _ (lastE_mem hok.1)).1
        have hlast := lastE_get hok.1
        have hpos := List.length_pos_iff.2 hok.1
        intro i hi
        rw [List.length_append] at hi
        simp at hi
        by_cases hlt : i + 1 < L.length
        · have := hs i hlt
          rw [List.getElem_append_left hlt, List.getElem_append_left (by omega)]
          exact this
        · have e : i = L.length - 1 := by omega
          subst e
          rw [List.getElem_append_right (by omega), List.getElem_append_left (by omega), ← hlast]
          simp only [show L.length - 1 + 1 - L.length = 0 by omega, List.getElem_cons_zero]
          refine ⟨?_, by omega⟩
          cases add with
          | true =>
            have := len_add hmay hq15 (by simpa using hS)
            left
            omega
          | false =>
            have := len_drop1 hmay hq15 (by simpa using hS)
            right
            omega
  · exact hs

theorem ch_len (al : Int) (L : List Ep) (z q : Int) (add : Bool) : (chL al L z q add).length ≤ L.length + 1 := by
  unfold chL
  split <;> simp

theorem cnt_split (L : List Ep) (k : Nat) (z : Int) : cntL L z = cntL (L.take k) z + cntL (L.drop k) z := by
  unfold cntL
  rw [← List.length_append, ← List.filter_append, List.take_append_drop]

theorem cnt_mono (L : List Ep) {y z : Int} (h : y ≤ z) : cntL L y ≤ cntL L z := by
  unfold cntL
  induction L with
  | nil => simp
  | cons x L ih =>
    by_cases h1 : x.f ≤ y
    · have h2 : x.f ≤ z := by omega
      simp [h1, h2, ih]
    · by_cases h2 : x.f ≤ z
      · simp [h1, h2]; omega
      · simp [h1, h2, ih]

/-- From the cut on the members are who they were. -/
theorem at_cut {L : List Ep} (hok : OkL L) {c z : Int} (h : c ≤ z) : atL (cutL L c) z = atL L z := by
  unfold cutL
  have hc := cnt_le L c
  have hm := cnt_mono L h
  by_cases h0 : cntL L c = 0
  · have : plc L c = 0 := by unfold plc; omega
    rw [this, List.drop_zero]
  · have hk : plc L c = cntL L c - 1 := rfl
    have ht : cntL (L.take (plc L c)) z = plc L c := by
      unfold cntL
      rw [List.filter_eq_self.2, List.length_take]
      · omega
      · intro x hx
        obtain ⟨i, hi, rfl⟩ := List.getElem_of_mem hx
        rw [List.length_take] at hi
        rw [List.getElem_take]
        have := (cnt_iff hok.2.1 z i (by omega)).2 (by omega)
        simpa using this
    have hs := cnt_split L (plc L c) z
    rw [ht] at hs
    unfold atL
    have e : plc (L.drop (plc L c)) z = plc L z - plc L c := by
      show cntL (L.drop (plc L c)) z - 1 = (cntL L z - 1) - plc L c
      omega
    rw [e, List.getD_eq_getElem?_getD, List.getD_eq_getElem?_getD, List.getElem?_drop]
    congr 3
    show plc L c + (cntL L z - 1 - plc L c) = cntL L z - 1
    omega

end Go.Proofs.Ytddkaagdkmmknab
