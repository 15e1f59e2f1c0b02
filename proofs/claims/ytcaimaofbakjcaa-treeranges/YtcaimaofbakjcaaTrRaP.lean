/-
  A sorted list, cut in two.
-/
import Derived.Test.YtcaimaofbakjcaaTrPure
namespace Go.Proofs.Ytcaimaofbakjcaa

theorem filter_parts (c : List UInt8) (L : List Lf) (h : Srt L) : L.filter (fun x => decide (cmpT x.p c < 0)) ++ L.filter (fun x => decide (0 ≤ cmpT x.p c)) = L := by
  induction L with
  | nil => rfl
  | cons x L ih =>
    unfold Srt at h
    rw [List.pairwise_cons] at h
    rw [List.filter_cons, List.filter_cons]
    by_cases hx : cmpT x.p c < 0
    · rw [decide_eq_true hx, decide_eq_false (by omega)]
      simp only [if_true, Bool.false_eq_true, if_false, List.cons_append]
      rw [ih h.2]
    · rw [decide_eq_false hx, decide_eq_true (by omega)]
      simp only [if_true, Bool.false_eq_true, if_false]
      have e1 : L.filter (fun x => decide (cmpT x.p c < 0)) = [] := by
        rw [List.filter_eq_nil_iff]
        intro y hy
        have h1 := h.1 y hy
        have h2 : cmpT c x.p ≤ 0 := by rw [ordT.anti x.p c]; omega
        have h3 := cmpT_le_lt h2 h1
        have h4 := ordT.anti c y.p
        simp; omega
      have e2 : L.filter (fun x => decide (0 ≤ cmpT x.p c)) = L := by
        have := ih h.2
        rw [e1] at this
        simpa using this
      rw [e1, e2]; rfl

theorem cut_parts (c : List UInt8) (hc : c ≠ []) (L : List Lf) (h : Srt L) : rangeL [] c L ++ rangeL c [] L = L := by
  have e1 : rangeL [] c L = L.filter (fun x => decide (cmpT x.p c < 0)) := by
    unfold rangeL
    congr 1
    funext x
    have : c.isEmpty = false := by cases c <;> simp_all
    simp [ahead, this, cmpT_nil]
  have e2 : rangeL c [] L = L.filter (fun x => decide (0 ≤ cmpT x.p c)) := by
    unfold rangeL
    congr 1
    funext x
    simp [ahead]
  rw [e1, e2]
  exact filter_parts c L h

theorem cut_none (c : List UInt8) (hc : c ≠ []) (L : List Lf) : rangeL c c L = [] := by
  unfold rangeL
  rw [List.filter_eq_nil_iff]
  intro x _
  have : c.isEmpty = false := by cases c <;> simp_all
  simp [ahead, this]

theorem range_small {f t : List UInt8} {L : List Lf} {n : Nat} (h : L.length ≤ n) : (rangeL f t L).length ≤ n := Nat.le_trans (List.length_filter_le _ _) h

theorem srt_at {L : List Lf} (h : Srt L) {k : Nat} (hk : k + 1 < L.length) : cmpT L[k].p L[k + 1].p = -1 := by
  have h1 := List.pairwise_iff_getElem.1 h k (k + 1) (by omega) hk (by omega)
  have h2 := cmpT_vals L[k].p L[k + 1].p
  omega

theorem srt_before {L : List Lf} (h : Srt L) {j k : Nat} (hj : j + 1 = k) (hk : k < L.length) : cmpT (L[j]'(by omega)).p L[k].p = -1 := by
  subst hj
  exact srt_at h hk

end Go.Proofs.Ytcaimaofbakjcaa
