/-
  EpochUnion: what is said without memory.
-/
import Derived.Test.YtddkaagdkmmknabEpCuP
namespace Go.Proofs.Ytddkaagdkmmknab

/-- Epochs from slot 0 on, none from later than this slot on. -/
def FrL (L : List Ep) (z : Int) : Prop := (∃ x t, L = x :: t ∧ x.f = 0) ∧ ∀ x ∈ L, x.f ≤ z

theorem frL_mono {L : List Ep} {y z : Int} (h : FrL L y) (h1 : y ≤ z) : FrL L z := ⟨h.1, fun x hx => by have := h.2 x hx; omega⟩

theorem frL_ch {L : List Ep} {y z q : Int} {a : Bool} (h : FrL L y) (h0 : chE 3 L z q a = 0) : FrL (chL 3 L z q a) (max y (z + 3)) := by
  unfold chL
  rw [if_pos h0]
  obtain ⟨⟨x, t, rfl, hx⟩, h2⟩ := h
  refine ⟨⟨x, _, rfl, hx⟩, fun u hu => ?_⟩
  rcases List.mem_append.1 hu with hu | hu
  · have := h2 u hu; omega
  · simp at hu; subst hu; show z + 3 ≤ _; omega

theorem frL_no {L : List Ep} {y z q : Int} {a : Bool} (h : FrL L y) (h0 : chE 3 L z q a ≠ 0) : FrL (chL 3 L z q a) y := by
  unfold chL
  rw [if_neg h0]
  exact h

/-- Who is a member of one of so many slots. -/
def seen (M : List Ep) (c : Int) : Nat → Nat → Bool
  | 0, _ => false
  | j + 1, k => seen M c j k || setB (atL M (c + j)) k

theorem seen_iff {M : List Ep} {c : Int} {k : Nat} : ∀ {j : Nat}, seen M c j k = true ↔ ∃ i, i < j ∧ setB (atL M (c + (i : Nat))) k = true
  | 0 => by simp [seen]
  | j + 1 => by
    simp only [seen, Bool.or_eq_true, seen_iff (j := j)]
    constructor
    · rintro (⟨i, h1, h2⟩ | h)
      · exact ⟨i, by omega, h2⟩
      · exact ⟨j, by omega, h⟩
    · rintro ⟨i, h1, h2⟩
      by_cases e : i = j
      · subst e; exact .inr h2
      · exact .inl ⟨i, by omega, h2⟩

theorem at_mem {M : List Ep} (h : M ≠ []) (z : Int) : ∃ x ∈ M, atL M z = x.m := by
  have h1 := plc_lt h z
  refine ⟨M[plc M z], List.getElem_mem h1, ?_⟩
  unfold atL
  rw [List.getD_eq_getElem?_getD, List.getElem?_eq_getElem h1]
  rfl

theorem at_own {M : List Ep} (hr : RiseL M) {i : Nat} (hi : i < M.length) : atL M M[i].f = M[i].m := by
  have h1 := (cnt_iff hr M[i].f i hi).1 (Int.le_refl _)
  have h2 := cnt_le M M[i].f
  have h3 : cntL M M[i].f = i + 1 := by
    by_cases hlt : i + 1 < M.length
    · have h4 := (cnt_iff hr M[i].f (i + 1) hlt)
      have h5 := List.pairwise_iff_getElem.1 hr i (i + 1) hi hlt (by omega)
      omega
    · omega
  have h4 : plc M M[i].f = i := by unfold plc; omega
  unfold atL
  rw [h4, List.getD_eq_getElem?_getD, List.getElem?_eq_getElem hi]
  rfl

theorem cut_get {L : List Ep} {c : Int} {i : Nat} (hi : i < (cutL L c).length) (h2 : plc L c + i < L.length) : (cutL L c)[i] = L[plc L c + i] := by
  have h1 : (cutL L c)[i]? = L[plc L c + i]? := by unfold cutL; rw [List.getElem?_drop]
  rw [List.getElem?_eq_getElem hi, List.getElem?_eq_getElem h2] at h1
  exact Option.some.inj h1

/-- Behind a cut the members of the slots from the cut to the last From are those of the epochs. -/
theorem seen_all {L : List Ep} (hok : OkL L) {c z : Int} (hf : FrL L z) (hc : 0 ≤ c) {n : Nat} (hn : c + n = z + 1) (hcz : c ≤ z) (k : Nat) : seen (cutL L c) c n k = uniB (cutL L c) k := by
  have hM := okL_cut hok c
  have h0 : 0 < cntL L c := by
    obtain ⟨⟨x, t, rfl, hx⟩, _⟩ := hf
    exact (cnt_iff hok.2.1 c 0 (by simp)).1 (by simp; omega)
  rw [Bool.eq_iff_iff, seen_iff]
  unfold uniB
  rw [List.any_eq_true]
  constructor
  · rintro ⟨i, _, h2⟩
    obtain ⟨x, hx, e⟩ := at_mem hM.1 (c + i)
    rw [e] at h2
    exact ⟨x, hx, h2⟩
  · rintro ⟨x, hx, hk⟩
    obtain ⟨i, hi, rfl⟩ := List.getElem_of_mem hx
    have hl : (cutL L c).length = L.length - plc L c := by unfold cutL; rw [List.length_drop]
    have hp := plc_lt hok.1 c
    by_cases e : i = 0
    · subst e
      refine ⟨0, by omega, ?_⟩
      have h1 : atL (cutL L c) (c + ((0 : Nat) : Int)) = (cutL L c)[0].m := by
        rw [show c + ((0 : Nat) : Int) = c by omega, at_cut hok (Int.le_refl _)]
        rw [cut_get hi (by omega)]
        unfold atL
        rw [List.getD_eq_getElem?_getD, List.getElem?_eq_getElem hp]
        rfl
      rw [h1]
      exact hk
    · have hg : (cutL L c)[i] = L[plc L c + i]'(by omega) := cut_get hi (by omega)
      have h1 := cnt_iff hok.2.1 c (plc L c + i) (by omega)
      have h2 : c < (cutL L c)[i].f := by
        rw [hg]
        unfold plc at h1 ⊢
        omega
      have h3 : (cutL L c)[i].f ≤ z := by rw [hg]; exact hf.2 _ (List.getElem_mem _)
      refine ⟨((cutL L c)[i].f - c).toNat, by omega, ?_⟩
      rw [show c + ((((cutL L c)[i].f - c).toNat : Nat) : Int) = (cutL L c)[i].f by omega, at_own hM.2.1 hi]
      exact hk

/-- How many numbers of a set lie below one. -/
def cntS (S : Nat → Bool) (i : Nat) : Nat := ((List.range i).filter S).length

theorem cntS_succ (S : Nat → Bool) (i : Nat) : cntS S (i + 1) = cntS S i + if S i then 1 else 0 := by
  unfold cntS
  rw [List.range_succ, List.filter_append, List.length_append]
  cases h : S i <;> simp [h]

theorem cntS_at {S : Nat → Bool} {i : Nat} (hs : S i = true) : ∀ {n : Nat}, i < n → ((List.range n).filter S)[cntS S i]? = some i
  | 0, h => by omega
  | n + 1, h => by
    rw [List.range_succ, List.filter_append]
    by_cases e : i = n
    · subst e
      unfold cntS
      rw [List.getElem?_append_right (Nat.le_refl _)]
      simp [hs]
    · have ih := cntS_at hs (n := n) (by omega)
      rw [List.getElem?_append_left (List.getElem?_eq_some_iff.1 ih).1]
      exact ih

theorem told_at {S : Nat → Bool} {i : Nat} (hs : S i = true) (hi : i < 15) : (told S)[cntS S i]? = some (i : Int) := by
  unfold told
  rw [List.getElem?_map, cntS_at hs hi]
  rfl

theorem told_cnt (S : Nat → Bool) : (told S).length = cntS S 15 := by unfold told cntS; rw [List.length_map]

theorem cntS_le (S : Nat → Bool) (i : Nat) : cntS S i ≤ i := Nat.le_trans (List.length_filter_le _ _) (by simp)

/-- A row of marks, some more of them set. -/
def marks (S : Nat → Bool) (m : List Int) (k : Nat) : Bool := S k || setB m k

theorem marks_nil (S : Nat → Bool) : marks S [] = S := by funext k; simp [marks, setB]

theorem marks_snoc (S : Nat → Bool) (m : List Int) (q : Nat) : updB (marks S m) q true = marks S (m ++ [(q : Int)]) := by
  funext k
  unfold updB marks setB
  by_cases h : k = q
  · subst h; simp
  · have : ¬ (k : Int) = q := by omega
    simp [h, this]

end Go.Proofs.Ytddkaagdkmmknab
