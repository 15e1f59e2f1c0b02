/-
  Changes of single letters: in order, the other way round, one path twice.
-/
import Derived.Test.YtdmlcgmajpjmdaaChSoW
namespace Go.Proofs.Ytdmlcgmajpjmdaa
open Go.RowKit

def letC (i : Nat) : Ch := ⟨[UInt8.ofNat (97 + i)], false, i⟩
def baseL (k : Nat) : List Ch := (List.range k).map letC

theorem baseL_succ (k : Nat) : baseL (k + 1) = baseL k ++ [letC k] := by simp [baseL, List.range_succ]
theorem baseL_length (k : Nat) : (baseL k).length = k := by simp [baseL]
theorem baseL_get (k i : Nat) (h : i < (baseL k).length) : (baseL k)[i] = letC i := by simp [baseL]

theorem few_one {l : List (List UInt8)} {a : List UInt8} (h : l.Nodup) (he : ∀ x ∈ l, x = a) : l.length ≤ 1 := by
  match l, h, he with
  | [], _, _ => simp
  | [x], _, _ => simp
  | x :: y :: l, h, he =>
    have h1 := he x (by simp)
    have h2 := he y (by simp)
    subst h1
    simp [h2] at h

theorem alike_perm {L M : List Ch} (h : L.Perm M) (hN : (M.map Ch.p).Nodup) : Alike L M := by
  intro k
  have h1 : (ofP k L).Perm (ofP k M) := h.filter _
  have h2 : ((ofP k M).map Ch.p).Nodup := List.Nodup.sublist ((List.filter_sublist).map Ch.p) hN
  have h3 := few_one h2 (a := k) (fun x hx => by
    obtain ⟨y, hy, rfl⟩ := List.mem_map.1 hx
    simpa [ofP] using (List.mem_filter.1 hy).2)
  rw [List.length_map] at h3
  match h4 : ofP k M, h3 with
  | [], _ => rw [h4] at h1; exact List.perm_nil.1 h1
  | [x], _ => rw [h4] at h1; exact List.perm_singleton.1 h1

theorem errC_perm {L M : List Ch} (h : L.Perm M) : errC L = errC M := by
  have e : CheckOK L ↔ CheckOK M := by
    rw [checkOK_iff, checkOK_iff, h.length_eq]
    have h1 : (∀ x ∈ L, mayB x = true) ↔ ∀ x ∈ M, mayB x = true := ⟨fun q x hx => q x (h.mem_iff.2 hx), fun q x hx => q x (h.mem_iff.1 hx)⟩
    have h2 : (L.map Ch.p).Nodup ↔ (M.map Ch.p).Nodup := (h.map Ch.p).nodup_iff
    rw [h1, h2]
  by_cases hM : CheckOK M
  · rw [errC_ok hM, errC_ok (e.2 hM)]
  · rw [errC_bad hM, errC_bad (fun h1 => hM (e.1 h1))]

theorem base_nodup {k : Nat} (hk : k < 20) : ((baseL k).map Ch.p).Nodup := by
  have h : ∀ k : Fin 20, ((baseL k.val).map Ch.p).Nodup := by decide +kernel
  exact h ⟨k, hk⟩

theorem base_ris {k : Nat} (hk : k < 20) : Ris (baseL k) := by
  have h : ∀ k : Fin 20, (baseL k.val).Pairwise fun a b => cmpT a.p b.p ≤ 0 := by decide +kernel
  exact h ⟨k, hk⟩

theorem base_check {k : Nat} (hk : k < 20) : CheckOK (baseL k) ↔ (1 ≤ k ∧ k ≤ 16) := by
  rw [checkOK_iff]
  have h : ∀ k : Fin 20, (0 < (baseL k.val).length ∧ (baseL k.val).length ≤ 16 ∧ (∀ x ∈ baseL k.val, mayB x = true) ∧ ((baseL k.val).map Ch.p).Nodup) ↔ (1 ≤ k.val ∧ k.val ≤ 16) := by decide +kernel
  exact h ⟨k, hk⟩

theorem base_err {k : Nat} (hk : k < 20) (h1 : 1 ≤ k) : (errC (baseL k) == 0) = decide (k ≤ 16) := by
  by_cases h : k ≤ 16
  · rw [errC_ok ((base_check hk).2 ⟨h1, h⟩), decide_eq_true h]; rfl
  · rw [errC_bad (fun q => h ((base_check hk).1 q).2), decide_eq_false h]; rfl

theorem base_sort {k : Nat} (hk : k < 20) {L : List Ch} (h : L.Perm (baseL k)) : sortC L = baseL k :=
  ((sortC_alike L).symm.trans (alike_perm h (base_nodup hk))).one (sortC_ris L) (base_ris hk)

/-- Turned round from both ends, i places. -/
def revF (k i : Nat) : Nat → Ch := fun p => if p < i ∨ k - i ≤ p then letC (k - 1 - p) else letC p

theorem revF_zero {k p : Nat} (hp : p < k) : revF k 0 p = letC p := by
  simp only [revF]; rw [if_neg (by omega)]

theorem revF_i {k i : Nat} (hi : i < k / 2) : revF k i i = letC i := by
  simp only [revF]; rw [if_neg (by omega)]

theorem revF_j {k i : Nat} (hi : i < k / 2) : revF k i (k - 1 - i) = letC (k - 1 - i) := by
  simp only [revF]; rw [if_neg (by omega)]

theorem revF_succ {k i : Nat} (hi : i < k / 2) (p : Nat) (hp : p < k) : revF k (i + 1) p = swp (revF k i) i (k - 1 - i) p := by
  simp only [swp]
  by_cases h1 : p = i
  · rw [if_pos h1, revF_j hi, h1]; simp only [revF]; rw [if_pos (by omega)]
  · rw [if_neg h1]
    by_cases h2 : p = k - 1 - i
    · rw [if_pos h2, revF_i hi, h2]; simp only [revF]; rw [if_pos (by omega)]; congr 1; omega
    · rw [if_neg h2]
      simp only [revF]
      by_cases h3 : p < i ∨ k - i ≤ p
      · rw [if_pos h3, if_pos (by omega)]
      · rw [if_neg h3, if_neg (by omega)]

theorem revF_end {k : Nat} : (seg (revF k (k / 2)) 0 k).Perm (baseL k) := by
  have e : seg (revF k (k / 2)) 0 k = (baseL k).reverse := by
    apply List.ext_getElem
    · rw [seg_length, List.length_reverse, baseL_length]; omega
    · intro i h1 h2
      rw [seg_get, Nat.zero_add, List.getElem_reverse, baseL_get, baseL_length]
      rw [seg_length] at h1
      simp only [revF]
      by_cases h3 : i < k / 2 ∨ k - k / 2 ≤ i
      · rw [if_pos h3]
      · rw [if_neg h3]; congr 1; omega
  rw [e]
  exact List.reverse_perm _

theorem seg_base {k : Nat} {f : Nat → Ch} (h : ∀ p, p < k → f p = letC p) : seg f 0 k = baseL k := by
  apply List.ext_getElem
  · rw [seg_length, baseL_length]; omega
  · intro i h1 h2
    rw [seg_get, Nat.zero_add, baseL_get]
    rw [seg_length] at h1
    exact h i (by omega)

/-- One path written. -/
theorem RowC.path {w : World} {g n cap : Nat} {f : Nat → Ch} (h : RowC w g n cap f) {i : Nat} (hi : i < n) (p : List UInt8) : RowC (w.setCell ⟨g, i * 3, none⟩ (.string (str p))) g n cap (fun k => if k = i then ⟨p, (f i).g, (f i).d⟩ else f k) := by
  obtain ⟨h1, h2, cur, hh, hs, r⟩ := h
  refine ⟨h1, h2, _, heap_setCell_same w g (i * 3) cur _ _ hh, by simpa using hs, fun k hk => ?_⟩
  obtain ⟨r0, r1, r2⟩ := r k hk
  by_cases hki : k = i
  · subst hki
    simp only [if_true]
    refine ⟨?_, ?_, ?_⟩
    · simp [Array.getElem?_setIfInBounds]; omega
    · rw [Array.getElem?_setIfInBounds_ne (by omega)]; exact r1
    · rw [Array.getElem?_setIfInBounds_ne (by omega)]; exact r2
  · simp only [if_neg hki]
    refine ⟨?_, ?_, ?_⟩
    · rw [Array.getElem?_setIfInBounds_ne (by omega)]; exact r0
    · rw [Array.getElem?_setIfInBounds_ne (by omega)]; exact r1
    · rw [Array.getElem?_setIfInBounds_ne (by omega)]; exact r2

theorem twice_bad {f : Nat → Ch} {k a b : Nat} (ha : a < k) (hb : b < k) (hab : a ≠ b) : errC (seg (fun q => if q = a then (⟨(f b).p, (f a).g, (f a).d⟩ : Ch) else f q) 0 k) = 1 := by
  refine errC_bad fun h => ?_
  obtain ⟨_, _, h3⟩ := h
  have hl : ∀ x, x < k → x < (seg (fun q => if q = a then (⟨(f b).p, (f a).g, (f a).d⟩ : Ch) else f q) 0 k).length := fun x hx => by rw [seg_length]; omega
  rcases Nat.lt_or_gt_of_ne hab with h | h
  · have h4 := (h3 b (hl b hb)).2 a h
    rw [seg_get, seg_get, Nat.zero_add, Nat.zero_add] at h4
    simp only [if_true] at h4
    rw [if_neg (by omega)] at h4
    exact h4 rfl
  · have h4 := (h3 a (hl a ha)).2 b h
    rw [seg_get, seg_get, Nat.zero_add, Nat.zero_add] at h4
    simp only [if_true] at h4
    rw [if_neg (by omega)] at h4
    exact h4 rfl

theorem let_conv {i : Nat} (hi : i < 20) (W : World) (b : Nat) (hc : W.cell? ⟨b, 0, none⟩ = some (.int .u8 (97 + (i : Int)))) :
    (convert 34 9 (.slice (some ⟨b, 0, none⟩) 1 1)).run Try.prog W = .ok (.string (str (letC i).p)) W := by
  refine run_convert_bytes_back (P := Try.prog) W 34 9 5 ⟨b, 0, none⟩ 1 [UInt8.ofNat (97 + i)] Try.underlying34 Try.underlying5 Try.underlying9 (fun j hj => ?_)
  obtain rfl : j = 0 := by simpa using hj
  rw [adr_addC, hc]
  simp only [List.getElem_cons_zero]
  have e : (UInt8.ofNat (97 + i)).toNat = 97 + i := by rw [UInt8.toNat_ofNat']; omega
  rw [e]
  simp

theorem let_new {i : Nat} (hi : i < 20) (W : World) :
    (convert 34 9 (.slice (some ⟨W.heap.size, 0, none⟩) 1 1)).run Try.prog (W.alloc (.cells #[.int .u8 (97 + (i : Int))] 5)) = .ok (.string (str (letC i).p)) (W.alloc (.cells #[.int .u8 (97 + (i : Int))] 5)) :=
  let_conv hi _ _ (cell_inC (heap_alloc_new W _) rfl)

end Go.Proofs.Ytdmlcgmajpjmdaa
