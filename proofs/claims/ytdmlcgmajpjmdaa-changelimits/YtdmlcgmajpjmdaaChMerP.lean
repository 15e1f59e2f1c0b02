/-
  Two neighbouring parts that rise made one, in their place: what the merge by halves does, on rows as functions of places.
-/
import Derived.Test.YtdmlcgmajpjmdaaChRot
namespace Go.Proofs.Ytdmlcgmajpjmdaa

/-- The one at a, taken up to k. -/
def shL (f : Nat → Ch) (a k : Nat) : Nat → Ch := fun p => if p = k then f a else if a ≤ p ∧ p < k then f (p + 1) else f p

theorem shL_zero (f : Nat → Ch) (a p : Nat) : shL f a a p = f p := by
  simp only [shL]
  by_cases h : p = a
  · rw [if_pos h, h]
  · rw [if_neg h, if_neg (by omega)]

theorem shL_at (f : Nat → Ch) (a k : Nat) : shL f a k k = f a := by simp [shL]
theorem shL_next (f : Nat → Ch) (a k : Nat) : shL f a k (k + 1) = f (k + 1) := by
  simp only [shL]; rw [if_neg (by omega), if_neg (by omega)]

theorem shL_succ (f : Nat → Ch) {a k : Nat} (h : a ≤ k) (p : Nat) : shL f a (k + 1) p = swp (shL f a k) k (k + 1) p := by
  simp only [swp]
  by_cases h1 : p = k
  · rw [if_pos h1, shL_next, h1]; simp only [shL]; rw [if_neg (by omega), if_pos (by omega)]
  · rw [if_neg h1]
    by_cases h2 : p = k + 1
    · rw [if_pos h2, shL_at, h2, shL_at]
    · rw [if_neg h2]
      simp only [shL]
      rw [if_neg h2, if_neg h1]
      by_cases h3 : a ≤ p ∧ p < k
      · rw [if_pos h3, if_pos (by omega)]
      · rw [if_neg h3, if_neg (by omega)]

theorem shL_alike {f h : Nat → Ch} {a b k i : Nat} (H : AlikeF f h a b) (e : ∀ p, h p = shL f a k p) (hk : a ≤ k) (hki : k + 1 < i) (hi : i ≤ b) (hlt : ∀ q, a + 1 ≤ q → q < i → cmpT (f q).p (f a).p < 0) : AlikeF f (swp h k (k + 1)) a b := by
  refine H.trans ((swp_alike h k ?_).wide hk (by omega) (by omega))
  rw [e, e, shL_at, shL_next]
  exact fun e => cmpT_ne (hlt (k + 1) (by omega) hki) e.symm

theorem shL_end {f : Nat → Ch} {a b i : Nat} (H : RisF f (a + 1) b) (h1 : a + 1 ≤ i) (hi : i ≤ b) (hlt : ∀ q, a + 1 ≤ q → q < i → cmpT (f q).p (f a).p < 0) (hge : ∀ q, i ≤ q → q < b → ¬ cmpT (f q).p (f a).p < 0) : RisF (shL f a (i - 1)) a b := by
  intro p q hp hpq hq
  have eL : ∀ x, a ≤ x → x < i - 1 → shL f a (i - 1) x = f (x + 1) := fun x h2 h3 => by simp only [shL]; rw [if_neg (by omega), if_pos (by omega)]
  have eR : ∀ x, i ≤ x → shL f a (i - 1) x = f x := fun x h2 => by simp only [shL]; rw [if_neg (by omega), if_neg (by omega)]
  rcases (show p < i - 1 ∨ p = i - 1 ∨ i ≤ p by omega) with c | c | c
  · rw [eL p hp c]
    rcases (show q < i - 1 ∨ q = i - 1 ∨ i ≤ q by omega) with d | d | d
    · rw [eL q (by omega) d]; exact H _ _ (by omega) (by omega) (by omega)
    · rw [d, shL_at]; exact Int.le_of_lt (hlt _ (by omega) (by omega))
    · rw [eR q d]; exact H _ _ (by omega) (by omega) hq
  · rw [c, shL_at, eR q (by omega)]; exact cmpT_not (hge q (by omega) hq)
  · rw [eR p c, eR q (by omega)]; exact H _ _ (by omega) hpq hq

/-- The one at m, taken down to k. -/
def shR (f : Nat → Ch) (m k : Nat) : Nat → Ch := fun p => if p = k then f m else if k < p ∧ p ≤ m then f (p - 1) else f p

theorem shR_zero (f : Nat → Ch) (m p : Nat) : shR f m m p = f p := by
  simp only [shR]
  by_cases h : p = m
  · rw [if_pos h, h]
  · rw [if_neg h, if_neg (by omega)]

theorem shR_at (f : Nat → Ch) (m k : Nat) : shR f m k k = f m := by simp [shR]
theorem shR_prev (f : Nat → Ch) (m k : Nat) : shR f m (k + 1) k = f k := by
  simp only [shR]; rw [if_neg (by omega), if_neg (by omega)]

theorem shR_step (f : Nat → Ch) {m k : Nat} (h : k + 1 ≤ m) (p : Nat) : shR f m k p = swp (shR f m (k + 1)) (k + 1) k p := by
  simp only [swp]
  by_cases h1 : p = k + 1
  · rw [if_pos h1, shR_prev, h1]; simp only [shR]; rw [if_neg (by omega), if_pos (by omega)]; congr 1
  · rw [if_neg h1]
    by_cases h2 : p = k
    · rw [if_pos h2, shR_at, h2, shR_at]
    · rw [if_neg h2]
      simp only [shR]
      rw [if_neg h2, if_neg h1]
      by_cases h3 : k + 1 < p ∧ p ≤ m
      · rw [if_pos h3, if_pos (by omega)]
      · rw [if_neg h3, if_neg (by omega)]

theorem shR_alike {f h : Nat → Ch} {a b m k i : Nat} (H : AlikeF f h a b) (e : ∀ p, h p = shR f m (k + 1) p) (hi : a ≤ i) (hik : i ≤ k) (hk : k + 1 ≤ m) (hm : m < b) (hlt : ∀ q, i ≤ q → q < m → cmpT (f m).p (f q).p < 0) : AlikeF f (swp h (k + 1) k) a b := by
  refine H.trans ?_
  rw [swp_comm]
  refine (swp_alike h k ?_).wide (by omega) (by omega) (by omega)
  rw [e, e, shR_at, shR_prev]
  exact fun e => cmpT_ne (hlt k hik (by omega)) e.symm

theorem shR_end {f : Nat → Ch} {a m i : Nat} (H : RisF f a m) (hi : a ≤ i) (him : i ≤ m) (hlt : ∀ q, i ≤ q → q < m → cmpT (f m).p (f q).p < 0) (hge : ∀ q, a ≤ q → q < i → ¬ cmpT (f m).p (f q).p < 0) : RisF (shR f m i) a (m + 1) := by
  intro p q hp hpq hq
  have eL : ∀ x, x < i → shR f m i x = f x := fun x h2 => by simp only [shR]; rw [if_neg (by omega), if_neg (by omega)]
  have eR : ∀ x, i < x → x ≤ m → shR f m i x = f (x - 1) := fun x h2 h3 => by simp only [shR]; rw [if_neg (by omega), if_pos (by omega)]
  rcases (show p < i ∨ p = i ∨ i < p by omega) with c | c | c
  · rw [eL p c]
    rcases (show q < i ∨ q = i ∨ i < q by omega) with d | d | d
    · rw [eL q d]; exact H _ _ hp hpq (by omega)
    · rw [d, shR_at]; exact cmpT_not (hge p hp c)
    · rw [eR q d (by omega)]; exact H _ _ hp (by omega) (by omega)
  · rw [c, shR_at, eR q (by omega) (by omega)]; exact Int.le_of_lt (hlt _ (by omega) (by omega))
  · rw [eR p c (by omega), eR q (by omega) (by omega)]; exact H _ _ (by omega) (by omega) (by omega)

/-- How far the search has come: between s and r the place lies at which the parts are cut. -/
structure BinC (f : Nat → Ch) (nn lo hi s r : Nat) : Prop where
  low : s = lo ∨ (lo < s ∧ ¬ cmpT (f (nn - s)).p (f (s - 1)).p < 0)
  high : r = hi ∨ (r < hi ∧ cmpT (f (nn - 1 - r)).p (f r).p < 0)

theorem binC_up {f : Nat → Ch} {nn lo hi s r c : Nat} (H : BinC f nn lo hi s r) (h1 : lo ≤ c) (hn : c < nn) (hc : ¬ cmpT (f (nn - 1 - c)).p (f c).p < 0) : BinC f nn lo hi (c + 1) r := by
  refine ⟨.inr ⟨by omega, ?_⟩, H.high⟩
  rw [show nn - (c + 1) = nn - 1 - c by omega]
  exact hc

theorem binC_down {f : Nat → Ch} {nn lo hi s r c : Nat} (H : BinC f nn lo hi s r) (h1 : c < hi) (hc : cmpT (f (nn - 1 - c)).p (f c).p < 0) : BinC f nn lo hi s c :=
  ⟨H.low, .inr ⟨h1, hc⟩⟩

/-- Where the parts are cut: what stands ahead of the cut, in both, is below what stands behind it. -/
structure CutC (f : Nat → Ch) (a m b mid s t : Nat) : Prop where
  sum : s + t = mid + m
  a1 : a ≤ s
  a2 : s ≤ m
  a3 : m ≤ t
  a4 : t ≤ b
  am : a ≤ mid
  mb : mid ≤ b
  low : ∀ p q, a ≤ p → p < s → t ≤ q → q < b → cmpT (f p).p (f q).p ≤ 0
  high : ∀ p q, m ≤ p → p < t → s ≤ q → q < m → cmpT (f p).p (f q).p < 0

theorem le_self {f : Nat → Ch} {a b p q : Nat} (H : RisF f a b) (h1 : a ≤ p) (h2 : p ≤ q) (h3 : q < b) : cmpT (f p).p (f q).p ≤ 0 := by
  by_cases e : p = q
  · rw [e, cmpT_refl]; omega
  · exact H p q h1 (by omega) h3

theorem le_lt {a b c : List UInt8} (h1 : cmpT a b ≤ 0) (h2 : cmpT b c < 0) : cmpT a c < 0 := by
  rcases (ordT.strict h1 (Int.le_of_lt h2)).2 with h | h <;> omega

theorem lt_le {a b c : List UInt8} (h1 : cmpT a b < 0) (h2 : cmpT b c ≤ 0) : cmpT a c < 0 := by
  rcases (ordT.strict (Int.le_of_lt h1) h2).2 with h | h <;> omega

theorem cutC_of {f : Nat → Ch} {a m b mid lo hi s : Nat} (H : BinC f (mid + m) lo hi s s) (h1 : a ≤ m) (h2 : m ≤ b) (hs1 : lo ≤ s) (hs2 : s ≤ hi) (hL : RisF f a m) (hR : RisF f m b) (hmid : mid = (a + b) / 2)
    (hlh : (mid < m ∧ lo = mid + m - b ∧ hi = mid) ∨ (m ≤ mid ∧ lo = a ∧ hi = m)) : CutC f a m b mid s (mid + m - s) := by
  refine ⟨by omega, by omega, by omega, by omega, by omega, by omega, by omega, fun p q p1 p2 q1 q2 => ?_, fun p q p1 p2 q1 q2 => ?_⟩
  · rcases H.low with e | ⟨e, hc⟩
    · omega
    · exact cmpT_le (le_self hL p1 (by omega : p ≤ s - 1) (by omega)) (cmpT_le (cmpT_not hc) (le_self hR (by omega) q1 q2))
  · rcases H.high with e | ⟨e, hc⟩
    · omega
    · exact lt_le (le_lt (le_self hR p1 (by omega : p ≤ mid + m - 1 - s) (by omega)) hc) (le_self hL (by omega) q1 q2)

theorem rotF_none (f : Nat → Ch) {s m t : Nat} (h1 : s ≤ m) (h2 : m ≤ t) (h : ¬ (s < m ∧ m < t)) (k : Nat) : rotF f s m t k = f k := by
  simp only [rotF]
  rcases (show s = m ∨ m = t by omega) with e | e
  · subst e
    by_cases c : s ≤ k ∧ k < s + (t - s)
    · rw [if_pos c]; congr 1; omega
    · rw [if_neg c, if_neg (by omega)]
  · subst e
    rw [if_neg (by omega)]
    by_cases c : s + (m - m) ≤ k ∧ k < m
    · rw [if_pos c]; congr 1; omega
    · rw [if_neg c]

/-- Once the middle parts have changed places. -/
structure Turned (f h : Nat → Ch) (a m b mid s t : Nat) : Prop where
  alike : AlikeF f h a b
  r1 : RisF h a s
  r2 : RisF h s mid
  r3 : RisF h mid t
  r4 : RisF h t b
  cross : ∀ p q, a ≤ p → p < mid → mid ≤ q → q < b → cmpT (h p).p (h q).p ≤ 0

theorem turned_of {f h : Nat → Ch} {a m b mid s t : Nat} (C : CutC f a m b mid s t) (hL : RisF f a m) (hR : RisF f m b) (e : ∀ k, h k = rotF f s m t k) : Turned f h a m b mid s t := by
  obtain ⟨sum, a1, a2, a3, a4, am, mb, low, high⟩ := C
  have e1 : ∀ k, k < s → h k = f k := fun k hk => by rw [e]; simp only [rotF]; rw [if_neg (by omega), if_neg (by omega)]
  have e2 : ∀ k, s ≤ k → k < mid → h k = f (k + (m - s)) := fun k h1 h2 => by rw [e]; simp only [rotF]; rw [if_pos (by omega)]
  have e3 : ∀ k, mid ≤ k → k < t → h k = f (k - (t - m)) := fun k h1 h2 => by rw [e]; simp only [rotF]; rw [if_neg (by omega), if_pos (by omega)]
  have e4 : ∀ k, t ≤ k → h k = f k := fun k hk => by rw [e]; simp only [rotF]; rw [if_neg (by omega), if_neg (by omega)]
  refine ⟨?_, fun p q h1 h2 h3 => ?_, fun p q h1 h2 h3 => ?_, fun p q h1 h2 h3 => ?_, fun p q h1 h2 h3 => ?_, fun p q p1 p2 q1 q2 => ?_⟩
  · refine AlikeF.wide (c := s) (d := t) ⟨?_, fun k hk => ?_⟩ a1 (by omega) a4
    · rw [seg_app f a2 a3, seg_app h (by omega : s ≤ mid) (by omega : mid ≤ t)]
      have g1 : seg h s mid = seg f m t := by
        rw [seg_shift (f := h) (g := f) (c := m) (fun k hk => by rw [e2 _ (by omega) (by omega)]; congr 1; omega)]
        congr 1; omega
      have g2 : seg h mid t = seg f s m := by
        rw [seg_shift (f := h) (g := f) (c := s) (fun k hk => by rw [e3 _ (by omega) (by omega)]; congr 1; omega)]
        congr 1; omega
      rw [g1, g2]
      refine Alike.swap fun u hu v hv => ?_
      obtain ⟨q, q1, q2, rfl⟩ := mem_seg.1 hu
      obtain ⟨p, p1, p2, rfl⟩ := mem_seg.1 hv
      exact fun e => cmpT_ne (high p q p1 p2 q1 q2) e.symm
    · rcases hk with hk | hk
      · exact e1 k hk
      · exact e4 k hk
  · rw [e1 p (by omega), e1 q h3]; exact hL p q h1 h2 (by omega)
  · rw [e2 p h1 (by omega), e2 q (by omega) h3]; exact hR _ _ (by omega) (by omega) (by omega)
  · rw [e3 p h1 (by omega), e3 q (by omega) h3]; exact hL _ _ (by omega) (by omega) (by omega)
  · rw [e4 p h1, e4 q (by omega)]; exact hR _ _ (by omega) h2 h3
  · by_cases c : p < s
    · rw [e1 p c]
      by_cases d : q < t
      · rw [e3 q q1 d]; exact hL _ _ p1 (by omega) (by omega)
      · rw [e4 q (by omega)]; exact low p q p1 c (by omega) q2
    · rw [e2 p (by omega) p2]
      by_cases d : q < t
      · rw [e3 q q1 d]; exact Int.le_of_lt (high _ _ (by omega) (by omega) (by omega) (by omega))
      · rw [e4 q (by omega)]; exact hR _ _ (by omega) (by omega) q2

/-- What a merge must show. -/
structure Merged (f h : Nat → Ch) (a b : Nat) : Prop where
  rise : RisF h a b
  alike : AlikeF f h a b

theorem merged_void {f : Nat → Ch} {a m b : Nat} (h1 : a ≤ m) (h2 : m ≤ b) (hL : RisF f a m) (hR : RisF f m b) (hc : ¬ (a < m ∧ m < b)) : Merged f f a b := by
  refine ⟨?_, AlikeF.refl _ _ _⟩
  rcases (show a = m ∨ m = b by omega) with e | e
  · subst e; exact hR
  · subst e; exact hL

theorem merged_of {f h1 h2 h3 : Nat → Ch} {a m b mid s t : Nat} (T : Turned f h1 a m b mid s t) (am : a ≤ mid) (mb : mid ≤ b) (M1 : Merged h1 h2 a mid) (M2 : Merged h2 h3 mid b) : Merged f h3 a b := by
  refine ⟨fun p q p1 pq q2 => ?_, (T.alike.trans (M1.alike.wide (Nat.le_refl _) am mb)).trans (M2.alike.wide am mb (Nat.le_refl _))⟩
  by_cases c : q < mid
  · rw [M2.alike.same p (by omega), M2.alike.same q (by omega)]; exact M1.rise p q p1 pq c
  · by_cases d : mid ≤ p
    · exact M2.rise p q d pq q2
    · obtain ⟨q', h4, h5, e5⟩ := M2.alike.find (k := q) (by omega) q2
      obtain ⟨p', h6, h7, e7⟩ := M1.alike.find (k := p) p1 (by omega)
      rw [M2.alike.same p (by omega), ← e5, ← e7, M1.alike.same q' (by omega)]
      exact T.cross p' q' h6 h7 h4 h5

end Go.Proofs.Ytdmlcgmajpjmdaa
