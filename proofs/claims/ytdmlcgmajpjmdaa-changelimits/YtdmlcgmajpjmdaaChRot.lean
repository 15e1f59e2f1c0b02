/-
  Two neighbouring parts of a row change places: slices.rotateCmpFunc.
-/
import Derived.Test.YtdmlcgmajpjmdaaChSwap
namespace Go.Proofs.Ytdmlcgmajpjmdaa
open Go.RowKit

/-- The parts a to m, m to b, the other way round. -/
def rotF (f : Nat → Ch) (a m b : Nat) : Nat → Ch := fun k => if a ≤ k ∧ k < a + (b - m) then f (k + (m - a)) else if a + (b - m) ≤ k ∧ k < b then f (k - (b - m)) else f k

/-- What is left to be turned are i places ahead of m, j from it on. -/
structure RotI (F h : Nat → Ch) (m i j : Nat) : Prop where
  out : ∀ k, k < m - i ∨ m + j ≤ k → h k = F k
  one : ∀ k, m - i ≤ k → k < m - i + j → h (k + i) = F k
  two : ∀ k, m - i + j ≤ k → k < m + j → h (k - j) = F k

theorem rotI_start (f : Nat → Ch) {a m b : Nat} (h1 : a ≤ m) (h2 : m ≤ b) : RotI (rotF f a m b) f m (m - a) (b - m) := by
  refine ⟨fun k hk => ?_, fun k hk1 hk2 => ?_, fun k hk1 hk2 => ?_⟩
  · simp only [rotF]; rw [if_neg (by omega), if_neg (by omega)]
  · simp only [rotF]; rw [if_pos (by omega)]
  · simp only [rotF]; rw [if_neg (by omega), if_pos (by omega)]

theorem rotI_big {F h : Nat → Ch} {m i j : Nat} (H : RotI F h m i j) (hi : i ≤ m) (hj : j < i) : RotI F (swpR h (m - i) m j) m (i - j) j := by
  refine ⟨fun k hk => ?_, fun k hk1 hk2 => ?_, fun k hk1 hk2 => ?_⟩
  · simp only [swpR]
    by_cases c : m - i ≤ k ∧ k < m - i + j
    · rw [if_pos c, ← H.one k c.1 c.2]; congr 1; omega
    · rw [if_neg c, if_neg (by omega)]; exact H.out k (by omega)
  · simp only [swpR]
    rw [if_neg (by omega), if_pos (by omega), ← H.two k (by omega) (by omega)]; congr 1; omega
  · simp only [swpR]
    rw [if_neg (by omega), if_neg (by omega)]; exact H.two k (by omega) (by omega)

theorem rotI_small {F h : Nat → Ch} {m i j : Nat} (H : RotI F h m i j) (hi : i ≤ m) (hj : i < j) : RotI F (swpR h (m - i) (m + j - i) i) m i (j - i) := by
  refine ⟨fun k hk => ?_, fun k hk1 hk2 => ?_, fun k hk1 hk2 => ?_⟩
  · simp only [swpR]
    by_cases c : m + j - i ≤ k ∧ k < m + j - i + i
    · rw [if_neg (by omega), if_pos c, ← H.two k (by omega) (by omega)]; congr 1; omega
    · rw [if_neg (by omega), if_neg c]; exact H.out k (by omega)
  · simp only [swpR]
    rw [if_neg (by omega), if_neg (by omega)]; exact H.one k (by omega) (by omega)
  · simp only [swpR]
    rw [if_pos (by omega), ← H.one k (by omega) (by omega)]; congr 1; omega

theorem rotI_end {F h : Nat → Ch} {m i : Nat} (H : RotI F h m i i) (hi : i ≤ m) (k : Nat) : F k = swpR h (m - i) m i k := by
  simp only [swpR]
  by_cases c : m - i ≤ k ∧ k < m - i + i
  · rw [if_pos c, ← H.one k c.1 c.2]; congr 1; omega
  · rw [if_neg c]
    by_cases c2 : m ≤ k ∧ k < m + i
    · rw [if_pos c2, ← H.two k (by omega) (by omega)]; congr 1; omega
    · rw [if_neg c2]; exact (H.out k (by omega)).symm

set_option maxHeartbeats 2000000 in
theorem rotate_call (w : World) (g n cap a m b : Nat) (f : Nat → Ch) (v : Value) (hR : RowC w g n cap f) (h1 : a < m) (h2 : m < b) (h3 : b ≤ n) :
    Calls Try.prog 55 #[.slice (some ⟨g, 0, none⟩) n cap, .int .i64 a, .int .i64 m, .int .i64 b, v] w fun e w' => e = .returned (.tuple #[]) ∧
      RowC w' g n cap (rotF f a m b) ∧ Kept [g] w w' := by
  have hcap := hR.le
  have hmax := hR.max
  unfold maxLen at hmax
  have HR : Hid (RowC w g n cap f) := hR
  have HI : Hid (RotI (rotF f a m b) f m (m - a) (b - m)) := rotI_start f (by omega) (by omega)
  generalize rotF f a m b = F at HI ⊢
  clear hR
  go_enter Try.func55, Try.ntmps55
  go_wp2_with fail
  go_loopw [10, 11] (fun iv jv wr => ∃ (i j : Nat) (h : Nat → Ch), 0 < i ∧ 0 < j ∧ i ≤ m ∧ m + j ≤ n ∧ iv = .int .i64 i ∧ jv = .int .i64 j ∧ Hid (RowC wr g n cap h) ∧ Hid (RotI F h m i j) ∧ Hid (Kept [g] w wr)) (fun iv jv _ => (intOf iv).toNat + (intOf jv).toNat)
  case atStart =>
    exact ⟨m - a, b - m, f, by omega, by omega, by omega, by omega, by go_num, by go_num, HR, HI, Kept.refl _ _⟩
  case round =>
    obtain ⟨i, j, h, i0, j0, hi, hj, rfl, rfl, HT, HJ, HK⟩ := hrel
    by_cases he : i = j
    · have he' : (i : Int) = j := by omega
      have HE : Hid (i = j) := he
      clear he
      go_wp2_with fail
      refine (swapRange_z (m - i) m i (by omega) rfl (by omega) _ g n cap h v HT.out (by omega) (by omega)).mono ?_
      rintro e w1 ⟨rfl, hR1, hK1⟩
      have HR1 : Hid (RowC w1 g n cap (swpR h (m - i) m i)) := hR1
      have HK1 : Hid (Kept [g] w w1) := HK.out.trans hK1 (by simp)
      clear hR1 hK1
      go_wp2_with fail
      go_returns
      have hJ := HJ.out
      rw [← HE.out] at hJ
      exact ⟨rfl, HR1.out.congr fun k _ => rotI_end hJ hi k, HK1.out⟩
    · have he' : ¬ (i : Int) = j := by omega
      by_cases hlt : j < i
      · have hlt' : (j : Int) < i := by omega
        go_wp2_with fail
        refine (swapRange_z (m - i) m j (by omega) rfl rfl _ g n cap h v HT.out (by omega) (by omega)).mono ?_
        rintro e w1 ⟨rfl, hR1, hK1⟩
        have HR1 : Hid (RowC w1 g n cap (swpR h (m - i) m j)) := hR1
        have HK1 : Hid (Kept [g] w w1) := HK.out.trans hK1 (by simp)
        clear hR1 hK1
        go_wp2_with fail
        go_roundw
        case rel => exact ⟨i - j, j, _, by omega, j0, by omega, by omega, by go_num, rfl, HR1, rotI_big HJ.out hi hlt, HK1⟩
        case measure => simp [intOf]; omega
      · have hlt' : ¬ (j : Int) < i := by omega
        go_wp2_with fail
        refine (swapRange_z (m - i) (m + j - i) i (by omega) (by omega) rfl _ g n cap h v HT.out (by omega) (by omega)).mono ?_
        rintro e w1 ⟨rfl, hR1, hK1⟩
        have HR1 : Hid (RowC w1 g n cap (swpR h (m - i) (m + j - i) i)) := hR1
        have HK1 : Hid (Kept [g] w w1) := HK.out.trans hK1 (by simp)
        clear hR1 hK1
        go_wp2_with fail
        go_roundw
        case rel => exact ⟨i, j - i, _, i0, by omega, hi, by omega, rfl, by go_num, HR1, rotI_small HJ.out hi (by omega), HK1⟩
        case measure => simp [intOf]; omega

theorem rotate_z {A M C : Int} (a m b : Nat) (eA : A = a) (eM : M = m) (eC : C = b) (w : World) (g n cap : Nat) (f : Nat → Ch) (v : Value) (hR : RowC w g n cap f) (h1 : a < m) (h2 : m < b) (h3 : b ≤ n) :
    Calls Try.prog 55 #[.slice (some ⟨g, 0, none⟩) n cap, .int .i64 A, .int .i64 M, .int .i64 C, v] w fun e w' => e = .returned (.tuple #[]) ∧
      RowC w' g n cap (rotF f a m b) ∧ Kept [g] w w' := by
  subst eA; subst eM; subst eC
  exact rotate_call w g n cap a m b f v hR h1 h2 h3

end Go.Proofs.Ytdmlcgmajpjmdaa
