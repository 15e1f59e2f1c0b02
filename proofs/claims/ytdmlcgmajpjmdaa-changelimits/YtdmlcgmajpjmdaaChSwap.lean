/-
  Parts of a row changed: slices.swapRangeCmpFunc.
-/
import Derived.Test.YtdmlcgmajpjmdaaChMem
namespace Go.Proofs.Ytdmlcgmajpjmdaa
open Go.RowKit

theorem RowC.drew {w : World} {g n cap : Nat} {f : Nat → Ch} (h : RowC w g n cap f) : RowC w.drew g n cap f := h.kept ((Kept.refl [] w).drew) (by simp)

/-- Two places changed, as the walk writes it. -/
theorem RowC.swapped {w : World} {g n cap : Nat} {f : Nat → Ch} (h : RowC w g n cap f) {i j : Nat} (hi : i < n) (hj : j < n) {F : Nat → Ch} (hF : ∀ k, F k = swp f i j k) :
    RowC (put3 (put3 w g i (f j)) g j (f i)).drew g n cap F := ((h.swap hi hj).congr fun k _ => hF k).drew

theorem swapped_kept (w : World) (g i j : Nat) (x y : Ch) : Kept [g] w (put3 (put3 w g i x) g j y).drew := ((put3_kept w g i x).trans (put3_kept _ g j y) (by simp)).drew

/-- Two parts of m places changed. -/
def swpR (f : Nat → Ch) (a b m : Nat) : Nat → Ch := fun k => if a ≤ k ∧ k < a + m then f (k - a + b) else if b ≤ k ∧ k < b + m then f (k - b + a) else f k

theorem swpR_zero (f : Nat → Ch) (a b k : Nat) : swpR f a b 0 k = f k := by
  simp only [swpR]; rw [if_neg (by omega), if_neg (by omega)]

theorem swpR_a (f : Nat → Ch) {a b i m : Nat} (h : a + m ≤ b) (hi : i < m) : swpR f a b i (a + i) = f (a + i) := by
  simp only [swpR]; rw [if_neg (by omega), if_neg (by omega)]

theorem swpR_b (f : Nat → Ch) {a b i m : Nat} (h : a + m ≤ b) (hi : i < m) : swpR f a b i (b + i) = f (b + i) := by
  simp only [swpR]; rw [if_neg (by omega), if_neg (by omega)]

theorem swpR_succ (f : Nat → Ch) {a b i m : Nat} (h : a + m ≤ b) (hi : i < m) (k : Nat) : swpR f a b (i + 1) k = swp (swpR f a b i) (a + i) (b + i) k := by
  simp only [swp]
  by_cases h1 : k = a + i
  · rw [if_pos h1, swpR_b f h hi, h1]; simp only [swpR]; rw [if_pos (by omega)]; congr 1; omega
  · rw [if_neg h1]
    by_cases h2 : k = b + i
    · rw [if_pos h2, swpR_a f h hi, h2]; simp only [swpR]; rw [if_neg (by omega), if_pos (by omega)]; congr 1; omega
    · rw [if_neg h2]
      simp only [swpR]
      have e1 : (a ≤ k ∧ k < a + (i + 1)) ↔ (a ≤ k ∧ k < a + i) := by omega
      have e2 : (b ≤ k ∧ k < b + (i + 1)) ↔ (b ≤ k ∧ k < b + i) := by omega
      simp only [e1, e2]

set_option maxHeartbeats 2000000 in
theorem swapRange_call (w : World) (g n cap a b m : Nat) (f : Nat → Ch) (v : Value) (hR : RowC w g n cap f) (h1 : a + m ≤ b) (h2 : b + m ≤ n) :
    Calls Try.prog 62 #[.slice (some ⟨g, 0, none⟩) n cap, .int .i64 a, .int .i64 b, .int .i64 m, v] w fun e w' => e = .returned (.tuple #[]) ∧
      RowC w' g n cap (swpR f a b m) ∧ Kept [g] w w' := by
  have hcap := hR.le
  have hmax := hR.max
  unfold maxLen at hmax
  have HR : Hid (RowC w g n cap f) := hR
  clear hR
  go_enter Try.func62, Try.ntmps62
  go_wp2_with fail
  go_loopw [10] (fun iv wr => ∃ i : Nat, i ≤ m ∧ iv = .int .i64 i ∧ Hid (RowC wr g n cap (swpR f a b i)) ∧ Hid (Kept [g] w wr)) (fun iv _ => m - (intOf iv).toNat)
  case atStart =>
    exact ⟨0, Nat.zero_le _, rfl, HR.out.congr fun k _ => swpR_zero f a b k, Kept.refl _ _⟩
  case round =>
    obtain ⟨i, hi, rfl, HT, HK⟩ := hrel
    by_cases hlt : i < m
    · have hlt' : (i : Int) < m := by omega
      have hA := HT.out.ch (i := a + i) (by omega)
      have hB := HT.out.ch (i := b + i) (by omega)
      have hfz := HT.out.froz
      have hNext := HT.out.swapped (i := a + i) (j := b + i) (by omega) (by omega) (swpR_succ f h1 hlt)
      rw [swpR_a f h1 hlt, swpR_b f h1 hlt] at hNext
      rw [swpR_a f h1 hlt] at hA
      rw [swpR_b f h1 hlt] at hB
      have HN : Hid (RowC (put3 (put3 wr g (a + i) (f (b + i))) g (b + i) (f (a + i))).drew g n cap (swpR f a b (i + 1))) := hNext
      obtain ⟨c0, c1, c2⟩ := hA
      obtain ⟨d0, d1, d2⟩ := hB
      clear hNext
      go_wp2_with fail
      go_region
      go_wp2_with fail
      go_roundw
      case rel => exact ⟨i + 1, by omega, by go_num, HN, HK.out.trans (swapped_kept wr g (a + i) (b + i) (f (b + i)) (f (a + i))) (by simp)⟩
      case measure => simp [intOf]; omega
    · have hlt' : ¬ (i : Int) < m := by omega
      have HE : Hid (i = m) := by show i = m; omega
      go_wp2_with fail
      go_returns
      exact ⟨rfl, by rw [← HE.out]; exact HT.out, HK.out⟩

theorem swapRange_z {A B M : Int} (a b m : Nat) (eA : A = a) (eB : B = b) (eM : M = m) (w : World) (g n cap : Nat) (f : Nat → Ch) (v : Value) (hR : RowC w g n cap f) (h1 : a + m ≤ b) (h2 : b + m ≤ n) :
    Calls Try.prog 62 #[.slice (some ⟨g, 0, none⟩) n cap, .int .i64 A, .int .i64 B, .int .i64 M, v] w fun e w' => e = .returned (.tuple #[]) ∧
      RowC w' g n cap (swpR f a b m) ∧ Kept [g] w w' := by
  subst eA; subst eB; subst eM
  exact swapRange_call w g n cap a b m f v hR h1 h2

end Go.Proofs.Ytdmlcgmajpjmdaa
