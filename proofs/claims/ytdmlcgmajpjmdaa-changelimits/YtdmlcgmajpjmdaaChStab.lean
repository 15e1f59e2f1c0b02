/-
  A row sorted, those of one path in the order that they had: slices.stableCmpFunc, slices.SortStableFunc.
-/
import Derived.Test.YtdmlcgmajpjmdaaChSym3
namespace Go.Proofs.Ytdmlcgmajpjmdaa
open Go.RowKit

/-- From x on the parts of s places rise, the last one up to n. -/
def Left (h : Nat → Ch) (s x n : Nat) : Prop := ∀ j, x ≤ j * s → RisF h (j * s) (min ((j + 1) * s) n)
/-- Up to x they do. -/
def Done (h : Nat → Ch) (s x : Nat) : Prop := ∀ i, (i + 1) * s ≤ x → RisF h (i * s) ((i + 1) * s)

theorem RisF.same {f h : Nat → Ch} {a b : Nat} (H : RisF f a b) (e : ∀ k, a ≤ k → k < b → h k = f k) : RisF h a b := fun p q h1 h2 h3 => by
  rw [e p h1 (by omega), e q (by omega) h3]; exact H p q h1 h2 h3

theorem RisF.less {f : Nat → Ch} {a b c d : Nat} (H : RisF f a b) (h1 : a ≤ c) (h2 : d ≤ b) : RisF f c d := fun p q p1 p2 p3 => H p q (by omega) p2 (by omega)

theorem done_zero (h : Nat → Ch) {s : Nat} (hs : 0 < s) : Done h s 0 := fun i hi => by
  rw [Nat.succ_mul] at hi; omega

theorem done_step {f h : Nat → Ch} {s k a b : Nat} (hs : 0 < s) (D : Done f s a) (ha : a = k * s) (hb : b = a + s) (A : AlikeF f h a b) (R : RisF h a b) : Done h s b := by
  intro i hi
  by_cases c : (i + 1) * s ≤ a
  · exact (D i c).same fun x _ h2 => A.same x (by omega)
  · have e1 : b = (k + 1) * s := by rw [Nat.succ_mul, hb, ha]
    rw [e1] at hi
    have h1 := Nat.le_of_mul_le_mul_right hi hs
    have h2 : k < i + 1 := by
      rw [ha] at c
      exact Nat.lt_of_mul_lt_mul_right (Nat.lt_of_not_le c)
    obtain rfl : i = k := by omega
    rw [← e1, ← ha]
    exact R

theorem left_step {f h : Nat → Ch} {s a b n : Nat} (L : Left f s a n) (hab : a ≤ b) (A : AlikeF f h a b) : Left h s b n := fun j hj =>
  (L j (by omega)).same fun x h1 _ => A.same x (by omega)

theorem left_all {f h : Nat → Ch} {s k a n : Nat} (D : Done f s a) (ha : a = k * s) (hn : n < a + s) (A : AlikeF f h a n) (R : RisF h a n) : Left h s 0 n := by
  intro i _
  have e1 : (k + 1) * s = a + s := by rw [Nat.succ_mul, ha]
  rcases Nat.lt_trichotomy i k with c | c | c
  · have h1 : (i + 1) * s ≤ a := by rw [ha]; exact Nat.mul_le_mul_right _ c
    exact ((D i h1).less (Nat.le_refl _) (Nat.min_le_left _ _)).same fun x _ h2 => A.same x (by omega)
  · subst c
    rw [← ha]
    exact R.less (Nat.le_refl _) (Nat.min_le_right _ _)
  · have h1 : (k + 1) * s ≤ i * s := Nat.mul_le_mul_right _ c
    intro p q h2 h3 h4
    omega

theorem left_end {h : Nat → Ch} {s n : Nat} (L : Left h s 0 n) (hs : n ≤ s) : RisF h 0 n := by
  have := L 0 (by omega)
  rw [Nat.zero_mul, Nat.one_mul, Nat.min_eq_right hs] at this
  exact this

theorem left_one {h : Nat → Ch} {s k a n : Nat} (L : Left h s a n) (ha : a = k * (2 * s)) : RisF h a (min (a + s) n) := by
  have e : 2 * k * s = a := by rw [ha, Nat.mul_comm 2 k, Nat.mul_assoc]
  have h1 := L (2 * k) (by omega)
  rw [Nat.add_mul, Nat.one_mul, e] at h1
  exact h1

theorem left_two {h : Nat → Ch} {s k a n : Nat} (L : Left h s a n) (ha : a = k * (2 * s)) : RisF h (a + s) (min (a + s + s) n) := by
  have e : (2 * k + 1) * s = a + s := by rw [Nat.add_mul, Nat.one_mul, ha, Nat.mul_comm 2 k, Nat.mul_assoc]
  have h1 := L (2 * k + 1) (by omega)
  rw [Nat.add_mul (2 * k + 1), Nat.one_mul, e] at h1
  exact h1

theorem ins_z {A C : Int} (a b : Nat) (eA : A = a) (eC : C = b) (w : World) (g n cap : Nat) (f : Nat → Ch) (hR : RowC w g n cap f) (hB : Bd f n) (hab : a ≤ b) (hb : b ≤ n) (hn : n ≤ 1000000000) :
    Calls Try.prog 49 #[.slice (some ⟨g, 0, none⟩) n cap, .int .i64 A, .int .i64 C, .func (.func 20) #[] #[]] w fun e w' => e = .returned (.tuple #[]) ∧
      ∃ h, RowC w' g n cap h ∧ RisF h a b ∧ AlikeF f h a b ∧ Kept [g] w w' := by
  subst eA; subst eC
  exact ins_call w g n cap a b f hR hB hab hb hn

/-- The first pass, as far as a. -/
def Pass1 (w : World) (g n cap : Nat) (f : Nat → Ch) (av bv : Value) (wr : World) : Prop :=
  ∃ (k a b : Nat) (h : Nat → Ch), av = .int .i64 a ∧ bv = .int .i64 b ∧ (a = k * 20 ∧ b = a + 20 ∧ a ≤ n) ∧ Done h 20 a ∧ RowC wr g n cap h ∧ AlikeF f h 0 n ∧ Kept [g] w wr

/-- The later passes. -/
def Pass2 (w : World) (g n cap : Nat) (f : Nat → Ch) (sv : Value) (wr : World) : Prop :=
  ∃ (s : Nat) (h : Nat → Ch), sv = .int .i64 s ∧ (20 ≤ s ∧ s ≤ 2000000000) ∧ Left h s 0 n ∧ RowC wr g n cap h ∧ AlikeF f h 0 n ∧ Kept [g] w wr

/-- One of them, as far as a. -/
def Pass3 (w : World) (g n cap s : Nat) (f : Nat → Ch) (av bv : Value) (wr : World) : Prop :=
  ∃ (k a b : Nat) (h : Nat → Ch), av = .int .i64 a ∧ bv = .int .i64 b ∧ (a = k * (2 * s) ∧ b = a + 2 * s ∧ a ≤ n) ∧ Done h (2 * s) a ∧ Left h s a n ∧ RowC wr g n cap h ∧ AlikeF f h 0 n ∧ Kept [g] w wr

set_option maxHeartbeats 8000000 in
set_option maxRecDepth 100000 in
theorem stable_call (w : World) (g n cap : Nat) (f : Nat → Ch) (hR : RowC w g n cap f) (hB : Bd f n) (hn : n ≤ 1000000000) :
    Calls Try.prog 42 #[.slice (some ⟨g, 0, none⟩) n cap, .int .i64 n, .func (.func 20) #[] #[]] w fun e w' => e = .returned (.tuple #[]) ∧
      ∃ h, RowC w' g n cap h ∧ RisF h 0 n ∧ AlikeF f h 0 n ∧ Kept [g] w w' := by
  have HR : Hid (RowC w g n cap f) := hR
  clear hR
  go_enter Try.func42, Try.ntmps42
  go_wp2_with fail
  go_loopw [7, 8] (fun av bv wr => Pass1 w g n cap f av bv wr) (fun av _ _ => n + 1 - (intOf av).toNat)
  case atStart => exact ⟨0, 0, 20, f, rfl, rfl, ⟨rfl, rfl, Nat.zero_le _⟩, done_zero f (by omega), HR.out, AlikeF.refl _ _ _, Kept.refl _ _⟩
  case round =>
    obtain ⟨k, a, b, h, rfl, rfl, ⟨ha, hb, han⟩, hD', hT', hA', hK'⟩ := hrel
    have HAK : Hid (a = k * 20) := ha
    have HAB : Hid (b = a + 20) := hb
    have HD : Hid (Done h 20 a) := hD'
    have HT : Hid (RowC wr g n cap h) := hT'
    have HA : Hid (AlikeF f h 0 n) := hA'
    have HK : Hid (Kept [g] w wr) := hK'
    clear hD' hT' hA' hK' ha hb
    by_cases hlt : b ≤ n
    · have hlt' : (b : Int) ≤ n := by omega
      go_wp2_with fail
      refine (ins_call _ g n cap a b h HT.out (hB.alike HA.out (Nat.le_refl _)) (by have := HAB.out; omega) hlt hn).mono ?_
      rintro e w1 ⟨rfl, h1, hT1, hS1, hA1, hK1⟩
      have HT1 : Hid (RowC w1 g n cap h1) := hT1
      have HK1 : Hid (Kept [g] w w1) := HK.out.trans hK1 (by simp)
      have HA1 : Hid (AlikeF f h1 0 n) := HA.out.trans (hA1.wide (Nat.zero_le _) (by have := HAB.out; omega) hlt)
      have HD1 : Hid (Done h1 20 b) := done_step (by omega) HD.out HAK.out HAB.out hA1 hS1
      clear hT1 hS1 hA1 hK1
      go_wp2_with fail
      go_roundw
      case rel => exact ⟨k + 1, b, b + 20, h1, rfl, by go_num, ⟨by have h1 := HAB.out; have h2 := HAK.out; omega, rfl, hlt⟩, HD1.out, HT1.out, HA1.out, HK1.out⟩
      case measure => simp [intOf]; have := HAB.out; omega
    · have hlt' : ¬ (b : Int) ≤ n := by omega
      go_wp2_with fail
      refine (ins_call _ g n cap a n h HT.out (hB.alike HA.out (Nat.le_refl _)) han (Nat.le_refl _) hn).mono ?_
      rintro e w1 ⟨rfl, h1, hT1, hS1, hA1, hK1⟩
      have HT1 : Hid (RowC w1 g n cap h1) := hT1
      have HK1 : Hid (Kept [g] w w1) := HK.out.trans hK1 (by simp)
      have HA1 : Hid (AlikeF f h1 0 n) := HA.out.trans (hA1.wide (Nat.zero_le _) han (Nat.le_refl _))
      have HL1 : Hid (Left h1 20 0 n) := left_all HD.out HAK.out (by have := HAB.out; omega) hA1 hS1
      clear hT1 hS1 hA1 hK1
      go_wp2_with fail
      go_loopw [6] (fun sv wr => Pass2 w g n cap f sv wr) (fun sv _ => n - (intOf sv).toNat)
      case atStart => exact ⟨20, h1, rfl, ⟨Nat.le_refl _, by omega⟩, HL1.out, HT1.out, HA1.out, HK1.out⟩
      case round =>
        obtain ⟨s, h, rfl, ⟨hs1, hs2⟩, hL', hT', hA', hK'⟩ := hrel
        have HL2 : Hid (Left h s 0 n) := hL'
        have HT2 : Hid (RowC wr g n cap h) := hT'
        have HA2 : Hid (AlikeF f h 0 n) := hA'
        have HK2 : Hid (Kept [g] w wr) := hK'
        clear hL' hT' hA' hK' HT1 HK1 HA1 HL1 HT HA HK HD HAK HAB
        by_cases hsn : s < n
        · have hsn' : (s : Int) < n := by omega
          go_wp2_with fail
          go_loopw [7, 8] (fun av bv wr => Pass3 w g n cap s f av bv wr) (fun av _ _ => n + 1 - (intOf av).toNat)
          case atStart => exact ⟨0, 0, 2 * s, h, rfl, by go_num, ⟨by simp, by simp, Nat.zero_le _⟩, done_zero h (by omega), HL2.out, HT2.out, HA2.out, HK2.out⟩
          case round =>
            obtain ⟨k, a, b, h, rfl, rfl, ⟨ha, hb, han⟩, hD', hL', hT', hA', hK'⟩ := hrel
            have HAK : Hid (a = k * (2 * s)) := ha
            have HAB : Hid (b = a + 2 * s) := hb
            have HD : Hid (Done h (2 * s) a) := hD'
            have HL : Hid (Left h s a n) := hL'
            have HT : Hid (RowC wr g n cap h) := hT'
            have HA : Hid (AlikeF f h 0 n) := hA'
            have HK : Hid (Kept [g] w wr) := hK'
            clear hD' hL' hT' hA' hK' ha HT2 HA2 HK2 HL2
            by_cases hlt : b ≤ n
            · have hlt' : (b : Int) ≤ n := by omega
              have hR1 : RisF h a (a + s) := by
                have h1 := left_one HL.out HAK.out
                rw [Nat.min_eq_left (by omega)] at h1
                exact h1
              have hR2 : RisF h (a + s) b := by
                have h1 := left_two HL.out HAK.out
                rw [Nat.min_eq_left (by omega)] at h1
                rw [show b = a + s + s by omega]
                exact h1
              have cS := fun w' (hT : RowC w' g n cap h) => sym_z (A := a) (M := (a : Int) + s) (C := b) a (a + s) b rfl (by omega) rfl w' g n cap h hT (hB.alike HA.out (Nat.le_refl _)) (by omega) (by omega) hlt hn hR1 hR2
              have hbs : b ≤ 5000000000 := by omega
              clear hb hR1 hR2
              go_wp2_with fail
              refine (cS _ HT.out).mono ?_
              rintro e w1 ⟨rfl, h1, hT1, hM1, hK1⟩
              have hle : a ≤ b := by have := HAB.out; omega
              have HT1 : Hid (RowC w1 g n cap h1) := hT1
              have HK1 : Hid (Kept [g] w w1) := HK.out.trans hK1 (by simp)
              have HA1 : Hid (AlikeF f h1 0 n) := HA.out.trans (hM1.alike.wide (Nat.zero_le _) hle hlt)
              have HD1 : Hid (Done h1 (2 * s) b) := done_step (by omega) HD.out HAK.out HAB.out hM1.alike hM1.rise
              have HL1 : Hid (Left h1 s b n) := left_step HL.out hle hM1.alike
              clear hT1 hM1 hK1 cS hle
              go_wp2_with fail
              go_roundw
              case rel => exact ⟨k + 1, b, b + 2 * s, h1, rfl, by go_num, ⟨by rw [HAB.out, HAK.out, Nat.add_mul, Nat.one_mul], rfl, hlt⟩, HD1.out, HL1.out, HT1.out, HA1.out, HK1.out⟩
              case measure => simp [intOf]; have := HAB.out; omega
            · have hlt' : ¬ (b : Int) ≤ n := by omega
              by_cases hm : a + s < n
              · have hm' : (a : Int) + s < n := by omega
                have hR1 : RisF h a (a + s) := by
                  have h1 := left_one HL.out HAK.out
                  rw [Nat.min_eq_left (by omega)] at h1
                  exact h1
                have hR2 : RisF h (a + s) n := by
                  have h1 := left_two HL.out HAK.out
                  rw [Nat.min_eq_right (by omega)] at h1
                  exact h1
                have cS := fun w' (hT : RowC w' g n cap h) => sym_z (A := a) (M := (a : Int) + s) (C := n) a (a + s) n rfl (by omega) rfl w' g n cap h hT (hB.alike HA.out (Nat.le_refl _)) (by omega) hm (Nat.le_refl _) hn hR1 hR2
                clear hb hR1 hR2
                go_wp2_with fail
                refine (cS _ HT.out).mono ?_
                rintro e w1 ⟨rfl, h1, hT1, hM1, hK1⟩
                have HT1 : Hid (RowC w1 g n cap h1) := hT1
                have HK1 : Hid (Kept [g] w w1) := HK.out.trans hK1 (by simp)
                have HA1 : Hid (AlikeF f h1 0 n) := HA.out.trans (hM1.alike.wide (Nat.zero_le _) han (Nat.le_refl _))
                have HL1 : Hid (Left h1 (2 * s) 0 n) := left_all HD.out HAK.out (by have := HAB.out; omega) hM1.alike hM1.rise
                clear hT1 hM1 hK1 cS
                go_wp2_with fail
                go_roundw
                case rel => exact ⟨2 * s, h1, by go_num, ⟨by omega, by omega⟩, HL1.out, HT1.out, HA1.out, HK1.out⟩
                case measure => simp [intOf]; omega
              · have hm' : ¬ (a : Int) + s < n := by omega
                have hR1 : RisF h a n := by
                  have h1 := left_one HL.out HAK.out
                  rw [Nat.min_eq_right (by omega)] at h1
                  exact h1
                have HL1 : Hid (Left h (2 * s) 0 n) := left_all HD.out HAK.out (by omega) (AlikeF.refl _ _ _) hR1
                clear hb hR1
                go_wp2_with fail
                go_roundw
                case rel => exact ⟨2 * s, h, by go_num, ⟨by omega, by omega⟩, HL1.out, HT.out, HA.out, HK.out⟩
                case measure => simp [intOf]; omega
        · have hsn' : ¬ (s : Int) < n := by omega
          go_wp2_with fail
          go_returns
          exact ⟨rfl, h, HT2.out, left_end HL2.out (by omega), HA2.out, HK2.out⟩

set_option maxHeartbeats 1000000 in
theorem sortStable_call (w : World) (g n cap : Nat) (f : Nat → Ch) (hR : RowC w g n cap f) (hB : Bd f n) (hn : n ≤ 1000000000) :
    Calls Try.prog 32 #[.slice (some ⟨g, 0, none⟩) n cap, .func (.func 20) #[] #[]] w fun e w' => e = .returned (.tuple #[]) ∧
      ∃ h, RowC w' g n cap h ∧ RisF h 0 n ∧ AlikeF f h 0 n ∧ Kept [g] w w' := by
  have hS := stable_call w g n cap f hR hB hn
  have hcap := hR.le
  have hmax := hR.max
  unfold maxLen at hmax
  clear hR hB
  go_enter Try.func32, Try.ntmps32
  go_wp2_with fail
  refine hS.mono ?_
  rintro e w1 ⟨rfl, h1, hT1, hS1, hA1, hK1⟩
  have HT1 : Hid (RowC w1 g n cap h1) := hT1
  clear hT1
  go_wp2_with fail
  go_returns
  exact ⟨rfl, h1, HT1.out, hS1, hA1, hK1⟩

end Go.Proofs.Ytdmlcgmajpjmdaa
