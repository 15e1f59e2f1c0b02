/-
  slices.symMergeCmpFunc, where the first part has one change.
-/
import Derived.Test.YtdmlcgmajpjmdaaChMerP
import Derived.Test.YtdmlcgmajpjmdaaChIns
namespace Go.Proofs.Ytdmlcgmajpjmdaa
open Go.RowKit

/-- How far the search has come: below i all are below the one at a, from j on none is. -/
structure LowC (f : Nat → Ch) (a b i j : Nat) : Prop where
  i1 : a + 1 ≤ i
  i2 : i ≤ j
  i3 : j ≤ b
  lt : ∀ q, a + 1 ≤ q → q < i → cmpT (f q).p (f a).p < 0
  ge : ∀ q, j ≤ q → q < b → 0 ≤ cmpT (f q).p (f a).p

def Sym1I (w : World) (g n cap a b : Nat) (f : Nat → Ch) (iv jv : Value) (wr : World) : Prop :=
  ∃ (i j : Nat), iv = .int .i64 i ∧ jv = .int .i64 j ∧ LowC f a b i j ∧ RowC wr g n cap f ∧ Kept [g] w wr

set_option maxHeartbeats 4000000 in
set_option maxRecDepth 100000 in
theorem sym_one (w : World) (g n cap a m b : Nat) (hm : m = a + 1) (f : Nat → Ch) (hR : RowC w g n cap f) (hB : Bd f n) (hab : a + 1 < b) (hb : b ≤ n) (hn : n ≤ 1000000000) (hS : RisF f (a + 1) b) :
    Calls Try.prog 50 #[.slice (some ⟨g, 0, none⟩) n cap, .int .i64 a, .int .i64 m, .int .i64 b, .func (.func 20) #[] #[]] w fun e w' => e = .returned (.tuple #[]) ∧
      ∃ h, RowC w' g n cap h ∧ Merged f h a b ∧ Kept [g] w w' := by
  have hcap := hR.le
  have hmax := hR.max
  unfold maxLen at hmax
  have HR : Hid (RowC w g n cap f) := hR
  have hm' : (m : Int) - a = 1 := by omega
  have HM : Hid (m = a + 1) := hm
  clear hR hm
  go_enter Try.func50, Try.ntmps50
  go_wp2_with fail
  go_loopw [10, 11] (fun iv jv wr => Sym1I w g n cap a b f iv jv wr) (fun iv jv _ => (intOf jv).toNat - (intOf iv).toNat)
  case atStart =>
    exact ⟨a + 1, b, by rw [HM.out], rfl, ⟨Nat.le_refl _, by omega, Nat.le_refl _, fun q h1 h2 => by omega, fun q h1 h2 => by omega⟩, HR.out, Kept.refl _ _⟩
  case round =>
    obtain ⟨i, j, rfl, rfl, ⟨i1, i2, i3, hA', hZ'⟩, hT', hK'⟩ := hrel
    have HT : Hid (RowC wr g n cap f) := hT'
    have HK : Hid (Kept [g] w wr) := hK'
    have HA : Hid (∀ q, a + 1 ≤ q → q < i → cmpT (f q).p (f a).p < 0) := hA'
    have HZ : Hid (∀ q, j ≤ q → q < b → 0 ≤ cmpT (f q).p (f a).p) := hZ'
    clear hA' hZ' hT' hK'
    by_cases hlt : i < j
    · have hlt' : (i : Int) < j := by omega
      obtain ⟨c, hc⟩ : ∃ c, c = (i + j) / 2 := ⟨_, rfl⟩
      have HC : Hid (i ≤ c ∧ c < j) := by show i ≤ c ∧ c < j; omega
      have ec : ((i : Int) + j) / 2 = c := by omega
      have b1 : (0 : Int) ≤ c := by omega
      have b2 : (c : Int) < n := by omega
      have b3 : (0 : Int) ≤ a := by omega
      have b4 : (a : Int) < n := by omega
      have hC := HT.out.ch (i := c) (by omega)
      have hA := HT.out.ch (i := a) (by omega)
      have cc := fun w' => cmp_call (f c) (f a) w' (hB _ (by omega)) (hB _ (by omega))
      obtain ⟨c0, c1, c2⟩ := hC
      obtain ⟨d0, d1, d2⟩ := hA
      clear hc
      go_wp2_with fail
      go_region_held3 (fun w' => w'.cell? ⟨g, c * 3, none⟩ = some (.string (str (f c).p)) ∧ w'.cell? ⟨g, c * 3 + 1, none⟩ = some (.bool (f c).g) ∧ w'.cell? ⟨g, c * 3 + 2, none⟩ = some (.int .u64 (f c).d) ∧ w'.cell? ⟨g, a * 3, none⟩ = some (.string (str (f a).p)) ∧ w'.cell? ⟨g, a * 3 + 1, none⟩ = some (.bool (f a).g) ∧ w'.cell? ⟨g, a * 3 + 2, none⟩ = some (.int .u64 (f a).d))
        (first | go_keep | exact ⟨hK1.cell c0 (by simp), hK1.cell c1 (by simp), hK1.cell c2 (by simp), hK1.cell d0 (by simp), hK1.cell d1 (by simp), hK1.cell d2 (by simp)⟩)
        (first | (go_at_call 20; refine (cc _).mono ?_; rintro e w1 ⟨rfl, hKb⟩; have hK1 : Kept [] wr w1 := (Kept.refl [] wr).drew.trans hKb (by simp)))
      have HT3 : Hid (RowC w1 g n cap f) := HT.out.kept hK1 (by simp)
      have HK3 : Hid (Kept [g] w w1) := HK.out.trans hK1 (by simp)
      clear c0 c1 c2 d0 d1 d2 hKb hK1 cc
      by_cases hcm : cmpT (f c).p (f a).p < 0
      · have HQ : Hid (∀ q, a + 1 ≤ q → q < c + 1 → cmpT (f q).p (f a).p < 0) := fun q h1 h2 => le_lt (le_self hS h1 (by omega) (by have := HC.out; omega)) hcm
        go_wp2_with fail
        go_roundw
        case rel => exact ⟨c + 1, j, by go_num, rfl, ⟨by have := HC.out; omega, by have := HC.out; omega, i3, HQ.out, HZ.out⟩, HT3.out, HK3.out⟩
        case measure => simp [intOf]; have := HC.out; omega
      · have HQ : Hid (∀ q, c ≤ q → q < b → 0 ≤ cmpT (f q).p (f a).p) := fun q h1 h2 => by
          rcases Int.lt_or_le (cmpT (f q).p (f a).p) 0 with h3 | h3
          · exact absurd (le_lt (le_self hS (by have := HC.out; omega) h1 h2) h3) hcm
          · exact h3
        go_wp2_with fail
        go_roundw
        case rel => exact ⟨i, c, rfl, rfl, ⟨i1, HC.out.1, by have := HC.out; omega, HA.out, HQ.out⟩, HT3.out, HK3.out⟩
        case measure => simp [intOf]; have := HC.out; omega
    · have hlt' : ¬ (i : Int) < j := by omega
      obtain rfl : i = j := by omega
      go_wp2_with fail
      go_loopw [13] (fun kv w2 => ∃ (k : Nat) (h : Nat → Ch), a ≤ k ∧ k + 1 ≤ i ∧ kv = .int .i64 k ∧ Hid (RowC w2 g n cap h) ∧ Hid (∀ p, h p = shL f a k p) ∧ Hid (AlikeF f h a b) ∧ Hid (Kept [g] w w2)) (fun kv _ => i - (intOf kv).toNat)
      case atStart => exact ⟨a, f, Nat.le_refl _, by omega, rfl, HT, fun p => (shL_zero f a p).symm, AlikeF.refl _ _ _, HK⟩
      case round =>
        obtain ⟨k, h, k1, k2, rfl, HT2, HE, HL, HK2⟩ := hrel
        by_cases hk : k + 1 < i
        · have hk' : (k : Int) < (i : Int) - 1 := by omega
          have hC := HT2.out.ch (i := k) (by omega)
          have hD := HT2.out.ch (i := k + 1) (by omega)
          have hfz := HT2.out.froz
          have HN : Hid (RowC (put3 (put3 wr g k (h (k + 1))) g (k + 1) (h k)).drew g n cap (swp h k (k + 1))) := HT2.out.swapped (by omega) (by omega) (fun _ => rfl)
          obtain ⟨c0, c1, c2⟩ := hC
          obtain ⟨d0, d1, d2⟩ := hD
          go_wp2_with fail
          go_region
          go_wp2_with fail
          go_roundw
          case rel =>
            refine ⟨k + 1, _, by omega, by omega, by go_num, HN, fun p => ?_, shL_alike HL.out HE.out k1 hk i3 HA.out, HK2.out.trans (swapped_kept wr g k (k + 1) (h (k + 1)) (h k)) (by simp)⟩
            rw [shL_succ f k1 p]
            have : h = shL f a k := funext HE.out
            rw [this]
          case measure => simp [intOf]; omega
        · have hk' : ¬ (k : Int) < (i : Int) - 1 := by omega
          go_wp2_with fail
          go_returns
          have e : h = shL f a (i - 1) := by
            rw [show i - 1 = k by omega]; exact funext HE.out
          exact ⟨rfl, h, HT2.out, ⟨by rw [e]; exact shL_end hS i1 i3 HA.out (fun q h1 h2 => by have := HZ.out q h1 h2; omega), HL.out⟩, HK2.out⟩

end Go.Proofs.Ytdmlcgmajpjmdaa
