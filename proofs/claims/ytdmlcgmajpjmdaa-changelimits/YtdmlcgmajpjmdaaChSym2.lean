/-
  slices.symMergeCmpFunc, where the last part has one change.
-/
import Derived.Test.YtdmlcgmajpjmdaaChMerP
import Derived.Test.YtdmlcgmajpjmdaaChIns
namespace Go.Proofs.Ytdmlcgmajpjmdaa
open Go.RowKit

/-- How far the search has come: below i none is above the one at m, from j on all are. -/
structure HighC (f : Nat → Ch) (a m i j : Nat) : Prop where
  i1 : a ≤ i
  i2 : i ≤ j
  i3 : j ≤ m
  ge : ∀ q, a ≤ q → q < i → 0 ≤ cmpT (f m).p (f q).p
  lt : ∀ q, j ≤ q → q < m → cmpT (f m).p (f q).p < 0

def Sym2I (w : World) (g n cap a m : Nat) (f : Nat → Ch) (iv jv : Value) (wr : World) : Prop :=
  ∃ (i j : Nat), iv = .int .i64 i ∧ jv = .int .i64 j ∧ HighC f a m i j ∧ RowC wr g n cap f ∧ Kept [g] w wr

set_option maxHeartbeats 4000000 in
set_option maxRecDepth 100000 in
theorem sym_last (w : World) (g n cap a m b : Nat) (hm : b = m + 1) (f : Nat → Ch) (hR : RowC w g n cap f) (hB : Bd f n) (hab : a < m) (ham : m ≠ a + 1) (hb : b ≤ n) (hn : n ≤ 1000000000) (hS : RisF f a m) :
    Calls Try.prog 50 #[.slice (some ⟨g, 0, none⟩) n cap, .int .i64 a, .int .i64 m, .int .i64 b, .func (.func 20) #[] #[]] w fun e w' => e = .returned (.tuple #[]) ∧
      ∃ h, RowC w' g n cap h ∧ Merged f h a b ∧ Kept [g] w w' := by
  have hcap := hR.le
  have hmax := hR.max
  unfold maxLen at hmax
  have HR : Hid (RowC w g n cap f) := hR
  have hm' : (b : Int) - m = 1 := by omega
  have ha' : ¬ (m : Int) - a = 1 := by omega
  have hA1 : ((m : Int) - a == 1) = false := by simpa using ha'
  have HM : Hid (b = m + 1) := hm
  have hmn : m < n := by omega
  clear hR hm ham hb
  go_enter Try.func50, Try.ntmps50
  go_wp2_with fail
  go_loopw [14, 15] (fun iv jv wr => Sym2I w g n cap a m f iv jv wr) (fun iv jv _ => (intOf jv).toNat - (intOf iv).toNat)
  case atStart =>
    exact ⟨a, m, rfl, rfl, ⟨Nat.le_refl _, by omega, Nat.le_refl _, fun q h1 h2 => by omega, fun q h1 h2 => by omega⟩, HR.out, Kept.refl _ _⟩
  case round =>
    obtain ⟨i, j, rfl, rfl, ⟨i1, i2, i3, hA', hZ'⟩, hT', hK'⟩ := hrel
    have HT : Hid (RowC wr g n cap f) := hT'
    have HK : Hid (Kept [g] w wr) := hK'
    have HA : Hid (∀ q, a ≤ q → q < i → 0 ≤ cmpT (f m).p (f q).p) := hA'
    have HZ : Hid (∀ q, j ≤ q → q < m → cmpT (f m).p (f q).p < 0) := hZ'
    clear hA' hZ' hT' hK'
    by_cases hlt : i < j
    · have hlt' : (i : Int) < j := by omega
      obtain ⟨c, hc⟩ : ∃ c, c = (i + j) / 2 := ⟨_, rfl⟩
      have HC : Hid (i ≤ c ∧ c < j) := by show i ≤ c ∧ c < j; omega
      have ec : ((i : Int) + j) / 2 = c := by omega
      have b1 : (0 : Int) ≤ c := by omega
      have b2 : (c : Int) < n := by omega
      have b3 : (0 : Int) ≤ m := by omega
      have b4 : (m : Int) < n := by omega
      have hC := HT.out.ch (i := c) (by omega)
      have hA := HT.out.ch (i := m) (by omega)
      have cc := fun w' => cmp_call (f m) (f c) w' (hB _ (by omega)) (hB _ (by omega))
      obtain ⟨c0, c1, c2⟩ := hC
      obtain ⟨d0, d1, d2⟩ := hA
      clear hc
      go_wp2_with fail
      go_region_held3 (fun w' => w'.cell? ⟨g, c * 3, none⟩ = some (.string (str (f c).p)) ∧ w'.cell? ⟨g, c * 3 + 1, none⟩ = some (.bool (f c).g) ∧ w'.cell? ⟨g, c * 3 + 2, none⟩ = some (.int .u64 (f c).d) ∧ w'.cell? ⟨g, m * 3, none⟩ = some (.string (str (f m).p)) ∧ w'.cell? ⟨g, m * 3 + 1, none⟩ = some (.bool (f m).g) ∧ w'.cell? ⟨g, m * 3 + 2, none⟩ = some (.int .u64 (f m).d))
        (first | go_keep | exact ⟨hK1.cell c0 (by simp), hK1.cell c1 (by simp), hK1.cell c2 (by simp), hK1.cell d0 (by simp), hK1.cell d1 (by simp), hK1.cell d2 (by simp)⟩)
        (first | (go_at_call 20; refine (cc _).mono ?_; rintro e w1 ⟨rfl, hKb⟩; have hK1 : Kept [] wr w1 := (Kept.refl [] wr).drew.trans hKb (by simp)))
      have HT3 : Hid (RowC w1 g n cap f) := HT.out.kept hK1 (by simp)
      have HK3 : Hid (Kept [g] w w1) := HK.out.trans hK1 (by simp)
      clear c0 c1 c2 d0 d1 d2 hKb hK1 cc
      by_cases hcm : cmpT (f m).p (f c).p < 0
      · have HQ : Hid (∀ q, c ≤ q → q < m → cmpT (f m).p (f q).p < 0) := fun q h1 h2 => lt_le hcm (le_self hS (by have := HC.out; omega) h1 h2)
        have hcn : (!decide (cmpT (f m).p (f c).p < 0)) = false := by rw [decide_eq_true hcm]; rfl
        simp only [hcn]
        go_wp2_with fail
        go_roundw
        case rel => exact ⟨i, c, rfl, rfl, ⟨i1, HC.out.1, by have := HC.out; omega, HA.out, HQ.out⟩, HT3.out, HK3.out⟩
        case measure => simp [intOf]; have := HC.out; omega
      · have HQ : Hid (∀ q, a ≤ q → q < c + 1 → 0 ≤ cmpT (f m).p (f q).p) := fun q h1 h2 => by
          rcases Int.lt_or_le (cmpT (f m).p (f q).p) 0 with h3 | h3
          · exact absurd (lt_le h3 (le_self hS h1 (by omega) (by have := HC.out; omega))) hcm
          · exact h3
        have hcn : (!decide (cmpT (f m).p (f c).p < 0)) = true := by rw [decide_eq_false hcm]; rfl
        simp only [hcn]
        go_wp2_with fail
        go_roundw
        case rel => exact ⟨c + 1, j, by go_num, rfl, ⟨by have := HC.out; omega, by have := HC.out; omega, i3, HQ.out, HZ.out⟩, HT3.out, HK3.out⟩
        case measure => simp [intOf]; have := HC.out; omega
    · have hlt' : ¬ (i : Int) < j := by omega
      obtain rfl : i = j := by omega
      go_wp2_with fail
      go_loopw [17] (fun kv w2 => ∃ (k : Nat) (h : Nat → Ch), i ≤ k ∧ k ≤ m ∧ kv = .int .i64 k ∧ Hid (RowC w2 g n cap h) ∧ Hid (∀ p, h p = shR f m k p) ∧ Hid (AlikeF f h a b) ∧ Hid (Kept [g] w w2)) (fun kv _ => (intOf kv).toNat)
      case atStart => exact ⟨m, f, by omega, Nat.le_refl _, rfl, HT, fun p => (shR_zero f m p).symm, AlikeF.refl _ _ _, HK⟩
      case round =>
        obtain ⟨k, h, k1, k2, rfl, HT2, HE, HL, HK2⟩ := hrel
        by_cases hk : i < k
        · have hk' : (i : Int) < k := by omega
          obtain ⟨l, hl⟩ : ∃ l, k = l + 1 := ⟨k - 1, by omega⟩
          have HLK : Hid (k = l + 1) := hl
          have hC := HT2.out.ch (i := k) (by omega)
          have hD := HT2.out.ch (i := l) (by omega)
          have hfz := HT2.out.froz
          have HN : Hid (RowC (put3 (put3 wr g k (h l)) g l (h k)).drew g n cap (swp h k l)) := HT2.out.swapped (by omega) (by omega) (fun _ => rfl)
          have b5 : IntKind.i64.wrap ((k : Int) - 1) = l := by rw [IntWalk.i64_in _ (by omega)]; omega
          have b6 : (k : Int) - 1 = l := by omega
          have hlk : l < k := by omega
          have hln : l < n := by omega
          obtain ⟨c0, c1, c2⟩ := hC
          obtain ⟨d0, d1, d2⟩ := hD
          clear hl
          go_wp2_with fail
          go_region
          go_wp2_with fail
          go_roundw
          case rel =>
            have hl := HLK.out
            subst hl
            refine ⟨l, _, by omega, by omega, by go_num, HN, fun p => ?_, shR_alike HL.out HE.out i1 (by omega) k2 (by have := HM.out; omega) HZ.out, HK2.out.trans (swapped_kept wr g (l + 1) l (h l) (h (l + 1))) (by simp)⟩
            rw [shR_step f k2 p]
            have : h = shR f m (l + 1) := funext HE.out
            rw [this]
          case measure => simp [intOf]; have := HLK.out; omega
        · have hk' : ¬ (i : Int) < k := by omega
          go_wp2_with fail
          go_returns
          have e : h = shR f m i := by
            rw [show i = k by omega]; exact funext HE.out
          exact ⟨rfl, h, HT2.out, ⟨by rw [e, HM.out]; exact shR_end hS i1 i3 HZ.out (fun q h1 h2 => by have := HA.out q h1 h2; omega), HL.out⟩, HK2.out⟩

end Go.Proofs.Ytdmlcgmajpjmdaa
