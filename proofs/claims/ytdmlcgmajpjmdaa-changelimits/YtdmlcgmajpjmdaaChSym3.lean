/-
  slices.symMergeCmpFunc.
-/
import Derived.Test.YtdmlcgmajpjmdaaChSym1
import Derived.Test.YtdmlcgmajpjmdaaChSym2
import Derived.Deep.CutRange
namespace Go.Proofs.Ytdmlcgmajpjmdaa
open Go.RowKit

def Sym3I (w : World) (g n cap nn lo hi : Nat) (f : Nat → Ch) (sv rv : Value) (wr : World) : Prop :=
  ∃ (s r : Nat), sv = .int .i64 s ∧ rv = .int .i64 r ∧ (lo ≤ s ∧ s ≤ r ∧ r ≤ hi) ∧ BinC f nn lo hi s r ∧ RowC wr g n cap f ∧ Kept [g] w wr

/-- What is asked of the merge. -/
def SymOK (N : Nat) : Prop := ∀ (w : World) (g n cap a m b : Nat) (f : Nat → Ch), b - a ≤ N → RowC w g n cap f → Bd f n → a < m → m < b → b ≤ n → n ≤ 1000000000 → RisF f a m → RisF f m b →
    Calls Try.prog 50 #[.slice (some ⟨g, 0, none⟩) n cap, .int .i64 a, .int .i64 m, .int .i64 b, .func (.func 20) #[] #[]] w fun e w' => e = .returned (.tuple #[]) ∧
      ∃ h, RowC w' g n cap h ∧ Merged f h a b ∧ Kept [g] w w'

set_option maxHeartbeats 8000000 in
set_option maxRecDepth 100000 in
theorem sym_step (N : Nat) (ih : SymOK N) (w : World) (g n cap a m b : Nat) (f : Nat → Ch) (hN : b - a ≤ N + 1) (hR : RowC w g n cap f) (hB : Bd f n) (ham : a + 1 < m) (hmb : m + 1 < b) (hb : b ≤ n) (hn : n ≤ 1000000000) (hL : RisF f a m) (hS : RisF f m b) :
    Calls Try.prog 50 #[.slice (some ⟨g, 0, none⟩) n cap, .int .i64 a, .int .i64 m, .int .i64 b, .func (.func 20) #[] #[]] w fun e w' => e = .returned (.tuple #[]) ∧
      ∃ h, RowC w' g n cap h ∧ Merged f h a b ∧ Kept [g] w w' := by
  have hcap := hR.le
  have hmax := hR.max
  unfold maxLen at hmax
  have HR : Hid (RowC w g n cap f) := hR
  have hA1 : ((m : Int) - a == 1) = false := by simp; omega
  have hA2 : ((b : Int) - m == 1) = false := by simp; omega
  obtain ⟨mid, hmid⟩ : ∃ mid, mid = (a + b) / 2 := ⟨_, rfl⟩
  obtain ⟨nn, hnn⟩ : ∃ nn, nn = mid + m := ⟨_, rfl⟩
  have emid : ((a : Int) + b) / 2 = mid := by omega
  have enn : (mid : Int) + m = nn := by omega
  have HMID : Hid (mid = (a + b) / 2) := hmid
  have HNN : Hid (nn = mid + m) := hnn
  obtain ⟨pp, hpp⟩ : ∃ pp, pp = nn - 1 := ⟨_, rfl⟩
  have epp : (nn : Int) - 1 = pp := by omega
  have HPP : Hid (pp = nn - 1) := hpp
  clear hR hmid hnn hpp
  go_enter Try.func50, Try.ntmps50
  go_upto_if 140 with fail
  go_cut [20, 21] from 25 to 146 (fun s20 s21 wx => ∃ lo hi : Nat, s20 = .int .i64 lo ∧ s21 = .int .i64 hi ∧ w = wx ∧ Hid ((mid < m ∧ lo = mid + m - b ∧ hi = mid) ∨ (m ≤ mid ∧ lo = a ∧ hi = m)))
  case first =>
    by_cases hm : mid < m
    · have hm' : (mid : Int) < m := by omega
      go_wp2_with fail
      go_meet
      refine ⟨nn - b, mid, ?_, rfl, rfl, .inl ⟨hm, by rw [HNN.out], rfl⟩⟩
      have h1 := HNN.out
      have h2 := HMID.out
      go_num
    · have hm' : ¬ (mid : Int) < m := by omega
      go_wp2_with fail
      go_meet
      exact ⟨a, m, rfl, rfl, rfl, .inr ⟨by omega, rfl, rfl⟩⟩
  case rest =>
    obtain ⟨lo, hi, rfl, rfl, rfl, HLH⟩ := hcut
    have HB1 : Hid (a ≤ lo ∧ lo ≤ hi ∧ hi ≤ m ∧ mid + m - lo ≤ b ∧ m ≤ mid + m - hi) := by
      have h1 := HLH.out
      have h2 := HMID.out
      show a ≤ lo ∧ lo ≤ hi ∧ hi ≤ m ∧ mid + m - lo ≤ b ∧ m ≤ mid + m - hi
      omega
    go_wp2_with fail
    go_loopw [20, 21] (fun sv rv wr => Sym3I w g n cap nn lo hi f sv rv wr) (fun sv rv _ => (intOf rv).toNat - (intOf sv).toNat)
    case atStart =>
      have := HB1.out
      exact ⟨lo, hi, rfl, rfl, ⟨by omega, by omega, by omega⟩, ⟨.inl rfl, .inl rfl⟩, HR.out, Kept.refl _ _⟩
    case round =>
      obtain ⟨s, r, rfl, rfl, hsr, hC', hT', hK'⟩ := hrel
      have HSR : Hid (lo ≤ s ∧ s ≤ r ∧ r ≤ hi) := hsr
      have HC : Hid (BinC f nn lo hi s r) := hC'
      have HT : Hid (RowC wr g n cap f) := hT'
      have HK : Hid (Kept [g] w wr) := hK'
      have hrm : r ≤ m := by have := HB1.out; omega
      clear hC' hT' hK'
      by_cases hlt : s < r
      · have hlt' : (s : Int) < r := by omega
        obtain ⟨c, hc⟩ : ∃ c, c = (s + r) / 2 := ⟨_, rfl⟩
        obtain ⟨q, hq⟩ : ∃ q, q = nn - 1 - c := ⟨_, rfl⟩
        have HCC : Hid (s ≤ c ∧ c < r) := by show s ≤ c ∧ c < r; omega
        have HQ : Hid (q = nn - 1 - c) := hq
        have ec : ((s : Int) + r) / 2 = c := by omega
        have hcq : c < n ∧ q < n ∧ (pp : Int) - c = q := by
          have h1 := HB1.out
          have h2 := HNN.out
          have h3 := HPP.out
          omega
        have b1 : (0 : Int) ≤ c := by omega
        have b2 : (c : Int) < n := by omega
        have b3 : (0 : Int) ≤ q := by omega
        have b4 : (q : Int) < n := by omega
        have b5 : IntKind.i64.wrap ((pp : Int) - c) = q := by rw [IntWalk.i64_in _ (by omega)]; omega
        have hC := HT.out.ch (i := c) (by omega)
        have hA := HT.out.ch (i := q) (by omega)
        have cc := fun w' => cmp_call (f q) (f c) w' (hB _ (by omega)) (hB _ (by omega))
        obtain ⟨c0, c1, c2⟩ := hC
        obtain ⟨d0, d1, d2⟩ := hA
        clear hc hq hcq hsr
        go_wp2_with fail
        go_region_held3 (fun w' => w'.cell? ⟨g, c * 3, none⟩ = some (.string (str (f c).p)) ∧ w'.cell? ⟨g, c * 3 + 1, none⟩ = some (.bool (f c).g) ∧ w'.cell? ⟨g, c * 3 + 2, none⟩ = some (.int .u64 (f c).d) ∧ w'.cell? ⟨g, q * 3, none⟩ = some (.string (str (f q).p)) ∧ w'.cell? ⟨g, q * 3 + 1, none⟩ = some (.bool (f q).g) ∧ w'.cell? ⟨g, q * 3 + 2, none⟩ = some (.int .u64 (f q).d))
          (first | go_keep | exact ⟨hK1.cell c0 (by simp), hK1.cell c1 (by simp), hK1.cell c2 (by simp), hK1.cell d0 (by simp), hK1.cell d1 (by simp), hK1.cell d2 (by simp)⟩)
          (first | (go_at_call 20; refine (cc _).mono ?_; rintro e w1 ⟨rfl, hKb⟩; have hK1 : Kept [] wr w1 := (Kept.refl [] wr).drew.trans hKb (by simp)))
        have HT3 : Hid (RowC w1 g n cap f) := HT.out.kept hK1 (by simp)
        have HK3 : Hid (Kept [g] w w1) := HK.out.trans hK1 (by simp)
        clear c0 c1 c2 d0 d1 d2 hKb hK1 cc
        by_cases hcm : cmpT (f q).p (f c).p < 0
        · have hcn : (!decide (cmpT (f q).p (f c).p < 0)) = false := by rw [decide_eq_true hcm]; rfl
          have HM : Hid (cmpT (f q).p (f c).p < 0) := hcm
          simp only [hcn]
          go_wp2_with fail
          go_roundw
          case rel =>
            have h1 := HCC.out
            have h2 := HSR.out
            exact ⟨s, c, rfl, rfl, ⟨by omega, by omega, by omega⟩, binC_down HC.out (by omega) (by rw [← HQ.out]; exact HM.out), HT3.out, HK3.out⟩
          case measure => simp [intOf]; have := HCC.out; omega
        · have hcn : (!decide (cmpT (f q).p (f c).p < 0)) = true := by rw [decide_eq_false hcm]; rfl
          have HM : Hid (0 ≤ cmpT (f q).p (f c).p) := by show 0 ≤ cmpT (f q).p (f c).p; omega
          simp only [hcn]
          go_wp2_with fail
          go_roundw
          case rel =>
            have h1 := HCC.out
            have h2 := HSR.out
            have h3 := HB1.out
            have h4 := HNN.out
            have h5 := HM.out
            exact ⟨c + 1, r, by go_num, rfl, ⟨by omega, by omega, by omega⟩, binC_up HC.out (by omega) (by omega) (by rw [← HQ.out]; omega), HT3.out, HK3.out⟩
          case measure => simp [intOf]; have := HCC.out; omega
      · have hlt' : ¬ (s : Int) < r := by omega
        obtain rfl : s = r := by omega
        obtain ⟨t, ht⟩ : ∃ t, t = nn - s := ⟨_, rfl⟩
        have HCut : Hid (CutC f a m b mid s t) := by
          have h1 := HC.out
          rw [HNN.out] at h1 ht
          show CutC f a m b mid s t
          rw [ht]
          exact cutC_of h1 (by omega) (by omega) hsr.1 hsr.2.2 hL hS HMID.out HLH.out
        have et : (nn : Int) - s = t := by have := HNN.out; omega
        have hc1 := HCut.out.a1
        have hc2 := HCut.out.a2
        have hc3 := HCut.out.a3
        have hc4 := HCut.out.a4
        have hc5 := HCut.out.am
        have hc6 := HCut.out.mb
        have hc7 : mid < b ∧ a < mid := by have := HMID.out; omega
        clear ht hsr
        go_upto_region 39 with fail
        go_cut [185] from 178 to 185 (fun sv wx => sv = .bool (decide (s < m ∧ m < t)) ∧ wr = wx)
        case first =>
          by_cases x1 : s < m
          · have x1' : (s : Int) < m := by omega
            by_cases x2 : m < t
            · have x2' : (m : Int) < t := by omega
              go_wp2_with fail
              go_meet
              exact ⟨by simp [x1, x2], rfl⟩
            · have x2' : ¬ (m : Int) < t := by omega
              go_wp2_with fail
              go_meet
              exact ⟨by simp [x1, x2], rfl⟩
          · have x1' : ¬ (s : Int) < m := by omega
            go_wp2_with fail
            go_meet
            exact ⟨by simp [x1], rfl⟩
        case rest =>
          obtain ⟨rfl, rfl⟩ := hcut
          go_upto_if 185 with fail
          go_cut [] from 25 to 219 (fun wx => ∃ h1, RowC wx g n cap h1 ∧ Turned f h1 a m b mid s t ∧ Kept [g] w wx)
          case first =>
            by_cases xc : s < m ∧ m < t
            · rw [decide_eq_true xc]
              go_wp2_with fail
              refine (rotate_call _ g n cap s m t f _ HT.out xc.1 xc.2 (by omega)).mono ?_
              rintro e w2 ⟨rfl, hT2, hK2⟩
              have HT2 : Hid (RowC w2 g n cap (rotF f s m t)) := hT2
              have HK2 : Hid (Kept [g] w w2) := HK.out.trans hK2 (by simp)
              clear hT2 hK2
              go_wp2_with fail
              go_meet
              exact ⟨_, HT2.out, turned_of HCut.out hL hS (fun _ => rfl), HK2.out⟩
            · rw [decide_eq_false xc]
              go_wp2_with fail
              go_meet
              exact ⟨f, HT.out, turned_of HCut.out hL hS (fun k => (rotF_none f hc2 hc3 xc k).symm), HK.out⟩
          case rest =>
            obtain ⟨h1, hT1, hTu, hK1⟩ := hcut
            have HT1 : Hid (RowC wc g n cap h1) := hT1
            have HTu : Hid (Turned f h1 a m b mid s t) := hTu
            have HK1 : Hid (Kept [g] w wc) := hK1
            clear hT1 hTu hK1
            obtain ⟨w1, hw1⟩ : ∃ w1, w1 = wc := ⟨_, rfl⟩
            subst hw1
            go_upto_region 41 with fail
            go_cut [199] from 192 to 199 (fun sv wx => sv = .bool (decide (a < s ∧ s < mid)) ∧ w1 = wx)
            case first =>
              by_cases x1 : a < s
              · have x1' : (a : Int) < s := by omega
                by_cases x2 : s < mid
                · have x2' : (s : Int) < mid := by omega
                  go_wp2_with fail
                  go_meet
                  exact ⟨by simp [x1, x2], rfl⟩
                · have x2' : ¬ (s : Int) < mid := by omega
                  go_wp2_with fail
                  go_meet
                  exact ⟨by simp [x1, x2], rfl⟩
              · have x1' : ¬ (a : Int) < s := by omega
                go_wp2_with fail
                go_meet
                exact ⟨by simp [x1], rfl⟩
            case rest =>
              obtain ⟨rfl, rfl⟩ := hcut
              go_upto_if 199 with fail
              go_cut [] from 25 to 219 (fun wx => ∃ h2, RowC wx g n cap h2 ∧ Merged h1 h2 a mid ∧ Kept [g] w wx)
              case first =>
                by_cases xc : a < s ∧ s < mid
                · rw [decide_eq_true xc]
                  go_wp2_with fail
                  refine (ih _ g n cap a s mid h1 (by omega) HT1.out (hB.alike HTu.out.alike hb) xc.1 xc.2 (by omega) hn HTu.out.r1 HTu.out.r2).mono ?_
                  rintro e w2 ⟨rfl, h2, hT2, hM2, hK2⟩
                  have HT2 : Hid (RowC w2 g n cap h2) := hT2
                  have HM2 : Hid (Merged h1 h2 a mid) := hM2
                  have HK2 : Hid (Kept [g] w w2) := HK1.out.trans hK2 (by simp)
                  clear hT2 hM2 hK2
                  go_wp2_with fail
                  go_meet
                  exact ⟨h2, HT2.out, HM2.out, HK2.out⟩
                · rw [decide_eq_false xc]
                  go_wp2_with fail
                  go_meet
                  exact ⟨h1, HT1.out, merged_void (m := s) hc1 (by have := HCut.out.sum; omega) HTu.out.r1 HTu.out.r2 xc, HK1.out⟩
              case rest =>
                obtain ⟨h2, hT2, hM2, hK2⟩ := hcut
                have HT2 : Hid (RowC wc g n cap h2) := hT2
                have HM2 : Hid (Merged h1 h2 a mid) := hM2
                have HK2 : Hid (Kept [g] w wc) := hK2
                have hB2 : Bd h2 n := (hB.alike HTu.out.alike hb).alike hM2.alike (by omega)
                have hmt : mid ≤ t := by have := HCut.out.sum; omega
                have HR3 : Hid (RisF h2 mid t) := fun p q h5 h6 h7 => by rw [hM2.alike.same p (by omega), hM2.alike.same q (by omega)]; exact HTu.out.r3 p q h5 h6 h7
                have HR4 : Hid (RisF h2 t b) := fun p q h5 h6 h7 => by rw [hM2.alike.same p (by omega), hM2.alike.same q (by omega)]; exact HTu.out.r4 p q h5 h6 h7
                clear hT2 hM2 hK2
                obtain ⟨w3, hw3⟩ : ∃ w3, w3 = wc := ⟨_, rfl⟩
                subst hw3
                go_upto_region 43 with fail
                go_cut [213] from 206 to 213 (fun sv wx => sv = .bool (decide (mid < t ∧ t < b)) ∧ w3 = wx)
                case first =>
                  by_cases x1 : mid < t
                  · have x1' : (mid : Int) < t := by omega
                    by_cases x2 : t < b
                    · have x2' : (t : Int) < b := by omega
                      go_wp2_with fail
                      go_meet
                      exact ⟨by simp [x1, x2], rfl⟩
                    · have x2' : ¬ (t : Int) < b := by omega
                      go_wp2_with fail
                      go_meet
                      exact ⟨by simp [x1, x2], rfl⟩
                  · have x1' : ¬ (mid : Int) < t := by omega
                    go_wp2_with fail
                    go_meet
                    exact ⟨by simp [x1], rfl⟩
                case rest =>
                  obtain ⟨rfl, rfl⟩ := hcut
                  go_upto_if 213 with fail
                  by_cases xc : mid < t ∧ t < b
                  · rw [decide_eq_true xc]
                    go_wp2_with fail
                    refine (ih _ g n cap mid t b h2 (by omega) HT2.out hB2 xc.1 xc.2 hb hn HR3.out HR4.out).mono ?_
                    rintro e w4 ⟨rfl, h3, hT3, hM3, hK3⟩
                    have HT3 : Hid (RowC w4 g n cap h3) := hT3
                    have HM3 : Hid (Merged h2 h3 mid b) := hM3
                    have HK3 : Hid (Kept [g] w w4) := HK2.out.trans hK3 (by simp)
                    clear hT3 hM3 hK3
                    go_wp2_with fail
                    go_returns
                    exact ⟨rfl, h3, HT3.out, merged_of HTu.out hc5 hc6 HM2.out HM3.out, HK3.out⟩
                  · rw [decide_eq_false xc]
                    go_wp2_with fail
                    go_returns
                    exact ⟨rfl, h2, HT2.out, merged_of HTu.out hc5 hc6 HM2.out (merged_void (m := t) (by omega) (by omega) HR3.out HR4.out xc), HK2.out⟩

theorem sym_all (N : Nat) : SymOK N := by
  induction N with
  | zero => intro w g n cap a m b f h1 _ _ h2 h3; omega
  | succ N ih =>
    intro w g n cap a m b f h1 hR hB ham hmb hb hn hL hS
    by_cases e1 : m = a + 1
    · exact sym_one w g n cap a m b e1 f hR hB (by omega) hb hn (by rw [← e1]; exact hS)
    · by_cases e2 : b = m + 1
      · exact sym_last w g n cap a m b e2 f hR hB ham e1 hb hn hL
      · exact sym_step N ih w g n cap a m b f h1 hR hB (by omega) (by omega) hb hn hL hS

theorem sym_z {A M C : Int} (a m b : Nat) (eA : A = a) (eM : M = m) (eC : C = b) (w : World) (g n cap : Nat) (f : Nat → Ch) (hR : RowC w g n cap f) (hB : Bd f n) (ham : a < m) (hmb : m < b) (hb : b ≤ n) (hn : n ≤ 1000000000) (hL : RisF f a m) (hS : RisF f m b) :
    Calls Try.prog 50 #[.slice (some ⟨g, 0, none⟩) n cap, .int .i64 A, .int .i64 M, .int .i64 C, .func (.func 20) #[] #[]] w fun e w' => e = .returned (.tuple #[]) ∧
      ∃ h, RowC w' g n cap h ∧ Merged f h a b ∧ Kept [g] w w' := by
  subst eA; subst eM; subst eC
  exact sym_all (b - a) w g n cap a m b f (Nat.le_refl _) hR hB ham hmb hb hn hL hS

end Go.Proofs.Ytdmlcgmajpjmdaa
