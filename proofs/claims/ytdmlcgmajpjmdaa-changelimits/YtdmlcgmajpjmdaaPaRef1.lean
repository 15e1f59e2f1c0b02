/-
  The document's own Compare.
-/
import Derived.Test.YtdmlcgmajpjmdaaPaRef0
import Derived.Laws.Strings3
import Derived.Laws.Cover1
namespace Go.Proofs.Ytdmlcgmajpjmdaa
open Go.RowKit

theorem Kept.drewN {S : List Nat} {a w : World} (h : Kept S a w) (n : Nat) : Kept S a (w.drewN n) := ⟨h.os, h.tape, h.output, h.size, h.block⟩

/-- A row of texts that is not empty, as a slice. -/
theorem OwnS.some {B : Nat} {w : World} {v : Value} {l : List (List UInt8)} (h : OwnS B w v l) (hne : l ≠ []) :
    ∃ g c, v = .slice (some ⟨g, 0, none⟩) l.length c ∧ l.length ≤ c ∧ ∀ (j : Nat) (hj : j < l.length), w.cell? ⟨g, j, none⟩ = some (.string (str l[j])) := by
  obtain ⟨ao, c, hv, hc, hcell⟩ := h.slice
  obtain ⟨g, hg, _⟩ := hcell 0 _ (List.getElem?_eq_getElem (List.length_pos_iff.2 hne))
  refine ⟨g, c, by rw [hv, hg], hc, fun j hj => ?_⟩
  obtain ⟨g', hg', hc'⟩ := hcell j _ (List.getElem?_eq_getElem hj)
  rw [hg] at hg'; cases hg'; exact hc'

theorem bytesLess_eq : ∀ a b : List UInt8, Op.bytesLess a b = (Lib.compareBytes a b == -1)
  | [], [] => rfl
  | [], _ :: _ => rfl
  | _ :: _, [] => rfl
  | x :: a, y :: b => by
    have ih := bytesLess_eq a b
    unfold Op.bytesLess Lib.compareBytes
    rw [ih]
    by_cases h1 : x < y
    · have : ¬ y < x := by rw [UInt8.lt_iff_toNat_lt] at h1 ⊢; omega
      simp [h1]
    · by_cases h2 : y < x
      · simp [h1, h2]
        intro e; subst e; exact absurd h2 h1
      · have : x = y := by
          rw [UInt8.lt_iff_toNat_lt] at h1 h2
          exact UInt8.toNat_inj.1 (by omega)
        simp [this]

theorem less_str (p q : List UInt8) : Op.bytesLess (str p).toList (str q).toList = (Lib.compareBytes p q == -1) := by rw [str_toList, str_toList, bytesLess_eq]

theorem same_str (p q : List UInt8) : ((str p).toList == (str q).toList) = (Lib.compareBytes p q == 0) := by
  rw [str_toList, str_toList, Bool.eq_iff_iff, beq_iff_eq, beq_iff_eq]; exact (ordB.zero p q).symm

theorem cmpP_drop {xs ys : List (List UInt8)} {i : Nat} (h1 : i < xs.length) (h2 : i < ys.length) : cmpP (xs.drop i) (ys.drop i) = if Lib.compareBytes xs[i] ys[i] = 0 then cmpP (xs.drop (i + 1)) (ys.drop (i + 1)) else Lib.compareBytes xs[i] ys[i] := by
  rw [List.drop_eq_getElem_cons h1, List.drop_eq_getElem_cons h2]; rfl

set_option maxHeartbeats 4000000 in
set_option maxRecDepth 100000 in
theorem rcompare_call (a b : List UInt8) (w : World) (ha : a.length ≤ 100000000000) (hb : b.length ≤ 100000000000) :
    Calls Try.prog 22 #[.string (str a), .string (str b)] w fun e w' => e = .returned (.int .i64 (cmpT a b)) ∧ Kept [] w w' := by
  obtain ⟨R, hR⟩ : ∃ R, R = cmpT a b := ⟨_, rfl⟩
  have hs0 : cmpP (partsB a) (partsB b) = R := hR.symm
  rw [← hR]
  clear hR
  go_enter Try.func22, Try.ntmps22
  go_wp2_with fail
  refine (rparts_call a _ ha).mono ?_
  rintro e w1 ⟨va, rfl, hO1, hK1⟩
  go_wp2_with fail
  refine (rparts_call b _ hb).mono ?_
  rintro e w2 ⟨vb, rfl, hO2, hK2⟩
  have hK : Kept [] w w2 := hK1.trans hK2 (by simp)
  have hO1' := hO1.kept hK2 (by simp)
  have n1 := partsB_ne a
  have n2 := partsB_ne b
  have l1 := partsB_le a
  have l2 := partsB_le b
  generalize partsB a = xs at *
  generalize partsB b = ys at *
  obtain ⟨ga, ca, rfl, hca, hxa⟩ := hO1'.some n1
  obtain ⟨gb, cb, rfl, hcb, hxb⟩ := hO2.some n2
  clear hO1 hO2 hO1' hK1 hK2
  go_wp2_with fail
  go_loopw [7] (fun iv wr => ∃ (i n : Nat), iv = .int .i64 i ∧ i ≤ xs.length ∧ i ≤ ys.length ∧ wr = w2.drewN n ∧ cmpP (xs.drop i) (ys.drop i) = R) (fun iv _ => xs.length - (intOf iv).toNat)
  case atStart => exact ⟨0, 0, rfl, Nat.zero_le _, Nat.zero_le _, rfl, hs0⟩
  case round =>
    obtain ⟨i, n, rfl, hix, hiy, rfl, hc⟩ := hrel
    clear hs0
    by_cases h1 : i < xs.length
    · by_cases h2 : i < ys.length
      · have c1 := hxa i h1
        have c2 := hxb i h2
        have h1i : (i : Int) < xs.length := by omega
        have h2i : (i : Int) < ys.length := by omega
        rw [cmpP_drop h1 h2] at hc
        have e1 := less_str xs[i] ys[i]
        have e2 := same_str xs[i] ys[i]
        rcases compare_vals xs[i] ys[i] with h3 | h3 | h3
        · rw [h3] at hc e1
          rw [if_neg (by decide)] at hc
          subst hc
          replace e1 : Op.bytesLess (str xs[i]).toList (str ys[i]).toList = true := e1
          go_wp2_with fail
          go_region
          go_wp2_with fail
          go_ret
          exact ⟨rfl, hK.drewN _⟩
        · rw [h3] at hc e1 e2
          rw [if_pos rfl] at hc
          replace e1 : Op.bytesLess (str xs[i]).toList (str ys[i]).toList = false := e1
          replace e2 : ((str xs[i]).toList == (str ys[i]).toList) = true := e2
          go_wp2_with fail
          go_region
          go_wp2_with fail
          go_region
          go_wp2_with fail
          go_roundw
          case rel => exact ⟨i + 1, n + 1 + 1, by simp, by omega, by omega, rfl, hc⟩
          case measure => simp [intOf]; omega
        · rw [h3] at hc e1 e2
          rw [if_neg (by decide)] at hc
          subst hc
          replace e1 : Op.bytesLess (str xs[i]).toList (str ys[i]).toList = false := e1
          replace e2 : ((str xs[i]).toList == (str ys[i]).toList) = false := e2
          go_wp2_with fail
          go_region
          go_wp2_with fail
          go_region
          go_wp2_with fail
          go_ret
          exact ⟨rfl, hK.drewN _⟩
      · have h2i : ¬ (i : Int) < ys.length := by omega
        have h3i : (ys.length : Int) < xs.length := by omega
        rw [List.drop_eq_getElem_cons h1, List.drop_of_length_le (l := ys) (by omega)] at hc
        replace hc : (1 : Int) = R := hc
        subst hc
        go_wp2_with fail
        go_ret
        exact ⟨rfl, hK.drewN _⟩
    · have h1i : ¬ (i : Int) < xs.length := by omega
      rw [List.drop_of_length_le (l := xs) (by omega)] at hc
      by_cases h2 : i < ys.length
      · have h3i : (xs.length : Int) < ys.length := by omega
        rw [List.drop_eq_getElem_cons h2] at hc
        replace hc : (-1 : Int) = R := hc
        subst hc
        go_wp2_with fail
        go_ret
        exact ⟨rfl, hK.drewN _⟩
      · have h3i : (xs.length : Int) = ys.length := by omega
        rw [List.drop_of_length_le (l := ys) (by omega)] at hc
        replace hc : (0 : Int) = R := hc
        subst hc
        go_wp2_with fail
        go_ret
        exact ⟨rfl, hK.drewN _⟩

end Go.Proofs.Ytdmlcgmajpjmdaa
