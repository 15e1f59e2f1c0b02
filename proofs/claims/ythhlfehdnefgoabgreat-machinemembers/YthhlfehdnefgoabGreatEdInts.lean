/-
  The document's own SameInts, Quorum; epoch.Quorum.
-/
import Derived.Test.YthhlfehdnefgoabGreatQ2
import Derived.Test.YthhlfehdnefgoabGreatQ1
namespace Go.Proofs.YthhlfehdnefgoabGreat
open Go.RowKit

def SiI (w : World) (S T : List Int) (n : Nat) (iv : Value) (wr : World) : Prop := ∃ j : Nat, iv = .int .i64 (j : Int) ∧ j ≤ n ∧ Hid (S.take j = T.take j) ∧ Hid (Kept [] w wr)

set_option maxHeartbeats 4000000 in
set_option maxRecDepth 100000 in
theorem sameI_call (w : World) (ao bo : Option Addr) (n c n2 c2 : Nat) (S T : List Int) (hS : SlI w ao n c S) (hT : SlI w bo n2 c2 T) :
    Calls Tryz.prog 17 #[.slice ao n c, .slice bo n2 c2] w fun e w' => e = .returned (.bool (decide (S = T))) ∧ Kept [] w w' := by
  have hc := hS.2.1
  have hm := hS.2.2.1
  have hc2 := hT.2.1
  have hm2 := hT.2.2.1
  unfold maxLen at hm hm2
  have HS := hide hS
  have HT := hide hT
  have HL := hide hS.1
  have HL2 := hide hT.1
  clear hS hT
  by_cases hn : n = n2
  · subst hn
    go_enter Tryz.func17, Tryz.ntmps17
    go_wp2_with fail
    go_loopw [5] (fun iv wr => SiI w S T n iv wr) (fun iv _ => n - (intOf iv).toNat)
    case atStart => exact ⟨0, rfl, Nat.zero_le _, by simp [Hid], Kept.refl _ _⟩
    case round =>
      obtain ⟨j, rfl, hj, HN, HK⟩ := hrel
      by_cases hlt : j < n
      · have hlt' : (j : Int) < n := by omega
        have hjS : j < S.length := by rw [HL.out]; exact hlt
        have hjT : j < T.length := by rw [HL2.out]; exact hlt
        obtain ⟨g, o, rfl, h0⟩ := (HS.out.kept HK.out).2.2.2 j hjS
        obtain ⟨g2, o2, rfl, h1⟩ := (HT.out.kept HK.out).2.2.2 j hjT
        have HA : Hid (S.take (j + 1) = S.take j ++ [S[j]]) := List.take_succ_eq_append_getElem hjS
        have HB : Hid (T.take (j + 1) = T.take j ++ [T[j]]) := List.take_succ_eq_append_getElem hjT
        have HX : Hid (S[j]? = some S[j]) := List.getElem?_eq_getElem hjS
        have HY : Hid (T[j]? = some T[j]) := List.getElem?_eq_getElem hjT
        generalize S[j] = x at *
        generalize T[j] = y at *
        by_cases hd : x = y
        · subst hd
          have HN2 : Hid (S.take (j + 1) = T.take (j + 1)) := by show _ = _; rw [HA.out, HB.out, HN.out]
          go_wp2_with fail
          go_region
          all_goals go_wp2_with fail
          all_goals go_roundw
          case rel => exact ⟨j + 1, by go_num, by omega, HN2, HK.out.drew⟩
          case measure => simp [intOf]; omega
        · have HE : Hid (decide (S = T) = false) := by
            show _ = _
            rw [decide_eq_false_iff_not]
            rintro e
            have h1 := HX.out
            rw [e, HY.out] at h1
            exact hd (Option.some.inj h1).symm
          go_wp2_with fail
          go_region
          all_goals go_wp2_with fail
          all_goals go_ret
          all_goals exact ⟨by rw [HE.out]; rfl, HK.out.drew⟩
      · have hlt' : ¬ (j : Int) < n := by omega
        have HE : Hid (decide (S = T) = true) := by
          show _ = _
          have h := HN.out
          rw [List.take_of_length_le (by rw [HL.out]; omega), List.take_of_length_le (by rw [HL2.out]; omega)] at h
          simpa using h
        go_wp2_with fail
        go_ret
        exact ⟨by rw [HE.out]; rfl, HK.out⟩
  · have hn' : ¬ (n : Int) = n2 := by omega
    have HE : Hid (decide (S = T) = false) := by
      show _ = _
      rw [decide_eq_false_iff_not]
      rintro rfl
      exact hn (HL.out.symm.trans HL2.out)
    go_enter Tryz.func17, Tryz.ntmps17
    go_wp2_with fail
    go_ret
    exact ⟨by rw [HE.out]; rfl, Kept.refl _ _⟩

end Go.Proofs.YthhlfehdnefgoabGreat
