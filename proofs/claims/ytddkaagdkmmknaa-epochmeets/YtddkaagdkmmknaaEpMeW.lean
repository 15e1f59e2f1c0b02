/-
  EpochMeets: the walk.
-/
import Derived.Test.YtddkaagdkmmknaaEpAwake
import Derived.Test.YtddkaagdkmmknaaEpMost
import Derived.Test.YtddkaagdkmmknaaEdMost
namespace Go.Proofs.Ytddkaagdkmmknaa
open Go.RowKit

def MeI (w : World) (m a b : List Int) (n : Nat) (iv : Value) (wr : World) : Prop := ∃ j : Nat, iv = .int .i64 (j : Int) ∧ j ≤ n ∧ Hid (∀ x ∈ m.take j, ¬ (x ∈ a ∧ x ∈ b)) ∧ Hid (Kept [] w wr)

set_option maxHeartbeats 8000000 in
set_option maxRecDepth 100000 in
theorem meets_walk (w : World) (ao : Option Addr) (n c : Nat) (m : List Int) (hM : SlI w ao n c m ∧ WfI m) (bo : Option Addr) (n1 c1 : Nat) (a : List Int) (hA : SlI w bo n1 c1 a ∧ WfI a) (co : Option Addr) (n2 c2 : Nat) (b : List Int) (hB : SlI w co n2 c2 b ∧ WfI b) :
    Calls Try.prog 6 #[.slice ao n c, .slice bo n1 c1, .slice co n2 c2] w fun e w' => e = .returned (.bool true) ∧ Kept [] w w' := by
  have cW := awake_call w
  have hcc := hM.1.2.1
  have hmm := hM.1.2.2.1
  unfold maxLen at hmm
  have HM := hide hM.1
  have HA := hide hA.1
  have HB := hide hB.1
  have HL := hide hM.1.1
  have HWm := hide hM.2
  have HWa := hide hA.2
  have HWb := hide hB.2
  clear hM hA hB
  go_enter Try.func6, Try.ntmps6
  go_upto_region 3 with (go_at_call 9; refine cW.mono ?_; clear cW; rintro _ w0 ⟨rfl, hK0⟩)
  by_cases hn : 300 < n
  · have hn' : (300 : Int) < n := by omega
    go_wp2_with fail
    go_ret
    exact ⟨rfl, hK0⟩
  · have hn' : ¬ (300 : Int) < n := by omega
    by_cases hn1 : 300 < n1
    · have hn1' : (300 : Int) < n1 := by omega
      go_wp2_with fail
      go_ret
      exact ⟨rfl, hK0⟩
    · have hn1' : ¬ (300 : Int) < n1 := by omega
      by_cases hn2 : 300 < n2
      · have hn2' : (300 : Int) < n2 := by omega
        go_wp2_with fail
        go_ret
        exact ⟨rfl, hK0⟩
      · have hn2' : ¬ (300 : Int) < n2 := by omega
        have HK0 := hide hK0
        have cX := most_call w0 ao bo n c n1 c1 m a (HM.out.kept hK0) (HA.out.kept hK0) HWm.out HWa.out (by omega)
        clear hK0
        go_upto_region 7 with (first
          | (go_at_call 15; refine cX.mono ?_; clear cX; rintro _ w1 ⟨rfl, hK1⟩
             have HK1 : Hid (Kept [] w w1) := HK0.out.trans hK1 (by simp)
             have cY := most_call w1 ao co n c n2 c2 m b (HM.out.kept HK1.out) (HB.out.kept HK1.out) HWm.out HWb.out (by omega)
             clear hK1)
          | (go_at_call 15; refine cY.mono ?_; clear cY; rintro _ w2 ⟨rfl, hK2⟩
             have HK2 : Hid (Kept [] w w2) := HK1.out.trans hK2 (by simp)
             have cZ := rmost_call w2 ao bo n c n1 c1 m a (HM.out.kept HK2.out) (HA.out.kept HK2.out) (by omega)
             clear hK2))
        have HX : Hid (May m → mostB m a = true → mostB m b = true → ∃ x ∈ m, x ∈ a ∧ x ∈ b) := fun h1 h2 h3 => most_meet (may_nodup h1) h2 h3
        generalize mostB m a = x at *
        generalize hy : mostB m b = y at *
        have HY := hide hy
        clear hy
        have hxx : (x != x) = false := by cases x <;> rfl
        have hyy : (y != y) = false := by cases y <;> rfl
        go_upto_region 9 with (first
          | (go_at_call 27; refine cZ.mono ?_; clear cZ; rintro _ w3 ⟨rfl, hK3⟩
             have HK3 : Hid (Kept [] w w3) := HK2.out.trans hK3 (by simp)
             have cU := rmost_call w3 ao co n c n2 c2 m b (HM.out.kept HK3.out) (HB.out.kept HK3.out) (by omega)
             rw [HY.out] at cU
             clear hK3)
          | (go_at_call 27; refine cU.mono ?_; clear cU; rintro _ w4 ⟨rfl, hK4⟩
             have HK4 : Hid (Kept [] w w4) := HK3.out.trans hK4 (by simp)
             have cQ := quorum_call w4 ao n c (by omega)
             have cR := rquorum_call w4 ao n c (by omega)
             clear hK4)
          | (go_at_call 14; refine cQ.mono ?_; clear cQ; rintro _ _ ⟨rfl, rfl⟩)
          | (go_at_call 28; refine cR.mono ?_; clear cR; rintro _ _ ⟨rfl, rfl⟩))
        cases x with
        | false =>
          go_wp2_with fail
          go_ret
          exact ⟨rfl, HK4.out⟩
        | true =>
          cases y with
          | false =>
            go_wp2_with fail
            go_ret
            exact ⟨rfl, HK4.out⟩
          | true =>
            have cM := rmay_call w4 ao n c m (HM.out.kept HK4.out)
            by_cases hmay : May m
            · rw [show decide (May m) = true by simpa using hmay] at cM
              have HX2 : Hid (∃ x ∈ m, x ∈ a ∧ x ∈ b) := HX.out hmay rfl rfl
              clear hmay HX HY
              go_wp2_with (go_at_call 29; refine cM.mono ?_; clear cM; rintro _ w5 ⟨rfl, hK5⟩)
              have HK5 : Hid (Kept [] w w5) := HK4.out.trans hK5 (by simp)
              clear hK5
              go_loopw [9] (fun iv wr => MeI w m a b n iv wr) (fun iv _ => n - (intOf iv).toNat)
              case atStart => exact ⟨0, rfl, Nat.zero_le _, by simp [Hid], HK5⟩
              case round =>
                obtain ⟨j, rfl, hj, HN, HK⟩ := hrel
                by_cases hlt : j < n
                · have hlt' : (j : Int) < n := by omega
                  have hjS : j < m.length := by rw [HL.out]; exact hlt
                  obtain ⟨g, o, rfl, h0⟩ := (HM.out.kept HK.out).2.2.2 j hjS
                  have HT : Hid (m.take (j + 1) = m.take j ++ [m[j]]) := List.take_succ_eq_append_getElem hjS
                  generalize m[j] = x at *
                  have cA := hasQ_call wr bo n1 c1 a (HA.out.kept HK.out) x
                  have cB := hasQ_call wr co n2 c2 b (HB.out.kept HK.out) x
                  by_cases ha : x ∈ a
                  · rw [show decide (x ∈ a) = true by simpa using ha] at cA
                    by_cases hb : x ∈ b
                    · rw [show decide (x ∈ b) = true by simpa using hb] at cB
                      go_wp2_with (first | (go_at_call 30; refine cA.mono ?_; clear cA; rintro _ _ ⟨rfl, rfl⟩) | (go_at_call 30; refine cB.mono ?_; clear cB; rintro _ _ ⟨rfl, rfl⟩))
                      go_ret
                      exact ⟨rfl, HK.out⟩
                    · rw [show decide (x ∈ b) = false by simpa using hb] at cB
                      have HN2 : Hid (∀ x ∈ m.take (j + 1), ¬ (x ∈ a ∧ x ∈ b)) := fun y hy h => by
                        rw [HT.out] at hy
                        rcases List.mem_append.1 hy with hy | hy
                        · exact HN.out y hy h
                        · simp at hy; subst hy; exact hb h.2
                      go_wp2_with (first | (go_at_call 30; refine cA.mono ?_; clear cA; rintro _ _ ⟨rfl, rfl⟩) | (go_at_call 30; refine cB.mono ?_; clear cB; rintro _ _ ⟨rfl, rfl⟩))
                      go_roundw
                      case rel => exact ⟨j + 1, by go_num, by omega, HN2, HK⟩
                      case measure => simp [intOf]; omega
                  · rw [show decide (x ∈ a) = false by simpa using ha] at cA
                    have HN2 : Hid (∀ x ∈ m.take (j + 1), ¬ (x ∈ a ∧ x ∈ b)) := fun y hy h => by
                      rw [HT.out] at hy
                      rcases List.mem_append.1 hy with hy | hy
                      · exact HN.out y hy h
                      · simp at hy; subst hy; exact ha h.1
                    clear cB
                    go_wp2_with (go_at_call 30; refine cA.mono ?_; clear cA; rintro _ _ ⟨rfl, rfl⟩)
                    go_roundw
                    case rel => exact ⟨j + 1, by go_num, by omega, HN2, HK⟩
                    case measure => simp [intOf]; omega
                · exfalso
                  obtain ⟨x, hx, hab⟩ := HX2.out
                  have h := HN.out
                  rw [List.take_of_length_le (by rw [HL.out]; omega)] at h
                  exact h x hx hab
            · rw [show decide (May m) = false by simpa using hmay] at cM
              clear hmay HX HY
              go_wp2_with (go_at_call 29; refine cM.mono ?_; clear cM; rintro _ w5 ⟨rfl, hK5⟩)
              go_ret
              exact ⟨rfl, HK4.out.trans hK5 (by simp)⟩

end Go.Proofs.Ytddkaagdkmmknaa
