/-
  SameLeaves.
-/
import Derived.Test.YtfoghemiaidnhaaGreatTrRow
namespace Go.Proofs.YtfoghemiaidnhaaGreat
open Go.RowKit

theorem take_same {L M : List Lf} {k : Nat} (h : L.take k = M.take k) (h1 : k < L.length) (h2 : k < M.length) (h3 : L[k] = M[k]) : L.take (k + 1) = M.take (k + 1) := by
  rw [List.take_succ_eq_append_getElem h1, List.take_succ_eq_append_getElem h2, h, h3]

theorem not_same {L M : List Lf} {k : Nat} (h1 : k < L.length) (h2 : k < M.length) (h3 : L[k] ≠ M[k]) : decide (L = M) = false := by
  rw [decide_eq_false_iff_not]
  intro e
  subst e
  exact h3 rfl

set_option maxHeartbeats 2000000 in
set_option maxRecDepth 100000 in
theorem same_call (w : World) (ao bo : Option Addr) (n m c d : Nat) (L M : List Lf) (hL : SlL w ao n c L) (hM : SlL w bo m d M) :
    Calls Tryz.prog 44 #[.slice ao n c, .slice bo m d] w fun r w' => r = .returned (.bool (decide (L = M))) ∧ ∃ q, w' = w.drewN q := by
  have hn := hL.1
  subst hn
  have hm := hM.1
  subst hm
  have l1 := hL.2.1
  have l2 := hL.2.2.1
  have m1 := hM.2.1
  have m2 := hM.2.2.1
  unfold maxLen at l2 m2
  by_cases hlen : L.length = M.length
  · by_cases h0 : L.length = 0
    · have e1 : L = [] := by simpa using h0
      have e2 : M = [] := by simpa [h0] using hlen.symm
      subst e1
      subst e2
      clear hL hM
      go_enter Tryz.func44, Tryz.ntmps44
      go_wp2
      refine wp_loop_rounds 1 ?_
      rw [rounds_succ]
      go_wp2
      go_ret
      exact ⟨rfl, 0, rfl⟩
    · obtain ⟨b, o, rfl, hA⟩ := hL.some (by omega)
      obtain ⟨b2, o2, rfl, hB⟩ := hM.some (by omega)
      have hi : (L.length : Int) = M.length := by omega
      obtain ⟨R, hR⟩ : ∃ R, R = decide (L = M) := ⟨_, rfl⟩
      rw [← hR]
      have HR : Hid (R = decide (L = M)) := hR
      have HA : Hid (∀ i (hi : i < L.length), LfAt w b (o + i * 4) L[i]) := hA
      have HB : Hid (∀ i (hi : i < M.length), LfAt w b2 (o2 + i * 4) M[i]) := hB
      clear hL hM hA hB hR
      go_enter Tryz.func44, Tryz.ntmps44
      go_wp2_with fail
      go_loopw [5] (fun i wr => ∃ (k q : Nat), k ≤ L.length ∧ i = .int .i64 k ∧ wr = w.drewN q ∧ Hid (L.take k = M.take k)) (fun i _ => L.length - (intOf i).toNat)
      case atStart => exact ⟨0, 0, Nat.zero_le _, rfl, rfl, rfl⟩
      case round =>
        obtain ⟨k, q, hk, rfl, rfl, hT⟩ := hrel
        by_cases hlt : k < L.length
        · obtain ⟨c0, c1, c2, c3⟩ := HA.out k hlt
          obtain ⟨d0, d1, d2, d3⟩ := HB.out k (by omega)
          have hlt' : (k : Int) < M.length := by omega
          have hk2 : k < M.length := by omega
          rcases lf_parts L[k] M[k] with ⟨he, e0, e1, e2, e3⟩ | ⟨he, hne⟩
          · have HE : Hid (L.take (k + 1) = M.take (k + 1)) := take_same hT.out hlt hk2 he
            clear he
            go_wp2_with fail
            go_region
            go_wp2_with fail
            go_roundw
            case rel => exact ⟨k + 1, q + 1, by omega, by go_num, rfl, HE⟩
            case measure => simp [intOf]; omega
          · have HE : Hid (decide (L = M) = false) := not_same hlt hk2 he
            clear he
            rcases hne with e0 | ⟨e0, e1⟩ | ⟨e0, e1, e2⟩ | ⟨e0, e1, e2, e3⟩
            all_goals
              go_wp2_with fail
              go_region
              go_wp2_with fail
              go_ret
              exact ⟨by rw [HR.out, HE.out]; rfl, _, rfl⟩
        · have HE : Hid (decide (L = M) = true) := by
            show decide (L = M) = true
            have h1 := hT.out
            rw [List.take_of_length_le (by omega), List.take_of_length_le (by omega)] at h1
            simpa using h1
          go_wp2_with fail
          go_ret
          exact ⟨by rw [HR.out, HE.out]; rfl, _, rfl⟩
  · have hi : ¬ (L.length : Int) = M.length := by omega
    have HE : Hid (decide (L = M) = false) := by
      show decide (L = M) = false
      rw [decide_eq_false_iff_not]; intro e; exact hlen (by rw [e])
    obtain ⟨R, hR⟩ : ∃ R, R = decide (L = M) := ⟨_, rfl⟩
    rw [← hR]
    have HR : Hid (R = decide (L = M)) := hR
    clear hL hM hR
    go_enter Tryz.func44, Tryz.ntmps44
    go_wp2_with fail
    go_ret
    exact ⟨by rw [HR.out, HE.out]; rfl, 0, rfl⟩

end Go.Proofs.YtfoghemiaidnhaaGreat
