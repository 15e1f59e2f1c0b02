/-
  PathJoins: the walk.
-/
import Derived.Test.YtlkdmeeifljacaaPaWiW
namespace Go.Proofs.Ytlkdmeeifljacaa
open Go.RowKit

theorem count_take {l : List UInt8} {k : Nat} (h : k < l.length) : (l.take (k + 1)).countP (· = 47) = (l.take k).countP (· = 47) + if l[k] = 47 then 1 else 0 := by
  rw [List.take_succ_eq_append_getElem h, List.countP_append, List.countP_singleton]
  simp only [decide_eq_true_eq]

theorem count_hit {l : List UInt8} {k : Nat} (h : k < l.length) (hc : l[k] = 47) : (l.take (k + 1)).countP (· = 47) = (l.take k).countP (· = 47) + 1 := by
  rw [count_take h, if_pos hc]

theorem count_miss {l : List UInt8} {k : Nat} (h : k < l.length) (hc : ¬ l[k] = 47) : (l.take (k + 1)).countP (· = 47) = (l.take k).countP (· = 47) := by
  rw [count_take h, if_neg hc]; rfl

set_option maxHeartbeats 4000000 in
set_option maxRecDepth 100000 in
theorem deep_call (l : List UInt8) (w : World) (hl : l.length ≤ 140737488355328) :
    Calls Try.prog 17 #[.string (str l)] w fun e w' => e = .returned (.int .i64 (partsB l).length) ∧ w' = w := by
  have hsz : ((str l).size : Int) = l.length := by rw [str_size]
  obtain ⟨R, hR⟩ : ∃ R : Nat, R = (partsB l).length := ⟨_, rfl⟩
  rw [← hR]
  rw [partsB_length] at hR
  go_enter Try.func17, Try.ntmps17
  go_wp2_with fail
  go_loop [3, 4] (fun n i => ∃ k m : Nat, k ≤ l.length ∧ i = .int .i64 k ∧ n = .int .i64 m ∧ m = (l.take k).countP (· = 47) + 1 ∧ m ≤ k + 1) (fun _ i => l.length - (intOf i).toNat)
  case atStart => exact ⟨0, 1, Nat.zero_le _, rfl, rfl, rfl, Nat.le_refl _⟩
  case round =>
    obtain ⟨k, m, hk, rfl, rfl, hm, hmk⟩ := hrel
    by_cases hlt : k < l.length
    · have hlt' : k < (str l).size := by rw [str_size]; exact hlt
      have hget : (str l)[k] = l[k] := rfl
      have HM : Hid (m = (l.take k).countP (· = 47) + 1) := hm
      clear hm
      by_cases hc : l[k] = 47
      · have hb : ((l[k].toNat : Int) == 47) = true := by rw [hc]; rfl
        have hcount := count_hit hlt hc
        clear hc
        go_wp2_with fail
        go_round
        case rel => exact ⟨k + 1, m + 1, by omega, by simp, by simp, by have := HM.out; omega, by omega⟩
        case measure => simp [intOf]; omega
      · have hb : ((l[k].toNat : Int) == 47) = false := by
          have : l[k].toNat ≠ 47 := fun e => hc (UInt8.toNat_inj.1 e)
          simp; omega
        have hcount := count_miss hlt hc
        go_wp2_with fail
        go_round
        case rel => exact ⟨k + 1, m, by omega, by simp, rfl, by have := HM.out; omega, by omega⟩
        case measure => simp [intOf]; omega
    · obtain rfl : k = l.length := by omega
      rw [List.take_length, ← hR] at hm
      subst hm
      go_wp2_with fail
      go_ret
      exact ⟨rfl, rfl⟩

end Go.Proofs.Ytlkdmeeifljacaa
