/-
  The document's own Name and Within.
-/
import Derived.Test.YtdmlcgmajpjmdaaPaRef1
import Derived.Test.YtdmlcgmajpjmdaaPaName
namespace Go.Proofs.Ytdmlcgmajpjmdaa
open Go.RowKit

set_option maxHeartbeats 4000000 in
set_option maxRecDepth 100000 in
theorem rletter_call (c : UInt8) (pt : Bool) (w : World) :
    Calls Try.prog 41 #[.int .u8 (c.toNat : Int), .bool pt] w fun e w' => e = .returned (.bool (letB pt c)) ∧ w' = w := by
  rw [letB_num]
  have h0 : (0 : Int) ≤ (c.toNat : Int) := by omega
  have h1 : (c.toNat : Int) < 256 := by have := c.toNat_lt; omega
  generalize (c.toNat : Int) = x at h0 h1
  rcases (show x < 45 ∨ x = 45 ∨ x = 46 ∨ x = 47 ∨ (48 ≤ x ∧ x ≤ 57) ∨ (57 < x ∧ x < 95) ∨ x = 95 ∨ x = 96 ∨ (97 ≤ x ∧ x ≤ 122) ∨ 122 < x from by omega) with h | h | h | h | h | h | h | h | h | h
  all_goals
    cases pt
    all_goals
      go_enter Try.func41, Try.ntmps41
      go_wp2
      go_ret
      refine ⟨congrArg Ending.returned (congrArg Value.bool ?_), rfl⟩
      first | rfl | (rw [Bool.eq_iff_iff]; simp; done) | (rw [Bool.eq_iff_iff]; simp; omega)

set_option maxHeartbeats 4000000 in
set_option maxRecDepth 100000 in
theorem rword_call (l : List UInt8) (pt : Bool) (w : World) (hl : l.length ≤ 140737488355328) :
    Calls Try.prog 30 #[.string (str l), .bool pt] w fun e w' => e = .returned (.bool (wordB pt l)) ∧ w' = w := by
  have hsz : ((str l).size : Int) = l.length := by rw [str_size]
  by_cases h0 : l = []
  · subst h0
    rw [show wordB pt [] = false from rfl]
    go_enter Try.func30, Try.ntmps30
    go_wp2_with fail
    go_ret
    exact ⟨rfl, rfl⟩
  have h0' : 0 < l.length := List.length_pos_iff.2 h0
  have hz : ((l.length : Int) == 0) = false := by simpa using h0
  by_cases h24 : l.length ≤ 24
  · have e1 : wordB pt l = l.all (letB pt) := by unfold wordB; rw [decide_eq_true h0', decide_eq_true h24]; simp
    rw [e1]
    have hi : (l.length : Int) ≤ 24 := by omega
    obtain ⟨R, hR⟩ : ∃ R, R = l.all (letB pt) := ⟨_, rfl⟩
    rw [← hR]
    go_enter Try.func30, Try.ntmps30
    go_wp2_with fail
    go_loop [5] (fun i => ∃ k : Nat, k ≤ l.length ∧ i = .int .i64 k ∧ (l.take k).all (letB pt) = true) (fun i => l.length - (intOf i).toNat)
    case atStart => exact ⟨0, Nat.zero_le _, rfl, rfl⟩
    case round =>
      obtain ⟨k, hk, rfl, hall⟩ := hrel
      by_cases hlt : k < l.length
      · have hlt' : k < (str l).size := by rw [str_size]; exact hlt
        have cB := rletter_call (str l)[k] pt
        have hget : (str l)[k] = l[k] := rfl
        rw [hget] at cB
        go_wp2_with fail
        cases hb : letB pt l[k] with
        | false =>
          rw [hb] at cB
          have hall' : l.all (letB pt) = false := by
            rw [List.all_eq_false]; exact ⟨l[k], List.getElem_mem hlt, by simp [hb]⟩
          rw [hall'] at hR
          subst hR
          refine (cB _).mono ?_
          rintro e w' ⟨rfl, rfl⟩
          go_wp2
          go_ret
          exact ⟨rfl, rfl⟩
        | true =>
          rw [hb] at cB
          refine (cB _).mono ?_
          rintro e w' ⟨rfl, rfl⟩
          go_wp2
          go_round
          case rel => exact ⟨k + 1, by omega, by simp, all_take_succ hlt hall hb⟩
          case measure => simp [intOf]; omega
      · obtain rfl : k = l.length := by omega
        rw [List.take_length] at hall
        rw [hall] at hR
        subst hR
        go_wp2
        go_ret
        exact ⟨rfl, rfl⟩
  · have e1 : wordB pt l = false := by unfold wordB; rw [decide_eq_false h24]; simp
    rw [e1]
    have hi : 24 < (l.length : Int) := by omega
    go_enter Try.func30, Try.ntmps30
    go_wp2_with fail
    go_ret
    exact ⟨rfl, rfl⟩


end Go.Proofs.Ytdmlcgmajpjmdaa
