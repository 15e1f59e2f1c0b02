/-
  path.Name, and the inner functions that look at each byte of a part.
-/
import Derived.Test.YtdmlcgmajpjmdaaPaWith
namespace Go.Proofs.Ytdmlcgmajpjmdaa
open Go.RowKit

theorem letB_num (point : Bool) (c : UInt8) : letB point c = ((decide (97 ≤ (c.toNat : Int)) && decide ((c.toNat : Int) ≤ 122)) || (decide (48 ≤ (c.toNat : Int)) && decide ((c.toNat : Int) ≤ 57)) || decide ((c.toNat : Int) = 95) || decide ((c.toNat : Int) = 45) || (point && decide ((c.toNat : Int) = 46))) := by
  have e : ∀ n : Nat, (hn : n < 256) → (c == UInt8.ofNat n) = decide ((c.toNat : Int) = n) := by
    intro n hn
    rw [Bool.eq_iff_iff, beq_iff_eq, decide_eq_true_eq, ← UInt8.toNat_inj, UInt8.toNat_ofNat']
    omega
  have l1 : decide ((97 : UInt8) ≤ c) = decide (97 ≤ (c.toNat : Int)) := by
    rw [Bool.eq_iff_iff, decide_eq_true_eq, decide_eq_true_eq, UInt8.le_iff_toNat_le]; show 97 ≤ c.toNat ↔ _; omega
  have l2 : decide (c ≤ (122 : UInt8)) = decide ((c.toNat : Int) ≤ 122) := by
    rw [Bool.eq_iff_iff, decide_eq_true_eq, decide_eq_true_eq, UInt8.le_iff_toNat_le]; show c.toNat ≤ 122 ↔ _; omega
  have l3 : decide ((48 : UInt8) ≤ c) = decide (48 ≤ (c.toNat : Int)) := by
    rw [Bool.eq_iff_iff, decide_eq_true_eq, decide_eq_true_eq, UInt8.le_iff_toNat_le]; show 48 ≤ c.toNat ↔ _; omega
  have l4 : decide (c ≤ (57 : UInt8)) = decide ((c.toNat : Int) ≤ 57) := by
    rw [Bool.eq_iff_iff, decide_eq_true_eq, decide_eq_true_eq, UInt8.le_iff_toNat_le]; show c.toNat ≤ 57 ↔ _; omega
  unfold letB
  rw [l1, l2, l3, l4, show (c == 95) = _ from e 95 (by omega), show (c == 45) = _ from e 45 (by omega), show (c == 46) = _ from e 46 (by omega)]
  rfl

set_option maxHeartbeats 4000000 in
set_option maxRecDepth 100000 in
theorem nameByte_call (c : UInt8) (w : World) :
    Calls Try.prog 47 #[.int .u8 (c.toNat : Int)] w fun e w' => e = .returned (.bool (letB false c)) ∧ w' = w := by
  rw [letB_num]
  have h0 : (0 : Int) ≤ (c.toNat : Int) := by omega
  have h1 : (c.toNat : Int) < 256 := by have := c.toNat_lt; omega
  generalize (c.toNat : Int) = x at h0 h1
  rcases (show x < 45 ∨ x = 45 ∨ (45 < x ∧ x < 48) ∨ (48 ≤ x ∧ x ≤ 57) ∨ (57 < x ∧ x < 95) ∨ x = 95 ∨ x = 96 ∨ (97 ≤ x ∧ x ≤ 122) ∨ 122 < x from by omega) with h | h | h | h | h | h | h | h | h
  all_goals
    go_enter Try.func47, Try.ntmps47
    go_wp2
    go_ret
  all_goals
    refine ⟨congrArg Ending.returned (congrArg Value.bool ?_), rfl⟩
    first | rfl | (rw [Bool.eq_iff_iff]; simp; done) | (rw [Bool.eq_iff_iff]; simp; omega)

/-- A byte of a part: a point, or a name's byte. -/
theorem letB_point (c : UInt8) : letB true c = (decide ((c.toNat : Int) = 46) || letB false c) := by
  rw [letB_num, letB_num]
  rw [Bool.eq_iff_iff]
  simp
  omega

set_option maxHeartbeats 4000000 in
set_option maxRecDepth 100000 in
theorem partByte_call (c : UInt8) (w : World) :
    Calls Try.prog 46 #[.int .u8 (c.toNat : Int)] w fun e w' => e = .returned (.bool (letB true c)) ∧ w' = w := by
  rw [letB_point]
  have cN := nameByte_call c
  have h0 : (0 : Int) ≤ (c.toNat : Int) := by omega
  have h1 : (c.toNat : Int) < 256 := by have := c.toNat_lt; omega
  generalize letB false c = b at cN
  generalize (c.toNat : Int) = x at h0 h1 cN
  by_cases h : x = 46
  · subst h
    go_enter Try.func46, Try.ntmps46
    go_wp2_with fail
    go_ret
    exact ⟨rfl, rfl⟩
  · have e : (x == 46) = false := by simpa using h
    rw [show decide (x = 46) = false from by simpa using h]
    go_enter Try.func46, Try.ntmps46
    go_wp2_with (go_at_call 47; refine (cN _).mono ?_; rintro e w' ⟨rfl, rfl⟩)
    go_ret
    exact ⟨rfl, rfl⟩

theorem all_take_succ {f : UInt8 → Bool} {l : List UInt8} {k : Nat} (h : k < l.length) (ha : (l.take k).all f = true) (hb : f l[k] = true) : (l.take (k + 1)).all f = true := by
  rw [List.take_succ_eq_append_getElem h, List.all_append, ha]; simp [hb]

set_option maxHeartbeats 4000000 in
set_option maxRecDepth 100000 in
theorem made_name (l : List UInt8) (w : World) (hl : l.length ≤ 140737488355328) :
    Calls Try.prog 45 #[.string (str l), .func (.func 47) #[] #[]] w fun e w' => e = .returned (.bool (decide (l.length ≤ 24) && l.all (letB false))) ∧ w' = w := by
  have hsz : ((str l).size : Int) = l.length := by rw [str_size]
  by_cases h24 : l.length ≤ 24
  · rw [decide_eq_true h24, Bool.true_and]
    have hi : (l.length : Int) ≤ 24 := by omega
    obtain ⟨R, hR⟩ : ∃ R, R = l.all (letB false) := ⟨_, rfl⟩
    rw [← hR]
    go_enter Try.func45, Try.ntmps45
    go_wp2_with fail
    go_loop [11] (fun i => ∃ k : Nat, k ≤ l.length ∧ i = .int .i64 k ∧ (l.take k).all (letB false) = true) (fun i => l.length - (intOf i).toNat)
    case atStart => exact ⟨0, Nat.zero_le _, rfl, rfl⟩
    case round =>
      obtain ⟨k, hk, rfl, hall⟩ := hrel
      by_cases hlt : k < l.length
      · have hlt' : k < (str l).size := by rw [str_size]; exact hlt
        have cB := nameByte_call (str l)[k]
        have hget : (str l)[k] = l[k] := rfl
        go_wp2_with fail
        cases hb : letB false (str l)[k] with
        | false =>
          rw [hb] at cB
          rw [hget] at hb
          have hall' : l.all (letB false) = false := by
            rw [List.all_eq_false]; exact ⟨l[k], List.getElem_mem hlt, by simp [hb]⟩
          rw [hall'] at hR
          subst hR
          refine (cB _).mono ?_
          rintro e w' ⟨rfl, rfl⟩
          go_wp2
          go_ret
          exact ⟨rfl, rfl⟩
        | true =>
          rw [hb] at cB
          rw [hget] at hb
          refine (cB _).mono ?_
          rintro e w' ⟨rfl, rfl⟩
          go_wp2
          go_round
          case rel => exact ⟨k + 1, by omega, by simp, all_take_succ hlt hall hb⟩
          case measure => simp [intOf]; omega
      · obtain rfl : k = l.length := by omega
        rw [List.take_length] at hall
        rw [hall] at hR
        subst hR
        go_wp2
        go_ret
        exact ⟨rfl, rfl⟩
  · rw [decide_eq_false h24, Bool.false_and]
    have hi : 24 < (l.length : Int) := by omega
    go_enter Try.func45, Try.ntmps45
    go_wp2_with fail
    go_ret
    exact ⟨rfl, rfl⟩
set_option maxHeartbeats 4000000 in
set_option maxRecDepth 100000 in
theorem made_part (l : List UInt8) (w : World) (hl : l.length ≤ 140737488355328) :
    Calls Try.prog 45 #[.string (str l), .func (.func 46) #[] #[]] w fun e w' => e = .returned (.bool (decide (l.length ≤ 24) && l.all (letB true))) ∧ w' = w := by
  have hsz : ((str l).size : Int) = l.length := by rw [str_size]
  by_cases h24 : l.length ≤ 24
  · rw [decide_eq_true h24, Bool.true_and]
    have hi : (l.length : Int) ≤ 24 := by omega
    obtain ⟨R, hR⟩ : ∃ R, R = l.all (letB true) := ⟨_, rfl⟩
    rw [← hR]
    go_enter Try.func45, Try.ntmps45
    go_wp2_with fail
    go_loop [11] (fun i => ∃ k : Nat, k ≤ l.length ∧ i = .int .i64 k ∧ (l.take k).all (letB true) = true) (fun i => l.length - (intOf i).toNat)
    case atStart => exact ⟨0, Nat.zero_le _, rfl, rfl⟩
    case round =>
      obtain ⟨k, hk, rfl, hall⟩ := hrel
      by_cases hlt : k < l.length
      · have hlt' : k < (str l).size := by rw [str_size]; exact hlt
        have cB := partByte_call (str l)[k]
        have hget : (str l)[k] = l[k] := rfl
        go_wp2_with fail
        cases hb : letB true (str l)[k] with
        | false =>
          rw [hb] at cB
          rw [hget] at hb
          have hall' : l.all (letB true) = false := by
            rw [List.all_eq_false]; exact ⟨l[k], List.getElem_mem hlt, by simp [hb]⟩
          rw [hall'] at hR
          subst hR
          refine (cB _).mono ?_
          rintro e w' ⟨rfl, rfl⟩
          go_wp2
          go_ret
          exact ⟨rfl, rfl⟩
        | true =>
          rw [hb] at cB
          rw [hget] at hb
          refine (cB _).mono ?_
          rintro e w' ⟨rfl, rfl⟩
          go_wp2
          go_round
          case rel => exact ⟨k + 1, by omega, by simp, all_take_succ hlt hall hb⟩
          case measure => simp [intOf]; omega
      · obtain rfl : k = l.length := by omega
        rw [List.take_length] at hall
        rw [hall] at hR
        subst hR
        go_wp2
        go_ret
        exact ⟨rfl, rfl⟩
  · rw [decide_eq_false h24, Bool.false_and]
    have hi : 24 < (l.length : Int) := by omega
    go_enter Try.func45, Try.ntmps45
    go_wp2_with fail
    go_ret
    exact ⟨rfl, rfl⟩

set_option maxHeartbeats 4000000 in
set_option maxRecDepth 100000 in
theorem isPart_call (l : List UInt8) (w : World) (h0 : l ≠ []) (hl : l.length ≤ 140737488355328) :
    Calls Try.prog 38 #[.string (str l)] w fun e w' => e = .returned (.bool (wordB true l)) ∧ w' = w := by
  have cM := made_part l
  have e1 : wordB true l = (decide (l.length ≤ 24) && l.all (letB true)) := by
    unfold wordB; cases l with
    | nil => exact absurd rfl h0
    | cons c t => simp
  rw [e1]
  generalize (decide (l.length ≤ 24) && l.all (letB true)) = b at cM
  go_enter Try.func38, Try.ntmps38
  go_wp2_with (go_at_call 45; refine (cM _ hl).mono ?_; rintro e w' ⟨rfl, rfl⟩)
  go_ret
  exact ⟨rfl, rfl⟩

end Go.Proofs.Ytdmlcgmajpjmdaa
