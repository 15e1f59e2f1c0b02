/-
  PathJoins: the walk.
-/
import Derived.Test.YtlkdmeeifljacaaPaJoW
namespace Go.Proofs.Ytlkdmeeifljacaa
open Go.RowKit

theorem lit1 : (⟨#[47]⟩ : ByteArray) = str [47] := rfl

set_option maxHeartbeats 4000000 in
set_option maxRecDepth 100000 in
theorem joins_none (a b c : List UInt8) (w : World) (ha : a.length ≤ 3000) (hb : b.length ≤ 3000) (hc : c.length ≤ 3000) (h : normB a = none ∨ normB b = none) :
    Calls Try.prog 7 #[.string (str a), .string (str b), .string (str c)] w fun e w' => e = .returned (.bool true) ∧ Kept [] w w' := by
  have sa : ((str a).size : Int) = a.length := by rw [str_size]
  have sb : ((str b).size : Int) = b.length := by rw [str_size]
  have sc : ((str c).size : Int) = c.length := by rw [str_size]
  have ia : (a.length : Int) ≤ 3000 := by omega
  have ib : (b.length : Int) ≤ 3000 := by omega
  have ic : (c.length : Int) ≤ 3000 := by omega
  have cP := fun w => normal_call a w (by omega)
  have cQ := fun w => normal_call b w (by omega)
  cases hp : normB a with
  | none =>
    rw [hp] at cP
    cases hq : normB b with
    | none =>
      rw [hq] at cQ
      unfold tup at cP cQ
      go_enter Try.func7, Try.ntmps7
      go_wp2_with fail
      refine (awake_call _).mono ?_
      rintro e w0 ⟨rfl, hK0⟩
      go_wp2_with fail
      refine (cP _).mono ?_
      rintro e w1 ⟨rfl, hK1⟩
      replace hK1 := hK0.trans hK1 (by simp)
      go_wp2_with fail
      refine (cQ _).mono ?_
      rintro e w2 ⟨rfl, hK2⟩
      replace hK2 := hK1.trans hK2 (by simp)
      go_wp2_with fail
      go_ret
      exact ⟨rfl, hK2⟩
    | some q =>
      rw [hq] at cQ
      unfold tup at cP cQ
      go_enter Try.func7, Try.ntmps7
      go_wp2_with fail
      refine (awake_call _).mono ?_
      rintro e w0 ⟨rfl, hK0⟩
      go_wp2_with fail
      refine (cP _).mono ?_
      rintro e w1 ⟨rfl, hK1⟩
      replace hK1 := hK0.trans hK1 (by simp)
      go_wp2_with fail
      refine (cQ _).mono ?_
      rintro e w2 ⟨rfl, hK2⟩
      replace hK2 := hK1.trans hK2 (by simp)
      go_wp2_with fail
      go_ret
      exact ⟨rfl, hK2⟩
  | some p =>
    rw [hp] at cP h
    rcases h with h | h
    · cases h
    rw [h] at cQ
    unfold tup at cP cQ
    go_enter Try.func7, Try.ntmps7
    go_wp2_with fail
    refine (awake_call _).mono ?_
    rintro e w0 ⟨rfl, hK0⟩
    go_wp2_with fail
    refine (cP _).mono ?_
    rintro e w1 ⟨rfl, hK1⟩
    replace hK1 := hK0.trans hK1 (by simp)
    go_wp2_with fail
    refine (cQ _).mono ?_
    rintro e w2 ⟨rfl, hK2⟩
    replace hK2 := hK1.trans hK2 (by simp)
    go_wp2_with fail
    go_ret
    exact ⟨rfl, hK2⟩

set_option maxHeartbeats 4000000 in
set_option maxRecDepth 100000 in
theorem joins_some (a b c p q : List UInt8) (w : World) (ha : a.length ≤ 3000) (hb : b.length ≤ 3000) (hc : c.length ≤ 3000) (hp : normB a = some p) (hq : normB b = some q) :
    Calls Try.prog 7 #[.string (str a), .string (str b), .string (str c)] w fun e w' => e = .returned (.bool true) ∧ Kept [] w w' := by
  have sa : ((str a).size : Int) = a.length := by rw [str_size]
  have sb : ((str b).size : Int) = b.length := by rw [str_size]
  have sc : ((str c).size : Int) = c.length := by rw [str_size]
  have sp : ((str p).size : Int) = p.length := by rw [str_size]
  have sq : ((str q).size : Int) = q.length := by rw [str_size]
  have ia : (a.length : Int) ≤ 3000 := by omega
  have ib : (b.length : Int) ≤ 3000 := by omega
  have ic : (c.length : Int) ≤ 3000 := by omega
  have lp := normB_len hp
  have lq := normB_len hq
  have ip : (p.length : Int) ≤ 64 := by omega
  have iq : (q.length : Int) ≤ 64 := by omega
  have cP := fun w => normal_call a w (by omega)
  have cQ := fun w => normal_call b w (by omega)
  obtain ⟨j, k, hj, hk, n1, n2, n3, hparts, hjoin⟩ := norm_join hp hq
  rw [hp] at cP
  rw [hq] at cQ
  have c1 := fun w => normal_call ([47, 46, 47] ++ a ++ [47, 47, 46, 47] ++ b ++ [47]) w (by simp; omega)
  have c2 := fun w => normal_call (p ++ [47] ++ q) w (by simp; omega)
  have c3 := fun w => normal_call (a ++ [47, 120, 47, 46, 46, 47] ++ [121, 47, 46, 46]) w (by simp; omega)
  rw [n1] at c1
  rw [n2] at c2
  rw [n3] at c3
  have s1 : (⟨#[47, 46, 47]⟩ : ByteArray) ++ str a ++ ⟨#[47, 47, 46, 47]⟩ ++ str b ++ ⟨#[47]⟩ = str ([47, 46, 47] ++ a ++ [47, 47, 46, 47] ++ b ++ [47]) := by
    rw [← str_app, ← str_app, ← str_app, ← str_app]; rfl
  have s2 : str p ++ ⟨#[47]⟩ ++ str q = str (p ++ [47] ++ q) := by
    rw [← str_app, ← str_app]; rfl
  have s3 : str a ++ ⟨#[47, 120, 47, 46, 46, 47]⟩ ++ ⟨#[121, 47, 46, 46]⟩ = str (a ++ [47, 120, 47, 46, 46, 47] ++ [121, 47, 46, 46]) := by
    rw [← str_app, ← str_app]; rfl
  have s4 : str (p ++ [47] ++ q) ++ ⟨#[47]⟩ ++ str c = str (p ++ [47] ++ q ++ [47] ++ c) := by
    rw [← str_app (p ++ [47] ++ q ++ [47]), ← str_app (p ++ [47] ++ q)]; rfl
  have hl2 : (p ++ [47] ++ q).length = p.length + 1 + q.length := by simp; omega
  have sL : ((str (p ++ [47] ++ q)).size : Int) = p.length + 1 + q.length := by rw [str_size, hl2]; omega
  have cD := fun w => deep_call (p ++ [47] ++ q) w (by omega)
  have cW := fun w => within_call p (p ++ [47] ++ q ++ [47] ++ c) w
  rw [(withinB_iff p _).2 (.inr (.inr ⟨q ++ [47] ++ c, by simp⟩))] at cW
  rw [hparts] at cD
  have hno : finB (j ++ k) = none → 8 < (j ++ k).length ∨ 64 < p.length + 1 + q.length := fun h => by
    rcases norm_join_not hj hk h with h1 | h1
    · exact .inl h1
    · rw [hjoin, hl2] at h1; exact .inr h1
  have hyes : ∀ r, finB (j ++ k) = some r → r = p ++ [47] ++ q := fun r h => by rw [← hjoin]; exact (finB_some h).2.2.2.2
  generalize hL1 : [47, 46, 47] ++ a ++ [47, 47, 46, 47] ++ b ++ [47] = L1 at *
  generalize hL2 : p ++ [47] ++ q = L2 at *
  generalize hL3 : a ++ [47, 120, 47, 46, 46, 47] ++ [121, 47, 46, 46] = L3 at *
  generalize hL4 : L2 ++ [47] ++ c = L4 at *
  generalize (j ++ k).length = D at *
  clear hL1 hL2 hL3 hL4 hjoin hparts hj hk n1 n2 n3 hp hq hl2
  cases hO : finB (j ++ k) with
  | some r =>
    obtain rfl := hyes r hO
    rw [hO] at c1 c2
    clear hyes hno hO cD cW s4
    unfold tup at cP cQ c1 c2 c3
    go_enter Try.func7, Try.ntmps7
    go_wp2_with fail
    refine (awake_call _).mono ?_
    rintro e w0 ⟨rfl, hK0⟩
    go_wp2_with fail
    refine (cP _).mono ?_
    rintro e w1 ⟨rfl, hK1⟩
    replace hK1 := hK0.trans hK1 (by simp)
    go_wp2_with fail
    refine (cQ _).mono ?_
    rintro e w2 ⟨rfl, hK2⟩
    replace hK2 := hK1.trans hK2 (by simp)
    clear hK0 hK1 cP cQ
    go_wp2_with fail
    refine (c1 _).mono ?_
    rintro e w3 ⟨rfl, hK3⟩
    replace hK3 := hK2.trans hK3 (by simp)
    go_wp2_with fail
    refine (c2 _).mono ?_
    rintro e w4 ⟨rfl, hK4⟩
    replace hK4 := hK3.trans hK4 (by simp)
    go_wp2_with fail
    refine (c3 _).mono ?_
    rintro e w5 ⟨rfl, hK5⟩
    replace hK5 := hK4.trans hK5 (by simp)
    clear hK2 hK3 hK4 c1 c2 c3
    go_wp2_with fail
    go_ret
    exact ⟨rfl, hK5⟩
  | none =>
    replace hno := hno hO
    rw [hO] at c1 c2
    clear hyes hO
    unfold tup at cP cQ c1 c2 c3
    rcases (show (64 < (p.length : Int) + 1 + q.length) ∨ ((p.length : Int) + 1 + q.length ≤ 64 ∧ 8 < (D : Int)) from by omega) with h64 | ⟨h64, h8⟩
    all_goals
      clear hno
      go_enter Try.func7, Try.ntmps7
      go_wp2_with fail
      refine (awake_call _).mono ?_
      rintro e w0 ⟨rfl, hK0⟩
      go_wp2_with fail
      refine (cP _).mono ?_
      rintro e w1 ⟨rfl, hK1⟩
      replace hK1 := hK0.trans hK1 (by simp)
      go_wp2_with fail
      refine (cQ _).mono ?_
      rintro e w2 ⟨rfl, hK2⟩
      replace hK2 := hK1.trans hK2 (by simp)
      clear hK0 hK1 cP cQ
      go_wp2_with fail
      refine (c1 _).mono ?_
      rintro e w3 ⟨rfl, hK3⟩
      replace hK3 := hK2.trans hK3 (by simp)
      go_wp2_with fail
      refine (c2 _).mono ?_
      rintro e w4 ⟨rfl, hK4⟩
      replace hK4 := hK3.trans hK4 (by simp)
      go_wp2_with fail
      refine (c3 _).mono ?_
      rintro e w5 ⟨rfl, hK5⟩
      replace hK5 := hK4.trans hK5 (by simp)
      clear hK2 hK3 hK4 c1 c2 c3
      go_wp2_with fail
    · go_ret
      exact ⟨rfl, hK5⟩
    · refine (cW _).mono ?_
      rintro e w6 ⟨rfl, hK6⟩
      replace hK6 := hK5.trans hK6 (by simp)
      go_wp2_with fail
      refine (cD _).mono ?_
      rintro e w7 ⟨rfl, rfl⟩
      go_wp2_with fail
      go_ret
      exact ⟨rfl, hK6⟩

set_option maxHeartbeats 4000000 in
set_option maxRecDepth 100000 in
theorem joins_walk (w : World) (a : List UInt8) (ha : a.length ≤ maxLen) (b : List UInt8) (hb : b.length ≤ maxLen) (c : List UInt8) (hc : c.length ≤ maxLen) :
    Calls Try.prog 7 #[.string (str a), .string (str b), .string (str c)] w fun e w' => e = .returned (.bool true) ∧ Kept [] w w' := by
  unfold maxLen at ha hb hc
  by_cases h : a.length ≤ 3000 ∧ b.length ≤ 3000 ∧ c.length ≤ 3000
  · cases hp : normB a with
    | none => exact joins_none a b c w h.1 h.2.1 h.2.2 (.inl hp)
    | some p =>
      cases hq : normB b with
      | none => exact joins_none a b c w h.1 h.2.1 h.2.2 (.inr hq)
      | some q => exact joins_some a b c p q w h.1 h.2.1 h.2.2 hp hq
  · have sa : ((str a).size : Int) = a.length := by rw [str_size]
    have sb : ((str b).size : Int) = b.length := by rw [str_size]
    have sc : ((str c).size : Int) = c.length := by rw [str_size]
    rcases (show 3000 < (a.length : Int) ∨ ((a.length : Int) ≤ 3000 ∧ 3000 < (b.length : Int)) ∨ ((a.length : Int) ≤ 3000 ∧ (b.length : Int) ≤ 3000 ∧ 3000 < (c.length : Int)) from by omega) with h1 | ⟨h1, h2⟩ | ⟨h1, h2, h3⟩
    all_goals
      go_enter Try.func7, Try.ntmps7
      go_wp2_with fail
      refine (awake_call _).mono ?_
      rintro e w0 ⟨rfl, hK0⟩
      go_wp2_with fail
      go_ret
      exact ⟨rfl, hK0⟩

end Go.Proofs.Ytlkdmeeifljacaa
