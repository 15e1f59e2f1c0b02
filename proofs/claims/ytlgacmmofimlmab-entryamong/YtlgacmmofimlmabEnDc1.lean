/-
  The document's good, mayChanges, own.
-/
import Derived.Test.YtlgacmmofimlmabEnDcP
import Derived.Test.YtlgacmmofimlmabF2
import Derived.Test.YtlgacmmofimlmabBoxGd
namespace Go.Proofs.Ytlgacmmofimlmab
open Go.RowKit

set_option maxHeartbeats 1000000 in
theorem good_call (w : World) (n : Int) : Calls Try.prog 26 #[.int .i64 n] w fun r w' => r = .returned (.bool (goodB n)) ∧ w = w' := by
  by_cases h0 : 0 ≤ n
  · have h0' : decide (0 ≤ n) = true := decide_eq_true h0
    by_cases h1 : n ≤ 1099511627776
    · have hg : goodB n = true := (good_iff n).2 ⟨h0, h1⟩
      rw [hg]
      clear hg
      go_enter Try.func26, Try.ntmps26
      go_wp2_with fail
      go_ret
      exact ⟨rfl, rfl⟩
    · have hg : goodB n = false := by rw [Bool.eq_false_iff]; intro h; exact h1 ((good_iff n).1 h).2
      rw [hg]
      clear hg
      go_enter Try.func26, Try.ntmps26
      go_wp2_with fail
      go_ret
      exact ⟨rfl, rfl⟩
  · have hg : goodB n = false := by rw [Bool.eq_false_iff]; intro h; exact h0 ((good_iff n).1 h).1
    rw [hg]
    clear hg
    go_enter Try.func26, Try.ntmps26
    go_wp2_with fail
    go_ret
    exact ⟨rfl, rfl⟩

def cOk (c : Ch) : Bool := decide (c.p.length ≤ 255) && !(c.g && decide (c.d ≠ 0))

def McJ (L : List Ch) (jv : Value) : Prop := ∃ j : Nat, jv = .int .i64 (j : Int) ∧ j ≤ L.length ∧ Hid (∀ q (h : q < L.length), q < j → cOk L[q] = true)

set_option maxHeartbeats 4000000 in
theorem mayC_call (w : World) (ao : Option Addr) (n c : Nat) (L : List Ch) (hS : SlC w ao n c L) :
    Calls Try.prog 28 #[.slice ao n c] w fun r w' => r = .returned (.bool (mcB L)) ∧ w = w' := by
  have hl := hS.1
  have hc := hS.2.1
  have hm := hS.2.2.1
  unfold maxLen at hm
  have HS := hide hS
  clear hS
  by_cases hn : 64 < n
  · have hn' : (64 : Int) < n := by omega
    have hb : mcB L = false := by unfold mcB; rw [decide_eq_false (by omega)]; rfl
    rw [hb]
    clear hb
    go_enter Try.func28, Try.ntmps28
    go_wp2_with fail
    go_ret
    exact ⟨rfl, rfl⟩
  have hn' : ¬ (64 : Int) < n := by omega
  have HN : Hid (L.length ≤ 64) := by show L.length ≤ 64; omega
  go_enter Try.func28, Try.ntmps28
  go_wp2_with fail
  go_loop [3] (fun jv => McJ L jv) (fun jv => n - (intOf jv).toNat)
  case atStart => exact ⟨0, rfl, Nat.zero_le _, fun j h h2 => by omega⟩
  case round =>
    obtain ⟨j, rfl, hj, HJ⟩ := hrel
    by_cases hjl : j < n
    · have hjl' : (j : Int) < n := by omega
      have hjc : j ≤ c := by omega
      have hjn : j < L.length := by omega
      obtain ⟨g2, o2, rfl, hy⟩ := HS.out.2.2.2 j hjn
      obtain ⟨y, hye⟩ : ∃ y, y = L[j]'hjn := ⟨_, rfl⟩
      rw [← hye] at hy
      have HY : Hid (y = L[j]'hjn) := hye
      obtain ⟨yp, yg, yd⟩ := y
      obtain ⟨d0, d1, d2⟩ := hy
      simp only at d0 d1 d2
      have hsy : (str yp).size = yp.length := str_size _
      clear hye
      by_cases hp : 255 < yp.length
      · have hp' : (255 : Int) < yp.length := by omega
        have HB : Hid (mcB L = false) := by
          rw [Bool.eq_false_iff]
          intro h
          unfold mcB at h
          simp only [Bool.and_eq_true] at h
          have h2 := List.all_eq_true.1 h.2 _ (List.getElem_mem hjn)
          rw [HY.out.symm] at h2
          exact absurd h2 (by simp; omega)
        clear HY
        go_wp2_with fail
        go_ret
        rw [HB.out]
        exact ⟨rfl, rfl⟩
      have hp' : ¬ (255 : Int) < yp.length := by omega
      cases yg
      · clear d2
        have HJ2 : Hid (∀ q (h : q < L.length), q < j + 1 → cOk L[q] = true) := fun q h h2 => by
          by_cases e : q = j
          · subst e; rw [← HY.out]; unfold cOk; simp; omega
          · exact HJ.out q h (by omega)
        clear HY
        go_wp2_with fail
        go_round
        case rel => exact ⟨j + 1, by go_num, by omega, HJ2⟩
        case measure => simp [intOf]; omega
      by_cases hd : yd = 0
      · subst hd
        have HJ2 : Hid (∀ q (h : q < L.length), q < j + 1 → cOk L[q] = true) := fun q h h2 => by
          by_cases e : q = j
          · subst e; rw [← HY.out]; unfold cOk; simp; omega
          · exact HJ.out q h (by omega)
        clear HY
        go_wp2_with fail
        go_round
        case rel => exact ⟨j + 1, by go_num, by omega, HJ2⟩
        case measure => simp [intOf]; omega
      · have hd' : (yd != 0) = true := by simpa using hd
        have HB : Hid (mcB L = false) := by
          rw [Bool.eq_false_iff]
          intro h
          unfold mcB at h
          simp only [Bool.and_eq_true] at h
          have h2 := List.all_eq_true.1 h.2 _ (List.getElem_mem hjn)
          rw [HY.out.symm] at h2
          exact absurd h2 (by simp; omega)
        clear HY
        go_wp2_with fail
        go_ret
        rw [HB.out]
        exact ⟨rfl, rfl⟩
    · have hjl' : ¬ (j : Int) < n := by omega
      have HB : Hid (mcB L = true) := by
        show mcB L = true
        unfold mcB
        simp only [Bool.and_eq_true, decide_eq_true_eq, List.all_eq_true]
        refine ⟨HN.out, fun y hy => ?_⟩
        obtain ⟨q, hq, rfl⟩ := List.getElem_of_mem hy
        have h1 := HJ.out q hq (by omega)
        unfold cOk at h1
        simpa using h1
      go_wp2_with fail
      go_ret
      rw [HB.out]
      exact ⟨rfl, rfl⟩

end Go.Proofs.Ytlgacmmofimlmab
