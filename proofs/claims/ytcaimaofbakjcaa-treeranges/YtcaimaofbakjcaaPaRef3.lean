/-
  The document's own Within.
-/
import Derived.Test.YtcaimaofbakjcaaPaRef1
namespace Go.Proofs.Ytcaimaofbakjcaa
open Go.RowKit

theorem str_app (a b : List UInt8) : str a ++ str b = str (a ++ b) := by
  rw [str_of (str a ++ str b), ByteArray.data_append, Array.toList_append, str_data, str_data]

theorem eq_str (p q : List UInt8) : ((str p).toList == (str q).toList) = (p == q) := by rw [str_toList, str_toList]

theorem within_not {d p : List UInt8} (h0 : d ≠ []) (h1 : p ≠ d) (h : ¬ ∃ t, p = d ++ 47 :: t) : withinB d p = false := by
  rw [Bool.eq_false_iff]; intro h2
  rcases (withinB_iff _ _).1 h2 with h3 | h3 | h3
  · exact h0 h3
  · exact h1 h3
  · exact h h3

theorem within_hit {d p : List UInt8} (h0 : d ≠ []) (h2 : d.length < p.length) (h3 : p.take d.length = d) : withinB d p = ((p[d.length].toNat : Int) == 47) := by
  obtain ⟨c, t, rfl⟩ : ∃ c t, p = d ++ c :: t := by
    have h4 := (List.take_append_drop d.length p).symm
    rw [List.drop_eq_getElem_cons h2, h3] at h4
    exact ⟨_, _, h4⟩
  have e : (d ++ c :: t)[d.length] = c := by simp
  rw [e]
  by_cases h4 : c = 47
  · subst h4
    rw [(withinB_iff _ _).2 (.inr (.inr ⟨t, rfl⟩))]; rfl
  · rw [within_not h0 (by simp)]
    · have : c.toNat ≠ 47 := fun e => h4 (UInt8.toNat_inj.1 e)
      symm; simp; omega
    · rintro ⟨t', ht⟩
      have := List.append_cancel_left ht
      simp at this
      exact h4 this.1

set_option maxHeartbeats 4000000 in
set_option maxRecDepth 100000 in
theorem rwithin_call (d p : List UInt8) (w : World) (hd : d.length ≤ 140737488355328) :
    Calls Try.prog 38 #[.string (str d), .string (str p)] w fun e w' => e = .returned (.bool (withinB d p)) ∧ w' = w := by
  by_cases h0 : d = []
  · subst h0
    have e0 := str_void
    rw [show withinB [] p = true from rfl]
    go_enter Try.func38, Try.ntmps38
    go_wp2_with fail
    go_ret
    exact ⟨rfl, rfl⟩
  have e0 := str_full h0
  by_cases h1 : p = d
  · have e1 : ((str p).toList == (str d).toList) = true := by rw [eq_str]; simpa using h1
    rw [(withinB_iff _ _).2 (.inr (.inl h1))]
    clear h1
    go_enter Try.func38, Try.ntmps38
    go_wp2_with fail
    go_ret
    exact ⟨rfl, rfl⟩
  have e1 : ((str p).toList == (str d).toList) = false := by rw [eq_str]; simpa using h1
  have sd : ((str d).size : Int) = d.length := by rw [str_size]
  have sp : ((str p).size : Int) = p.length := by rw [str_size]
  by_cases h2 : d.length < p.length
  · have h2i : (d.length : Int) < p.length := by omega
    have hx : (str p).extract 0 d.length = str (p.take d.length) := by
      rw [Lib.extract_eq, str_data]; rfl
    have hlt : d.length < (str p).size := by rw [str_size]; exact h2
    by_cases h3 : p.take d.length = d
    · have e2 : ((str (p.take d.length)).toList == (str d).toList) = true := by rw [eq_str]; simpa using h3
      have hget : (str p)[d.length] = p[d.length] := rfl
      have hR := within_hit h0 h2 h3
      rw [hR]
      clear hR h3
      go_enter Try.func38, Try.ntmps38
      go_wp2_with fail
      go_ret
      exact ⟨rfl, rfl⟩
    · have e2 : ((str (p.take d.length)).toList == (str d).toList) = false := by rw [eq_str]; simpa using h3
      rw [within_not h0 h1 (by rintro ⟨t, ht⟩; exact h3 (by rw [ht]; simp))]
      clear h3
      go_enter Try.func38, Try.ntmps38
      go_wp2_with fail
      go_ret
      exact ⟨rfl, rfl⟩
  · have h2i : ¬ (d.length : Int) < p.length := by omega
    rw [within_not h0 h1 (by rintro ⟨t, ht⟩; rw [ht] at h2; simp at h2)]
    go_enter Try.func38, Try.ntmps38
    go_wp2_with fail
    go_ret
    exact ⟨rfl, rfl⟩

end Go.Proofs.Ytcaimaofbakjcaa
