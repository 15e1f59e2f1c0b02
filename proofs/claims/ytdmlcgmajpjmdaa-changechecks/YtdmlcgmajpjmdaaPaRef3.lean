/-
  The document's own Within.
-/
import Derived.Test.YtdmlcgmajpjmdaaPaRef1
namespace Go.Proofs.Ytdmlcgmajpjmdaa
open Go.RowKit

theorem str_app (a b : List UInt8) : str a ++ str b = str (a ++ b) := by
  rw [str_of (str a ++ str b), ByteArray.data_append, Array.toList_append, str_data, str_data]

theorem eq_str (p q : List UInt8) : ((str p).toList == (str q).toList) = (p == q) := by rw [str_toList, str_toList]

theorem within_not {d p : List UInt8} (h0 : d ≠ []) (h1 : p ≠ d) (h : ¬ ∃ t, p = d ++ 47 :: t) : withinB d p = false := by
  rw [Bool.eq_false_iff]; intro h2
  rcases (withinB_iff _ _).1 h2 with h3 | h3 | h3
  · exact h0 h3
  · exact h1 h3
  · exact h h3

theorem within_hit {d p : List UInt8} (h0 : d ≠ []) (h2 : d.length < p.length) (h3 : p.take d.length = d) : withinB d p = ((p[d.length].toNat : Int) == 47) := by
  obtain ⟨c, t, rfl⟩ : ∃ c t, p = d ++ c :: t := by
    have h4 := (List.take_append_drop d.length p).symm
    rw [List.drop_eq_getElem_cons h2, h3] at h4
    exact ⟨_, _, h4⟩
  have e : (d ++ c :: t)[d.length] = c := by simp
  rw [e]
  by_cases h4 : c = 47
  · subst h4
    rw [(withinB_iff _ _).2 (.inr (.inr ⟨t, rfl⟩))]; rfl
  · rw [within_not h0 (by simp)]
    · have : c.toNat ≠ 47 := fun e => h4 (UInt8.toNat_inj.1 e)
      symm; simp; omega
    · rintro ⟨t', ht⟩
      have := List.append_cancel_left ht
      simp at this
      exact h4 this.1


end Go.Proofs.Ytdmlcgmajpjmdaa
