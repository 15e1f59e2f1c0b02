/-
  path.Within: what is within a path.
-/
import Derived.Test.YtcaimaofbakjcaaPaComp
namespace Go.Proofs.Ytcaimaofbakjcaa
open Go.RowKit

theorem str_toList (l : List UInt8) : (str l).toList = l := by rw [Go.ByteArray.toList_eq, str_data]
theorem str_full {d : List UInt8} (h : d ≠ []) : (str d).toList.isEmpty = false := by rw [str_toList]; cases d <;> simp_all
theorem str_void : (str []).toList.isEmpty = true := by rw [str_toList]; rfl

theorem hasPrefix_call (s p : List UInt8) (w : World) : Calls Try.prog 40 #[.string (str s), .string (str p)] w fun e w' => e = .returned (.bool (p.isPrefixOf s)) ∧ w' = w := by
  have h := Try.strings_HasPrefix (str s) (str p) w
  rw [str_data, str_data] at h
  exact h

theorem cutPrefix_hit (d r : List UInt8) (w : World) : Calls Try.prog 39 #[.string (str (d ++ r)), .string (str d)] w fun e w' => e = .returned (.tuple #[.string (str r), .bool true]) ∧ w' = w := by
  have h := Try.strings_CutPrefix (str (d ++ r)) (str d) w
  have e1 : Lib.hasPrefix (d ++ r) d = true := by simp [Lib.hasPrefix]
  have e2 : Lib.trimPrefix (d ++ r) d = r := by simp [Lib.trimPrefix, e1]
  rw [str_data, str_data, e1, e2] at h
  exact h

theorem cutPrefix_miss (p d : List UInt8) (hp : ¬ d <+: p) (w : World) : Calls Try.prog 39 #[.string (str p), .string (str d)] w fun e w' => e = .returned (.tuple #[.string (str p), .bool false]) ∧ w' = w := by
  have h := Try.strings_CutPrefix (str p) (str d) w
  have e1 : Lib.hasPrefix p d = false := by
    rw [Bool.eq_false_iff]; intro h; exact hp (List.isPrefixOf_iff_prefix.1 h)
  have e2 : Lib.trimPrefix p d = p := by simp [Lib.trimPrefix, e1]
  rw [str_data, str_data, e1, e2] at h
  exact h

set_option maxHeartbeats 4000000 in
set_option maxRecDepth 100000 in
theorem within_call (d p : List UInt8) (w : World) :
    Calls Try.prog 24 #[.string (str d), .string (str p)] w fun e w' => e = .returned (.bool (withinB d p)) ∧ Kept [] w w' := by
  by_cases hd : d = []
  · subst hd
    rw [show withinB [] p = true from rfl]
    have hE := str_void
    go_enter Try.func24, Try.ntmps24
    go_wp2
    go_ret
    exact ⟨rfl, Kept.refl _ _⟩
  · have hE := str_full hd
    by_cases hp : d <+: p
    · obtain ⟨r, hr⟩ := hp
      have cC := cutPrefix_hit d r
      rw [hr] at cC
      cases r with
      | nil =>
        have e3 : withinB d p = true := (withinB_iff _ _).2 (.inr (.inl (by simpa using hr.symm)))
        rw [e3]
        have hV := str_void
        clear hr
        go_enter Try.func24, Try.ntmps24
        go_wp2_with (go_at_call 39; refine (cC _).mono ?_; rintro e w' ⟨rfl, rfl⟩)
        go_ret
        exact ⟨rfl, Kept.refl _ _⟩
      | cons c t =>
        have hF := str_full (d := c :: t) (by simp)
        have cH := hasPrefix_call (c :: t) [47]
        have e3 : withinB d p = List.isPrefixOf [47] (c :: t) := by
          have : ([47] : List UInt8).isPrefixOf (c :: t) = (47 == c) := by simp [List.isPrefixOf]
          rw [this, ← hr]
          by_cases hc : c = 47
          · subst hc
            rw [(withinB_iff _ _).2 (.inr (.inr ⟨t, rfl⟩))]; rfl
          · have h1 : ((47 : UInt8) == c) = false := by simpa using fun e => hc e.symm
            rw [h1, Bool.eq_false_iff]; intro h
            rcases (withinB_iff _ _).1 h with h | h | ⟨t', h⟩
            · exact hd h
            · simp at h
            · have := List.append_cancel_left h; simp at this; exact hc this.1
        rw [e3]
        generalize List.isPrefixOf [47] (c :: t) = b at cH
        generalize c :: t = ct at *
        clear hr e3
        go_enter Try.func24, Try.ntmps24
        go_wp2_with (go_at_call 39; refine (cC _).mono ?_; rintro e w' ⟨rfl, rfl⟩)
        refine (cH _).mono ?_
        rintro e w' ⟨rfl, rfl⟩
        go_wp2
        go_ret
        exact ⟨rfl, Kept.refl _ _⟩
    · have cC := cutPrefix_miss p d hp
      have e3 : withinB d p = false := by
        rw [Bool.eq_false_iff]; intro h
        rcases (withinB_iff _ _).1 h with h | rfl | ⟨t, rfl⟩
        · exact hd h
        · exact hp (List.prefix_refl _)
        · exact hp (List.prefix_append _ _)
      rw [e3]
      go_enter Try.func24, Try.ntmps24
      go_wp2_with (go_at_call 39; refine (cC _).mono ?_; rintro e w' ⟨rfl, rfl⟩)
      go_ret
      exact ⟨rfl, Kept.refl _ _⟩

end Go.Proofs.Ytcaimaofbakjcaa
