/-
  A reader as an object: what is left of its bytes, what it failed by; the call Num.
-/
import Derived.Test.YtfmklcnilmhnbaaRd2
namespace Go.Proofs.Ytfmklcnilmhnbaa
open Go.RowKit

/-- A reader at block p, its bytes in the blocks F: l is left; it failed by e (0: not yet). -/
def Rd (w : World) (p : Nat) (F : List Nat) (l : List Int) (e : Int) : Prop :=
  ∃ ao c, RdAt w p (.slice ao l.length c) e ∧ Sl w ao l.length c l ∧ (∀ k ∈ blk ao, k ∈ F) ∧ p ∉ F ∧ Oct l ∧ (e ≠ 0 → l = [])

theorem Rd.kept {S : List Nat} {a w : World} (h : Kept S a w) {p : Nat} {F : List Nat} {l : List Int} {e : Int} (hr : Rd a p F l e) (hp : p ∉ S) (hF : ∀ k ∈ F, k ∉ S) : Rd w p F l e := by
  obtain ⟨ao, c, h1, h2, h3, h4, h5, h6⟩ := hr
  exact ⟨ao, c, h.at h1 hp, Sl.kept h h2 (fun k hk => hF k (h3 k hk)), h3, h4, h5, h6⟩

theorem Rd.lt {w : World} {p : Nat} {F : List Nat} {l : List Int} {e : Int} (hr : Rd w p F l e) : p < w.heap.size := by
  obtain ⟨ao, c, h1, _⟩ := hr
  exact lt_of_at h1

/-- NewReader. -/
theorem newReader_call (w : World) (ao : Option Addr) (n c : Nat) (l : List Int) (hs : Sl w ao n c l) (hbig : n ≤ 140737488355328) (ho : Oct l) :
    Calls Try.prog 10 #[.slice ao n c] w fun e w' => ∃ p F, e = .returned (.pointer (some ⟨p, 0, none⟩)) ∧ w.heap.size ≤ p ∧ (∀ k ∈ F, w.heap.size ≤ k) ∧ (∀ k ∈ F, k < w'.heap.size) ∧ Rd w' p F l 0 ∧ Kept [] w w' := by
  refine (newReader_any w ao n c l hs hbig).mono ?_
  rintro _ w' ⟨p, a, c', rfl, hp, hR, hs', hb, hk⟩
  refine ⟨p, blk a, rfl, hp, fun k hk => (hb k hk).1, fun k hk => by have := hb k hk; have := lt_of_at hR; omega, ⟨a, c', ?_, ?_, fun k hk => hk, fun h => by have := hb p h; omega, ho, by simp⟩, hk⟩
  · rw [hs'.1]; exact hR
  · rw [hs'.1]; exact hs'

theorem rdN_shape (f i : Nat) (acc : Int) (l : List Int) : ((rdN f i acc l).1 = 0 ∧ ∃ k, (rdN f i acc l).2.2 = l.drop k) ∨ ((rdN f i acc l).1 ≠ 0 ∧ (rdN f i acc l).2 = (0, [])) := by
  induction f generalizing i acc l with
  | zero => right; simp [rdN]
  | succ f ih =>
    cases l with
    | nil => right; simp [rdN]
    | cons d l =>
      rw [rdN]
      split
      · rcases ih (i + 1) (acc + d % 128 * 2 ^ (7 * i)) l with ⟨h1, k, h2⟩ | h
        · exact .inl ⟨h1, k + 1, by simpa using h2⟩
        · exact .inr h
      · split
        · right; simp
        · left; exact ⟨rfl, 1, rfl⟩

theorem rdNum_oct {l : List Int} (ho : Oct l) : Oct (rdNum l).2.2 := by
  rcases rdN_shape 6 0 0 l with ⟨_, k, h⟩ | ⟨_, h⟩
  · show Oct (rdN 6 0 0 l).2.2; rw [h]; exact ho.drop k
  · show Oct (rdN 6 0 0 l).2.2; rw [h]; intro x hx; simp at hx

/-- What a call of Num comes to, at a reader that failed by e. -/
def rdNumE (e : Int) (l : List Int) : Int × Int × List Int := if e = 0 then rdNum l else (e, 0, [])

theorem enter_number (a : Array Value) (w : World) : Sem.run Try.prog (callFunc 36 a) w = .ok (.enter 36 a) w := by kernel_rfl

theorem number_step (w : World) (p : Nat) (ao : Option Addr) (n c : Nat) (l : List Int) (hR : RdAt w p (.slice ao n c) 0) (hs : Sl w ao n c l) (hp : p ∉ blk ao) (ho : Oct l) :
    Calls Try.prog 36 #[.pointer (some ⟨p, 0, none⟩)] w (Step p ao (fun _ x rest => ∃ y, x = .int .i64 y ∧ rdNum l = (0, y, rest)) (fun e => rdNum l = (e, 0, [])) w) := by
  refine (number_any w p ao n c l hR hs hp ho).mono ?_
  rintro r w' (⟨a, c', rest, x, h1, rfl, h2, h3, h4, h5⟩ | ⟨e, v, h1, h2, rfl, h3, h4⟩)
  · exact ⟨h5, .inl ⟨_, a, c', rest, rfl, h2, h3, fun k hk => by rw [h4] at hk; exact hk, x, rfl, h1⟩⟩
  · exact ⟨h4, .inr ⟨e, v, rfl, h2, h3, h1⟩⟩

set_option maxHeartbeats 400000 in
theorem num_call (w : World) (p : Nat) (F : List Nat) (l : List Int) (e : Int) (hr : Rd w p F l e) :
    Calls Try.prog 11 #[.pointer (some ⟨p, 0, none⟩)] w fun r w' => r = .returned (.int .i64 (rdNumE e l).2.1) ∧ Rd w' p F (rdNumE e l).2.2 (rdNumE e l).1 ∧ Kept [p] w w' := by
  obtain ⟨ao, c, h1, h2, h3, h4, h5, h6⟩ := hr
  have H1 : Hid (RdAt w p (.slice ao l.length c) e) := h1
  have H2 : Hid (Sl w ao l.length c l) := h2
  clear h1 h2
  by_cases he : e = 0
  · subst he
    have hcf := enter_number
    go_enter Try.func11, Try.ntmps11
    go_wp2_with fail
    refine (readInt _ p ao _ c l H1.out H2.out 36 enter_number #[] _ _ (fun w1 hk hR1 hs1 => number_step w1 p ao _ c l hR1 hs1 (fun h => h4 (h3 p h)) h5)).mono ?_
    rintro _ w1 ⟨hk, x, a, c', rest, e, rfl, hR, hs, hb, h7⟩
    have hx : ∃ y, x = .int .i64 y ∧ rdNum l = (e, y, rest) := by
      rcases h7 with ⟨rfl, y, rfl, h8⟩ | ⟨h8, h9, rfl, rfl⟩
      · exact ⟨y, rfl, h8⟩
      · exact ⟨0, rfl, h9⟩
    obtain ⟨y, rfl, h8⟩ := hx
    have H8 : Hid (rdNum l = (e, y, rest)) := h8
    have h10 : e ≠ 0 → rest = [] := by
      intro he
      rcases h7 with ⟨h, _⟩ | ⟨_, _, _, h⟩
      · exact absurd h he
      · exact h
    have h11 : Oct rest := by have := rdNum_oct h5; rw [h8] at this; exact this
    clear h8 h7
    go_wp2
    go_ret
    have h12 : rdNumE 0 l = (e, y, rest) := by unfold rdNumE; rw [if_pos rfl]; exact H8.out
    rw [h12]
    exact ⟨rfl, ⟨a, c', hR, hs, fun k hk => h3 k (hb k hk), h4, h11, h10⟩, hk⟩
  · have hl := h6 he
    subst hl
    have HE : Hid (¬ e = 0) := he
    clear he h6
    go_enter Try.func11, Try.ntmps11
    go_wp2_with fail
    refine (readInt_failed _ p _ e H1.out HE.out _).mono ?_
    rintro _ w1 ⟨rfl, hk⟩
    go_wp2
    go_ret
    have h12 : rdNumE e [] = (e, 0, []) := by unfold rdNumE; rw [if_neg HE.out]
    rw [h12]
    exact ⟨rfl, Rd.kept hk ⟨ao, c, H1.out, H2.out, h3, h4, h5, fun _ => rfl⟩ (by simp) (by simp), hk.mono (by simp)⟩

theorem fail_call (w : World) (p : Nat) (F : List Nat) (l : List Int) (e : Int) (hr : Rd w p F l e) :
    Calls Try.prog 14 #[.pointer (some ⟨p, 0, none⟩)] w fun r w' => r = .returned (.int .i64 e) ∧ w = w' := by
  obtain ⟨ao, c, h1, _⟩ := hr
  exact fail_any w p _ e h1

theorem left_call (w : World) (p : Nat) (F : List Nat) (l : List Int) (e : Int) (hr : Rd w p F l e) :
    Calls Try.prog 29 #[.pointer (some ⟨p, 0, none⟩)] w fun r w' => r = .returned (.int .i64 l.length) ∧ w = w' := by
  obtain ⟨ao, c, h1, _⟩ := hr
  exact left_any w p _ _ _ e h1

theorem end_call (w : World) (p : Nat) (F : List Nat) (l : List Int) (e : Int) (hr : Rd w p F l e) :
    Calls Try.prog 28 #[.pointer (some ⟨p, 0, none⟩)] w fun r w' => r = .returned (.int .i64 (if e = 0 then (if l.length = 0 then 0 else 3) else e)) ∧ w = w' := by
  obtain ⟨ao, c, h1, _⟩ := hr
  exact end_any w p _ _ _ e h1

end Go.Proofs.Ytfmklcnilmhnbaa
