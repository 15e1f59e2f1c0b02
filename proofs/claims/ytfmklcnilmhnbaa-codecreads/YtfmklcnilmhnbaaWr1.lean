/-
  A writer as an object: what it wrote, what it failed by; the calls NewWriter, Num, Done.
-/
import Derived.Test.YtfmklcnilmhnbaaWr0
namespace Go.Proofs.Ytfmklcnilmhnbaa
open Go.RowKit

/-- A writer at block p, its bytes in block g: l is written; it failed by e (0: not yet). -/
def Wr (w : World) (p : Nat) (g : Option Nat) (l : List Int) (e : Int) : Prop :=
  ∃ v, WrAt w p v e ∧ Own w v l ∧ v.ownBlock = g ∧ g ≠ some p ∧ Oct l ∧ (e ≠ 0 → v = .slice none 0 0 ∧ l = [])

theorem Wr.kept {S : List Nat} {a w : World} (h : Kept S a w) {p : Nat} {g : Option Nat} {l : List Int} {e : Int} (hr : Wr a p g l e) (hp : p ∉ S) (hg : ∀ k, g = some k → k ∉ S) : Wr w p g l e := by
  obtain ⟨v, h1, h2, h3, h4, h5, h6⟩ := hr
  exact ⟨v, h.at h1 hp, h.ownsRow h2 (fun k hk => hg k (by rw [← h3]; exact hk)), h3, h4, h5, h6⟩

theorem Wr.lt {w : World} {p : Nat} {g : Option Nat} {l : List Int} {e : Int} (hr : Wr w p g l e) : p < w.heap.size ∧ ∀ k, g = some k → k < w.heap.size := by
  obtain ⟨v, h1, h2, h3, _⟩ := hr
  exact ⟨lt_of_at h1, fun k hk => (h2.lt k (by rw [h3]; exact hk)).2⟩

/-- The block is where it was, or new. -/
def Fresh (w : World) (g g' : Option Nat) : Prop := ∀ k, g' = some k → g = some k ∨ w.heap.size ≤ k

theorem Fresh.refl (w : World) (g : Option Nat) : Fresh w g g := fun _ h => .inl h
theorem Fresh.trans {w w1 : World} {a b c : Option Nat} (h1 : Fresh w a b) (h2 : Fresh w1 b c) (h : w.heap.size ≤ w1.heap.size) : Fresh w a c := fun k hk => by
  rcases h2 k hk with h3 | h3
  · exact h1 k h3
  · exact .inr (by omega)

set_option maxHeartbeats 400000 in
theorem newWriter_call (w : World) :
    Calls Try.prog 17 #[] w fun r w' => r = .returned (.pointer (some ⟨w.heap.size, 0, none⟩)) ∧ Wr w' w.heap.size none [] 0 ∧ Kept [] w w' := by
  go_enter Try.func17, Try.ntmps17
  go_wp2
  go_ret
  exact ⟨rfl, ⟨.slice none 0 0, heap_alloc_new _ _, World.ownsRow_nil _ _ _ _, rfl, by simp, by intro x hx; simp at hx, by simp⟩, (Kept.refl _ _).alloc _⟩

/-- What a writer comes to when a number is written. -/
def wrNum (e : Int) (l : List Int) (n : Int) : List Int × Int := if e = 0 then (if 0 ≤ n ∧ n ≤ 1099511627776 then (l ++ encNum n, 0) else ([], 1)) else ([], e)

theorem encNum_oct (n : Int) (h0 : 0 ≤ n) (h1 : n ≤ 1099511627776) : Oct (encNum n) := enc_oct 5 n h0 (by omega)

theorem Oct.append {l m : List Int} (h : Oct l) (k : Oct m) : Oct (l ++ m) := fun x hx => by
  rcases List.mem_append.1 hx with h1 | h1
  · exact h x h1
  · exact k x h1

/-- What each writing call leaves. -/
def Wrote (w : World) (p : Nat) (g : Option Nat) (q : List Int × Int) (r : Ending) (w' : World) : Prop :=
  r = .returned (.tuple #[]) ∧ ∃ g', Wr w' p g' q.1 q.2 ∧ Fresh w g g' ∧ Kept (p :: g.toList) w w'

theorem oct_nil : Oct [] := by intro x hx; simp at hx

theorem Wrote.failed {w w' : World} {p : Nat} {g : Option Nat} {e : Int} (h1 : WrAt w' p (.slice none 0 0) e) (h2 : Kept [p] w w') : Wrote w p g ([], e) (.returned (.tuple #[])) w' :=
  ⟨rfl, none, ⟨_, h1, World.ownsRow_nil _ _ _ _, rfl, by simp, oct_nil, fun _ => ⟨rfl, rfl⟩⟩, fun k hk => by simp at hk, h2.mono (by simp)⟩

set_option maxHeartbeats 1000000 in
theorem wnum_call (w : World) (p : Nat) (g : Option Nat) (l : List Int) (e n : Int) (hw : Wr w p g l e) (hl : l.length ≤ 1000000000) :
    Calls Try.prog 30 #[.pointer (some ⟨p, 0, none⟩), .int .i64 n] w (Wrote w p g (wrNum e l n)) := by
  obtain ⟨v, h1, h2, h3, h4, h5, h6⟩ := hw
  have H1 : Hid (WrAt w p v e) := h1
  have H2 : Hid (Own w v l) := h2
  obtain ⟨c0, c1, c2, c3⟩ := h1.cells
  clear h1 h2
  by_cases he : e = 0
  · subst he
    by_cases hn : 0 ≤ n ∧ n ≤ 1099511627776
    · obtain ⟨hn0, hn1⟩ := hn
      have hq : wrNum 0 l n = (l ++ encNum n, 0) := by unfold wrNum; rw [if_pos rfl, if_pos ⟨hn0, hn1⟩]
      have HQ : Hid (wrNum 0 l n = (l ++ encNum n, 0)) := hq
      clear hq
      go_enter Try.func30, Try.ntmps30
      go_wp2_with fail
      refine (writes_any _ _ _ _ H1.out).mono ?_
      rintro _ _ ⟨rfl, rfl⟩
      go_wp2_with fail
      refine (appendNumber_any _ _ _ _ H2.out hn0 hn1 hl).mono ?_
      rintro _ w1 ⟨v', rfl, hO, hfr, hk⟩
      have hpS : p ∉ v.ownBlock.toList := by rw [h3]; simp; exact h4
      have hA1 : WrAt w1 p v 0 := hk.at H1.out hpS
      obtain ⟨d0, d1, d2, d3⟩ := hA1.cells
      have hv' : ∃ a n c, v' = .slice a n c := by
        obtain ⟨_, h | ⟨g, cap, cur, h, _⟩⟩ := hO
        · exact ⟨_, _, _, h.1⟩
        · exact ⟨_, _, _, h⟩
      obtain ⟨a', n', c', rfl⟩ := hv'
      clear c0 c1 c2 c3
      go_wp2
      go_end0
      have hpw := lt_of_at H1.out
      have hne : (Value.slice a' n' c').ownBlock ≠ some p := by
        intro h7
        rcases hfr p h7 with h8 | h8
        · exact h4 (by rw [← h3]; exact h8)
        · omega
      rw [HQ.out]
      refine ⟨rfl, _, ⟨_, hA1.set1 _, ?_, rfl, hne, h5.append (encNum_oct n hn0 hn1), by simp⟩, ?_, ?_⟩
      · exact (show Kept [p] w1 _ from (Kept.refl _ _).setCell (by simp) _).ownsRow hO (by intro k hk h7; simp at h7; subst h7; exact hne hk)
      · intro k hk
        rcases hfr k hk with h8 | h8
        · exact .inl (by rw [← h3]; exact h8)
        · exact .inr h8
      · exact (hk.mono (T := p :: g.toList) (by rw [h3]; intro i hi; exact .inl (by simp at hi ⊢; exact .inr hi))).setCell (by simp) _
    · have hq : wrNum 0 l n = ([], 1) := by unfold wrNum; rw [if_pos rfl, if_neg hn]
      have HQ : Hid (wrNum 0 l n = ([], 1)) := hq
      clear hq
      rcases (show n < 0 ∨ (¬ n < 0 ∧ 1099511627776 < n) by omega) with hn2 | ⟨hn2, hn3⟩
      all_goals
        clear hn
        go_enter Try.func30, Try.ntmps30
        go_wp2_with fail
        refine (writes_any _ _ _ _ H1.out).mono ?_
        rintro _ _ ⟨rfl, rfl⟩
        go_wp2_with fail
        refine (wfail_any _ _ _ _ _ H1.out).mono ?_
        rintro _ w1 ⟨rfl, hA1, hk⟩
        go_wp2
        go_returns
        rw [HQ.out]
        exact Wrote.failed hA1 hk
  · have hq : wrNum e l n = ([], e) := by unfold wrNum; rw [if_neg he]
    have HQ : Hid (wrNum e l n = ([], e)) := hq
    obtain ⟨rfl, rfl⟩ := h6 he
    have hb : (e == 0) = false := by simp [he]
    clear hq he h6
    go_enter Try.func30, Try.ntmps30
    go_wp2_with fail
    refine (writes_any _ _ _ _ H1.out).mono ?_
    rintro _ _ ⟨rfl, rfl⟩
    go_wp2
    go_returns
    rw [HQ.out]
    exact Wrote.failed H1.out (Kept.refl _ _)

end Go.Proofs.Ytfmklcnilmhnbaa
