/-
  The document's own writer: Done, and a thing.
-/
import Derived.Test.YtfmklcnilmhnbaaRW1
namespace Go.Proofs.Ytfmklcnilmhnbaa
open Go.RowKit

/-- What the document's writer comes to when a thing is written. -/
def rrThing (e : Int) (l : List Int) (t : Th) : List Int × Int :=
  if t.d ≤ 1 then rrNum e l t.n else if t.d = 2 then rrRun e l (strOf t.s) else if t.d = 3 then rrRun e l t.bl else if t.d = 4 then rrFlag e l t.f else if t.d = 5 then rrWord e l t.x else rrRefuse e l

theorem RWrote.from {w wa w' : World} {p : Nat} {g : Option Nat} {q : List Int × Int} {r : Ending} (hK : Kept [] w wa) (h : RWrote wa p g q r w') : RWrote w p g q r w' := by
  obtain ⟨h1, g', h2, h3, h4⟩ := h
  refine ⟨h1, g', h2, fun k hk => ?_, (hK.mono (by simp)).trans h4 (fun i hi => .inl hi)⟩
  rcases h3 k hk with h5 | h5
  · exact .inl h5
  · exact .inr (Nat.le_trans hK.size h5)

def rwOut (e : Int) (l : List Int) : List Int := if e = 0 then l else []

set_option maxHeartbeats 1000000 in
theorem rwdone_call (w : World) (p : Nat) (g : Option Nat) (l : List Int) (e : Int) (hw : RW w p g l e) (hl : l.length ≤ 100000000000) :
    Calls Try.prog 21 #[.pointer (some ⟨p, 0, none⟩)] w fun r w' => ∃ a n c, r = .returned (.tuple #[.slice a n c, .int .i64 e]) ∧ Sl w' a n c (rwOut e l) ∧ (∀ k ∈ blk a, w.heap.size ≤ k ∧ k < w'.heap.size) ∧ Kept [] w w' := by
  obtain ⟨a0, n0, cc0, c0, c1, c3, h1, h2, h3, h4⟩ := hw.cells
  obtain ⟨a1, n1, cc1, hv, hs, _⟩ := own_sl h2
  cases hv
  have HS : Hid (Sl w a0 n0 cc0 l) := hs
  have hn : n0 ≤ 100000000000 := by have := hs.1; omega
  clear hs h1 h2 hw c3
  by_cases he : e = 0
  · subst he
    go_enter Try.func21, Try.ntmps21
    go_wp2_with fail
    refine (copy_call _ _ _ _ _ HS.out hn).mono ?_
    rintro _ w1 ⟨v1, rfl, hO1, hf1, hk1⟩
    obtain ⟨a2, n2, cc2, rfl, hs2, hb2⟩ := own_sl hO1
    have HR : Hid (Sl w1 a2 n2 cc2 l) := hs2
    clear hO1 hs2
    go_wp2
    go_ret2
    exact ⟨a2, n2, cc2, rfl, by unfold rwOut; rw [if_pos rfl]; exact HR.out, fun k hk => ⟨hf1 k (hb2 k hk).2, (hb2 k hk).1⟩, hk1⟩
  · have hb : (e != 0) = true := by simp [he]
    have HE : Hid (¬ e = 0) := he
    clear he
    go_enter Try.func21, Try.ntmps21
    go_wp2
    go_quiet (fail)
    all_goals (try go_wp2)
    all_goals go_ret2
    all_goals exact ⟨none, 0, 0, rfl, by unfold rwOut; rw [if_neg HE.out]; exact Sl.nil _, by simp [blk], (Kept.refl _ _).drewN _⟩

set_option maxHeartbeats 2000000 in
theorem model_call (w : World) (p : Nat) (g : Option Nat) (l : List Int) (e : Int) (t : Th) (hw : RW w p g l e) (hl : l.length ≤ 1000000000) (hs : t.s.size ≤ 9223372036854775807) (hb : Sl w t.bo t.bn t.bc t.bl) (hd : 0 < t.bn → ∀ k ∈ blk t.bo, k ∉ p :: g.toList) :
    Calls Try.prog 19 #[.pointer (some ⟨p, 0, none⟩), .agg #[.int .i64 t.d, .int .i64 t.n, .int .u64 t.x, .string t.s, .slice t.bo t.bn t.bc, .bool t.f]] w (RWrote w p g (rrThing e l t)) := by
  obtain ⟨d, n, x, s, bo, bn, bc, bl, f⟩ := t
  simp only at *
  have hK : Kept [] w (w.alloc (.cells #[.int .i64 d, .int .i64 n, .int .u64 x, .string s, .slice bo bn bc, .bool f] 45)) := (Kept.refl _ _).alloc _
  have hw1 : RW (w.alloc (.cells #[.int .i64 d, .int .i64 n, .int .u64 x, .string s, .slice bo bn bc, .bool f] 45)) p g l e := RW.kept hK hw (by simp) (by simp)
  have hb1 : Sl (w.alloc (.cells #[.int .i64 d, .int .i64 n, .int .u64 x, .string s, .slice bo bn bc, .bool f] 45)) bo bn bc bl := Sl.kept hK hb (by simp)
  have HW : Hid (RW (w.alloc (.cells #[.int .i64 d, .int .i64 n, .int .u64 x, .string s, .slice bo bn bc, .bool f] 45)) p g l e) := hw1
  have HB : Hid (Sl (w.alloc (.cells #[.int .i64 d, .int .i64 n, .int .u64 x, .string s, .slice bo bn bc, .bool f] 45)) bo bn bc bl) := hb1
  have hp := hw.lt
  clear hw hb hw1 hb1
  obtain ⟨wa, hwa⟩ : ∃ wa, wa = w.alloc (.cells #[.int .i64 d, .int .i64 n, .int .u64 x, .string s, .slice bo bn bc, .bool f] 45) := ⟨_, rfl⟩
  rw [← hwa] at hK HW HB
  have HWA : Hid (wa = w.alloc (.cells #[.int .i64 d, .int .i64 n, .int .u64 x, .string s, .slice bo bn bc, .bool f] 45)) := hwa
  clear hwa
  have hcs : (d ≤ 1) ∨ (¬ d ≤ 1 ∧ d = 2) ∨ (¬ d ≤ 1 ∧ d ≠ 2 ∧ d = 3) ∨ (¬ d ≤ 1 ∧ d ≠ 2 ∧ d ≠ 3 ∧ d = 4) ∨ (¬ d ≤ 1 ∧ d ≠ 2 ∧ d ≠ 3 ∧ d ≠ 4 ∧ d = 5) ∨ (¬ d ≤ 1 ∧ d ≠ 2 ∧ d ≠ 3 ∧ d ≠ 4 ∧ d ≠ 5) := by omega
  rcases hcs with h1 | ⟨h1, h2⟩ | ⟨h1, h2, h3⟩ | ⟨h1, h2, h3, h4⟩ | ⟨h1, h2, h3, h4, h5⟩ | ⟨h1, h2, h3, h4, h5⟩
  · have HQ : Hid (rrThing e l ⟨d, n, x, s, bo, bn, bc, bl, f⟩ = rrNum e l n) := by show rrThing e l _ = _; unfold rrThing; rw [if_pos h1]
    go_enter Try.func19, Try.ntmps19
    go_wp2_with fail
    rw [← HWA.out]
    refine (rwnum_call _ _ _ _ _ _ HW.out hl).mono ?_
    rintro r w2 hW2
    have hr := hW2.1
    subst hr
    have HW3 : Hid (RWrote w p g (rrThing e l ⟨d, n, x, s, bo, bn, bc, bl, f⟩) (.returned (.tuple #[])) w2) := by show RWrote w p g (rrThing e l _) _ w2; rw [HQ.out]; exact RWrote.from hK hW2
    clear hW2
    go_wp2
    go_returns
    exact HW3.out
  · have HQ : Hid (rrThing e l ⟨d, n, x, s, bo, bn, bc, bl, f⟩ = rrRun e l (strOf s)) := by show rrThing e l _ = _; unfold rrThing; rw [if_neg h1, if_pos h2]
    have hb2 : (d == 2) = true := by simp; omega
    clear h2
    go_enter Try.func19, Try.ntmps19
    go_wp2_with fail
    rw [← HWA.out]
    refine (rwtext_call _ _ _ _ _ _ HW.out hl hs).mono ?_
    rintro r w2 hW2
    have hr := hW2.1
    subst hr
    have HW3 : Hid (RWrote w p g (rrThing e l ⟨d, n, x, s, bo, bn, bc, bl, f⟩) (.returned (.tuple #[])) w2) := by show RWrote w p g (rrThing e l _) _ w2; rw [HQ.out]; exact RWrote.from hK hW2
    clear hW2
    go_wp2
    go_returns
    exact HW3.out
  · have HQ : Hid (rrThing e l ⟨d, n, x, s, bo, bn, bc, bl, f⟩ = rrRun e l bl) := by show rrThing e l _ = _; unfold rrThing; rw [if_neg h1, if_neg h2, if_pos h3]
    have hb2 : (d == 2) = false := by simp; omega
    have hb3 : (d == 3) = true := by simp; omega
    clear h2 h3
    go_enter Try.func19, Try.ntmps19
    go_wp2_with fail
    rw [← HWA.out]
    refine (rwbytes_call _ _ _ _ _ _ _ _ _ HW.out hl HB.out hd).mono ?_
    rintro r w2 hW2
    have hr := hW2.1
    subst hr
    have HW3 : Hid (RWrote w p g (rrThing e l ⟨d, n, x, s, bo, bn, bc, bl, f⟩) (.returned (.tuple #[])) w2) := by show RWrote w p g (rrThing e l _) _ w2; rw [HQ.out]; exact RWrote.from hK hW2
    clear hW2
    go_wp2
    go_returns
    exact HW3.out
  · have HQ : Hid (rrThing e l ⟨d, n, x, s, bo, bn, bc, bl, f⟩ = rrFlag e l f) := by show rrThing e l _ = _; unfold rrThing; rw [if_neg h1, if_neg h2, if_neg h3, if_pos h4]
    have hb2 : (d == 2) = false := by simp; omega
    have hb3 : (d == 3) = false := by simp; omega
    have hb4 : (d == 4) = true := by simp; omega
    clear h2 h3 h4
    go_enter Try.func19, Try.ntmps19
    go_wp2_with fail
    rw [← HWA.out]
    refine (rwflag_call _ _ _ _ _ _ HW.out hl).mono ?_
    rintro r w2 hW2
    have hr := hW2.1
    subst hr
    have HW3 : Hid (RWrote w p g (rrThing e l ⟨d, n, x, s, bo, bn, bc, bl, f⟩) (.returned (.tuple #[])) w2) := by show RWrote w p g (rrThing e l _) _ w2; rw [HQ.out]; exact RWrote.from hK hW2
    clear hW2
    go_wp2
    go_returns
    exact HW3.out
  · have HQ : Hid (rrThing e l ⟨d, n, x, s, bo, bn, bc, bl, f⟩ = rrWord e l x) := by show rrThing e l _ = _; unfold rrThing; rw [if_neg h1, if_neg h2, if_neg h3, if_neg h4, if_pos h5]
    have hb2 : (d == 2) = false := by simp; omega
    have hb3 : (d == 3) = false := by simp; omega
    have hb4 : (d == 4) = false := by simp; omega
    have hb5 : (d == 5) = true := by simp; omega
    clear h2 h3 h4 h5
    go_enter Try.func19, Try.ntmps19
    go_wp2_with fail
    rw [← HWA.out]
    refine (rwword_call _ _ _ _ _ _ HW.out hl).mono ?_
    rintro r w2 hW2
    have hr := hW2.1
    subst hr
    have HW3 : Hid (RWrote w p g (rrThing e l ⟨d, n, x, s, bo, bn, bc, bl, f⟩) (.returned (.tuple #[])) w2) := by show RWrote w p g (rrThing e l _) _ w2; rw [HQ.out]; exact RWrote.from hK hW2
    clear hW2
    go_wp2
    go_returns
    exact HW3.out
  · have HQ : Hid (rrThing e l ⟨d, n, x, s, bo, bn, bc, bl, f⟩ = rrRefuse e l) := by show rrThing e l _ = _; unfold rrThing; rw [if_neg h1, if_neg h2, if_neg h3, if_neg h4, if_neg h5]
    have hb2 : (d == 2) = false := by simp; omega
    have hb3 : (d == 3) = false := by simp; omega
    have hb4 : (d == 4) = false := by simp; omega
    have hb5 : (d == 5) = false := by simp; omega
    clear h2 h3 h4 h5
    go_enter Try.func19, Try.ntmps19
    go_wp2_with fail
    rw [← HWA.out]
    refine (rwrefuse_call _ _ _ _ _ HW.out).mono ?_
    rintro r w2 hW2
    have hr := hW2.1
    subst hr
    have HW3 : Hid (RWrote w p g (rrThing e l ⟨d, n, x, s, bo, bn, bc, bl, f⟩) (.returned (.tuple #[])) w2) := by show RWrote w p g (rrThing e l _) _ w2; rw [HQ.out]; exact RWrote.from hK hW2
    clear hW2
    go_wp2
    go_returns
    exact HW3.out

end Go.Proofs.Ytfmklcnilmhnbaa
