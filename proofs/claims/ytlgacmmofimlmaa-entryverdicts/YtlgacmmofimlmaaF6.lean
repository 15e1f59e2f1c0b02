/-
  Texts of this claim that are laid as one: RW0, RW1, RW2.
-/
import Derived.Test.YtlgacmmofimlmaaF3
import Derived.Test.YtlgacmmofimlmaaF5
/-
  The document's own writer, by its contracts.
-/
namespace Go.Proofs.Ytlgacmmofimlmaa
open Go.RowKit

def RWAt (w : World) (p : Nat) (v : Value) (e : Int) : Prop := w.heap[p]? = some (.cells #[v, .int .i64 e] 64 (0, 0))

theorem RWAt.cells {w : World} {p : Nat} {v : Value} {e : Int} (h : RWAt w p v e) :
    w.cell? ⟨p, 0, none⟩ = some v ∧ w.cell? ⟨p, 1, none⟩ = some (.int .i64 e) ∧ (∀ o, w.frozen? ⟨p, o, none⟩ = false) := by
  unfold RWAt at h
  refine ⟨?_, ?_, fun o => ?_⟩ <;> simp [World.cell?, World.frozen?, h]

theorem RWAt.set0 {w : World} {p : Nat} {v : Value} {e : Int} (h : RWAt w p v e) (u : Value) : RWAt (w.setCell ⟨p, 0, none⟩ u) p u e := by
  have := at_setCell h 0 u
  simpa [RWAt] using this

theorem RWAt.set1 {w : World} {p : Nat} {v : Value} {e : Int} (h : RWAt w p v e) (x : Int) : RWAt (w.setCell ⟨p, 1, none⟩ (.int .i64 x)) p v x := by
  have := at_setCell h 1 (.int .i64 x)
  simpa [RWAt] using this

/-- The document's writer at block p, its bytes in block g. -/
def RW (w : World) (p : Nat) (g : Option Nat) (l : List Int) (e : Int) : Prop :=
  ∃ v, RWAt w p v e ∧ Own w v l ∧ v.ownBlock = g ∧ g ≠ some p

theorem RW.kept {S : List Nat} {a w : World} (h : Kept S a w) {p : Nat} {g : Option Nat} {l : List Int} {e : Int} (hr : RW a p g l e) (hp : p ∉ S) (hg : ∀ k, g = some k → k ∉ S) : RW w p g l e := by
  obtain ⟨v, h1, h2, h3, h4⟩ := hr
  exact ⟨v, h.at h1 hp, h.ownsRow h2 (fun k hk => hg k (by rw [← h3]; exact hk)), h3, h4⟩

theorem RW.lt {w : World} {p : Nat} {g : Option Nat} {l : List Int} {e : Int} (hr : RW w p g l e) : p < w.heap.size ∧ ∀ k, g = some k → k < w.heap.size := by
  obtain ⟨v, h1, h2, h3, _⟩ := hr
  exact ⟨lt_of_at h1, fun k hk => (h2.lt k (by rw [h3]; exact hk)).2⟩

def RWrote (w : World) (p : Nat) (g : Option Nat) (q : List Int × Int) (r : Ending) (w' : World) : Prop :=
  r = .returned (.tuple #[]) ∧ ∃ g', RW w' p g' q.1 q.2 ∧ Fresh w g g' ∧ Kept (p :: g.toList) w w'

/-- The bytes v1 have been made, and are laid into the field. -/
theorem rw_field {w w1 : World} {p : Nat} {v v1 : Value} {l : List Int} {e : Int} (hA : RWAt w p v e) (h4 : v.ownBlock ≠ some p) (hO : Own w1 v1 l) (hf : Fresh w v.ownBlock v1.ownBlock) (hK : Kept v.ownBlock.toList w w1) :
    RWAt w1 p v e ∧ RW (w1.setCell ⟨p, 0, none⟩ v1) p v1.ownBlock l e ∧ Kept (p :: v.ownBlock.toList) w (w1.setCell ⟨p, 0, none⟩ v1) := by
  have hpw := lt_of_at hA
  have hA1 : RWAt w1 p v e := hK.at hA (by simp; exact h4)
  have hne : v1.ownBlock ≠ some p := by
    intro h7
    rcases hf p h7 with h8 | h8
    · exact h4 h8
    · omega
  refine ⟨hA1, ⟨v1, hA1.set0 _, ?_, rfl, hne⟩, ?_⟩
  · exact (show Kept [p] w1 _ from (Kept.refl _ _).setCell (by simp) _).ownsRow hO (by intro k hk h7; simp at h7; subst h7; exact hne hk)
  · exact (hK.mono (T := p :: v.ownBlock.toList) (by intro i hi; exact .inl (List.mem_cons_of_mem _ hi))).setCell (by simp) _

def rrNum (e : Int) (l : List Int) (n : Int) : List Int × Int := if e = 0 then (if 0 ≤ n ∧ n ≤ 1099511627776 then (l ++ encNum n, 0) else (l, 1)) else (l, e)

theorem and127 (m : Int) (h0 : 0 ≤ m) (h1 : m ≤ 1099511627776) : bits .and .i64 m 127 = m % 128 := bits_mask .i64 63 (by decide) wrapsI64 7 (by decide) m h0 (by omega)
theorem or128 (m : Int) : bits .or .i64 (m % 128) 128 = m % 128 + 128 := by
  have h := or_nat (m % 128).toNat 128 7 (by decide) (by omega) (by decide) (by omega)
  rw [show (((m % 128).toNat : Nat) : Int) = m % 128 by omega] at h
  exact h

theorem fresh_alloc {w wr : World} {o : Obj} {g a b : Option Nat} (h1 : Fresh w g a) (h2 : Fresh (wr.alloc o) a b) (h : w.heap.size ≤ wr.heap.size) : Fresh w g b :=
  h1.trans h2 (by simp; omega)

theorem kept_chain {w a b : World} {p : Nat} {g g1 : Option Nat} (h1 : Kept (p :: g.toList) w a) (hf : Fresh w g g1) (h2 : Kept (p :: g1.toList) a b) : Kept (p :: g.toList) w b :=
  h1.trans h2 (by
    intro i hi
    rcases List.mem_cons.1 hi with h3 | h3
    · left; rw [h3]; simp
    · rcases hf i (by simpa using h3) with h4 | h4
      · left; rw [h4]; simp
      · exact .inr h4)

set_option maxHeartbeats 2000000 in
theorem rwnum_call (w : World) (p : Nat) (g : Option Nat) (l : List Int) (e n : Int) (hw : RW w p g l e) (hl : l.length ≤ 1000000000) :
    Calls Try.prog 59 #[.pointer (some ⟨p, 0, none⟩), .int .i64 n] w (RWrote w p g (rrNum e l n)) := by
  by_cases he : e = 0
  · subst he
    by_cases hn : 0 ≤ n ∧ n ≤ 1099511627776
    · obtain ⟨hn0, hn1⟩ := hn
      have HQ : Hid (rrNum 0 l n = (l ++ encNum n, 0)) := by show rrNum 0 l n = _; unfold rrNum; rw [if_pos rfl, if_pos ⟨hn0, hn1⟩]
      have HW : Hid (RW w p g l 0) := hw
      obtain ⟨v, h1, h2, h3, h4⟩ := hw
      obtain ⟨c0, c1, c3⟩ := h1.cells
      clear h1 h2 h3
      go_enter Try.func59, Try.ntmps59
      go_wp2
      clear c0 c1 c3
      go_loopw [1] (fun t wr => ∃ (f : Nat) (m : Int) (L : List Int) (g' : Option Nat), f ≤ 5 ∧ t = .int .i64 m ∧ 0 ≤ m ∧ m ≤ 1099511627776 ∧ m < 128 ^ (f + 1) ∧ L ++ enc f m = l ++ encNum n ∧ L.length ≤ 1000000005 - f ∧ RW wr p g' L 0 ∧ Fresh w g g' ∧ Kept (p :: g.toList) w wr)
        (fun t _ => (intOf t).toNat)
      case atStart => exact ⟨5, n, l, g, by omega, rfl, hn0, hn1, by omega, rfl, by omega, HW.out, Fresh.refl _ _, Kept.refl _ _⟩
      case round =>
        obtain ⟨f, m, L, g', hf, rfl, hm0, hm1, hm2, hL, hLl, hRW, hfr, hk⟩ := hrel
        obtain ⟨v, h1, h2, h3, h4⟩ := hRW
        subst h3
        obtain ⟨c0, c1, c3⟩ := h1.cells
        have HA : Hid (RWAt wr p v 0) := h1
        have HO : Hid (Own wr v L) := h2
        obtain ⟨a0, n0, cc0, hv0, _, _⟩ := own_sl h2
        subst hv0
        have hK0 : Kept (Value.slice a0 n0 cc0).ownBlock.toList wr wr := Kept.refl _ _
        clear h1 h2 HW
        by_cases h128 : 128 ≤ m
        · have q1 := and127 m hm0 hm1
          have q2 := or128 m
          have h127 : (127 : Int) < m := by omega
          go_wp2_with (at_builtin; refine wp_app rfl _ _ rfl _ L rfl (World.ownsRow.alloc HO.out _) (some ⟨wr.heap.size, 0, none⟩) 1 1 [m % 128 + 128] rfl (Sl.lit rfl rfl (by decide)) (by omega) ?_)
          intro v1 w1 hO1 hf1 hk1
          have hf2 : Fresh wr (Value.slice a0 n0 cc0).ownBlock v1.ownBlock := fresh_alloc (Fresh.refl _ _) hf1 (Nat.le_refl _)
          obtain ⟨hA1, hR1, hK1⟩ := rw_field HA.out h4 hO1 hf2 ((hK0.alloc _).trans hk1 (fun i hi => .inl hi))
          obtain ⟨d0, d1, d3⟩ := hA1.cells
          have HR1 : Hid (RW (w1.setCell ⟨p, 0, none⟩ v1) p v1.ownBlock (L ++ [m % 128 + 128]) 0) := hR1
          have HK1 : Hid (Kept (p :: g.toList) w (w1.setCell ⟨p, 0, none⟩ v1)) := kept_chain hk hfr hK1
          have HF1 : Hid (Fresh w g v1.ownBlock) := hfr.trans hf2 hk.size
          obtain ⟨a1, n1, cc1, rfl, _, _⟩ := own_sl hO1
          clear hR1 hK1 hO1 hf1 hf2 hk1 c0 c1 c3 q1 q2
          go_wp2
          go_roundw
          case rel =>
            obtain ⟨f', rfl⟩ : ∃ f', f = f' + 1 := by
              cases f with
              | zero => simp at hm2; omega
              | succ f' => exact ⟨f', rfl⟩
            refine ⟨f', m / 128, L ++ [m % 128 + 128], _, by omega, rfl, by omega, by omega, ?_, ?_, by simp; omega, HR1.out, HF1.out, HK1.out⟩
            · rw [Int.pow_succ] at hm2
              exact Int.ediv_lt_of_lt_mul (by decide) hm2
            · rw [← hL, enc_great _ _ h128]; simp
          case measure => simp [intOf]; omega
        · have h127 : ¬ (127 : Int) < m := by omega
          go_wp2_with (at_builtin; refine wp_app rfl _ _ rfl _ L rfl (World.ownsRow.alloc HO.out _) (some ⟨wr.heap.size, 0, none⟩) 1 1 [m] rfl (Sl.lit rfl rfl (by decide)) (by omega) ?_)
          intro v1 w1 hO1 hf1 hk1
          have hf2 : Fresh wr (Value.slice a0 n0 cc0).ownBlock v1.ownBlock := fresh_alloc (Fresh.refl _ _) hf1 (Nat.le_refl _)
          obtain ⟨hA1, hR1, hK1⟩ := rw_field HA.out h4 hO1 hf2 ((hK0.alloc _).trans hk1 (fun i hi => .inl hi))
          obtain ⟨d0, d1, d3⟩ := hA1.cells
          have HR1 : Hid (RW (w1.setCell ⟨p, 0, none⟩ v1) p v1.ownBlock (L ++ [m]) 0) := hR1
          have HK1 : Hid (Kept (p :: g.toList) w (w1.setCell ⟨p, 0, none⟩ v1)) := kept_chain hk hfr hK1
          have HF1 : Hid (Fresh w g v1.ownBlock) := hfr.trans hf2 hk.size
          obtain ⟨a1, n1, cc1, rfl, _, _⟩ := own_sl hO1
          clear hR1 hK1 hO1 hf1 hf2 hk1 c0 c1 c3
          go_wp2
          go_returns
          rw [HQ.out]
          refine ⟨rfl, _, ?_, HF1.out, HK1.out⟩
          rw [← hL, enc_small _ _ (by omega)]
          exact HR1.out
    · have HQ : Hid (rrNum 0 l n = (l, 1)) := by show rrNum 0 l n = _; unfold rrNum; rw [if_pos rfl, if_neg hn]
      obtain ⟨v, h1, h2, h3, h4⟩ := hw
      obtain ⟨c0, c1, c3⟩ := h1.cells
      have HR : Hid (RWrote w p g (l, 1) (.returned (.tuple #[])) (w.setCell ⟨p, 1, none⟩ (.int .i64 1))) :=
        ⟨rfl, g, ⟨v, h1.set1 1, (show Kept [p] w _ from (Kept.refl _ _).setCell (by simp) _).ownsRow h2 (by intro k hk h7; simp at h7; subst h7; rw [h3] at hk; exact h4 hk), h3, h4⟩, Fresh.refl _ _, (Kept.refl _ _).setCell (by simp) _⟩
      clear h1 h2 h3
      rcases (show n < 0 ∨ (¬ n < 0 ∧ 1099511627776 < n) by omega) with hn2 | ⟨hn2, hn3⟩
      all_goals
        clear hn
        go_enter Try.func59, Try.ntmps59
        go_wp2
        go_returns
        rw [HQ.out]
        exact HR.out
  · have HQ : Hid (rrNum e l n = (l, e)) := by show rrNum e l n = _; unfold rrNum; rw [if_neg he]
    have HR : Hid (RWrote w p g (l, e) (.returned (.tuple #[])) w) := ⟨rfl, g, hw, Fresh.refl _ _, Kept.refl _ _⟩
    obtain ⟨v, h1, h2, h3, h4⟩ := hw
    obtain ⟨c0, c1, c3⟩ := h1.cells
    have hb : (e != 0) = true := by simp [he]
    clear h1 h2 h3 he
    go_enter Try.func59, Try.ntmps59
    go_wp2
    go_returns
    rw [HQ.out]
    exact HR.out

end Go.Proofs.Ytlgacmmofimlmaa

/-
  The document's own writer: its other calls, and a thing.
-/
namespace Go.Proofs.Ytlgacmmofimlmaa
open Go.RowKit

def rrRun (e : Int) (l m : List Int) : List Int × Int := if e = 0 then (if m.length ≤ 1048576 then (l ++ (encNum m.length ++ m), 0) else (l, 3)) else (l, e)
def rrFlag (e : Int) (l : List Int) (b : Bool) : List Int × Int := if e = 0 then (l ++ [if b then 1 else 0], 0) else (l, e)
def rrWord (e : Int) (l : List Int) (x : Int) : List Int × Int := if e = 0 then (l ++ hiB 8 x, 0) else (l, e)
def rrRefuse (e : Int) (l : List Int) : List Int × Int := if e = 0 then (l, 1) else (l, e)

theorem RWrote.same {w : World} {p : Nat} {g : Option Nat} {l : List Int} {e : Int} (hw : RW w p g l e) : RWrote w p g (l, e) (.returned (.tuple #[])) w := ⟨rfl, g, hw, Fresh.refl _ _, Kept.refl _ _⟩

theorem RWrote.fail {w : World} {p : Nat} {g : Option Nat} {l : List Int} {e : Int} (hw : RW w p g l e) (x : Int) : RWrote w p g (l, x) (.returned (.tuple #[])) (w.setCell ⟨p, 1, none⟩ (.int .i64 x)) := by
  obtain ⟨v, h1, h2, h3, h4⟩ := hw
  exact ⟨rfl, g, ⟨v, h1.set1 x, (show Kept [p] w _ from (Kept.refl _ _).setCell (by simp) _).ownsRow h2 (by intro k hk h7; simp at h7; subst h7; rw [h3] at hk; exact h4 hk), h3, h4⟩, Fresh.refl _ _, (Kept.refl _ _).setCell (by simp) _⟩

theorem RW.cells {w : World} {p : Nat} {g : Option Nat} {l : List Int} {e : Int} (hw : RW w p g l e) : ∃ a n c, w.cell? ⟨p, 0, none⟩ = some (.slice a n c) ∧ w.cell? ⟨p, 1, none⟩ = some (.int .i64 e) ∧ (∀ o, w.frozen? ⟨p, o, none⟩ = false) ∧ RWAt w p (.slice a n c) e ∧ Own w (.slice a n c) l ∧ (Value.slice a n c).ownBlock = g ∧ (Value.slice a n c).ownBlock ≠ some p := by
  obtain ⟨v, h1, h2, h3, h4⟩ := hw
  obtain ⟨a, n, c, rfl, _, _⟩ := own_sl h2
  obtain ⟨c0, c1, c3⟩ := h1.cells
  exact ⟨a, n, c, c0, c1, c3, h1, h2, h3, by rw [h3]; exact h4⟩

set_option maxHeartbeats 1000000 in
theorem rwrefuse_call (w : World) (p : Nat) (g : Option Nat) (l : List Int) (e : Int) (hw : RW w p g l e) :
    Calls Try.prog 58 #[.pointer (some ⟨p, 0, none⟩)] w (RWrote w p g (rrRefuse e l)) := by
  obtain ⟨a, n, c, c0, c1, c3, _⟩ := hw.cells
  by_cases he : e = 0
  · subst he
    have HR : Hid (RWrote w p g (rrRefuse 0 l) (.returned (.tuple #[])) (w.setCell ⟨p, 1, none⟩ (.int .i64 1))) := RWrote.fail hw 1
    clear hw
    go_enter Try.func58, Try.ntmps58
    go_wp2
    go_returns
    exact HR.out
  · have HR : Hid (RWrote w p g (rrRefuse e l) (.returned (.tuple #[])) w) := by show RWrote w p g (rrRefuse e l) _ w; unfold rrRefuse; rw [if_neg he]; exact RWrote.same hw
    have hb : (e == 0) = false := by simp [he]
    clear hw he
    go_enter Try.func58, Try.ntmps58
    go_wp2
    go_returns
    exact HR.out

set_option maxHeartbeats 1000000 in
theorem rwflag_false (w : World) (p : Nat) (g : Option Nat) (l : List Int) (e : Int) (hw : RW w p g l e) (hl : l.length ≤ 1000000000) :
    Calls Try.prog 91 #[.pointer (some ⟨p, 0, none⟩), .bool false] w (RWrote w p g (rrFlag e l false)) := by
  by_cases he : e = 0
  · subst he
    have HQ : Hid (rrFlag 0 l false = (l ++ [0], 0)) := by show rrFlag 0 l false = _; unfold rrFlag; rw [if_pos rfl]; rfl
    obtain ⟨a0, n0, cc0, c0, c1, c3, h1, h2, h3, h4⟩ := hw.cells
    subst h3
    have HA : Hid (RWAt w p (.slice a0 n0 cc0) 0) := h1
    have HO : Hid (Own w (.slice a0 n0 cc0) l) := h2
    clear h1 h2 hw
    go_enter Try.func91, Try.ntmps91
    go_wp2_with (at_builtin; refine wp_app rfl _ _ rfl _ l rfl (World.ownsRow.alloc HO.out _) (some ⟨w.heap.size, 0, none⟩) 1 1 [0] rfl (Sl.lit rfl rfl (by decide)) (by omega) ?_)
    intro v1 w1 hO1 hf1 hk1
    have hf2 : Fresh w (Value.slice a0 n0 cc0).ownBlock v1.ownBlock := fresh_alloc (Fresh.refl _ _) hf1 (Nat.le_refl _)
    obtain ⟨hA1, hR1, hK1⟩ := rw_field HA.out h4 hO1 hf2 (((Kept.refl _ _).alloc _).trans hk1 (fun i hi => .inl hi))
    obtain ⟨d0, d1, d3⟩ := hA1.cells
    have HR : Hid (RWrote w p (Value.slice a0 n0 cc0).ownBlock (l ++ [0], 0) (.returned (.tuple #[])) (w1.setCell ⟨p, 0, none⟩ v1)) := ⟨rfl, _, hR1, hf2, hK1⟩
    obtain ⟨a1, n1, cc1, rfl, _, _⟩ := own_sl hO1
    clear hR1 hK1 hO1 hf1 hf2 hk1 c0 c1 c3
    go_wp2
    go_returns
    rw [HQ.out]
    exact HR.out
  · have HR : Hid (RWrote w p g (rrFlag e l false) (.returned (.tuple #[])) w) := by show RWrote w p g (rrFlag e l false) _ w; unfold rrFlag; rw [if_neg he]; exact RWrote.same hw
    obtain ⟨a, n, c, c0, c1, c3, _⟩ := hw.cells
    have hb : (e != 0) = true := by simp [he]
    clear hw he
    go_enter Try.func91, Try.ntmps91
    go_wp2
    go_returns
    exact HR.out

set_option maxHeartbeats 1000000 in
theorem rwflag_true (w : World) (p : Nat) (g : Option Nat) (l : List Int) (e : Int) (hw : RW w p g l e) (hl : l.length ≤ 1000000000) :
    Calls Try.prog 91 #[.pointer (some ⟨p, 0, none⟩), .bool true] w (RWrote w p g (rrFlag e l true)) := by
  by_cases he : e = 0
  · subst he
    have HQ : Hid (rrFlag 0 l true = (l ++ [1], 0)) := by show rrFlag 0 l true = _; unfold rrFlag; rw [if_pos rfl]; rfl
    obtain ⟨a0, n0, cc0, c0, c1, c3, h1, h2, h3, h4⟩ := hw.cells
    subst h3
    have HA : Hid (RWAt w p (.slice a0 n0 cc0) 0) := h1
    have HO : Hid (Own w (.slice a0 n0 cc0) l) := h2
    clear h1 h2 hw
    go_enter Try.func91, Try.ntmps91
    go_wp2_with (at_builtin; refine wp_app rfl _ _ rfl _ l rfl (World.ownsRow.alloc HO.out _) (some ⟨w.heap.size, 0, none⟩) 1 1 [1] rfl (Sl.lit rfl rfl (by decide)) (by omega) ?_)
    intro v1 w1 hO1 hf1 hk1
    have hf2 : Fresh w (Value.slice a0 n0 cc0).ownBlock v1.ownBlock := fresh_alloc (Fresh.refl _ _) hf1 (Nat.le_refl _)
    obtain ⟨hA1, hR1, hK1⟩ := rw_field HA.out h4 hO1 hf2 (((Kept.refl _ _).alloc _).trans hk1 (fun i hi => .inl hi))
    obtain ⟨d0, d1, d3⟩ := hA1.cells
    have HR : Hid (RWrote w p (Value.slice a0 n0 cc0).ownBlock (l ++ [1], 0) (.returned (.tuple #[])) (w1.setCell ⟨p, 0, none⟩ v1)) := ⟨rfl, _, hR1, hf2, hK1⟩
    obtain ⟨a1, n1, cc1, rfl, _, _⟩ := own_sl hO1
    clear hR1 hK1 hO1 hf1 hf2 hk1 c0 c1 c3
    go_wp2
    go_returns
    rw [HQ.out]
    exact HR.out
  · have HR : Hid (RWrote w p g (rrFlag e l true) (.returned (.tuple #[])) w) := by show RWrote w p g (rrFlag e l true) _ w; unfold rrFlag; rw [if_neg he]; exact RWrote.same hw
    obtain ⟨a, n, c, c0, c1, c3, _⟩ := hw.cells
    have hb : (e != 0) = true := by simp [he]
    clear hw he
    go_enter Try.func91, Try.ntmps91
    go_wp2
    go_returns
    exact HR.out

theorem rwflag_call (w : World) (p : Nat) (g : Option Nat) (l : List Int) (e : Int) (b : Bool) (hw : RW w p g l e) (hl : l.length ≤ 1000000000) :
    Calls Try.prog 91 #[.pointer (some ⟨p, 0, none⟩), .bool b] w (RWrote w p g (rrFlag e l b)) := by
  cases b
  · exact rwflag_false w p g l e hw hl
  · exact rwflag_true w p g l e hw hl

set_option maxHeartbeats 1000000 in
theorem rwtext_call (w : World) (p : Nat) (g : Option Nat) (l : List Int) (e : Int) (s : ByteArray) (hw : RW w p g l e) (hl : l.length ≤ 1000000000) (hm : s.size ≤ 9223372036854775807) :
    Calls Try.prog 60 #[.pointer (some ⟨p, 0, none⟩), .string s] w (RWrote w p g (rrRun e l (strOf s))) := by
  have hsl := strOf_length s
  obtain ⟨m, hmm⟩ : ∃ m, m = strOf s := ⟨_, rfl⟩
  rw [← hmm] at hsl ⊢
  have HM : Hid (m = strOf s) := hmm
  have HSL : Hid (m.length = s.size) := hsl
  clear hsl hmm
  by_cases he : e = 0
  · subst he
    by_cases hbig : 1048576 < s.size
    · have hb2 : (1048576 : Int) < (s.size : Int) := by omega
      have HR : Hid (RWrote w p g (rrRun 0 l m) (.returned (.tuple #[])) (w.setCell ⟨p, 1, none⟩ (.int .i64 3))) := by show RWrote w p g (rrRun 0 l m) _ _; unfold rrRun; rw [if_pos rfl, if_neg (by rw [HSL.out]; omega)]; exact RWrote.fail hw 3
      obtain ⟨a, n', c', c0, c1, c3, h1, h2, h3, h4⟩ := hw.cells
      have d1 := (h1.set1 3).cells.2.1
      clear hw h1 h2 h3
      go_enter Try.func60, Try.ntmps60
      go_wp2
      go_returns
      exact HR.out
    · have hb2 : ¬ (1048576 : Int) < (s.size : Int) := by omega
      have HQ : Hid (rrRun 0 l m = (l ++ (encNum s.size ++ m), 0)) := by show rrRun 0 l m = _; unfold rrRun; rw [if_pos rfl, if_pos (by rw [HSL.out]; omega), HSL.out]
      have HW : Hid (RW w p g l 0) := hw
      obtain ⟨a, n', c', c0, c1, c3, _, _, _, _⟩ := hw.cells
      clear hw
      go_enter Try.func60, Try.ntmps60
      go_wp2_with fail
      refine (rwnum_call _ _ _ _ _ _ HW.out hl).mono ?_
      rintro _ w1 ⟨rfl, g1, hR1, hF1, hK1⟩
      have hn1 : rrNum 0 l (s.size : Int) = (l ++ encNum (s.size : Int), 0) := by unfold rrNum; rw [if_pos rfl, if_pos ⟨by omega, by omega⟩]
      rw [hn1] at hR1
      simp only at hR1
      have hlenA : (l ++ encNum (s.size : Int)).length ≤ 1000000006 := by have := enc_length 5 (s.size : Int); simp [encNum]; omega
      generalize hLA : l ++ encNum (s.size : Int) = LA at hR1 hlenA
      have HLA : Hid (l ++ encNum (s.size : Int) = LA) := hLA
      clear hLA hn1
      obtain ⟨a1, n1, cc1, d0, d1, d3, h1, h2, h3, h4⟩ := hR1.cells
      subst h3
      have HA : Hid (RWAt w1 p (.slice a1 n1 cc1) 0) := h1
      have HO : Hid (Own w1 (.slice a1 n1 cc1) LA) := h2
      clear h1 h2 hR1 c0 c1 c3 HW
      go_wp2_with (at_builtin; refine wp_appS rfl _ _ rfl _ LA rfl HO.out s rfl (by omega) ?_)
      rw [← HM.out]
      intro v2 w2 hO2 hf2 hk2
      obtain ⟨hA2, hR2, hK2⟩ := rw_field HA.out h4 hO2 hf2 hk2
      obtain ⟨e0, e1, e3⟩ := hA2.cells
      have HR : Hid (RWrote w p g (rrRun 0 l m) (.returned (.tuple #[])) (w2.setCell ⟨p, 0, none⟩ v2)) := by
        show RWrote w p g (rrRun 0 l m) _ _
        rw [HQ.out, ← List.append_assoc, HLA.out]
        exact ⟨rfl, _, hR2, hF1.trans hf2 hK1.size, kept_chain hK1 hF1 hK2⟩
      obtain ⟨a2, n2, cc2, rfl, _, _⟩ := own_sl hO2
      clear hR2 hK2 hO2 hf2 hk2 d0 d1 d3
      go_wp2
      go_returns
      exact HR.out
  · have HR : Hid (RWrote w p g (rrRun e l m) (.returned (.tuple #[])) w) := by show RWrote w p g (rrRun e l m) _ w; unfold rrRun; rw [if_neg he]; exact RWrote.same hw
    obtain ⟨a, n', c', c0, c1, c3, _⟩ := hw.cells
    have hb : (e == 0) = false := by simp [he]
    clear hw he
    go_enter Try.func60, Try.ntmps60
    go_wp2
    go_returns
    exact HR.out



set_option maxRecDepth 100000 in
set_option maxHeartbeats 2000000 in
theorem rwword_call (w : World) (p : Nat) (g : Option Nat) (l : List Int) (e x : Int) (hw : RW w p g l e) (hl : l.length ≤ 1000000000) :
    Calls Try.prog 73 #[.pointer (some ⟨p, 0, none⟩), .int .u64 x] w (RWrote w p g (rrWord e l x)) := by
  by_cases he : e = 0
  · subst he
    have HQ : Hid (rrWord 0 l x = (l ++ hiB 8 x, 0)) := by show rrWord 0 l x = _; unfold rrWord; rw [if_pos rfl]
    have HW : Hid (RW w p g l 0) := hw
    clear hw
    go_enter Try.func73, Try.ntmps73
    go_wp2
    go_loopw [4] (fun t wr => ∃ (k : Nat) (i : Int) (g' : Option Nat), k ≤ 8 ∧ t = .int .i64 i ∧ i = 7 - (k : Int) ∧ RW wr p g' (l ++ (hiB 8 x).take k) 0 ∧ Fresh w g g' ∧ Kept (p :: g.toList) w wr)
      (fun t _ => (intOf t + 1).toNat)
    case atStart => exact ⟨0, 7, g, by omega, rfl, by omega, by simpa using HW.out, Fresh.refl _ _, Kept.refl _ _⟩
    case round =>
      obtain ⟨k, i, g', hk8, rfl, hi, hRW, hfr, hk⟩ := hrel
      have hlen : (l ++ (hiB 8 x).take k).length ≤ 1000000008 := by simp [hiB_length]; omega
      obtain ⟨L, hL⟩ : ∃ L, L = l ++ (hiB 8 x).take k := ⟨_, rfl⟩
      rw [← hL] at hRW hlen
      have HL : Hid (L = l ++ (hiB 8 x).take k) := hL
      have HI : Hid (i = 7 - (k : Int)) := hi
      obtain ⟨a0, n0, cc0, c0, c1, c3, h1, h2, h3, h4⟩ := hRW.cells
      subst h3
      have HA : Hid (RWAt wr p (.slice a0 n0 cc0) 0) := h1
      have HO : Hid (Own wr (.slice a0 n0 cc0) L) := h2
      have HRW : Hid (RW wr p (Value.slice a0 n0 cc0).ownBlock L 0) := hRW
      have hi1 : -1 ≤ i := by omega
      have hi2 : i ≤ 7 := by omega
      clear h1 h2 hRW HW hL hi
      by_cases hlt : k < 8
      · have hi0 : 0 ≤ i := by have := HI.out; omega
        go_wp2_with (at_builtin; refine wp_app rfl _ _ rfl _ L rfl (World.ownsRow.alloc HO.out _) (some ⟨wr.heap.size, 0, none⟩) 1 1 [_] rfl (Sl.lit rfl rfl (by decide)) (by omega) ?_)
        intro v1 w1 hO1 hf1 hk1
        have hf2 : Fresh wr (Value.slice a0 n0 cc0).ownBlock v1.ownBlock := fresh_alloc (Fresh.refl _ _) hf1 (Nat.le_refl _)
        obtain ⟨hA1, hR1, hK1⟩ := rw_field HA.out h4 hO1 hf2 (((Kept.refl _ _).alloc _).trans hk1 (fun i hi => .inl hi))
        obtain ⟨d0, d1, d3⟩ := hA1.cells
        have HR1 : Hid (RW (w1.setCell ⟨p, 0, none⟩ v1) p v1.ownBlock (l ++ (hiB 8 x).take (k + 1)) 0) := by
          show RW (w1.setCell ⟨p, 0, none⟩ v1) p v1.ownBlock (l ++ (hiB 8 x).take (k + 1)) 0
          rw [hiB_take _ _ _ hlt, ← List.append_assoc, ← HL.out, show 8 * (8 - 1 - k) = (8 * i).toNat by have := HI.out; omega]
          exact hR1
        have HK1 : Hid (Kept (p :: g.toList) w (w1.setCell ⟨p, 0, none⟩ v1)) := kept_chain hk hfr hK1
        have HF1 : Hid (Fresh w g v1.ownBlock) := hfr.trans hf2 hk.size
        obtain ⟨a1, n1, cc1, rfl, _, _⟩ := own_sl hO1
        clear hR1 hK1 hO1 hf1 hf2 hk1 c0 c1 c3
        go_wp2
        go_roundw
        case rel => exact ⟨k + 1, i - 1, _, by omega, rfl, by have := HI.out; omega, HR1.out, HF1.out, HK1.out⟩
        case measure => simp [intOf]; omega
      · have hi0 : ¬ 0 ≤ i := by have := HI.out; omega
        have HR : Hid (RWrote w p g (rrWord 0 l x) (.returned (.tuple #[])) wr) := by
          show RWrote w p g (rrWord 0 l x) _ wr
          rw [HQ.out]
          have h5 := HRW.out
          rw [HL.out, List.take_of_length_le (by rw [hiB_length]; omega)] at h5
          exact ⟨rfl, _, h5, hfr, hk⟩
        go_wp2
        go_returns
        exact HR.out
  · have HR : Hid (RWrote w p g (rrWord e l x) (.returned (.tuple #[])) w) := by show RWrote w p g (rrWord e l x) _ w; unfold rrWord; rw [if_neg he]; exact RWrote.same hw
    obtain ⟨a, n', c', c0, c1, c3, _⟩ := hw.cells
    have hb : (e == 0) = false := by simp [he]
    clear hw he
    go_enter Try.func73, Try.ntmps73
    go_wp2
    refine wp_loop_rounds 1 ?_
    rw [rounds_succ]
    go_wp2
    go_returns
    exact HR.out

end Go.Proofs.Ytlgacmmofimlmaa

/-
  The document's own writer: Done, and a thing.
-/
namespace Go.Proofs.Ytlgacmmofimlmaa
open Go.RowKit



theorem RWrote.from {w wa w' : World} {p : Nat} {g : Option Nat} {q : List Int × Int} {r : Ending} (hK : Kept [] w wa) (h : RWrote wa p g q r w') : RWrote w p g q r w' := by
  obtain ⟨h1, g', h2, h3, h4⟩ := h
  refine ⟨h1, g', h2, fun k hk => ?_, (hK.mono (by simp)).trans h4 (fun i hi => .inl hi)⟩
  rcases h3 k hk with h5 | h5
  · exact .inl h5
  · exact .inr (Nat.le_trans hK.size h5)

def rwOut (e : Int) (l : List Int) : List Int := if e = 0 then l else []

set_option maxHeartbeats 1000000 in
theorem rwdone_call (w : World) (p : Nat) (g : Option Nat) (l : List Int) (e : Int) (hw : RW w p g l e) (hl : l.length ≤ 100000000000) :
    Calls Try.prog 32 #[.pointer (some ⟨p, 0, none⟩)] w fun r w' => ∃ a n c, r = .returned (.tuple #[.slice a n c, .int .i64 e]) ∧ Sl w' a n c (rwOut e l) ∧ (∀ k ∈ blk a, w.heap.size ≤ k ∧ k < w'.heap.size) ∧ Kept [] w w' := by
  obtain ⟨a0, n0, cc0, c0, c1, c3, h1, h2, h3, h4⟩ := hw.cells
  obtain ⟨a1, n1, cc1, hv, hs, _⟩ := own_sl h2
  cases hv
  have HS : Hid (Sl w a0 n0 cc0 l) := hs
  have hn : n0 ≤ 100000000000 := by have := hs.1; omega
  clear hs h1 h2 hw c3
  by_cases he : e = 0
  · subst he
    go_enter Try.func32, Try.ntmps32
    go_wp2_with fail
    refine (copy_call _ _ _ _ _ HS.out hn).mono ?_
    rintro _ w1 ⟨v1, rfl, hO1, hf1, hk1⟩
    obtain ⟨a2, n2, cc2, rfl, hs2, hb2⟩ := own_sl hO1
    have HR : Hid (Sl w1 a2 n2 cc2 l) := hs2
    clear hO1 hs2
    go_wp2
    go_ret2
    exact ⟨a2, n2, cc2, rfl, by unfold rwOut; rw [if_pos rfl]; exact HR.out, fun k hk => ⟨hf1 k (hb2 k hk).2, (hb2 k hk).1⟩, hk1⟩
  · have hb : (e != 0) = true := by simp [he]
    have HE : Hid (¬ e = 0) := he
    clear he
    go_enter Try.func32, Try.ntmps32
    go_wp2
    go_quiet (fail)
    all_goals (try go_wp2)
    all_goals go_ret2
    all_goals exact ⟨none, 0, 0, rfl, by unfold rwOut; rw [if_neg HE.out]; exact Sl.nil _, by simp [blk], (Kept.refl _ _).drewN _⟩



end Go.Proofs.Ytlgacmmofimlmaa
