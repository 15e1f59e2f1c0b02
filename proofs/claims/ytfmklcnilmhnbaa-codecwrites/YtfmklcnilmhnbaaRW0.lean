/-
  The document's own writer, by its contracts.
-/
import Derived.Test.YtfmklcnilmhnbaaWr4
namespace Go.Proofs.Ytfmklcnilmhnbaa
open Go.RowKit

def RWAt (w : World) (p : Nat) (v : Value) (e : Int) : Prop := w.heap[p]? = some (.cells #[v, .int .i64 e] 41 (0, 0))

theorem RWAt.cells {w : World} {p : Nat} {v : Value} {e : Int} (h : RWAt w p v e) :
    w.cell? ⟨p, 0, none⟩ = some v ∧ w.cell? ⟨p, 1, none⟩ = some (.int .i64 e) ∧ (∀ o, w.frozen? ⟨p, o, none⟩ = false) := by
  unfold RWAt at h
  refine ⟨?_, ?_, fun o => ?_⟩ <;> simp [World.cell?, World.frozen?, h]

theorem RWAt.set0 {w : World} {p : Nat} {v : Value} {e : Int} (h : RWAt w p v e) (u : Value) : RWAt (w.setCell ⟨p, 0, none⟩ u) p u e := by
  have := at_setCell h 0 u
  simpa [RWAt] using this

theorem RWAt.set1 {w : World} {p : Nat} {v : Value} {e : Int} (h : RWAt w p v e) (x : Int) : RWAt (w.setCell ⟨p, 1, none⟩ (.int .i64 x)) p v x := by
  have := at_setCell h 1 (.int .i64 x)
  simpa [RWAt] using this

/-- The document's writer at block p, its bytes in block g. -/
def RW (w : World) (p : Nat) (g : Option Nat) (l : List Int) (e : Int) : Prop :=
  ∃ v, RWAt w p v e ∧ Own w v l ∧ v.ownBlock = g ∧ g ≠ some p

theorem RW.kept {S : List Nat} {a w : World} (h : Kept S a w) {p : Nat} {g : Option Nat} {l : List Int} {e : Int} (hr : RW a p g l e) (hp : p ∉ S) (hg : ∀ k, g = some k → k ∉ S) : RW w p g l e := by
  obtain ⟨v, h1, h2, h3, h4⟩ := hr
  exact ⟨v, h.at h1 hp, h.ownsRow h2 (fun k hk => hg k (by rw [← h3]; exact hk)), h3, h4⟩

theorem RW.lt {w : World} {p : Nat} {g : Option Nat} {l : List Int} {e : Int} (hr : RW w p g l e) : p < w.heap.size ∧ ∀ k, g = some k → k < w.heap.size := by
  obtain ⟨v, h1, h2, h3, _⟩ := hr
  exact ⟨lt_of_at h1, fun k hk => (h2.lt k (by rw [h3]; exact hk)).2⟩

def RWrote (w : World) (p : Nat) (g : Option Nat) (q : List Int × Int) (r : Ending) (w' : World) : Prop :=
  r = .returned (.tuple #[]) ∧ ∃ g', RW w' p g' q.1 q.2 ∧ Fresh w g g' ∧ Kept (p :: g.toList) w w'

/-- The bytes v1 have been made, and are laid into the field. -/
theorem rw_field {w w1 : World} {p : Nat} {v v1 : Value} {l : List Int} {e : Int} (hA : RWAt w p v e) (h4 : v.ownBlock ≠ some p) (hO : Own w1 v1 l) (hf : Fresh w v.ownBlock v1.ownBlock) (hK : Kept v.ownBlock.toList w w1) :
    RWAt w1 p v e ∧ RW (w1.setCell ⟨p, 0, none⟩ v1) p v1.ownBlock l e ∧ Kept (p :: v.ownBlock.toList) w (w1.setCell ⟨p, 0, none⟩ v1) := by
  have hpw := lt_of_at hA
  have hA1 : RWAt w1 p v e := hK.at hA (by simp; exact h4)
  have hne : v1.ownBlock ≠ some p := by
    intro h7
    rcases hf p h7 with h8 | h8
    · exact h4 h8
    · omega
  refine ⟨hA1, ⟨v1, hA1.set0 _, ?_, rfl, hne⟩, ?_⟩
  · exact (show Kept [p] w1 _ from (Kept.refl _ _).setCell (by simp) _).ownsRow hO (by intro k hk h7; simp at h7; subst h7; exact hne hk)
  · exact (hK.mono (T := p :: v.ownBlock.toList) (by intro i hi; exact .inl (List.mem_cons_of_mem _ hi))).setCell (by simp) _

def rrNum (e : Int) (l : List Int) (n : Int) : List Int × Int := if e = 0 then (if 0 ≤ n ∧ n ≤ 1099511627776 then (l ++ encNum n, 0) else (l, 1)) else (l, e)

theorem and127 (m : Int) (h0 : 0 ≤ m) (h1 : m ≤ 1099511627776) : bits .and .i64 m 127 = m % 128 := bits_mask .i64 63 (by decide) wrapsI64 7 (by decide) m h0 (by omega)
theorem or128 (m : Int) : bits .or .i64 (m % 128) 128 = m % 128 + 128 := by
  have h := or_nat (m % 128).toNat 128 7 (by decide) (by omega) (by decide) (by omega)
  rw [show (((m % 128).toNat : Nat) : Int) = m % 128 by omega] at h
  exact h

theorem fresh_alloc {w wr : World} {o : Obj} {g a b : Option Nat} (h1 : Fresh w g a) (h2 : Fresh (wr.alloc o) a b) (h : w.heap.size ≤ wr.heap.size) : Fresh w g b :=
  h1.trans h2 (by simp; omega)

theorem kept_chain {w a b : World} {p : Nat} {g g1 : Option Nat} (h1 : Kept (p :: g.toList) w a) (hf : Fresh w g g1) (h2 : Kept (p :: g1.toList) a b) : Kept (p :: g.toList) w b :=
  h1.trans h2 (by
    intro i hi
    rcases List.mem_cons.1 hi with h3 | h3
    · left; rw [h3]; simp
    · rcases hf i (by simpa using h3) with h4 | h4
      · left; rw [h4]; simp
      · exact .inr h4)

set_option maxHeartbeats 2000000 in
theorem rwnum_call (w : World) (p : Nat) (g : Option Nat) (l : List Int) (e n : Int) (hw : RW w p g l e) (hl : l.length ≤ 1000000000) :
    Calls Try.prog 46 #[.pointer (some ⟨p, 0, none⟩), .int .i64 n] w (RWrote w p g (rrNum e l n)) := by
  by_cases he : e = 0
  · subst he
    by_cases hn : 0 ≤ n ∧ n ≤ 1099511627776
    · obtain ⟨hn0, hn1⟩ := hn
      have HQ : Hid (rrNum 0 l n = (l ++ encNum n, 0)) := by show rrNum 0 l n = _; unfold rrNum; rw [if_pos rfl, if_pos ⟨hn0, hn1⟩]
      have HW : Hid (RW w p g l 0) := hw
      obtain ⟨v, h1, h2, h3, h4⟩ := hw
      obtain ⟨c0, c1, c3⟩ := h1.cells
      clear h1 h2 h3
      go_enter Try.func46, Try.ntmps46
      go_wp2
      clear c0 c1 c3
      go_loopw [1] (fun t wr => ∃ (f : Nat) (m : Int) (L : List Int) (g' : Option Nat), f ≤ 5 ∧ t = .int .i64 m ∧ 0 ≤ m ∧ m ≤ 1099511627776 ∧ m < 128 ^ (f + 1) ∧ L ++ enc f m = l ++ encNum n ∧ L.length ≤ 1000000005 - f ∧ RW wr p g' L 0 ∧ Fresh w g g' ∧ Kept (p :: g.toList) w wr)
        (fun t _ => (intOf t).toNat)
      case atStart => exact ⟨5, n, l, g, by omega, rfl, hn0, hn1, by omega, rfl, by omega, HW.out, Fresh.refl _ _, Kept.refl _ _⟩
      case round =>
        obtain ⟨f, m, L, g', hf, rfl, hm0, hm1, hm2, hL, hLl, hRW, hfr, hk⟩ := hrel
        obtain ⟨v, h1, h2, h3, h4⟩ := hRW
        subst h3
        obtain ⟨c0, c1, c3⟩ := h1.cells
        have HA : Hid (RWAt wr p v 0) := h1
        have HO : Hid (Own wr v L) := h2
        obtain ⟨a0, n0, cc0, hv0, _, _⟩ := own_sl h2
        subst hv0
        have hK0 : Kept (Value.slice a0 n0 cc0).ownBlock.toList wr wr := Kept.refl _ _
        clear h1 h2 HW
        by_cases h128 : 128 ≤ m
        · have q1 := and127 m hm0 hm1
          have q2 := or128 m
          have h127 : (127 : Int) < m := by omega
          go_wp2_with (at_builtin; refine wp_app rfl _ _ rfl _ L rfl (World.ownsRow.alloc HO.out _) (some ⟨wr.heap.size, 0, none⟩) 1 1 [m % 128 + 128] rfl (Sl.lit rfl rfl (by decide)) (by omega) ?_)
          intro v1 w1 hO1 hf1 hk1
          have hf2 : Fresh wr (Value.slice a0 n0 cc0).ownBlock v1.ownBlock := fresh_alloc (Fresh.refl _ _) hf1 (Nat.le_refl _)
          obtain ⟨hA1, hR1, hK1⟩ := rw_field HA.out h4 hO1 hf2 ((hK0.alloc _).trans hk1 (fun i hi => .inl hi))
          obtain ⟨d0, d1, d3⟩ := hA1.cells
          have HR1 : Hid (RW (w1.setCell ⟨p, 0, none⟩ v1) p v1.ownBlock (L ++ [m % 128 + 128]) 0) := hR1
          have HK1 : Hid (Kept (p :: g.toList) w (w1.setCell ⟨p, 0, none⟩ v1)) := kept_chain hk hfr hK1
          have HF1 : Hid (Fresh w g v1.ownBlock) := hfr.trans hf2 hk.size
          obtain ⟨a1, n1, cc1, rfl, _, _⟩ := own_sl hO1
          clear hR1 hK1 hO1 hf1 hf2 hk1 c0 c1 c3 q1 q2
          go_wp2
          go_roundw
          case rel =>
            obtain ⟨f', rfl⟩ : ∃ f', f = f' + 1 := by
              cases f with
              | zero => simp at hm2; omega
              | succ f' => exact ⟨f', rfl⟩
            refine ⟨f', m / 128, L ++ [m % 128 + 128], _, by omega, rfl, by omega, by omega, ?_, ?_, by simp; omega, HR1.out, HF1.out, HK1.out⟩
            · rw [Int.pow_succ] at hm2
              exact Int.ediv_lt_of_lt_mul (by decide) hm2
            · rw [← hL, enc_great _ _ h128]; simp
          case measure => simp [intOf]; omega
        · have h127 : ¬ (127 : Int) < m := by omega
          go_wp2_with (at_builtin; refine wp_app rfl _ _ rfl _ L rfl (World.ownsRow.alloc HO.out _) (some ⟨wr.heap.size, 0, none⟩) 1 1 [m] rfl (Sl.lit rfl rfl (by decide)) (by omega) ?_)
          intro v1 w1 hO1 hf1 hk1
          have hf2 : Fresh wr (Value.slice a0 n0 cc0).ownBlock v1.ownBlock := fresh_alloc (Fresh.refl _ _) hf1 (Nat.le_refl _)
          obtain ⟨hA1, hR1, hK1⟩ := rw_field HA.out h4 hO1 hf2 ((hK0.alloc _).trans hk1 (fun i hi => .inl hi))
          obtain ⟨d0, d1, d3⟩ := hA1.cells
          have HR1 : Hid (RW (w1.setCell ⟨p, 0, none⟩ v1) p v1.ownBlock (L ++ [m]) 0) := hR1
          have HK1 : Hid (Kept (p :: g.toList) w (w1.setCell ⟨p, 0, none⟩ v1)) := kept_chain hk hfr hK1
          have HF1 : Hid (Fresh w g v1.ownBlock) := hfr.trans hf2 hk.size
          obtain ⟨a1, n1, cc1, rfl, _, _⟩ := own_sl hO1
          clear hR1 hK1 hO1 hf1 hf2 hk1 c0 c1 c3
          go_wp2
          go_returns
          rw [HQ.out]
          refine ⟨rfl, _, ?_, HF1.out, HK1.out⟩
          rw [← hL, enc_small _ _ (by omega)]
          exact HR1.out
    · have HQ : Hid (rrNum 0 l n = (l, 1)) := by show rrNum 0 l n = _; unfold rrNum; rw [if_pos rfl, if_neg hn]
      obtain ⟨v, h1, h2, h3, h4⟩ := hw
      obtain ⟨c0, c1, c3⟩ := h1.cells
      have HR : Hid (RWrote w p g (l, 1) (.returned (.tuple #[])) (w.setCell ⟨p, 1, none⟩ (.int .i64 1))) :=
        ⟨rfl, g, ⟨v, h1.set1 1, (show Kept [p] w _ from (Kept.refl _ _).setCell (by simp) _).ownsRow h2 (by intro k hk h7; simp at h7; subst h7; rw [h3] at hk; exact h4 hk), h3, h4⟩, Fresh.refl _ _, (Kept.refl _ _).setCell (by simp) _⟩
      clear h1 h2 h3
      rcases (show n < 0 ∨ (¬ n < 0 ∧ 1099511627776 < n) by omega) with hn2 | ⟨hn2, hn3⟩
      all_goals
        clear hn
        go_enter Try.func46, Try.ntmps46
        go_wp2
        go_returns
        rw [HQ.out]
        exact HR.out
  · have HQ : Hid (rrNum e l n = (l, e)) := by show rrNum e l n = _; unfold rrNum; rw [if_neg he]
    have HR : Hid (RWrote w p g (l, e) (.returned (.tuple #[])) w) := ⟨rfl, g, hw, Fresh.refl _ _, Kept.refl _ _⟩
    obtain ⟨v, h1, h2, h3, h4⟩ := hw
    obtain ⟨c0, c1, c3⟩ := h1.cells
    have hb : (e != 0) = true := by simp [he]
    clear h1 h2 h3 he
    go_enter Try.func46, Try.ntmps46
    go_wp2
    go_returns
    rw [HQ.out]
    exact HR.out

end Go.Proofs.Ytfmklcnilmhnbaa
