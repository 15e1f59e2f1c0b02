/-
  The document's own writer: its other calls, and a thing.
-/
import Derived.Test.YtfmklcnilmhnbaaRW0
namespace Go.Proofs.Ytfmklcnilmhnbaa
open Go.RowKit

def rrRun (e : Int) (l m : List Int) : List Int × Int := if e = 0 then (if m.length ≤ 1048576 then (l ++ (encNum m.length ++ m), 0) else (l, 3)) else (l, e)
def rrFlag (e : Int) (l : List Int) (b : Bool) : List Int × Int := if e = 0 then (l ++ [if b then 1 else 0], 0) else (l, e)
def rrWord (e : Int) (l : List Int) (x : Int) : List Int × Int := if e = 0 then (l ++ hiB 8 x, 0) else (l, e)
def rrRefuse (e : Int) (l : List Int) : List Int × Int := if e = 0 then (l, 1) else (l, e)

theorem RWrote.same {w : World} {p : Nat} {g : Option Nat} {l : List Int} {e : Int} (hw : RW w p g l e) : RWrote w p g (l, e) (.returned (.tuple #[])) w := ⟨rfl, g, hw, Fresh.refl _ _, Kept.refl _ _⟩

theorem RWrote.fail {w : World} {p : Nat} {g : Option Nat} {l : List Int} {e : Int} (hw : RW w p g l e) (x : Int) : RWrote w p g (l, x) (.returned (.tuple #[])) (w.setCell ⟨p, 1, none⟩ (.int .i64 x)) := by
  obtain ⟨v, h1, h2, h3, h4⟩ := hw
  exact ⟨rfl, g, ⟨v, h1.set1 x, (show Kept [p] w _ from (Kept.refl _ _).setCell (by simp) _).ownsRow h2 (by intro k hk h7; simp at h7; subst h7; rw [h3] at hk; exact h4 hk), h3, h4⟩, Fresh.refl _ _, (Kept.refl _ _).setCell (by simp) _⟩

theorem RW.cells {w : World} {p : Nat} {g : Option Nat} {l : List Int} {e : Int} (hw : RW w p g l e) : ∃ a n c, w.cell? ⟨p, 0, none⟩ = some (.slice a n c) ∧ w.cell? ⟨p, 1, none⟩ = some (.int .i64 e) ∧ (∀ o, w.frozen? ⟨p, o, none⟩ = false) ∧ RWAt w p (.slice a n c) e ∧ Own w (.slice a n c) l ∧ (Value.slice a n c).ownBlock = g ∧ (Value.slice a n c).ownBlock ≠ some p := by
  obtain ⟨v, h1, h2, h3, h4⟩ := hw
  obtain ⟨a, n, c, rfl, _, _⟩ := own_sl h2
  obtain ⟨c0, c1, c3⟩ := h1.cells
  exact ⟨a, n, c, c0, c1, c3, h1, h2, h3, by rw [h3]; exact h4⟩

set_option maxHeartbeats 1000000 in
theorem rwrefuse_call (w : World) (p : Nat) (g : Option Nat) (l : List Int) (e : Int) (hw : RW w p g l e) :
    Calls Try.prog 51 #[.pointer (some ⟨p, 0, none⟩)] w (RWrote w p g (rrRefuse e l)) := by
  obtain ⟨a, n, c, c0, c1, c3, _⟩ := hw.cells
  by_cases he : e = 0
  · subst he
    have HR : Hid (RWrote w p g (rrRefuse 0 l) (.returned (.tuple #[])) (w.setCell ⟨p, 1, none⟩ (.int .i64 1))) := RWrote.fail hw 1
    clear hw
    go_enter Try.func51, Try.ntmps51
    go_wp2
    go_returns
    exact HR.out
  · have HR : Hid (RWrote w p g (rrRefuse e l) (.returned (.tuple #[])) w) := by show RWrote w p g (rrRefuse e l) _ w; unfold rrRefuse; rw [if_neg he]; exact RWrote.same hw
    have hb : (e == 0) = false := by simp [he]
    clear hw he
    go_enter Try.func51, Try.ntmps51
    go_wp2
    go_returns
    exact HR.out

set_option maxHeartbeats 1000000 in
theorem rwflag_false (w : World) (p : Nat) (g : Option Nat) (l : List Int) (e : Int) (hw : RW w p g l e) (hl : l.length ≤ 1000000000) :
    Calls Try.prog 49 #[.pointer (some ⟨p, 0, none⟩), .bool false] w (RWrote w p g (rrFlag e l false)) := by
  by_cases he : e = 0
  · subst he
    have HQ : Hid (rrFlag 0 l false = (l ++ [0], 0)) := by show rrFlag 0 l false = _; unfold rrFlag; rw [if_pos rfl]; rfl
    obtain ⟨a0, n0, cc0, c0, c1, c3, h1, h2, h3, h4⟩ := hw.cells
    subst h3
    have HA : Hid (RWAt w p (.slice a0 n0 cc0) 0) := h1
    have HO : Hid (Own w (.slice a0 n0 cc0) l) := h2
    clear h1 h2 hw
    go_enter Try.func49, Try.ntmps49
    go_wp2_with (at_builtin; refine wp_app rfl _ _ rfl _ l rfl (World.ownsRow.alloc HO.out _) (some ⟨w.heap.size, 0, none⟩) 1 1 [0] rfl (Sl.lit rfl rfl (by decide)) (by omega) ?_)
    intro v1 w1 hO1 hf1 hk1
    have hf2 : Fresh w (Value.slice a0 n0 cc0).ownBlock v1.ownBlock := fresh_alloc (Fresh.refl _ _) hf1 (Nat.le_refl _)
    obtain ⟨hA1, hR1, hK1⟩ := rw_field HA.out h4 hO1 hf2 (((Kept.refl _ _).alloc _).trans hk1 (fun i hi => .inl hi))
    obtain ⟨d0, d1, d3⟩ := hA1.cells
    have HR : Hid (RWrote w p (Value.slice a0 n0 cc0).ownBlock (l ++ [0], 0) (.returned (.tuple #[])) (w1.setCell ⟨p, 0, none⟩ v1)) := ⟨rfl, _, hR1, hf2, hK1⟩
    obtain ⟨a1, n1, cc1, rfl, _, _⟩ := own_sl hO1
    clear hR1 hK1 hO1 hf1 hf2 hk1 c0 c1 c3
    go_wp2
    go_returns
    rw [HQ.out]
    exact HR.out
  · have HR : Hid (RWrote w p g (rrFlag e l false) (.returned (.tuple #[])) w) := by show RWrote w p g (rrFlag e l false) _ w; unfold rrFlag; rw [if_neg he]; exact RWrote.same hw
    obtain ⟨a, n, c, c0, c1, c3, _⟩ := hw.cells
    have hb : (e != 0) = true := by simp [he]
    clear hw he
    go_enter Try.func49, Try.ntmps49
    go_wp2
    go_returns
    exact HR.out

set_option maxHeartbeats 1000000 in
theorem rwflag_true (w : World) (p : Nat) (g : Option Nat) (l : List Int) (e : Int) (hw : RW w p g l e) (hl : l.length ≤ 1000000000) :
    Calls Try.prog 49 #[.pointer (some ⟨p, 0, none⟩), .bool true] w (RWrote w p g (rrFlag e l true)) := by
  by_cases he : e = 0
  · subst he
    have HQ : Hid (rrFlag 0 l true = (l ++ [1], 0)) := by show rrFlag 0 l true = _; unfold rrFlag; rw [if_pos rfl]; rfl
    obtain ⟨a0, n0, cc0, c0, c1, c3, h1, h2, h3, h4⟩ := hw.cells
    subst h3
    have HA : Hid (RWAt w p (.slice a0 n0 cc0) 0) := h1
    have HO : Hid (Own w (.slice a0 n0 cc0) l) := h2
    clear h1 h2 hw
    go_enter Try.func49, Try.ntmps49
    go_wp2_with (at_builtin; refine wp_app rfl _ _ rfl _ l rfl (World.ownsRow.alloc HO.out _) (some ⟨w.heap.size, 0, none⟩) 1 1 [1] rfl (Sl.lit rfl rfl (by decide)) (by omega) ?_)
    intro v1 w1 hO1 hf1 hk1
    have hf2 : Fresh w (Value.slice a0 n0 cc0).ownBlock v1.ownBlock := fresh_alloc (Fresh.refl _ _) hf1 (Nat.le_refl _)
    obtain ⟨hA1, hR1, hK1⟩ := rw_field HA.out h4 hO1 hf2 (((Kept.refl _ _).alloc _).trans hk1 (fun i hi => .inl hi))
    obtain ⟨d0, d1, d3⟩ := hA1.cells
    have HR : Hid (RWrote w p (Value.slice a0 n0 cc0).ownBlock (l ++ [1], 0) (.returned (.tuple #[])) (w1.setCell ⟨p, 0, none⟩ v1)) := ⟨rfl, _, hR1, hf2, hK1⟩
    obtain ⟨a1, n1, cc1, rfl, _, _⟩ := own_sl hO1
    clear hR1 hK1 hO1 hf1 hf2 hk1 c0 c1 c3
    go_wp2
    go_returns
    rw [HQ.out]
    exact HR.out
  · have HR : Hid (RWrote w p g (rrFlag e l true) (.returned (.tuple #[])) w) := by show RWrote w p g (rrFlag e l true) _ w; unfold rrFlag; rw [if_neg he]; exact RWrote.same hw
    obtain ⟨a, n, c, c0, c1, c3, _⟩ := hw.cells
    have hb : (e != 0) = true := by simp [he]
    clear hw he
    go_enter Try.func49, Try.ntmps49
    go_wp2
    go_returns
    exact HR.out

theorem rwflag_call (w : World) (p : Nat) (g : Option Nat) (l : List Int) (e : Int) (b : Bool) (hw : RW w p g l e) (hl : l.length ≤ 1000000000) :
    Calls Try.prog 49 #[.pointer (some ⟨p, 0, none⟩), .bool b] w (RWrote w p g (rrFlag e l b)) := by
  cases b
  · exact rwflag_false w p g l e hw hl
  · exact rwflag_true w p g l e hw hl

set_option maxHeartbeats 1000000 in
theorem rwtext_call (w : World) (p : Nat) (g : Option Nat) (l : List Int) (e : Int) (s : ByteArray) (hw : RW w p g l e) (hl : l.length ≤ 1000000000) (hm : s.size ≤ 9223372036854775807) :
    Calls Try.prog 47 #[.pointer (some ⟨p, 0, none⟩), .string s] w (RWrote w p g (rrRun e l (strOf s))) := by
  have hsl := strOf_length s
  obtain ⟨m, hmm⟩ : ∃ m, m = strOf s := ⟨_, rfl⟩
  rw [← hmm] at hsl ⊢
  have HM : Hid (m = strOf s) := hmm
  have HSL : Hid (m.length = s.size) := hsl
  clear hsl hmm
  by_cases he : e = 0
  · subst he
    by_cases hbig : 1048576 < s.size
    · have hb2 : (1048576 : Int) < (s.size : Int) := by omega
      have HR : Hid (RWrote w p g (rrRun 0 l m) (.returned (.tuple #[])) (w.setCell ⟨p, 1, none⟩ (.int .i64 3))) := by show RWrote w p g (rrRun 0 l m) _ _; unfold rrRun; rw [if_pos rfl, if_neg (by rw [HSL.out]; omega)]; exact RWrote.fail hw 3
      obtain ⟨a, n', c', c0, c1, c3, h1, h2, h3, h4⟩ := hw.cells
      have d1 := (h1.set1 3).cells.2.1
      clear hw h1 h2 h3
      go_enter Try.func47, Try.ntmps47
      go_wp2
      go_returns
      exact HR.out
    · have hb2 : ¬ (1048576 : Int) < (s.size : Int) := by omega
      have HQ : Hid (rrRun 0 l m = (l ++ (encNum s.size ++ m), 0)) := by show rrRun 0 l m = _; unfold rrRun; rw [if_pos rfl, if_pos (by rw [HSL.out]; omega), HSL.out]
      have HW : Hid (RW w p g l 0) := hw
      obtain ⟨a, n', c', c0, c1, c3, _, _, _, _⟩ := hw.cells
      clear hw
      go_enter Try.func47, Try.ntmps47
      go_wp2_with fail
      refine (rwnum_call _ _ _ _ _ _ HW.out hl).mono ?_
      rintro _ w1 ⟨rfl, g1, hR1, hF1, hK1⟩
      have hn1 : rrNum 0 l (s.size : Int) = (l ++ encNum (s.size : Int), 0) := by unfold rrNum; rw [if_pos rfl, if_pos ⟨by omega, by omega⟩]
      rw [hn1] at hR1
      simp only at hR1
      have hlenA : (l ++ encNum (s.size : Int)).length ≤ 1000000006 := by have := enc_length 5 (s.size : Int); simp [encNum]; omega
      generalize hLA : l ++ encNum (s.size : Int) = LA at hR1 hlenA
      have HLA : Hid (l ++ encNum (s.size : Int) = LA) := hLA
      clear hLA hn1
      obtain ⟨a1, n1, cc1, d0, d1, d3, h1, h2, h3, h4⟩ := hR1.cells
      subst h3
      have HA : Hid (RWAt w1 p (.slice a1 n1 cc1) 0) := h1
      have HO : Hid (Own w1 (.slice a1 n1 cc1) LA) := h2
      clear h1 h2 hR1 c0 c1 c3 HW
      go_wp2_with (at_builtin; refine wp_appS rfl _ _ rfl _ LA rfl HO.out s rfl (by omega) ?_)
      rw [← HM.out]
      intro v2 w2 hO2 hf2 hk2
      obtain ⟨hA2, hR2, hK2⟩ := rw_field HA.out h4 hO2 hf2 hk2
      obtain ⟨e0, e1, e3⟩ := hA2.cells
      have HR : Hid (RWrote w p g (rrRun 0 l m) (.returned (.tuple #[])) (w2.setCell ⟨p, 0, none⟩ v2)) := by
        show RWrote w p g (rrRun 0 l m) _ _
        rw [HQ.out, ← List.append_assoc, HLA.out]
        exact ⟨rfl, _, hR2, hF1.trans hf2 hK1.size, kept_chain hK1 hF1 hK2⟩
      obtain ⟨a2, n2, cc2, rfl, _, _⟩ := own_sl hO2
      clear hR2 hK2 hO2 hf2 hk2 d0 d1 d3
      go_wp2
      go_returns
      exact HR.out
  · have HR : Hid (RWrote w p g (rrRun e l m) (.returned (.tuple #[])) w) := by show RWrote w p g (rrRun e l m) _ w; unfold rrRun; rw [if_neg he]; exact RWrote.same hw
    obtain ⟨a, n', c', c0, c1, c3, _⟩ := hw.cells
    have hb : (e == 0) = false := by simp [he]
    clear hw he
    go_enter Try.func47, Try.ntmps47
    go_wp2
    go_returns
    exact HR.out

set_option maxHeartbeats 1000000 in
theorem rwbytes_call (w : World) (p : Nat) (g : Option Nat) (l : List Int) (e : Int) (ao : Option Addr) (n c : Nat) (m : List Int) (hw : RW w p g l e) (hl : l.length ≤ 1000000000) (hs : Sl w ao n c m) (hd : 0 < n → ∀ k ∈ blk ao, k ∉ p :: g.toList) :
    Calls Try.prog 48 #[.pointer (some ⟨p, 0, none⟩), .slice ao n c] w (RWrote w p g (rrRun e l m)) := by
  have hm := hs.2.2.1
  have hc := hs.2.1
  unfold maxLen at hm
  have HSL : Hid (m.length = n) := hs.1
  have HS : Hid (Sl w ao n c m) := hs
  clear hs
  by_cases he : e = 0
  · subst he
    by_cases hbig : 1048576 < n
    · have hb2 : (1048576 : Int) < (n : Int) := by omega
      have HR : Hid (RWrote w p g (rrRun 0 l m) (.returned (.tuple #[])) (w.setCell ⟨p, 1, none⟩ (.int .i64 3))) := by show RWrote w p g (rrRun 0 l m) _ _; unfold rrRun; rw [if_pos rfl, if_neg (by rw [HSL.out]; omega)]; exact RWrote.fail hw 3
      obtain ⟨a, n', c', c0, c1, c3, h1, h2, h3, h4⟩ := hw.cells
      have d1 := (h1.set1 3).cells.2.1
      clear hw h1 h2 h3
      go_enter Try.func48, Try.ntmps48
      go_wp2
      go_returns
      exact HR.out
    · have hb2 : ¬ (1048576 : Int) < (n : Int) := by omega
      have HQ : Hid (rrRun 0 l m = (l ++ (encNum n ++ m), 0)) := by show rrRun 0 l m = _; unfold rrRun; rw [if_pos rfl, if_pos (by rw [HSL.out]; omega), HSL.out]
      have HW : Hid (RW w p g l 0) := hw
      obtain ⟨a, n', c', c0, c1, c3, _, _, _, _⟩ := hw.cells
      clear hw
      go_enter Try.func48, Try.ntmps48
      go_wp2_with fail
      refine (rwnum_call _ _ _ _ _ _ HW.out hl).mono ?_
      rintro _ w1 ⟨rfl, g1, hR1, hF1, hK1⟩
      have hn1 : rrNum 0 l (n : Int) = (l ++ encNum (n : Int), 0) := by unfold rrNum; rw [if_pos rfl, if_pos ⟨by omega, by omega⟩]
      rw [hn1] at hR1
      simp only at hR1
      have hlenA : (l ++ encNum (n : Int)).length ≤ 1000000006 := by have := enc_length 5 (n : Int); simp [encNum]; omega
      generalize hLA : l ++ encNum (n : Int) = LA at hR1 hlenA
      have HLA : Hid (l ++ encNum (n : Int) = LA) := hLA
      clear hLA hn1
      obtain ⟨a1, n1, cc1, d0, d1, d3, h1, h2, h3, h4⟩ := hR1.cells
      subst h3
      have HA : Hid (RWAt w1 p (.slice a1 n1 cc1) 0) := h1
      have HO : Hid (Own w1 (.slice a1 n1 cc1) LA) := h2
      clear h1 h2 hR1 c0 c1 c3 HW
      have hs1 : Sl w1 ao n c m := Sl.kept' hK1 HS.out hd
      go_wp2_with (at_builtin; refine wp_app rfl _ _ rfl _ LA rfl HO.out ao n c m rfl hs1 (by omega) ?_)
      intro v2 w2 hO2 hf2 hk2
      obtain ⟨hA2, hR2, hK2⟩ := rw_field HA.out h4 hO2 hf2 hk2
      obtain ⟨e0, e1, e3⟩ := hA2.cells
      have HR : Hid (RWrote w p g (rrRun 0 l m) (.returned (.tuple #[])) (w2.setCell ⟨p, 0, none⟩ v2)) := by
        show RWrote w p g (rrRun 0 l m) _ _
        rw [HQ.out, ← List.append_assoc, HLA.out]
        exact ⟨rfl, _, hR2, hF1.trans hf2 hK1.size, kept_chain hK1 hF1 hK2⟩
      obtain ⟨a2, n2, cc2, rfl, _, _⟩ := own_sl hO2
      clear hR2 hK2 hO2 hf2 hk2 d0 d1 d3
      go_wp2
      go_returns
      exact HR.out
  · have HR : Hid (RWrote w p g (rrRun e l m) (.returned (.tuple #[])) w) := by show RWrote w p g (rrRun e l m) _ w; unfold rrRun; rw [if_neg he]; exact RWrote.same hw
    obtain ⟨a, n', c', c0, c1, c3, _⟩ := hw.cells
    have hb : (e == 0) = false := by simp [he]
    clear hw he
    go_enter Try.func48, Try.ntmps48
    go_wp2
    go_returns
    exact HR.out

set_option maxRecDepth 100000 in
set_option maxHeartbeats 2000000 in
theorem rwword_call (w : World) (p : Nat) (g : Option Nat) (l : List Int) (e x : Int) (hw : RW w p g l e) (hl : l.length ≤ 1000000000) :
    Calls Try.prog 50 #[.pointer (some ⟨p, 0, none⟩), .int .u64 x] w (RWrote w p g (rrWord e l x)) := by
  by_cases he : e = 0
  · subst he
    have HQ : Hid (rrWord 0 l x = (l ++ hiB 8 x, 0)) := by show rrWord 0 l x = _; unfold rrWord; rw [if_pos rfl]
    have HW : Hid (RW w p g l 0) := hw
    clear hw
    go_enter Try.func50, Try.ntmps50
    go_wp2
    go_loopw [4] (fun t wr => ∃ (k : Nat) (i : Int) (g' : Option Nat), k ≤ 8 ∧ t = .int .i64 i ∧ i = 7 - (k : Int) ∧ RW wr p g' (l ++ (hiB 8 x).take k) 0 ∧ Fresh w g g' ∧ Kept (p :: g.toList) w wr)
      (fun t _ => (intOf t + 1).toNat)
    case atStart => exact ⟨0, 7, g, by omega, rfl, by omega, by simpa using HW.out, Fresh.refl _ _, Kept.refl _ _⟩
    case round =>
      obtain ⟨k, i, g', hk8, rfl, hi, hRW, hfr, hk⟩ := hrel
      have hlen : (l ++ (hiB 8 x).take k).length ≤ 1000000008 := by simp [hiB_length]; omega
      obtain ⟨L, hL⟩ : ∃ L, L = l ++ (hiB 8 x).take k := ⟨_, rfl⟩
      rw [← hL] at hRW hlen
      have HL : Hid (L = l ++ (hiB 8 x).take k) := hL
      have HI : Hid (i = 7 - (k : Int)) := hi
      obtain ⟨a0, n0, cc0, c0, c1, c3, h1, h2, h3, h4⟩ := hRW.cells
      subst h3
      have HA : Hid (RWAt wr p (.slice a0 n0 cc0) 0) := h1
      have HO : Hid (Own wr (.slice a0 n0 cc0) L) := h2
      have HRW : Hid (RW wr p (Value.slice a0 n0 cc0).ownBlock L 0) := hRW
      have hi1 : -1 ≤ i := by omega
      have hi2 : i ≤ 7 := by omega
      clear h1 h2 hRW HW hL hi
      by_cases hlt : k < 8
      · have hi0 : 0 ≤ i := by have := HI.out; omega
        go_wp2_with (at_builtin; refine wp_app rfl _ _ rfl _ L rfl (World.ownsRow.alloc HO.out _) (some ⟨wr.heap.size, 0, none⟩) 1 1 [_] rfl (Sl.lit rfl rfl (by decide)) (by omega) ?_)
        intro v1 w1 hO1 hf1 hk1
        have hf2 : Fresh wr (Value.slice a0 n0 cc0).ownBlock v1.ownBlock := fresh_alloc (Fresh.refl _ _) hf1 (Nat.le_refl _)
        obtain ⟨hA1, hR1, hK1⟩ := rw_field HA.out h4 hO1 hf2 (((Kept.refl _ _).alloc _).trans hk1 (fun i hi => .inl hi))
        obtain ⟨d0, d1, d3⟩ := hA1.cells
        have HR1 : Hid (RW (w1.setCell ⟨p, 0, none⟩ v1) p v1.ownBlock (l ++ (hiB 8 x).take (k + 1)) 0) := by
          show RW (w1.setCell ⟨p, 0, none⟩ v1) p v1.ownBlock (l ++ (hiB 8 x).take (k + 1)) 0
          rw [hiB_take _ _ _ hlt, ← List.append_assoc, ← HL.out, show 8 * (8 - 1 - k) = (8 * i).toNat by have := HI.out; omega]
          exact hR1
        have HK1 : Hid (Kept (p :: g.toList) w (w1.setCell ⟨p, 0, none⟩ v1)) := kept_chain hk hfr hK1
        have HF1 : Hid (Fresh w g v1.ownBlock) := hfr.trans hf2 hk.size
        obtain ⟨a1, n1, cc1, rfl, _, _⟩ := own_sl hO1
        clear hR1 hK1 hO1 hf1 hf2 hk1 c0 c1 c3
        go_wp2
        go_roundw
        case rel => exact ⟨k + 1, i - 1, _, by omega, rfl, by have := HI.out; omega, HR1.out, HF1.out, HK1.out⟩
        case measure => simp [intOf]; omega
      · have hi0 : ¬ 0 ≤ i := by have := HI.out; omega
        have HR : Hid (RWrote w p g (rrWord 0 l x) (.returned (.tuple #[])) wr) := by
          show RWrote w p g (rrWord 0 l x) _ wr
          rw [HQ.out]
          have h5 := HRW.out
          rw [HL.out, List.take_of_length_le (by rw [hiB_length]; omega)] at h5
          exact ⟨rfl, _, h5, hfr, hk⟩
        go_wp2
        go_returns
        exact HR.out
  · have HR : Hid (RWrote w p g (rrWord e l x) (.returned (.tuple #[])) w) := by show RWrote w p g (rrWord e l x) _ w; unfold rrWord; rw [if_neg he]; exact RWrote.same hw
    obtain ⟨a, n', c', c0, c1, c3, _⟩ := hw.cells
    have hb : (e == 0) = false := by simp [he]
    clear hw he
    go_enter Try.func50, Try.ntmps50
    go_wp2
    refine wp_loop_rounds 1 ?_
    rw [rounds_succ]
    go_wp2
    go_returns
    exact HR.out

end Go.Proofs.Ytfmklcnilmhnbaa
