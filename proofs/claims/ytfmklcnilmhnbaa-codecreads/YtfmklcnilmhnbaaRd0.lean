/-
  The reader's small calls, by their contracts.
-/
import Derived.Test.YtfmklcnilmhnbaaBase
import Derived.Test.YtfmklcnilmhnbaaRows
import Derived.WalkLawsBesides
import Derived.WalkSpells
import Derived.Handy
namespace Go.Proofs.Ytfmklcnilmhnbaa
open Go.RowKit

/-- A reader's block: what is left, what it failed by. -/
def RdAt (w : World) (p : Nat) (v : Value) (e : Int) : Prop := w.heap[p]? = some (.cells #[.bool true, v, .int .i64 e] 65 (0, 0))

theorem RdAt.cells {w : World} {p : Nat} {v : Value} {e : Int} (h : RdAt w p v e) :
    w.cell? ⟨p, 0, none⟩ = some (.bool true) ∧ w.cell? ⟨p, 1, none⟩ = some v ∧ w.cell? ⟨p, 2, none⟩ = some (.int .i64 e) ∧ (∀ o, w.frozen? ⟨p, o, none⟩ = false) := by
  unfold RdAt at h
  refine ⟨?_, ?_, ?_, fun o => ?_⟩ <;> simp [World.cell?, World.frozen?, h]

set_option maxHeartbeats 400000 in
theorem fail_any (w : World) (p : Nat) (v : Value) (e : Int) (h : RdAt w p v e) :
    Calls Try.prog 14 #[.pointer (some ⟨p, 0, none⟩)] w fun r w' => r = .returned (.int .i64 e) ∧ w = w' := by
  obtain ⟨h0, h1, h2, h3⟩ := h.cells
  clear h1 h3
  go_enter Try.func14, Try.ntmps14
  go_wp2
  go_ret
  exact ⟨rfl, rfl⟩

set_option maxHeartbeats 400000 in
theorem left_any (w : World) (p : Nat) (ao : Option Addr) (n c : Nat) (e : Int) (h : RdAt w p (.slice ao n c) e) :
    Calls Try.prog 29 #[.pointer (some ⟨p, 0, none⟩)] w fun r w' => r = .returned (.int .i64 n) ∧ w = w' := by
  obtain ⟨h0, h1, h2, h3⟩ := h.cells
  clear h0 h2 h3
  go_enter Try.func29, Try.ntmps29
  go_wp2
  go_ret
  exact ⟨rfl, rfl⟩

theorem at_setCell {w : World} {p : Nat} {xs : Array Value} {t : TypeId} {m : Nat × Nat} (h : w.heap[p]? = some (.cells xs t m)) (o : Nat) (u : Value) :
    (w.setCell ⟨p, o, none⟩ u).heap[p]? = some (.cells (xs.setIfInBounds o u) t m) := by
  simp [World.setCell, Array.getElem?_modify, h]

theorem RdAt.set1 {w : World} {p : Nat} {v : Value} {e : Int} (h : RdAt w p v e) (u : Value) : RdAt (w.setCell ⟨p, 1, none⟩ u) p u e := by
  have := at_setCell h 1 u
  simpa [RdAt] using this

theorem RdAt.set2 {w : World} {p : Nat} {v : Value} {e : Int} (h : RdAt w p v e) (x : Int) : RdAt (w.setCell ⟨p, 2, none⟩ (.int .i64 x)) p v x := by
  have := at_setCell h 2 (.int .i64 x)
  simpa [RdAt] using this

set_option maxHeartbeats 400000 in
theorem rfail_any (w : World) (p : Nat) (v : Value) (e x : Int) (h : RdAt w p v e) :
    Calls Try.prog 77 #[.pointer (some ⟨p, 0, none⟩), .int .i64 x] w fun r w' => r = .returned (.tuple #[]) ∧ RdAt w' p (.slice none 0 0) x ∧ Kept [p] w w' := by
  obtain ⟨h0, h1, h2, h3⟩ := h.cells
  go_enter Try.func77, Try.ntmps77
  go_wp2
  go_end0
  exact ⟨rfl, (h.set2 x).set1 _, ((Kept.refl _ _).setCell (by simp) _).setCell (by simp) _⟩

set_option maxHeartbeats 400000 in
theorem end_any (w : World) (p : Nat) (ao : Option Addr) (n c : Nat) (e : Int) (h : RdAt w p (.slice ao n c) e) :
    Calls Try.prog 28 #[.pointer (some ⟨p, 0, none⟩)] w fun r w' => r = .returned (.int .i64 (if e = 0 then (if n = 0 then 0 else 3) else e)) ∧ w = w' := by
  by_cases he : e = 0
  · subst he
    by_cases hn : n = 0
    · subst hn
      go_enter Try.func28, Try.ntmps28
      go_wp2_with (first | (go_at_call 14; refine (fail_any _ _ _ _ h).mono ?_; rintro _ _ ⟨rfl, rfl⟩) | (go_at_call 29; refine (left_any _ _ _ _ _ _ h).mono ?_; rintro _ _ ⟨rfl, rfl⟩))
      go_ret
      exact ⟨rfl, rfl⟩
    · have hp : (0 : Int) < (n : Int) := by omega
      go_enter Try.func28, Try.ntmps28
      go_wp2_with (first | (go_at_call 14; refine (fail_any _ _ _ _ h).mono ?_; rintro _ _ ⟨rfl, rfl⟩) | (go_at_call 29; refine (left_any _ _ _ _ _ _ h).mono ?_; rintro _ _ ⟨rfl, rfl⟩))
      go_ret
      simp
  · have hb : (e != 0) = true := by simp [he]
    go_enter Try.func28, Try.ntmps28
    go_wp2_with (first | (go_at_call 14; refine (fail_any _ _ _ _ h).mono ?_; rintro _ _ ⟨rfl, rfl⟩))
    go_ret
    simp

/-- take: fewer bytes are left than are asked for. -/
theorem take_short (w : World) (p : Nat) (ao : Option Addr) (n c k : Nat) (e : Int) (h : RdAt w p (.slice ao n c) e) (hk : n < k) :
    Calls Try.prog 70 #[.pointer (some ⟨p, 0, none⟩), .int .i64 k] w fun r w' => r = .panicked [{ v := .iface 27 (.int .i64 2), recovered := false }] ∧ w = w' := by
  obtain ⟨h0, h1, h2, h3⟩ := h.cells
  have hlt : (n : Int) < (k : Int) := by omega
  go_enter Try.func70, Try.ntmps70
  go_wp2
  exact ⟨rfl, rfl, rfl⟩

set_option maxHeartbeats 400000 in
/-- take: what is taken, and what is left. -/
theorem take_fits (w : World) (p : Nat) (ao : Option Addr) (n c k : Nat) (e : Int) (l : List Int) (hR : RdAt w p (.slice ao n c) e) (hs : Sl w ao n c l) (hp : p ∉ blk ao) (hk : k ≤ n) :
    Calls Try.prog 70 #[.pointer (some ⟨p, 0, none⟩), .int .i64 k] w fun r w' => ∃ a1 c1 a2 c2, r = .returned (.slice a1 k c1) ∧ RdAt w' p (.slice a2 (n - k) c2) e ∧ Sl w' a1 k c1 (l.take k) ∧ Sl w' a2 (n - k) c2 (l.drop k) ∧ blk a1 = blk ao ∧ blk a2 = blk ao ∧ Kept [p] w w' := by
  obtain ⟨h0, h1, h2, h3⟩ := hR.cells
  have hm := hs.2.2.1
  have hc := hs.2.1
  unfold maxLen at hm
  have hlt : ¬ (n : Int) < (k : Int) := by omega
  go_enter Try.func70, Try.ntmps70
  go_wp2
  · go_ret
    have ec : c = k := by assumption
    subst ec
    have hck : n ≤ c := by omega
    have hK : Kept [p] w (w.setCell ⟨p, 1, none⟩ (.slice ao (n - c) 0)) := (Kept.refl _ _).setCell (by simp) _
    exact ⟨_, _, rfl, _, _, hR.set1 _, Sl.kept hK (hs.take hk) (by intro k hk e; simp at e; subst e; exact hp hk), Sl.kept hK (hs.drop_all hck) (by intro k hk e; simp at e; subst e; exact hp hk), rfl, rfl, hK⟩
  · go_ret
    have hK : Kept [p] w (w.setCell ⟨p, 1, none⟩ (.slice (Option.map (fun x => x.add k) ao) (n - k) (c - k))) := (Kept.refl _ _).setCell (by simp) _
    exact ⟨_, _, rfl, _, _, hR.set1 _, Sl.kept hK (hs.take hk) (by intro k hk e; simp at e; subst e; exact hp hk), Sl.kept hK (hs.drop hk) (by rw [blk_add]; intro k hk e; simp at e; subst e; exact hp hk), rfl, blk_add _ _, hK⟩

theorem info_u8 : (Try.prog.info? 5).map (fun i => (i.zero, i.size, i.bytes)) = some (some (.int .u8 0), 1, 1) := by kernel_rfl

theorem q_nil : ∀ (w : World) (a : Option Addr) (n c n' c' : Nat), (binOp .eql 25 (.slice a n c) (.slice none n' c')).run Try.prog w = .ok (.bool a.isNone) w :=
  fun w a n c n' c' => Lib.run_eql_slice_nil w _ _ a n c n' c' Try.underlying25

set_option maxHeartbeats 1000000 in
/-- A copy of bytes, in memory of the call's own. -/
theorem clone_any (w : World) (ao : Option Addr) (n c : Nat) (l : List Int) (hs : Sl w ao n c l) (hbig : n ≤ 140737488355328) :
    Calls Try.prog 34 #[.slice ao n c] w fun e w' => ∃ a c', e = .returned (.slice a n c') ∧ Sl w' a n c' l ∧ (∀ k ∈ blk a, w.heap.size ≤ k ∧ k < w'.heap.size) ∧ Kept [] w w' := by
  obtain ⟨i0, hi, hz0, hz1, hz2⟩ := info_parts info_u8
  have qn := q_nil
  cases ao with
  | none =>
    have hc : c = 0 := hs.2.2.2.1 rfl
    have hn : n = 0 := by have := hs.2.1; omega
    have hl : l = [] := by have := hs.1; rw [hn] at this; simpa using this
    subst hl
    go_enter Try.func34, Try.ntmps34
    go_wp2
    go_ret
    subst hn
    exact ⟨_, _, rfl, Sl.nil _, by simp [blk], Kept.refl _ _⟩
  | some a =>
    have HS : Hid (Sl w (some a) n c l) := hs
    clear hs
    go_enter Try.func34, Try.ntmps34
    go_wp2_with (at_builtin; refine wpList_append_own _ rfl _ _ 25 rfl w.heap.size 5 i0 (.int .u8 0) 1 1 Try.underlying25 hi hz0 hz1 hz2 rfl (by decide) _ _ _ rfl (World.ownsRow_made w #[] 0 (Nat.le_refl _) (Nat.zero_le _) rfl) a n c (l.map (Value.int .u8)) rfl ?qc1 ?qc2 ?qc3 ?qc4 ?qc5 ?qc6 ?_)
    case qc1 => have := HS.out.1; simp; omega
    case qc2 =>
      intro j u hj
      have hjn : j < n := by
        have h5 := (List.getElem?_eq_some_iff.1 hj).1
        have h6 := HS.out.1
        simp at h5
        omega
      obtain ⟨b, o, e, hc⟩ := HS.out.2.2.2.2 j hjn
      cases e
      refine Lib.cell?_alloc_some _ ?_
      have ea : (⟨b, o, none⟩ : Addr).add j = ⟨b, o + j, none⟩ := by by_cases hk0 : j = 0 <;> simp [Addr.add, hk0]
      rw [ea, hc]
      have e : (l.map (Value.int .u8))[j]? = some (Value.int .u8 (l.getD j 0)) := by simp [List.getD, List.getElem?_eq_getElem (show j < l.length by have := HS.out.1; omega)]
      rw [e] at hj
      exact hj
    case qc3 => intro u hu; obtain ⟨x, _, rfl⟩ := List.mem_map.1 hu; rfl
    case qc4 => unfold maxLen; omega
    case qc5 => omega
    case qc6 => simp
    intro v' w1 hown hgrow hnil
    go_wp2
    go_ret
    have hn := HS.out.1
    subst hn
    have hown2 : w1.ownsRow w.heap.size 5 1 v' l.length (l.map (Value.int .u8)) := by simpa using hown
    clear hown
    obtain ⟨a', c', rfl, hsl, hb⟩ := Sl.of_owns hown2
    refine ⟨a', c', rfl, hsl, fun k hk => ⟨(hb k hk).1, (hb k hk).2.1⟩, ?_⟩
    exact ((Kept.refl _ w).alloc _).grown hgrow (by intro k hk; simp [Value.ownBlock] at hk; omega)

end Go.Proofs.Ytfmklcnilmhnbaa
