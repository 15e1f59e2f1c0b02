/-
  A reader's flags, words and refusals.
-/
import Derived.Test.YtfmklcnilmhnbaaRd4
namespace Go.Proofs.Ytfmklcnilmhnbaa
open Go.RowKit

theorem enter_flag (a : Array Value) (w : World) : Sem.run Try.prog (callFunc 67 a) w = .ok (.enter 67 a) w := by kernel_rfl

set_option maxHeartbeats 1000000 in
theorem flag_step (w : World) (p : Nat) (ao : Option Addr) (n c : Nat) (l : List Int) (hR : RdAt w p (.slice ao n c) 0) (hs : Sl w ao n c l) (hp : p ∉ blk ao) (ho : Oct l) :
    Calls Try.prog 67 #[.pointer (some ⟨p, 0, none⟩)] w (Step p ao (fun _ x rest => ∃ b, x = .bool b ∧ rdFlag l = (0, b, rest)) (fun e => rdFlag l = (e, false, [])) w) := by
  have hn := hs.1
  subst hn
  have HR : Hid (RdAt w p (.slice ao l.length c) 0) := hR
  have HS : Hid (Sl w ao l.length c l) := hs
  clear hR hs
  cases l with
  | nil =>
    have HF : Hid (Step p ao (fun _ x rest => ∃ b, x = .bool b ∧ rdFlag [] = (0, b, rest)) (fun e => rdFlag [] = (e, false, [])) w (.panicked [{ v := .iface 27 (.int .i64 2), recovered := false }]) w) := ⟨Kept.refl _ _, .inr ⟨2, _, rfl, by decide, HR.out, rfl⟩⟩
    go_enter Try.func67, Try.ntmps67
    go_wp2_with fail
    refine (take_short _ _ _ _ _ 1 _ HR.out (by simp)).mono ?_
    rintro _ _ ⟨rfl, rfl⟩
    go_wp2
    exact ⟨rfl, HF.out⟩
  | cons d l' =>
    have hd := ho.head
    go_enter Try.func67, Try.ntmps67
    go_wp2_with fail
    refine (take_fits _ _ _ _ _ 1 _ _ HR.out HS.out hp (by simp)).mono ?_
    rintro _ w1 ⟨a1, c1, a2, c2, rfl, hR2, hs1, hs2, hb1, hb2, hk2⟩
    obtain ⟨b, o, hb3, hc1⟩ := hs1.some (by omega)
    subst hb3
    have hc2 := hc1 0 (by omega)
    clear hc1 hb1 hs1
    simp at hc2
    have HR2 : Hid (RdAt w1 p (.slice a2 l'.length c2) 0) := hR2
    have HS2 : Hid (Sl w1 a2 l'.length c2 l') := hs2
    have HB2 : Hid (blk a2 = blk ao) := hb2
    clear hR2 hs2 hb2
    by_cases h1 : 1 < d
    · have HF : Hid (Step p ao (fun _ x rest => ∃ b, x = .bool b ∧ rdFlag (d :: l') = (0, b, rest)) (fun e => rdFlag (d :: l') = (e, false, [])) w (.panicked [{ v := .iface 27 (.int .i64 4), recovered := false }]) w1) := ⟨hk2, .inr ⟨4, _, rfl, by decide, HR2.out, by rw [rdFlag, if_pos h1]⟩⟩
      go_wp2
      exact ⟨rfl, HF.out⟩
    · have HF : Hid (Step p ao (fun _ x rest => ∃ b, x = .bool b ∧ rdFlag (d :: l') = (0, b, rest)) (fun e => rdFlag (d :: l') = (e, false, [])) w (.returned (.bool (d == 1))) w1) := ⟨hk2, .inl ⟨_, a2, c2, l', rfl, HR2.out, HS2.out, fun k hk => by rw [HB2.out] at hk; exact hk, d == 1, rfl, by rw [rdFlag, if_neg h1]⟩⟩
      go_wp2
      go_ret
      exact HF.out

set_option maxHeartbeats 1000000 in
theorem word_step (w : World) (p : Nat) (ao : Option Addr) (n c : Nat) (l : List Int) (hR : RdAt w p (.slice ao n c) 0) (hs : Sl w ao n c l) (hp : p ∉ blk ao) (ho : Oct l) :
    Calls Try.prog 69 #[.pointer (some ⟨p, 0, none⟩)] w (Step p ao (fun _ x rest => ∃ y, x = .int .u64 y ∧ rdWord l = (0, y, rest)) (fun e => rdWord l = (e, 0, [])) w) := by
  have hn := hs.1
  subst hn
  have HR : Hid (RdAt w p (.slice ao l.length c) 0) := hR
  have HS : Hid (Sl w ao l.length c l) := hs
  clear hR hs
  by_cases h8 : l.length < 8
  · have HF : Hid (Step p ao (fun _ x rest => ∃ y, x = .int .u64 y ∧ rdWord l = (0, y, rest)) (fun e => rdWord l = (e, 0, [])) w (.panicked [{ v := .iface 27 (.int .i64 2), recovered := false }]) w) := ⟨Kept.refl _ _, .inr ⟨2, _, rfl, by decide, HR.out, by unfold rdWord; rw [if_pos h8]⟩⟩
    go_enter Try.func69, Try.ntmps69
    go_wp2_with fail
    refine (take_short _ _ _ _ _ 8 _ HR.out h8).mono ?_
    rintro _ _ ⟨rfl, rfl⟩
    go_wp2
    exact ⟨rfl, HF.out⟩
  · have HQ : Hid (rdWord l = (0, rdHi (l.take 8), l.drop 8)) := by show rdWord l = _; unfold rdWord; rw [if_neg h8]
    go_enter Try.func69, Try.ntmps69
    go_wp2_with fail
    refine (take_fits _ _ _ _ _ 8 _ _ HR.out HS.out hp (by omega)).mono ?_
    rintro _ w1 ⟨a1, c1, a2, c2, rfl, hR2, hs1, hs2, hb1, hb2, hk2⟩
    have HF : Hid (Step p ao (fun _ x rest => ∃ y, x = .int .u64 y ∧ rdWord l = (0, y, rest)) (fun e => rdWord l = (e, 0, [])) w (.returned (.int .u64 (rdHi (l.take 8)))) w1) := by
      have e : (l.drop 8).length = l.length - 8 := by simp
      exact ⟨hk2, .inl ⟨_, a2, c2, l.drop 8, rfl, by rw [e]; exact hR2, by rw [e]; exact hs2, fun k hk => by rw [hb2] at hk; exact hk, _, rfl, HQ.out⟩⟩
    clear hR2 hs2 hb1 hb2 hk2
    go_wp2_with fail
    refine (readHigh_call _ _ _ _ _ hs1 (ho.take 8)).mono ?_
    rintro _ _ ⟨rfl, rfl⟩
    go_wp2
    go_ret
    exact HF.out

theorem refuse_step (w : World) (p : Nat) (ao : Option Addr) (v : Value) (hR : RdAt w p v 0) :
    Calls Try.prog 82 #[.pointer (some ⟨p, 0, none⟩)] w (Step p ao (fun _ _ _ => False) (fun e => e = 4) w) := by
  have HF : Hid (Step p ao (fun _ _ _ => False) (fun e => e = 4) w (.panicked [{ v := .iface 27 (.int .i64 4), recovered := false }]) w) := ⟨Kept.refl _ _, .inr ⟨4, v, rfl, by decide, hR, rfl⟩⟩
  clear hR
  go_enter Try.func82, Try.ntmps82
  go_wp2
  exact ⟨rfl, HF.out⟩

def rdFlagE (e : Int) (l : List Int) : Int × Bool × List Int := if e = 0 then rdFlag l else (e, false, [])
def rdWordE (e : Int) (l : List Int) : Int × Int × List Int := if e = 0 then rdWord l else (e, 0, [])
def rdRefE (e : Int) : Int := if e = 0 then 4 else e

theorem rdFlag_oct {l : List Int} (ho : Oct l) : Oct (rdFlag l).2.2 := by
  cases l with
  | nil => exact oct_nil
  | cons d l =>
    rw [rdFlag]
    split
    · exact oct_nil
    · exact ho.tail

theorem rdWord_oct {l : List Int} (ho : Oct l) : Oct (rdWord l).2.2 := by
  unfold rdWord
  split
  · exact oct_nil
  · exact ho.drop 8

set_option maxHeartbeats 400000 in
theorem rFlag_call (w : World) (p : Nat) (F : List Nat) (l : List Int) (e : Int) (hr : Rd w p F l e) :
    Calls Try.prog 26 #[.pointer (some ⟨p, 0, none⟩)] w fun r w' => r = .returned (.bool (rdFlagE e l).2.1) ∧ Rd w' p F (rdFlagE e l).2.2 (rdFlagE e l).1 ∧ Kept [p] w w' := by
  obtain ⟨ao, c, h1, h2, h3, h4, h5, h6⟩ := hr
  have H1 : Hid (RdAt w p (.slice ao l.length c) e) := h1
  have H2 : Hid (Sl w ao l.length c l) := h2
  have hmf : ∀ (fn : Fn) (first cap : Array Value) (w : World), (Instr.makeFunc fn first cap).run Try.prog w = .ok (.func fn first cap) w := fun _ _ _ _ => rfl
  clear h1 h2
  by_cases he : e = 0
  · subst he
    go_enter Try.func26, Try.ntmps26
    go_wp2_with fail
    refine (readBoo _ p ao _ c l H1.out H2.out 67 enter_flag #[] _ _ (fun w1 hk hR1 hs1 => flag_step w1 p ao _ c l hR1 hs1 (fun h => h4 (h3 p h)) h5)).mono ?_
    rintro _ w1 ⟨hk, x, a, c', rest, e, rfl, hR, hs, hb, h7⟩
    have hx : ∃ y, x = .bool y ∧ rdFlag l = (e, y, rest) := by
      rcases h7 with ⟨rfl, y, rfl, h8⟩ | ⟨h8, h9, rfl, rfl⟩
      · exact ⟨y, rfl, h8⟩
      · exact ⟨false, rfl, h9⟩
    obtain ⟨y, rfl, h8⟩ := hx
    have H8 : Hid (rdFlag l = (e, y, rest)) := h8
    have h10 : e ≠ 0 → rest = [] := by
      intro he
      rcases h7 with ⟨h, _⟩ | ⟨_, _, _, h⟩
      · exact absurd h he
      · exact h
    have h11 : Oct rest := by have := rdFlag_oct h5; rw [h8] at this; exact this
    clear h8 h7
    go_wp2
    go_ret
    have h12 : rdFlagE 0 l = (e, y, rest) := by unfold rdFlagE; rw [if_pos rfl]; exact H8.out
    rw [h12]
    exact ⟨rfl, ⟨a, c', hR, hs, fun k hk => h3 k (hb k hk), h4, h11, h10⟩, hk⟩
  · have hl := h6 he
    subst hl
    have HE : Hid (¬ e = 0) := he
    clear he h6
    go_enter Try.func26, Try.ntmps26
    go_wp2_with fail
    refine (readBoo_failed _ p _ e H1.out HE.out _).mono ?_
    rintro _ w1 ⟨rfl, hk⟩
    go_wp2
    go_ret
    have h12 : rdFlagE e [] = (e, false, []) := by unfold rdFlagE; rw [if_neg HE.out]
    rw [h12]
    exact ⟨rfl, Rd.kept hk ⟨ao, c, H1.out, H2.out, h3, h4, h5, fun _ => rfl⟩ (by simp) (by simp), hk.mono (by simp)⟩

set_option maxHeartbeats 400000 in
theorem rWord_call (w : World) (p : Nat) (F : List Nat) (l : List Int) (e : Int) (hr : Rd w p F l e) :
    Calls Try.prog 27 #[.pointer (some ⟨p, 0, none⟩)] w fun r w' => r = .returned (.int .u64 (rdWordE e l).2.1) ∧ Rd w' p F (rdWordE e l).2.2 (rdWordE e l).1 ∧ Kept [p] w w' := by
  obtain ⟨ao, c, h1, h2, h3, h4, h5, h6⟩ := hr
  have H1 : Hid (RdAt w p (.slice ao l.length c) e) := h1
  have H2 : Hid (Sl w ao l.length c l) := h2
  have hmf : ∀ (fn : Fn) (first cap : Array Value) (w : World), (Instr.makeFunc fn first cap).run Try.prog w = .ok (.func fn first cap) w := fun _ _ _ _ => rfl
  clear h1 h2
  by_cases he : e = 0
  · subst he
    go_enter Try.func27, Try.ntmps27
    go_wp2_with fail
    refine (readWor _ p ao _ c l H1.out H2.out 69 enter_Word #[] _ _ (fun w1 hk hR1 hs1 => word_step w1 p ao _ c l hR1 hs1 (fun h => h4 (h3 p h)) h5)).mono ?_
    rintro _ w1 ⟨hk, x, a, c', rest, e, rfl, hR, hs, hb, h7⟩
    have hx : ∃ y, x = .int .u64 y ∧ rdWord l = (e, y, rest) := by
      rcases h7 with ⟨rfl, y, rfl, h8⟩ | ⟨h8, h9, rfl, rfl⟩
      · exact ⟨y, rfl, h8⟩
      · exact ⟨0, rfl, h9⟩
    obtain ⟨y, rfl, h8⟩ := hx
    have H8 : Hid (rdWord l = (e, y, rest)) := h8
    have h10 : e ≠ 0 → rest = [] := by
      intro he
      rcases h7 with ⟨h, _⟩ | ⟨_, _, _, h⟩
      · exact absurd h he
      · exact h
    have h11 : Oct rest := by have := rdWord_oct h5; rw [h8] at this; exact this
    clear h8 h7
    go_wp2
    go_ret
    have h12 : rdWordE 0 l = (e, y, rest) := by unfold rdWordE; rw [if_pos rfl]; exact H8.out
    rw [h12]
    exact ⟨rfl, ⟨a, c', hR, hs, fun k hk => h3 k (hb k hk), h4, h11, h10⟩, hk⟩
  · have hl := h6 he
    subst hl
    have HE : Hid (¬ e = 0) := he
    clear he h6
    go_enter Try.func27, Try.ntmps27
    go_wp2_with fail
    refine (readWor_failed _ p _ e H1.out HE.out _).mono ?_
    rintro _ w1 ⟨rfl, hk⟩
    go_wp2
    go_ret
    have h12 : rdWordE e [] = (e, 0, []) := by unfold rdWordE; rw [if_neg HE.out]
    rw [h12]
    exact ⟨rfl, Rd.kept hk ⟨ao, c, H1.out, H2.out, h3, h4, h5, fun _ => rfl⟩ (by simp) (by simp), hk.mono (by simp)⟩

set_option maxHeartbeats 400000 in
theorem refuse_call (w : World) (p : Nat) (F : List Nat) (l : List Int) (e : Int) (hr : Rd w p F l e) :
    Calls Try.prog 58 #[.pointer (some ⟨p, 0, none⟩)] w fun r w' => r = .returned (.tuple #[]) ∧ Rd w' p F [] (rdRefE e) ∧ Kept [p] w w' := by
  obtain ⟨ao, c, h1, h2, h3, h4, h5, h6⟩ := hr
  have H1 : Hid (RdAt w p (.slice ao l.length c) e) := h1
  have H2 : Hid (Sl w ao l.length c l) := h2
  clear h1 h2
  by_cases he : e = 0
  · subst he
    go_enter Try.func58, Try.ntmps58
    go_wp2_with fail
    refine (readBoo _ p ao _ c l H1.out H2.out 82 enter_Refuse #[] _ _ (fun w1 hk hR1 hs1 => refuse_step w1 p ao _ hR1)).mono ?_
    rintro _ w1 ⟨hk, x, a, c', rest, e, rfl, hR, hs, hb, h7⟩
    have h8 : e = 4 ∧ rest = [] ∧ x = .bool false := by
      rcases h7 with ⟨_, h⟩ | ⟨_, h, h9, h10⟩
      · exact h.elim
      · exact ⟨h, h10, h9⟩
    obtain ⟨rfl, rfl, rfl⟩ := h8
    clear h7
    go_wp2
    go_returns
    exact ⟨rfl, ⟨a, c', hR, hs, fun k hk => h3 k (hb k hk), h4, oct_nil, fun _ => rfl⟩, hk⟩
  · have hl := h6 he
    subst hl
    have HE : Hid (¬ e = 0) := he
    clear he h6
    go_enter Try.func58, Try.ntmps58
    go_wp2_with fail
    refine (readBoo_failed _ p _ e H1.out HE.out _).mono ?_
    rintro _ w1 ⟨rfl, hk⟩
    go_wp2
    go_returns
    have h12 : rdRefE e = e := by unfold rdRefE; rw [if_neg HE.out]
    rw [h12]
    exact ⟨rfl, Rd.kept hk ⟨ao, c, H1.out, H2.out, h3, h4, h5, fun _ => rfl⟩ (by simp) (by simp), hk.mono (by simp)⟩

end Go.Proofs.Ytfmklcnilmhnbaa
