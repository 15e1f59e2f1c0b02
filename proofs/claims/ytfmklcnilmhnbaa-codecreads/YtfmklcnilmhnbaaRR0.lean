/-
  The document's own reader, by its contracts.
-/
import Derived.Test.YtfmklcnilmhnbaaRd5
import Derived.Test.YtfmklcnilmhnbaaArgs
namespace Go.Proofs.Ytfmklcnilmhnbaa
open Go.RowKit

def RRAt (w : World) (p : Nat) (v : Value) (e : Int) : Prop := w.heap[p]? = some (.cells #[v, .int .i64 e] 52 (0, 0))

theorem RRAt.cells {w : World} {p : Nat} {v : Value} {e : Int} (h : RRAt w p v e) :
    w.cell? ⟨p, 0, none⟩ = some v ∧ w.cell? ⟨p, 1, none⟩ = some (.int .i64 e) ∧ (∀ o, w.frozen? ⟨p, o, none⟩ = false) := by
  unfold RRAt at h
  refine ⟨?_, ?_, fun o => ?_⟩ <;> simp [World.cell?, World.frozen?, h]

theorem RRAt.set0 {w : World} {p : Nat} {v : Value} {e : Int} (h : RRAt w p v e) (u : Value) : RRAt (w.setCell ⟨p, 0, none⟩ u) p u e := by
  have := at_setCell h 0 u
  simpa [RRAt] using this

theorem RRAt.set1 {w : World} {p : Nat} {v : Value} {e : Int} (h : RRAt w p v e) (x : Int) : RRAt (w.setCell ⟨p, 1, none⟩ (.int .i64 x)) p v x := by
  have := at_setCell h 1 (.int .i64 x)
  simpa [RRAt] using this

/-- The document's reader at block p, its bytes below block B: l is left; it failed by e. -/
def RR (w : World) (B p : Nat) (l : List Int) (e : Int) : Prop :=
  ∃ ao c, RRAt w p (.slice ao l.length c) e ∧ Sl w ao l.length c l ∧ (0 < l.length → ∀ k ∈ blk ao, k < B) ∧ B ≤ p ∧ Oct l ∧ (e ≠ 0 → l = [])

theorem RR.kept {S : List Nat} {a w : World} (h : Kept S a w) {B p : Nat} {l : List Int} {e : Int} (hr : RR a B p l e) (hp : p ∉ S) (hS : ∀ k ∈ S, B ≤ k) : RR w B p l e := by
  obtain ⟨ao, c, h1, h2, h3, h4, h5, h6⟩ := hr
  refine ⟨ao, c, h.at h1 hp, Sl.kept' h h2 (fun h0 k hk hm => ?_), h3, h4, h5, h6⟩
  have := h3 h0 k hk
  have := hS k hm
  omega

theorem RR.lt {w : World} {B p : Nat} {l : List Int} {e : Int} (hr : RR w B p l e) : p < w.heap.size := by
  obtain ⟨ao, c, h1, _⟩ := hr
  exact lt_of_at h1

def stopE (e x : Int) : Int := if e = 0 then x else e

set_option maxHeartbeats 400000 in
theorem stop_any (w : World) (B p : Nat) (l : List Int) (e x : Int) (hr : RR w B p l e) :
    Calls Try.prog 80 #[.pointer (some ⟨p, 0, none⟩), .int .i64 x] w fun r w' => r = .returned (.tuple #[]) ∧ RR w' B p [] (stopE e x) ∧ Kept [p] w w' := by
  obtain ⟨ao, c, h1, h2, h3, h4, h5, h6⟩ := hr
  obtain ⟨c0, c1, c3⟩ := h1.cells
  by_cases he : e = 0
  · subst he
    have HF : Hid (RR ((w.setCell ⟨p, 1, none⟩ (.int .i64 x)).setCell ⟨p, 0, none⟩ (.slice none 0 0)) B p [] x) := ⟨none, 0, (h1.set1 x).set0 _, Sl.nil _, by simp, h4, oct_nil, fun _ => rfl⟩
    clear h1 h2
    go_enter Try.func80, Try.ntmps80
    go_wp2
    go_returns
    exact ⟨rfl, HF.out, ((Kept.refl _ _).setCell (by simp) _).setCell (by simp) _⟩
  · have hl := h6 he
    subst hl
    have hb : (e == 0) = false := by simp [he]
    have HF : Hid (RR w B p [] (stopE e x)) := by show RR w B p [] (stopE e x); unfold stopE; rw [if_neg he]; exact ⟨ao, c, h1, h2, h3, h4, h5, fun _ => rfl⟩
    clear h1 h2 he h6
    go_enter Try.func80, Try.ntmps80
    go_wp2
    go_returns
    exact ⟨rfl, HF.out, Kept.refl _ _⟩

set_option maxHeartbeats 400000 in
theorem rrend_call (w : World) (B p : Nat) (l : List Int) (e : Int) (hr : RR w B p l e) :
    Calls Try.prog 60 #[.pointer (some ⟨p, 0, none⟩)] w fun r w' => r = .returned (.int .i64 (if e = 0 then (if l.length = 0 then 0 else 3) else e)) ∧ w = w' := by
  obtain ⟨ao, c, h1, h2, h3, h4, h5, h6⟩ := hr
  obtain ⟨c0, c1, c3⟩ := h1.cells
  clear h1 h2
  by_cases he : e = 0
  · subst he
    by_cases hn : l.length = 0
    · rw [hn] at c0 ⊢
      go_enter Try.func60, Try.ntmps60
      go_wp2
      go_ret
      exact ⟨rfl, rfl⟩
    · have hp : (0 : Int) < (l.length : Int) := by omega
      go_enter Try.func60, Try.ntmps60
      go_wp2
      go_ret
      exact ⟨by first | rfl | simp, rfl⟩
  · have hb : (e == 0) = false := by simp [he]
    go_enter Try.func60, Try.ntmps60
    go_wp2
    go_ret
    exact ⟨by first | rfl | simp, rfl⟩

set_option maxRecDepth 100000 in
set_option maxHeartbeats 2000000 in
theorem rrnum_call (w : World) (B p : Nat) (l : List Int) (e : Int) (hr : RR w B p l e) :
    Calls Try.prog 53 #[.pointer (some ⟨p, 0, none⟩)] w fun r w' => r = .returned (.int .i64 (rdNumE e l).2.1) ∧ RR w' B p (rdNumE e l).2.2 (rdNumE e l).1 ∧ Kept [p] w w' := by
  have HR : Hid (RR w B p l e) := hr
  by_cases he : e = 0
  · subst he
    have hE : rdNumE 0 l = rdNum l := by unfold rdNumE; rw [if_pos rfl]
    rw [hE]
    clear hE
    obtain ⟨ao, c, h1, h2, h3, h4, h5, h6⟩ := hr
    obtain ⟨c0, c1, c3⟩ := h1.cells
    have HA : Hid (RRAt w p (.slice ao l.length c) 0) := h1
    have HS : Hid (Sl w ao l.length c l) := h2
    have hm := h2.2.2.1
    have hc := h2.2.1
    unfold maxLen at hm
    clear h1 h2
    go_enter Try.func53, Try.ntmps53
    go_wp2
    go_loop [3, 4] (fun t i => ∃ (k : Nat) (acc : Int), k ≤ 6 ∧ i = .int .i64 k ∧ t = .int .i64 acc ∧ 0 ≤ acc ∧ Hid (acc < 2 ^ (7 * k)) ∧ Hid (rdNum l = rdN (6 - k) k acc (l.drop k)) ∧ k ≤ l.length) (fun _ i => 6 - (intOf i).toNat)
    case atStart => exact ⟨0, 0, by omega, rfl, rfl, by omega, by show (0 : Int) < 2 ^ (7 * 0); decide, rfl, Nat.zero_le _⟩
    case round =>
      obtain ⟨k, acc, hk, rfl, rfl, ha0, HA1, HRD, hkl⟩ := hrel
      by_cases hk6 : k = 6
      · subst hk6
        have HH : Hid (rdNum l = (4, 0, [])) := HRD
        clear HRD
        go_wp2_with fail
        refine (stop_any _ B _ l 0 _ HR.out).mono ?_
        rintro _ w1 ⟨rfl, hR1, hk1⟩
        go_wp2
        go_ret
        rw [HH.out]
        exact ⟨rfl, hR1, hk1⟩
      · have hk6' : (k : Int) < 6 := by omega
        by_cases hlt : k < l.length
        · have hlt' : ¬ (l.length : Int) ≤ (k : Int) := by omega
          obtain ⟨b, o, rfl, hcell⟩ := HS.out.some (by omega)
          have g1 : w.cell? ⟨b, o + k, none⟩ = some (.int .u8 (l.getD k 0)) := hcell k hlt
          have gd := getD_oct h5 hlt
          have hdrop : l.drop k = l.getD k 0 :: l.drop (k + 1) := by
            rw [List.drop_eq_getElem_cons hlt]
            simp [List.getD, List.getElem?_eq_getElem hlt]
          have HDR : Hid (l.drop k = l.getD k 0 :: l.drop (k + 1)) := hdrop
          clear hcell hdrop
          generalize hd : l.getD k 0 = d at g1 gd HDR
          clear hd
          obtain ⟨gd0, gd1⟩ := gd
          obtain ⟨f, hf⟩ : ∃ f, 6 - k = f + 1 := ⟨5 - k, by omega⟩
          have HF : Hid (6 - k = f + 1) := hf
          have hbits := or_digit acc d k ha0 HA1.out gd0 gd1 (by omega)
          have hlt2 := digit_lt acc d k ha0 HA1.out
          obtain ⟨X, hX⟩ : ∃ X, X = acc + d % 128 * 2 ^ (7 * k) := ⟨_, rfl⟩
          rw [← hX] at hbits hlt2
          have HX : Hid (X = acc + d % 128 * 2 ^ (7 * k)) := hX
          have HLT : Hid (0 ≤ X ∧ X < 2 ^ (7 * (k + 1))) := hlt2
          have hX0 := hlt2.1
          clear hX hlt2 hf
          by_cases hd128 : 128 ≤ d
          · go_wp2
            go_round
            case rel =>
              refine ⟨k + 1, X, by omega, by go_num, rfl, hX0, HLT.out.2, ?_, by omega⟩
              show rdNum l = rdN (6 - (k + 1)) (k + 1) X (l.drop (k + 1))
              rw [HRD.out, HF.out, HDR.out, rdN_more _ _ _ _ _ hd128, ← HX.out, show 6 - (k + 1) = f by have := HF.out; omega]
            case measure => simp [intOf]; omega
          · have hd128' : d < 128 := by omega
            by_cases hbad : (d = 0 ∧ 0 < k) ∨ 1099511627776 < X
            · have HH : Hid (rdNum l = (4, 0, [])) := by
                show rdNum l = (4, 0, [])
                rw [HRD.out, HF.out, HDR.out, rdN_bad _ _ _ _ _ hd128' (by rw [← HX.out]; exact hbad)]
              by_cases hz : d = 0 ∧ 0 < k
              · have hzb : (d == 0) = true := by simp [hz.1]
                have hkb : (0 : Int) < (k : Int) := by omega
                clear hz hbad HRD
                go_wp2_with fail
                refine (stop_any _ B _ l 0 _ HR.out).mono ?_
                rintro _ w1 ⟨rfl, hR1, hk1⟩
                go_wp2
                go_ret
                rw [HH.out]
                exact ⟨rfl, hR1, hk1⟩
              · have hXm : (1099511627776 : Int) < X := by
                  rcases hbad with h | h
                  · exact absurd h hz
                  · exact h
                by_cases hz0 : d = 0
                · have hzb : (d == 0) = true := by simp [hz0]
                  have hkb : ¬ (0 : Int) < (k : Int) := by intro h; exact hz ⟨hz0, by omega⟩
                  clear hz hbad HRD hz0
                  go_wp2_with fail
                  refine (stop_any _ B _ l 0 _ HR.out).mono ?_
                  rintro _ w1 ⟨rfl, hR1, hk1⟩
                  go_wp2
                  go_ret
                  rw [HH.out]
                  exact ⟨rfl, hR1, hk1⟩
                · have hzb : (d == 0) = false := by simp [hz0]
                  clear hz hbad HRD hz0
                  go_wp2_with fail
                  refine (stop_any _ B _ l 0 _ HR.out).mono ?_
                  rintro _ w1 ⟨rfl, hR1, hk1⟩
                  go_wp2
                  go_ret
                  rw [HH.out]
                  exact ⟨rfl, hR1, hk1⟩
            · have HH : Hid (rdNum l = (0, X, l.drop (k + 1))) := by
                show rdNum l = (0, X, l.drop (k + 1))
                rw [HRD.out, HF.out, HDR.out, rdN_good _ _ _ _ _ hd128' (by rw [← HX.out]; exact hbad), ← HX.out]
              have hXm : ¬ (1099511627776 : Int) < X := fun h => hbad (.inr h)
              have hlen : (l.drop (k + 1)).length = l.length - (k + 1) := by simp
              have HLEN : Hid ((l.drop (k + 1)).length = l.length - (k + 1)) := hlen
              have HFIN : Hid (∀ a' c', Sl w a' (l.length - (k + 1)) c' (l.drop (k + 1)) → (∀ j ∈ blk a', j ∈ blk (some (⟨b, o, none⟩ : Addr))) → RR (w.setCell ⟨p, 0, none⟩ (.slice a' (l.length - (k + 1)) c')) B p (l.drop (k + 1)) 0 ∧ Kept [p] w (w.setCell ⟨p, 0, none⟩ (.slice a' (l.length - (k + 1)) c'))) := by
                intro a' c' hs' hb'
                have hKp : Kept [p] w (w.setCell ⟨p, 0, none⟩ (.slice a' (l.length - (k + 1)) c')) := (Kept.refl _ _).setCell (by simp) _
                have hblk : ∀ j ∈ blk a', j < B := fun j hj => h3 (by omega) j (hb' j hj)
                refine ⟨⟨a', c', ?_, ?_, fun _ => hblk, h4, h5.drop _, by simp⟩, hKp⟩
                · rw [hlen]; exact HA.out.set0 _
                · rw [hlen]; exact Sl.kept' hKp hs' (fun _ j hj hm' => by have := hblk j hj; simp at hm'; omega)
              clear hlen HRD
              rcases (show (d = 0 ∧ k = 0) ∨ ¬ d = 0 by
                by_cases h : d = 0
                · left; refine ⟨h, ?_⟩
                  by_cases hk0 : k = 0
                  · exact hk0
                  · exact absurd (.inl ⟨h, by omega⟩) hbad
                · exact .inr h) with ⟨hz0, hk0⟩ | hz0
              · have hX00 : X = 0 := by
                  have h7 := HX.out
                  have h8 : acc < 1 := by have h9 := HA1.out; rw [hk0] at h9; exact h9
                  rw [hz0] at h7
                  omega
                have h8 : acc = 0 := by have h9 := HA1.out; rw [hk0] at h9; have h10 : acc < 1 := h9; omega
                subst hk0 hz0 hX00 h8
                have HH2 : Hid (rdNum l = (0, 0, l.drop 1)) := HH
                have g2 : w.cell? ⟨b, o, none⟩ = some (.int .u8 0) := g1
                have hne : ¬ l = [] := by intro h; rw [h] at hlt; simp at hlt
                have hbz : bits .or .i64 0 (wrap64 (wrap64 (bits .and .u8 0 127))) = 0 := by kernel_rfl
                clear hbad HF HX HLT hbits HA1 HDR g1 HH
                go_wp2
                · have hfin := HFIN.out (some ⟨b, o, none⟩) 0 (by have := HS.out.drop_all (k := 0 + 1) (by omega); exact this) (fun j hj => hj)
                  go_ret
                  rw [HH2.out]
                  exact ⟨rfl, hfin.1, hfin.2⟩
                · have hfin := HFIN.out (some ⟨b, o + (0 + 1), none⟩) (c - (0 + 1)) (by have := HS.out.drop (k := 0 + 1) (by omega); rw [Option.map_some, addr_add] at this; exact this) (fun j hj => by simpa [blk] using hj)
                  go_ret
                  rw [HH2.out]
                  exact ⟨rfl, hfin.1, hfin.2⟩
              · have hzb : (d == 0) = false := by simp [hz0]
                clear hbad hz0
                go_wp2
                · have ec : c = k + 1 := by assumption
                  have hfin := HFIN.out (some ⟨b, o, none⟩) 0 (by have := HS.out.drop_all (k := k + 1) (by omega); exact this) (fun j hj => hj)
                  go_ret
                  rw [HH.out]
                  exact ⟨rfl, hfin.1, hfin.2⟩
                · have hfin := HFIN.out (some ⟨b, o + (k + 1), none⟩) (c - (k + 1)) (by have := HS.out.drop (k := k + 1) (by omega); rw [Option.map_some, addr_add] at this; exact this) (fun j hj => by simpa [blk] using hj)
                  go_ret
                  rw [HH.out]
                  exact ⟨rfl, hfin.1, hfin.2⟩
        · have hlt' : (l.length : Int) ≤ (k : Int) := by omega
          have HH : Hid (rdNum l = (2, 0, [])) := by
            show rdNum l = (2, 0, [])
            obtain ⟨f, hf⟩ : ∃ f, 6 - k = f + 1 := ⟨5 - k, by omega⟩
            rw [HRD.out, hf, List.drop_eq_nil_of_le (by omega)]
            rfl
          clear HRD
          go_wp2_with fail
          refine (stop_any _ B _ l 0 _ HR.out).mono ?_
          rintro _ w1 ⟨rfl, hR1, hk1⟩
          go_wp2
          go_ret
          rw [HH.out]
          exact ⟨rfl, hR1, hk1⟩
  · have hE : rdNumE e l = (e, 0, []) := by unfold rdNumE; rw [if_neg he]
    rw [hE]
    have HST : Hid (stopE e 4 = e) := by show stopE e 4 = e; unfold stopE; rw [if_neg he]
    obtain ⟨ao, c, h1, h2, h3, h4, h5, h6⟩ := hr
    obtain ⟨c0, c1, c3⟩ := h1.cells
    have hb : (e == 0) = false := by simp [he]
    clear h1 h2 h6 he hE
    go_enter Try.func53, Try.ntmps53
    go_wp2
    refine wp_loop_rounds 1 ?_
    rw [rounds_succ]
    go_wp2_with fail
    refine (stop_any _ B _ l e _ HR.out).mono ?_
    rw [HST.out]
    rintro _ w1 ⟨rfl, hR1, hk1⟩
    go_wp2
    go_ret
    exact ⟨rfl, hR1, hk1⟩

end Go.Proofs.Ytfmklcnilmhnbaa
