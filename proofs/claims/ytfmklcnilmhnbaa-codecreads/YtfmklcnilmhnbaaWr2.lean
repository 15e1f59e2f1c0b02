/-
  Done; and Same, of the document's own answer.
-/
import Derived.Test.YtfmklcnilmhnbaaWr1
import Derived.Deep.QuietTactic
import Derived.BigQuiet
namespace Go.Proofs.Ytfmklcnilmhnbaa
open Go.RowKit

theorem Kept.drewN {S : List Nat} {a w : World} (h : Kept S a w) (n : Nat) : Kept S a (w.drewN n) := ⟨h.os, h.tape, h.output, h.size, h.block⟩

set_option maxHeartbeats 1000000 in
theorem done_call (w : World) (p : Nat) (g : Option Nat) (l : List Int) (e : Int) (hw : Wr w p g l e) (hl : l.length ≤ 140737488355328) :
    Calls Try.prog 20 #[.pointer (some ⟨p, 0, none⟩)] w fun r w' => ∃ a c, r = .returned (.tuple #[.slice a l.length c, .int .i64 e]) ∧ Sl w' a l.length c l ∧ (∀ k ∈ blk a, w.heap.size ≤ k ∧ k < w'.heap.size) ∧ Kept [] w w' := by
  obtain ⟨v, h1, h2, h3, h4, h5, h6⟩ := hw
  obtain ⟨ao, c, rfl, hs, _⟩ := Sl.of_owns h2
  obtain ⟨c0, c1, c2, c3⟩ := h1.cells
  have HS : Hid (Sl w ao l.length c l) := hs
  clear hs h2 h1 c3
  by_cases he : e = 0
  · subst he
    clear h6
    go_enter Try.func20, Try.ntmps20
    go_wp2_with fail
    refine (clone_any _ _ _ _ _ HS.out hl).mono ?_
    rintro _ w1 ⟨a, c', rfl, hs1, hb1, hk1⟩
    go_wp2
    go_ret2
    exact ⟨a, c', rfl, hs1, hb1, hk1⟩
  · obtain ⟨hv, rfl⟩ := h6 he
    have hb : (e != 0) = true := by simp [he]
    clear h6 he
    go_enter Try.func20, Try.ntmps20
    go_wp2
    go_quiet (fail)
    all_goals (try go_wp2)
    all_goals go_ret2
    all_goals exact ⟨none, 0, rfl, Sl.nil _, by simp [blk], (Kept.refl _ _).drewN _⟩

theorem take_succ_eq {l m : List Int} {k : Nat} (h1 : k < l.length) (h2 : k < m.length) (h : l.take k = m.take k) (e : l.getD k 0 = m.getD k 0) : l.take (k + 1) = m.take (k + 1) := by
  rw [List.take_succ_eq_append_getElem h1, List.take_succ_eq_append_getElem h2, h]
  simp [List.getD, List.getElem?_eq_getElem h1, List.getElem?_eq_getElem h2] at e
  rw [e]

set_option maxHeartbeats 1000000 in
theorem same_call (w : World) (ao bo : Option Addr) (n c m d : Nat) (l l' : List Int) (hs : Sl w ao n c l) (hs' : Sl w bo m d l') :
    Calls Try.prog 22 #[.slice ao n c, .slice bo m d] w fun r w' => r = .returned (.bool (decide (l = l'))) ∧ Kept [] w w' := by
  have hn := hs.1
  have hm := hs'.1
  subst hn
  subst hm
  by_cases hne : l.length = l'.length
  · by_cases h0 : l.length = 0
    · have e1 : l = [] := by simpa using h0
      have e2 : l' = [] := by rw [h0] at hne; simpa using hne.symm
      subst e1; subst e2
      clear hs hs' hne h0
      go_enter Try.func22, Try.ntmps22
      go_wp2
      refine wp_loop_rounds 1 ?_
      rw [rounds_succ]
      go_wp2
      go_ret
      exact ⟨rfl, Kept.refl _ _⟩
    · obtain ⟨b1, o1, rfl, hc1⟩ := hs.some (by omega)
      obtain ⟨b2, o2, rfl, hc2⟩ := hs'.some (by omega)
      have hcm := hs.2.1
      have hmm := hs.2.2.1
      have hdm := hs'.2.1
      have hdd := hs'.2.2.1
      unfold maxLen at hmm hdd
      have HC1 : Hid (∀ i, i < l.length → w.cell? ⟨b1, o1 + i, none⟩ = some (.int .u8 (l.getD i 0))) := hc1
      have HC2 : Hid (∀ i, i < l'.length → w.cell? ⟨b2, o2 + i, none⟩ = some (.int .u8 (l'.getD i 0))) := hc2
      have HN : Hid (l.length = l'.length) := hne
      have hnb : ((l.length : Int) != (l'.length : Int)) = false := by simp [hne]
      clear hc1 hc2 hs hs' hne
      go_enter Try.func22, Try.ntmps22
      go_wp2
      go_loopw [5] (fun i wr => ∃ k : Nat, k ≤ l.length ∧ i = .int .i64 k ∧ l.take k = l'.take k ∧ ∃ q, wr = w.drewN q) (fun i _ => l.length - (intOf i).toNat)
      case atStart => exact ⟨0, Nat.zero_le _, rfl, rfl, 0, rfl⟩
      case round =>
        obtain ⟨k, hk, rfl, htk, q, rfl⟩ := hrel
        have HT : Hid (l.take k = l'.take k) := htk
        clear htk
        by_cases hlt : k < l.length
        · have g1 : w.cell? ⟨b1, o1 + k, none⟩ = some (.int .u8 (l.getD k 0)) := HC1.out k hlt
          have g2 : w.cell? ⟨b2, o2 + k, none⟩ = some (.int .u8 (l'.getD k 0)) := HC2.out k (by have := HN.out; omega)
          have hlt2 : k < l'.length := by have := HN.out; omega
          generalize hx : l.getD k 0 = x at g1
          generalize hy : l'.getD k 0 = y at g2
          have HX : Hid (l.getD k 0 = x) := hx
          have HY : Hid (l'.getD k 0 = y) := hy
          clear hx hy
          by_cases hxy : x = y
          · have hb : (x != y) = false := by simp [hxy]
            have HXY : Hid (x = y) := hxy
            clear hxy
            go_wp2
            go_quiet (fail)
            go_wp2
            refine ⟨⟨k + 1, by omega, by go_num, take_succ_eq hlt hlt2 HT.out (by rw [HX.out, HY.out, HXY.out]), _, rfl⟩, ?_⟩
            simp [intOf]; omega
          · have hb : (x != y) = true := by simp [hxy]
            have HXY : Hid (¬ x = y) := hxy
            clear hxy
            go_wp2
            go_quiet (fail)
            go_wp2
            go_ret
            have hn : ¬ l = l' := fun e => HXY.out (by rw [← HX.out, ← HY.out, e])
            exact ⟨by simp [hn], ((Kept.refl _ _).drewN _).drewN _⟩
        · have hk2 : k = l.length := by omega
          have hn : l = l' := by
            have h1 := HT.out
            rw [hk2, List.take_length] at h1
            rw [h1, List.take_of_length_le (by have := HN.out; omega)]
          have HN2 : Hid (l = l') := hn
          clear hk2 hn
          go_wp2
          go_ret
          exact ⟨by simp [HN2.out], (Kept.refl _ _).drewN _⟩
  · have hnb : ((l.length : Int) != (l'.length : Int)) = true := by simp; omega
    have HN : Hid (¬ l.length = l'.length) := hne
    clear hne hs hs'
    go_enter Try.func22, Try.ntmps22
    go_wp2
    go_ret
    have hn : ¬ l = l' := fun e => HN.out (by rw [e])
    exact ⟨by simp [hn], Kept.refl _ _⟩

end Go.Proofs.Ytfmklcnilmhnbaa
