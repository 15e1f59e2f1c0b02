/-
  CodecTorn: the walk.
-/
import Derived.Test.YtfmklcnilmhnbabTornP
import Derived.Test.YtfmklcnilmhnbabFr0
import Derived.Test.YtfmklcnilmhnbabRefC
import Derived.Test.YtfmklcnilmhnbabAwake
namespace Go.Proofs.Ytfmklcnilmhnbab
open Go.RowKit

theorem torn_at (x : Int) (n : Nat) (hn : n ≤ 5000) : ∃ k : Nat, k < n + 12 ∧ (wrap64 (x.tmod (↑n + 12) + (↑n + 12))).tmod (↑n + 12) = (k : Int) := by
  have h1 := Int.tmod_lt_of_pos x (b := (n : Int) + 12) (by omega)
  have h2 := Int.lt_tmod_of_pos x (b := (n : Int) + 12) (by omega)
  generalize x.tmod (↑n + 12) = t at *
  rw [IntWalk.wrap64_in _ (by omega), Int.tmod_eq_emod_of_nonneg (by omega)]
  have h3 := Int.emod_nonneg (t + (↑n + 12)) (b := (n : Int) + 12) (by omega)
  have h4 := Int.emod_lt_of_pos (t + (↑n + 12)) (b := (n : Int) + 12) (by omega)
  exact ⟨((t + (↑n + 12)) % (↑n + 12)).toNat, by omega, by omega⟩

/-- One byte of a row is set. -/
theorem Sl.setAt {w : World} {b o n c : Nat} {l : List Int} (hs : Sl w (Option.some ⟨b, o, none⟩) n c l) {k : Nat} (y : Int) : Sl (w.setCell ⟨b, o + k, none⟩ (.int .u8 y)) (Option.some ⟨b, o, none⟩) n c (l.set k y) := by
  obtain ⟨h1, h2, h3, h4, h5⟩ := hs
  refine ⟨by simpa using h1, h2, h3, h4, fun i hi => ⟨b, o, rfl, ?_⟩⟩
  obtain ⟨b', o', e, hc⟩ := h5 i hi
  cases e
  by_cases hik : i = k
  · subst hik
    rw [World.cell?_setCell_same _ _ _ hc]
    simp [List.getD, List.getElem?_set_self (by omega : i < l.length)]
  · rw [World.cell?_setCell_other _ _ _ _ (by intro h; injection h with h6 h7; omega), hc]
    simp [List.getD, List.getElem?_set_ne (Ne.symm hik)]

theorem own_froz {w : World} {b o n c : Nat} {l : List Int} (h : Own w (.slice (Option.some ⟨b, o, none⟩) n c) l) (j : Nat) : w.frozen? ⟨b, j, none⟩ = false := by
  have h0 := h
  obtain ⟨h1, h2⟩ := h0
  rcases h2 with ⟨hv, hn⟩ | ⟨g, cap, cur, hv, _⟩
  · cases hv
  · cases hv
    exact World.ownsRow.frozenAt h j

/-- One bit of a byte is turned. -/
theorem bit_turned (x : Int) (hx : 0 ≤ x ∧ x < 256) (m : Nat) : 0 ≤ bits .xor .u8 x (2 ^ (m % 8) % 256) ∧ bits .xor .u8 x (2 ^ (m % 8) % 256) < 256 ∧ x ≠ bits .xor .u8 x (2 ^ (m % 8) % 256) := by
  obtain ⟨y, rfl⟩ := Int.eq_ofNat_of_zero_le hx.1
  have hp : ∀ z : Fin 8, (2 ^ z.val % 256 : Int) = ((2 ^ z.val : Nat) : Int) ∧ 2 ^ z.val < 256 ∧ 0 < 2 ^ z.val := by decide
  obtain ⟨h1, h2, h3⟩ := hp ⟨m % 8, by omega⟩
  simp only at h1 h2 h3
  rw [h1]
  generalize 2 ^ (m % 8) = t at *
  have hy : y < 256 := by omega
  have e := u8_xor_nat y t hy h2
  rw [e]
  have h4 := Nat.xor_lt_two_pow (n := 8) (x := y) (y := t) hy h2
  refine ⟨by omega, by omega, fun h => ?_⟩
  have h5 : y = y ^^^ t := by omega
  have h6 : t = 0 := xor_cancel (a := y) (by rw [← h5, Nat.xor_zero])
  omega

set_option maxRecDepth 100000 in
set_option maxHeartbeats 2000000 in
theorem torn_walk (w : World) (ao : Option Addr) (n c : Nat) (l : List Int) (hs : Sl w ao n c l) (ho : Oct l) (x0 : Int) (bo : Option Addr) (m d : Nat) (l' : List Int) (hs' : Sl w bo m d l') (ho' : Oct l') :
    Calls Try.prog 3 #[.slice ao n c, .int .i64 x0, .slice bo m d] w fun r w' => r = .returned (.bool true) ∧ Below w.heap.size w w' := by
  have HS : Hid (Sl w ao n c l) := hs
  have HS' : Hid (Sl w bo m d l') := hs'
  have hn : l.length = n := hs.1
  clear hs hs'
  by_cases h1 : n ≤ 5000 ∧ m ≤ 5000
  · obtain ⟨h1, h2⟩ := h1
    have h1' : ¬ (5000 : Int) < (n : Int) := by omega
    have h2' : ¬ (5000 : Int) < (m : Int) := by omega
    go_enter Try.func3, Try.ntmps3
    go_wp2_with fail
    refine (awake_call _).mono ?_
    rintro _ w1 ⟨rfl, hk1⟩
    go_wp2_with fail
    refine (frame_call _ _ _ _ _ (Sl.kept hk1 HS.out (by simp)) ho).mono ?_
    rintro _ w2 ⟨a2, n2, c2, rfl, hM2⟩
    have hK2 : Kept [] w w2 := hk1.trans hM2.2.2 (by simp)
    have hFE : frameE l = (frameOf l, 0) := by unfold frameE; rw [if_pos (by omega)]
    rw [hFE] at hM2 ⊢
    have hn2 : n2 = n + 12 := by have h3 := hM2.1.1; rw [frameOf_length, hn] at h3; exact h3.symm
    subst hn2
    have HM2 : Hid (Made w1 a2 (n + 12) c2 (frameOf l) w2) := hM2
    have HN : Hid (l.length = n) := hn
    clear hM2 hFE hn
    obtain ⟨k, hkn, hT⟩ : ∃ k : Nat, k < n + 12 ∧ (wrap64 (x0.tmod (↑n + 12) + (↑n + 12))).tmod (↑n + 12) = (k : Int) := torn_at x0 n h1
    have hc2 : n + 12 ≤ c2 := HM2.out.1.2.1
    have hb0 : 0 ≤ (wrap64 (x0.tmod (↑n + 12) + (↑n + 12))).tmod (↑n + 12) := by omega
    have hb1 : (wrap64 (x0.tmod (↑n + 12) + (↑n + 12))).tmod (↑n + 12) ≤ (c2 : Int) := by omega
    have HT : Hid ((wrap64 (x0.tmod (↑n + 12) + (↑n + 12))).tmod (↑n + 12) = (k : Int)) := hT
    clear hT
    go_wp2_with fail
    rw [HT.out, Int.toNat_natCast]
    clear hb0 hb1
    refine (unframe_call _ _ _ _ _ (HM2.out.1.take (by omega)) ((frameOf_oct ho).take _)).mono ?_
    rintro _ w3 ⟨a3, n3, c3, rfl, hM3⟩
    have hK3 : Kept [] w w3 := hK2.trans hM3.2.2 (by simp)
    have HS3 : Hid (Sl w3 a2 (n + 12) c2 (frameOf l)) := Sl.kept hM3.2.2 HM2.out.1 (by simp)
    rw [unframe_torn l (by rw [HN.out]; omega) k (by rw [HN.out]; omega)]
    clear hM3
    go_wp2_with fail
    refine (copy_call _ _ _ _ _ HS3.out (by omega)).mono ?_
    rintro _ w4 ⟨v4, rfl, hO4, hf4, hk4⟩
    have hK4 : Kept [] w w4 := hK3.trans hk4 (by simp)
    have HO4 : Hid (Own w4 v4 (frameOf l)) := hO4
    clear hO4
    go_wp2_with (at_builtin; refine wp_app rfl _ _ rfl v4 (frameOf l) rfl HO4.out bo m d l' rfl (Sl.kept hK4 HS'.out (by simp)) ?hlen ?_)
    case hlen => rw [frameOf_length, HN.out]; omega
    intro v5 w5 hO5 hf5 hk5
    have hK5 : Kept [] w w5 := hK4.trans hk5 (fun i hi => .inr (by have := hf4 i (by simpa using hi); have := hK3.size; omega))
    have hK35 : Kept [] w3 w5 := hk4.trans hk5 (fun i hi => .inr (hf4 i (by simpa using hi)))
    obtain ⟨a5, n5, c5, rfl, hs5, _⟩ := own_sl hO5
    have HS5 : Hid (Sl w5 a5 n5 c5 (frameOf l ++ l')) := hs5
    clear hO5 hf5 hk5 hs5 HO4
    go_wp2_with fail
    refine (unframe_call _ _ _ _ _ HS5.out (Oct.app (frameOf_oct ho) ho')).mono ?_
    rintro _ w6 ⟨a6, n6, c6, rfl, hM6⟩
    rw [unframe_more l (by rw [HN.out]; omega), HN.out] at hM6 ⊢
    have HM6 : Hid (Made w5 a6 n6 c6 l w6) := hM6
    have hK6 : Kept [] w w6 := hK5.trans hM6.2.2 (by simp)
    have hS6 : Sl w6 a2 (n + 12) c2 (frameOf l) := Sl.kept (hK35.trans hM6.2.2 (by simp)) HS3.out (by simp)
    clear hM6
    go_wp2_with fail
    refine (copy_call _ _ _ _ _ hS6 (by omega)).mono ?_
    rintro _ w7 ⟨v7, rfl, hO7, hf7, hk7⟩
    have hK7 : Kept [] w w7 := hK6.trans hk7 (by simp)
    obtain ⟨a7, n7, c7, rfl, hs7, hb7⟩ := own_sl hO7
    have hn7 : n7 = n + 12 := by have h3 := hs7.1; rw [frameOf_length, HN.out] at h3; exact h3.symm
    subst hn7
    obtain ⟨b, o, rfl, hcell⟩ := hs7.some (by omega)
    have hg := hcell k hkn
    have hfr7 : w6.heap.size ≤ b := hf7 b (hb7 b (by simp [blk])).2
    have hc7 : n + 12 ≤ c7 := hs7.2.1
    have HS7 : Hid (Sl w7 (Option.some ⟨b, o, none⟩) (n + 12) c7 (frameOf l)) := hs7
    generalize hx : (frameOf l).getD k 0 = x at hg
    have HX : Hid ((frameOf l).getD k 0 = x) := hx
    have hT2 := HT.out
    have hfz : w7.frozen? ⟨b, o + k, none⟩ = false := own_froz hO7 _
    clear hcell hs7 hb7 hf7 hO7 hx hS6
    go_wp2_with fail
    have hxo : (frameOf l)[k]? = some x := by
      rw [← HX.out, List.getD, List.getElem?_eq_getElem (by rw [frameOf_length, HN.out]; exact hkn)]; simp
    have hxb := bit_turned x (frameOf_oct ho x (List.mem_of_getElem? hxo)) m
    generalize bits .xor .u8 x (2 ^ (m % 8) % 256) = y at hxb ⊢
    have hoc : Oct ((frameOf l).set k y) := by
      intro a ha
      rcases List.mem_or_eq_of_mem_set ha with h1 | rfl
      · exact frameOf_oct ho a h1
      · exact ⟨hxb.1, hxb.2.1⟩
    refine (unframe_call _ _ _ _ _ (HS7.out.setAt y) hoc).mono ?_
    rintro _ w8 ⟨a8, n8, c8, rfl, hM8⟩
    rw [unframe_changed l ho (by rw [HN.out]; omega) k x y hxo ⟨hxb.1, hxb.2.1⟩ hxb.2.2]
    have hK67 : Kept [] w6 w8 := (hk7.trans (Kept.setCell (Kept.refl [b] _) (by simp) (.int .u8 y)) (by simp; exact hfr7)).trans hM8.2.2 (by simp)
    have hK8 : Kept [] w w8 := hK6.trans hK67 (by simp)
    clear hM8
    go_wp2_with fail
    refine (same_call _ _ _ _ _ _ _ _ _ (Sl.kept hK67 HM6.out.1 (by simp)) (Sl.kept hK8 HS.out (by simp))).mono ?_
    rintro _ w9 ⟨rfl, hk9⟩
    have hK9 : Kept [] w w9 := hK8.trans hk9 (by simp)
    go_wp2
    go_ret
    exact ⟨by simp, hK9.below (Nat.le_refl _) (by simp)⟩
  · by_cases h2 : n ≤ 5000
    · have h1' : ¬ (5000 : Int) < (n : Int) := by omega
      have h2' : (5000 : Int) < (m : Int) := by omega
      go_enter Try.func3, Try.ntmps3
      go_wp2_with fail
      refine (awake_call _).mono ?_
      rintro _ w1 ⟨rfl, hk1⟩
      go_wp2
      go_ret
      exact ⟨rfl, hk1.below (Nat.le_refl _) (by simp)⟩
    · have h1' : (5000 : Int) < (n : Int) := by omega
      go_enter Try.func3, Try.ntmps3
      go_wp2_with fail
      refine (awake_call _).mono ?_
      rintro _ w1 ⟨rfl, hk1⟩
      go_wp2
      go_ret
      exact ⟨rfl, hk1.below (Nat.le_refl _) (by simp)⟩

end Go.Proofs.Ytfmklcnilmhnbab
