/-
  The document's own answer: Copy, four, back, Frame, Unframe, by their contracts.
-/
import Derived.Test.YtfmklcnilmhnbaaFr0
namespace Go.Proofs.Ytfmklcnilmhnbaa
open Go.RowKit

theorem ownNil (n : Nat) : ∀ k, (Value.slice none 0 0).ownBlock = some k → n ≤ k := by
  intro k hk; cases hk

set_option maxHeartbeats 1000000 in
theorem copy_call (w : World) (ao : Option Addr) (n c : Nat) (l : List Int) (hs : Sl w ao n c l) (hbig : n ≤ 100000000000) :
    Calls Try.prog 52 #[.slice ao n c] w fun r w' => ∃ v, r = .returned v ∧ Own w' v l ∧ (∀ k, v.ownBlock = some k → w.heap.size ≤ k) ∧ Kept [] w w' := by
  obtain ⟨i0, hi, hz0, hz1, hz2⟩ := info_parts info_u8
  have hn := hs.1
  subst hn
  have hm := hs.2.2.1
  have hc := hs.2.1
  unfold maxLen at hm
  by_cases h0 : l.length = 0
  · have e1 : l = [] := by simpa using h0
    subst e1
    clear hs
    go_enter Try.func52, Try.ntmps52
    go_wp2
    refine wp_loop_rounds 1 ?_
    rw [rounds_succ]
    go_wp2
    go_ret
    exact ⟨_, rfl, World.ownsRow_nil _ _ _ _, ownNil _, Kept.refl _ _⟩
  · obtain ⟨b, o, rfl, hcell⟩ := hs.some (by omega)
    have HC : Hid (∀ i, i < l.length → w.cell? ⟨b, o + i, none⟩ = some (.int .u8 (l.getD i 0))) := hcell
    clear hs hcell
    go_enter Try.func52, Try.ntmps52
    go_wp2
    go_loopw [3, 4] (fun v i wr => ∃ (k : Nat), k ≤ l.length ∧ i = .int .i64 k ∧ Own wr v (l.take k) ∧ (∀ k, v.ownBlock = some k → w.heap.size ≤ k) ∧ Kept [] w wr) (fun _ i _ => l.length - (intOf i).toNat)
    case atStart => exact ⟨0, Nat.zero_le _, rfl, World.ownsRow_nil _ _ _ _, ownNil _, Kept.refl _ _⟩
    case round =>
      obtain ⟨k, hk, rfl, hO, hfr, hkept⟩ := hrel
      have hlen : (l.take k).length = k := by simp; omega
      obtain ⟨L, hL⟩ : ∃ L, L = l.take k := ⟨_, rfl⟩
      rw [← hL] at hO hlen
      have HO1 : Hid (Own wr u3 L) := hO
      have HL : Hid (L = l.take k) := hL
      have hlen2 : L.length ≤ 100000000000 := by omega
      have HFR : Hid (∀ k, u3.ownBlock = some k → w.heap.size ≤ k) := hfr
      clear hO hL hlen hfr
      by_cases hlt : k < l.length
      · have g1 : wr.cell? ⟨b, o + k, none⟩ = some (.int .u8 (l.getD k 0)) := hkept.cell (HC.out k hlt) (by simp)
        generalize hd : l.getD k 0 = d at g1
        have HD : Hid (l.getD k 0 = d) := hd
        clear hd
        go_wp2_with (at_builtin; refine wpList_append2 _ rfl _ _ 25 rfl 5 i0 (.int .u8 0) 1 1 Try.underlying25 hi hz0 hz1 hz2 rfl (by decide) _ L.length (L.map (Value.int .u8)) rfl (World.ownsRow.alloc HO1.out _) ⟨wr.heap.size, 0, none⟩ 1 1 [.int .u8 d] rfl rfl ?c1 ?c2 ?c3 ?c4 ?_)
        case c1 =>
          intro j u hj
          match j, hj with
          | 0, hj => simp at hj; subst hj; simp [Addr.add]
        case c2 => intro u hu; simp at hu; subst hu; rfl
        case c3 => unfold maxLen; omega
        case c4 => omega
        intro v' w1 hown hgrow hfr'
        have hO2 : Own w1 v' (L ++ [d]) := own_app hown rfl rfl
        clear hown
        go_wp2
        go_roundw
        case rel =>
          refine ⟨k + 1, by omega, by go_num, ?_, ?_, ?_⟩
          · rw [take_snoc hlt, HD.out, ← HL.out]; exact hO2
          · intro j hj
            rcases hfr' j hj with h1 | h1
            · exact HFR.out j h1
            · have := hkept.size; omega
          · exact (hkept.alloc _).grown hgrow (fun j hj => .inr (HFR.out j hj))
        case measure => simp [intOf]; omega
      · have e : l.take k = l := List.take_of_length_le (by omega)
        have HO2 : Hid (Own wr u3 l) := by have := HO1.out; rw [HL.out, e] at this; exact this
        clear e
        go_wp2
        go_ret
        exact ⟨_, rfl, HO2.out, HFR.out, hkept⟩

set_option maxHeartbeats 1000000 in
theorem four_call (w : World) (x : Int) (h0 : 0 ≤ x) (h1 : x ≤ 4294967295) :
    Calls Try.prog 74 #[.int .u32 x] w fun r w' => ∃ v, r = .returned v ∧ Own w' v (hiB 4 x) ∧ (∀ k, v.ownBlock = some k → w.heap.size ≤ k) ∧ Kept [] w w' := by
  go_enter Try.func74, Try.ntmps74
  go_wp2
  go_ret
  have e : x / 16777216 % 256 = x / 16777216 := by omega
  refine ⟨_, rfl, ?_, ?_, (Kept.refl _ _).alloc _⟩
  · have h := World.ownsRow_lit (base := 0) (e := 5) (size := 1) w #[Value.int .u8 (x / 16777216), Value.int .u8 (x / 65536 % 256), Value.int .u8 (x / 256 % 256), Value.int .u8 (x % 256)] 4 (Nat.zero_le _) (by decide) rfl
    have h2 : hiB 4 x = [x / 16777216, x / 65536 % 256, x / 256 % 256, x % 256] := by rw [hiB4, e]
    rw [h2]
    exact h
  · intro k hk
    cases hk
    exact Nat.le_refl _

theorem wrapsU32 (n : Int) (h₀ : 0 ≤ n) (h₁ : n < 2 ^ 32) : IntKind.u32.wrap n = n := by rw [IntKind.wrap_u32]; omega

theorem back_bits (a b c d : Int) (ha : 0 ≤ a ∧ a < 256) (hb : 0 ≤ b ∧ b < 256) (hc : 0 ≤ c ∧ c < 256) (hd : 0 ≤ d ∧ d < 256) :
    bits .or .u32 (bits .or .u32 (bits .or .u32 (a % 4294967296 * 16777216 % 4294967296) (b % 4294967296 * 65536 % 4294967296)) (c % 4294967296 * 256 % 4294967296)) (d % 4294967296) = a * 16777216 + b * 65536 + c * 256 + d := by
  have e1 : a % 4294967296 * 16777216 % 4294967296 = a * 16777216 := by omega
  have e2 : b % 4294967296 * 65536 % 4294967296 = b * 65536 := by omega
  have e3 : c % 4294967296 * 256 % 4294967296 = c * 256 := by omega
  have e4 : d % 4294967296 = d := by omega
  rw [e1, e2, e3, e4]
  rw [bits_join .u32 32 (by decide) wrapsU32 24 (a * 16777216) (b * 65536) (by omega) (by omega) (by omega) (by omega) (by omega) (by omega)]
  rw [bits_join .u32 32 (by decide) wrapsU32 16 (a * 16777216 + b * 65536) (c * 256) (by omega) (by omega) (by omega) (by omega) (by omega) (by omega)]
  rw [bits_join .u32 32 (by decide) wrapsU32 8 (a * 16777216 + b * 65536 + c * 256) d (by omega) (by omega) (by omega) (by omega) (by omega) (by omega)]

set_option maxHeartbeats 1000000 in
theorem back_call (w : World) (ao : Option Addr) (n c : Nat) (l : List Int) (hs : Sl w ao n c l) (ho : Oct l) (h4 : n = 4) :
    Calls Try.prog 75 #[.slice ao n c] w fun r w' => r = .returned (.int .u32 (rdHi l)) ∧ ∃ q, w' = w.drewN q := by
  subst h4
  obtain ⟨a, b, c', d, rfl⟩ := list4 hs.1
  obtain ⟨bb, o, rfl, hcell⟩ := hs.some (by omega)
  have hc0 := hcell 0 (by omega)
  have hc1 := hcell 1 (by omega)
  have hc2 := hcell 2 (by omega)
  have hc3 := hcell 3 (by omega)
  simp at hc0 hc1 hc2 hc3
  have hcc := hs.2.1
  clear hcell hs
  go_enter Try.func75, Try.ntmps75
  go_wp2
  go_quiet (fail)
  go_wp2
  go_ret
  refine ⟨?_, _, rfl⟩
  rw [rdHi4 _ _ _ _ ho]
  exact ret_int (back_bits a b c' d (ho a (by simp)) (ho b (by simp)) (ho c' (by simp)) (ho d (by simp)))

end Go.Proofs.Ytfmklcnilmhnbaa
