/-
  Crc, by its contract; and the document's own.
-/
import Derived.Test.YtfmklcnilmhnbaaRd0
import Derived.Test.YtfmklcnilmhnbaaPure
import Derived.Test.YtfmklcnilmhnbaaCrcP
namespace Go.Proofs.Ytfmklcnilmhnbaa
open Go.RowKit

theorem take_snoc {l : List Int} {k : Nat} (h : k < l.length) : l.take (k + 1) = l.take k ++ [l.getD k 0] := by
  rw [List.take_succ_eq_append_getElem h]
  simp [List.getD, List.getElem?_eq_getElem h]

theorem getD_oct {l : List Int} (ho : Oct l) {k : Nat} (h : k < l.length) : 0 ≤ l.getD k 0 ∧ l.getD k 0 < 256 := by
  have : l.getD k 0 = l[k] := by simp [List.getD, List.getElem?_eq_getElem h]
  rw [this]; exact ho _ (List.getElem_mem h)

set_option maxHeartbeats 2000000 in
theorem crc_call (w : World) (ao : Option Addr) (n c : Nat) (l : List Int) (hs : Sl w ao n c l) (ho : Oct l) :
    Calls Try.prog 15 #[.slice ao n c] w fun r w' => r = .returned (.int .u32 (crcOf l)) ∧ w = w' := by
  have hn := hs.1
  subst hn
  have hm := hs.2.2.1
  have hc := hs.2.1
  unfold maxLen at hm
  by_cases h0 : l.length = 0
  · have e1 : l = [] := by simpa using h0
    subst e1
    clear hs
    go_enter Try.func15, Try.ntmps15
    go_wp2
    refine wp_loop_rounds 1 ?_
    rw [rounds_succ]
    go_wp2
    go_ret
    exact ⟨rfl, rfl⟩
  · obtain ⟨b, o, rfl, hcell⟩ := hs.some (by omega)
    have HC : Hid (∀ i, i < l.length → w.cell? ⟨b, o + i, none⟩ = some (.int .u8 (l.getD i 0))) := hcell
    have HO : Hid (Oct l) := ho
    clear hs hcell ho
    go_enter Try.func15, Try.ntmps15
    go_wp2
    go_loop [3, 9] (fun t i => ∃ (k : Nat) (r : Nat), k ≤ l.length ∧ i = .int .i64 k ∧ t = .int .u32 r ∧ r < 4294967296 ∧ Hid (r = crcReg 4294967295 (l.take k))) (fun _ i => l.length - (intOf i).toNat)
    case atStart => exact ⟨0, 4294967295, Nat.zero_le _, rfl, rfl, by decide, rfl⟩
    case round =>
      obtain ⟨k, r, hk, rfl, rfl, hr, HR⟩ := hrel
      by_cases hlt : k < l.length
      · have g1 : w.cell? ⟨b, o + k, none⟩ = some (.int .u8 (l.getD k 0)) := HC.out k hlt
        have gd := getD_oct HO.out hlt
        generalize hx : l.getD k 0 = d at g1 gd
        have HX : Hid (l.getD k 0 = d) := hx
        clear hx
        obtain ⟨gd0, gd1⟩ := gd
        have hx1 : bits .xor .u32 (r : Int) d = ((r ^^^ d.toNat : Nat) : Int) := by
          have := u32_xor_nat r d.toNat hr (by omega)
          rw [show ((d.toNat : Nat) : Int) = d by omega] at this
          exact this
        have hy2 : r ^^^ d.toNat < 4294967296 := Nat.xor_lt_two_pow (n := 32) (by omega) (by omega)
        obtain ⟨y, hy⟩ : ∃ y, y = r ^^^ d.toNat := ⟨_, rfl⟩
        rw [← hy] at hx1 hy2
        have HY : Hid (y = r ^^^ d.toNat) := hy
        clear hy
        go_wp2
        go_loop [3, 17] (fun t j => ∃ (m : Nat) (z : Nat), m ≤ 8 ∧ j = .int .i64 m ∧ t = .int .u32 z ∧ z < 4294967296 ∧ Hid (z = crcSteps m y)) (fun _ j => 8 - (intOf j).toNat)
        case atStart => exact ⟨0, y, by omega, rfl, rfl, hy2, rfl⟩
        case round =>
          obtain ⟨m, z, hm8, rfl, rfl, hz, HZ⟩ := hrel
          by_cases hm : m < 8
          · have hm' : (m : Int) < 8 := by omega
            by_cases hodd : z % 2 = 1
            · obtain ⟨q1, q2⟩ := crc_odd z hz hodd
              clear hodd
              go_wp2
              go_round
              case rel => exact ⟨m + 1, crcStep z, by omega, by go_num, rfl, crcStep_lt z hz, by show crcStep z = crcStep (crcSteps m y); rw [← HZ.out]⟩
              case measure => simp [intOf]; omega
            · obtain ⟨q1, q2⟩ := crc_even z hz (by omega)
              have Q2 : Hid ((z : Int) / 2 = ((crcStep z : Nat) : Int)) := q2
              clear hodd q2
              go_wp2
              go_round
              case rel => exact ⟨m + 1, crcStep z, by omega, by go_num, by rw [Q2.out], crcStep_lt z hz, by show crcStep z = crcStep (crcSteps m y); rw [← HZ.out]⟩
              case measure => simp [intOf]; omega
          · have hm' : m = 8 := by omega
            subst hm'
            go_wp2
            go_round
            case rel => exact ⟨k + 1, z, by omega, by go_num, rfl, hz, by show z = crcReg 4294967295 (l.take (k + 1)); rw [HZ.out, HY.out, HR.out, take_snoc hlt, crcReg_snoc, HX.out]⟩
            case measure => simp [intOf]; omega
      · have hke : l.take k = l := List.take_of_length_le (by omega)
        have HR2 : Hid (r = crcReg 4294967295 l) := by have := HR.out; rw [hke] at this; exact this
        clear hke
        go_wp2
        go_ret
        refine ⟨?_, rfl⟩
        unfold crcOf
        rw [← HR2.out]
        exact ret_int (u32_not r hr)

set_option maxHeartbeats 2000000 in
theorem rcrc_call (w : World) (ao : Option Addr) (n c : Nat) (l : List Int) (hs : Sl w ao n c l) (ho : Oct l) :
    Calls Try.prog 33 #[.slice ao n c] w fun r w' => r = .returned (.int .u32 (crcOf l)) ∧ w = w' := by
  have hn := hs.1
  subst hn
  have hm := hs.2.2.1
  have hc := hs.2.1
  unfold maxLen at hm
  by_cases h0 : l.length = 0
  · have e1 : l = [] := by simpa using h0
    subst e1
    clear hs
    go_enter Try.func33, Try.ntmps33
    go_wp2
    refine wp_loop_rounds 1 ?_
    rw [rounds_succ]
    go_wp2
    go_ret
    exact ⟨rfl, rfl⟩
  · obtain ⟨b, o, rfl, hcell⟩ := hs.some (by omega)
    have HC : Hid (∀ i, i < l.length → w.cell? ⟨b, o + i, none⟩ = some (.int .u8 (l.getD i 0))) := hcell
    have HO : Hid (Oct l) := ho
    clear hs hcell ho
    go_enter Try.func33, Try.ntmps33
    go_wp2
    go_loop [3, 4] (fun t i => ∃ (k : Nat) (r : Nat), k ≤ l.length ∧ i = .int .i64 k ∧ t = .int .u32 r ∧ r < 4294967296 ∧ Hid (r = crcReg 4294967295 (l.take k))) (fun _ i => l.length - (intOf i).toNat)
    case atStart => exact ⟨0, 4294967295, Nat.zero_le _, rfl, rfl, by decide, rfl⟩
    case round =>
      obtain ⟨k, r, hk, rfl, rfl, hr, HR⟩ := hrel
      by_cases hlt : k < l.length
      · have g1 : w.cell? ⟨b, o + k, none⟩ = some (.int .u8 (l.getD k 0)) := HC.out k hlt
        have gd := getD_oct HO.out hlt
        generalize hx : l.getD k 0 = d at g1 gd
        have HX : Hid (l.getD k 0 = d) := hx
        clear hx
        obtain ⟨gd0, gd1⟩ := gd
        have hx1 : bits .xor .u32 (r : Int) d = ((r ^^^ d.toNat : Nat) : Int) := by
          have := u32_xor_nat r d.toNat hr (by omega)
          rw [show ((d.toNat : Nat) : Int) = d by omega] at this
          exact this
        have hy2 : r ^^^ d.toNat < 4294967296 := Nat.xor_lt_two_pow (n := 32) (by omega) (by omega)
        obtain ⟨y, hy⟩ : ∃ y, y = r ^^^ d.toNat := ⟨_, rfl⟩
        rw [← hy] at hx1 hy2
        have HY : Hid (y = r ^^^ d.toNat) := hy
        clear hy
        go_wp2
        go_loop [3, 5] (fun t j => ∃ (m : Nat) (z : Nat), m ≤ 8 ∧ j = .int .i64 m ∧ t = .int .u32 z ∧ z < 4294967296 ∧ Hid (z = crcSteps m y)) (fun _ j => 8 - (intOf j).toNat)
        case atStart => exact ⟨0, y, by omega, rfl, rfl, hy2, rfl⟩
        case round =>
          obtain ⟨m, z, hm8, rfl, rfl, hz, HZ⟩ := hrel
          by_cases hm : m < 8
          · have hm' : (m : Int) < 8 := by omega
            by_cases hodd : z % 2 = 1
            · obtain ⟨q1, q2⟩ := crc_odd z hz hodd
              clear hodd
              go_wp2
              go_round
              case rel => exact ⟨m + 1, crcStep z, by omega, by go_num, rfl, crcStep_lt z hz, by show crcStep z = crcStep (crcSteps m y); rw [← HZ.out]⟩
              case measure => simp [intOf]; omega
            · obtain ⟨q1, q2⟩ := crc_even z hz (by omega)
              have Q2 : Hid ((z : Int) / 2 = ((crcStep z : Nat) : Int)) := q2
              clear hodd q2
              go_wp2
              go_round
              case rel => exact ⟨m + 1, crcStep z, by omega, by go_num, by rw [Q2.out], crcStep_lt z hz, by show crcStep z = crcStep (crcSteps m y); rw [← HZ.out]⟩
              case measure => simp [intOf]; omega
          · have hm' : m = 8 := by omega
            subst hm'
            go_wp2
            go_round
            case rel => exact ⟨k + 1, z, by omega, by go_num, rfl, hz, by show z = crcReg 4294967295 (l.take (k + 1)); rw [HZ.out, HY.out, HR.out, take_snoc hlt, crcReg_snoc, HX.out]⟩
            case measure => simp [intOf]; omega
      · have hke : l.take k = l := List.take_of_length_le (by omega)
        have HR2 : Hid (r = crcReg 4294967295 l) := by have := HR.out; rw [hke] at this; exact this
        clear hke
        go_wp2
        go_ret
        refine ⟨?_, rfl⟩
        unfold crcOf
        rw [← HR2.out]
        exact ret_int (u32_not r hr)

end Go.Proofs.Ytfmklcnilmhnbaa
