/-
  Bits and shifts, as plain numbers.
-/
import Derived.WalkKit
namespace Go.Proofs.Ytfmklcnilmhnbaa
open Go.RowKit

theorem wrapsI64 (n : Int) (h₀ : 0 ≤ n) (h₁ : n < 2 ^ 63) : IntKind.i64.wrap n = n := by rw [IntKind.wrap_i64]; omega

theorem u8_and127 {x : Int} (h₀ : 0 ≤ x) (h₁ : x < 256) : bits .and .u8 x 127 = x % 128 := bits_mask .u8 8 (by decide) wraps_u8 7 (by decide) x h₀ h₁

theorem u8_or128r {x : Int} (h₀ : 0 ≤ x) (h₁ : x < 256) : bits .or .u8 x 128 = x % 128 + 128 := by
  have h := (bits_nat .u8 8 (by decide) wraps_u8 x.toNat 128 (by omega) (by decide)).2
  have e : ((x.toNat : Nat) : Int) = x := by omega
  rw [e] at h
  have h2 : x.toNat ||| 128 = x.toNat % 128 + 128 := by
    have h3 : ∀ y : Fin 256, y.val ||| 128 = y.val % 128 + 128 := by decide +kernel
    exact h3 ⟨x.toNat, by omega⟩
  rw [h2] at h
  have : ((128 : Nat) : Int) = 128 := rfl
  rw [this] at h
  rw [h]; omega

theorem or_nat (a b i : Nat) (hb : b % 2 ^ i = 0) (ha : a < 2 ^ i) (hb2 : b < 2 ^ 63) (ha2 : a < 2 ^ 63) : bits .or .i64 (a : Int) (b : Int) = (a : Int) + b := by
  have h := (bits_nat .i64 63 (by decide) wrapsI64 a b ha2 hb2).2
  rw [h, Nat.or_comm, nat_join i b a hb ha]; omega

theorem or_digit (acc d : Int) (k : Nat) (h0 : 0 ≤ acc) (h1 : acc < 2 ^ (7 * k)) (hd : 0 ≤ d) (hd2 : d < 256) (hk : k < 6) :
    bits .or .i64 acc (wrap64 (wrap64 (bits .and .u8 d 127) * 2 ^ (7 * k))) = acc + d % 128 * 2 ^ (7 * k) := by
  rw [u8_and127 hd hd2]
  obtain ⟨a, rfl⟩ := Int.eq_ofNat_of_zero_le h0
  obtain ⟨y, rfl⟩ := Int.eq_ofNat_of_zero_le hd
  obtain rfl | rfl | rfl | rfl | rfl | rfl : k = 0 ∨ k = 1 ∨ k = 2 ∨ k = 3 ∨ k = 4 ∨ k = 5 := by omega
  · have e : wrap64 (wrap64 ((y : Int) % 128) * 2 ^ (7 * 0)) = ((y % 128 * 2 ^ 0 : Nat) : Int) := by unfold wrap64; omega
    rw [e, or_nat a _ 0 (by omega) (by omega) (by omega) (by omega)]; omega
  · have e : wrap64 (wrap64 ((y : Int) % 128) * 2 ^ (7 * 1)) = ((y % 128 * 2 ^ 7 : Nat) : Int) := by unfold wrap64; omega
    rw [e, or_nat a _ 7 (by omega) (by omega) (by omega) (by omega)]; omega
  · have e : wrap64 (wrap64 ((y : Int) % 128) * 2 ^ (7 * 2)) = ((y % 128 * 2 ^ 14 : Nat) : Int) := by unfold wrap64; omega
    rw [e, or_nat a _ 14 (by omega) (by omega) (by omega) (by omega)]; omega
  · have e : wrap64 (wrap64 ((y : Int) % 128) * 2 ^ (7 * 3)) = ((y % 128 * 2 ^ 21 : Nat) : Int) := by unfold wrap64; omega
    rw [e, or_nat a _ 21 (by omega) (by omega) (by omega) (by omega)]; omega
  · have e : wrap64 (wrap64 ((y : Int) % 128) * 2 ^ (7 * 4)) = ((y % 128 * 2 ^ 28 : Nat) : Int) := by unfold wrap64; omega
    rw [e, or_nat a _ 28 (by omega) (by omega) (by omega) (by omega)]; omega
  · have e : wrap64 (wrap64 ((y : Int) % 128) * 2 ^ (7 * 5)) = ((y % 128 * 2 ^ 35 : Nat) : Int) := by unfold wrap64; omega
    rw [e, or_nat a _ 35 (by omega) (by omega) (by omega) (by omega)]; omega

end Go.Proofs.Ytfmklcnilmhnbaa
