/-
  The sum of 32 bits, plainly.
-/
import Derived.WalkKit
namespace Go.Proofs.Ytfmklcnilmhnbaa
open Go.RowKit

def crcPoly : Nat := 3988292384

/-- One bit goes. -/
def crcStep (x : Nat) : Nat := if x % 2 = 1 then (x / 2) ^^^ crcPoly else x / 2

def crcSteps : Nat → Nat → Nat
  | 0, x => x
  | k + 1, x => crcStep (crcSteps k x)

/-- The register behind some bytes. -/
def crcReg (r : Nat) (l : List Int) : Nat := l.foldl (fun r d => crcSteps 8 (r ^^^ d.toNat)) r

def crcOf (l : List Int) : Nat := 4294967295 - crcReg 4294967295 l

theorem crcStep_lt (x : Nat) (h : x < 4294967296) : crcStep x < 4294967296 := by
  unfold crcStep crcPoly
  split
  · exact Nat.xor_lt_two_pow (n := 32) (by omega) (by decide)
  · omega

theorem crcSteps_lt (k x : Nat) (h : x < 4294967296) : crcSteps k x < 4294967296 := by
  induction k with
  | zero => exact h
  | succ k ih => exact crcStep_lt _ ih

theorem crcReg_lt (r : Nat) (l : List Int) (hr : r < 4294967296) (hl : ∀ x ∈ l, 0 ≤ x ∧ x < 256) : crcReg r l < 4294967296 := by
  induction l generalizing r with
  | nil => exact hr
  | cons d l ih =>
    refine ih _ ?_ (fun x hx => hl x (List.mem_cons_of_mem _ hx))
    have := hl d (List.mem_cons_self ..)
    exact crcSteps_lt _ _ (Nat.xor_lt_two_pow (n := 32) (by omega) (by omega))

theorem crcReg_snoc (r : Nat) (l : List Int) (d : Int) : crcReg r (l ++ [d]) = crcSteps 8 (crcReg r l ^^^ d.toNat) := by
  unfold crcReg; rw [List.foldl_append]; rfl

theorem crcReg_append (r : Nat) (l m : List Int) : crcReg r (l ++ m) = crcReg (crcReg r l) m := by
  unfold crcReg; rw [List.foldl_append]

theorem crc_odd (x : Nat) (hx : x < 4294967296) (h : x % 2 = 1) : bits .and .u32 (x : Int) 1 = 1 ∧ bits .xor .u32 ((x : Int) / 2) 3988292384 = ((crcStep x : Nat) : Int) := by
  constructor
  · have := u32_and_nat x 1 hx (by decide)
    rw [nat_mask1, h] at this
    exact this
  · have := u32_xor_nat (x / 2) 3988292384 (by omega) (by decide)
    have e : crcStep x = (x / 2) ^^^ 3988292384 := by unfold crcStep crcPoly; rw [if_pos h]
    rw [e, ← this]; rfl

theorem crc_even (x : Nat) (hx : x < 4294967296) (h : x % 2 = 0) : bits .and .u32 (x : Int) 1 = 0 ∧ (x : Int) / 2 = ((crcStep x : Nat) : Int) := by
  constructor
  · have := u32_and_nat x 1 hx (by decide)
    rw [nat_mask1, h] at this
    exact this
  · have e : crcStep x = x / 2 := by unfold crcStep; rw [if_neg (by omega)]
    rw [e]; omega

theorem xor_ones (r : Nat) (h : r < 4294967296) : 4294967295 ^^^ r = 4294967295 - r := by
  have e : (BitVec.allOnes 32 ^^^ BitVec.ofNat 32 r) = ~~~ (BitVec.ofNat 32 r) := BitVec.allOnes_xor
  have e2 := congrArg BitVec.toNat e
  rw [BitVec.toNat_xor, BitVec.toNat_not, BitVec.toNat_allOnes, BitVec.toNat_ofNat, Nat.mod_eq_of_lt (by omega)] at e2
  exact e2

theorem u32_not (r : Nat) (h : r < 4294967296) : bits .xor .u32 IntKind.u32.max (r : Int) = ((4294967295 - r : Nat) : Int) := by
  have h1 := u32_xor_nat 4294967295 r (by decide) h
  rw [xor_ones r h] at h1
  exact h1

theorem ret_int {k : IntKind} {a b : Int} (h : a = b) : Ending.returned (.int k a) = .returned (.int k b) := by rw [h]

theorem ret_bool {a b : Bool} (h : a = b) : Ending.returned (.bool a) = .returned (.bool b) := by rw [h]

theorem crcOf_le (l : List Int) : crcOf l ≤ 4294967295 := by unfold crcOf; omega

end Go.Proofs.Ytfmklcnilmhnbaa
