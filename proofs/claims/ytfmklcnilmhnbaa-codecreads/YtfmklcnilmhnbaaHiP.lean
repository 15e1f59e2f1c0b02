/-
  Numbers as so many bytes, the highest first; frames, plainly.
-/
import Derived.Test.YtfmklcnilmhnbaaPure
import Derived.Test.YtfmklcnilmhnbaaCrcP
namespace Go.Proofs.Ytfmklcnilmhnbaa
open Go.RowKit

/-- The lowest bytes of x, the highest of them first. -/
def hiB (many : Nat) (x : Int) : List Int := (List.range many).map fun i => x / 2 ^ (8 * (many - 1 - i)) % 256

theorem hiB_length (many : Nat) (x : Int) : (hiB many x).length = many := by simp [hiB]

theorem hiB_oct (many : Nat) (x : Int) : Oct (hiB many x) := by
  intro y hy
  simp only [hiB, List.mem_map] at hy
  obtain ⟨i, _, rfl⟩ := hy
  omega

theorem hiB_take (many : Nat) (x : Int) (k : Nat) (h : k < many) : (hiB many x).take (k + 1) = (hiB many x).take k ++ [x / 2 ^ (8 * (many - 1 - k)) % 256] := by
  rw [List.take_succ_eq_append_getElem (by rw [hiB_length]; exact h)]
  simp [hiB]

/-- What bytes are, the highest first. -/
def rdHi (l : List Int) : Int := l.foldl (fun x d => (x * 256 % 18446744073709551616 + d)) 0

theorem rdHi_snoc (l : List Int) (d : Int) : rdHi (l ++ [d]) = rdHi l * 256 % 18446744073709551616 + d := by
  unfold rdHi; rw [List.foldl_append]; rfl

theorem rdHi_bd (l : List Int) (ho : Oct l) : 0 ≤ rdHi l ∧ rdHi l < 18446744073709551616 := by
  have : ∀ (m : List Int), Oct m → 0 ≤ rdHi m.reverse ∧ rdHi m.reverse < 18446744073709551616 := by
    intro m
    induction m with
    | nil => intro _; decide
    | cons d m ih =>
      intro h
      have h1 := ih h.tail
      have h2 := h.head
      rw [List.reverse_cons, rdHi_snoc]
      omega
  have h := this l.reverse (fun x hx => ho x (by simpa using hx))
  simpa using h

theorem rdHi4 (a b c d : Int) (h : Oct [a, b, c, d]) : rdHi [a, b, c, d] = a * 16777216 + b * 65536 + c * 256 + d := by
  have ha := h a (by simp); have hb := h b (by simp); have hc := h c (by simp); have hd := h d (by simp)
  simp only [rdHi, List.foldl_cons, List.foldl_nil]
  omega

theorem hiB4 (x : Int) : hiB 4 x = [x / 16777216 % 256, x / 65536 % 256, x / 256 % 256, x % 256] := by
  simp [hiB, List.range, List.range.loop]

theorem rdHi_hiB4 (x : Int) (h0 : 0 ≤ x) (h1 : x < 4294967296) : rdHi (hiB 4 x) = x := by
  have := hiB_oct 4 x
  rw [hiB4] at this ⊢
  rw [rdHi4 _ _ _ _ this]
  omega

theorem list4 {l : List Int} (h : l.length = 4) : ∃ a b c d, l = [a, b, c, d] := by
  match l, h with
  | [a, b, c, d], _ => exact ⟨a, b, c, d, rfl⟩

theorem hiB4_rdHi (l : List Int) (h : l.length = 4) (ho : Oct l) : 0 ≤ rdHi l ∧ rdHi l < 4294967296 ∧ hiB 4 (rdHi l) = l := by
  obtain ⟨a, b, c, d, rfl⟩ := list4 h
  have ha := ho a (by simp); have hb := ho b (by simp); have hc := ho c (by simp); have hd := ho d (by simp)
  rw [rdHi4 _ _ _ _ ho, hiB4]
  refine ⟨by omega, by omega, ?_⟩
  simp only [List.cons.injEq, and_true]
  omega

/-- The last four bytes are the sum of those ahead. -/
def summed (l : List Int) : Bool := rdHi (l.drop (l.length - 4)) == (crcOf (l.take (l.length - 4)) : Int)

def frameOf (l : List Int) : List Int := hiB 4 l.length ++ hiB 4 (crcOf (hiB 4 l.length)) ++ (l ++ hiB 4 (crcOf l))

/-- Frame: the bytes, what is wrong. -/
def frameE (l : List Int) : List Int × Int := if l.length ≤ 1048576 then (frameOf l, 0) else ([], 3)

/-- Unframe: the body, how many bytes, what is wrong. -/
def unframe (l : List Int) : List Int × Int × Int :=
  if l.length < 8 then ([], 0, 2) else
  if summed (l.take 8) = false then ([], 0, 5) else
  if 1048576 < rdHi (l.take 4) then ([], 0, 3) else
  if (l.length : Int) < rdHi (l.take 4) + 12 then ([], 0, 2) else
  if summed ((l.take ((rdHi (l.take 4)).toNat + 12)).drop 8) = false then ([], 0, 5) else
  ((l.take (8 + (rdHi (l.take 4)).toNat)).drop 8, rdHi (l.take 4) + 12, 0)

end Go.Proofs.Ytfmklcnilmhnbaa
