/-
  path.Normal: the one form of the path that a text names.
-/
import Derived.Test.YtdmlcgmajpjmdaaPaRes
namespace Go.Proofs.Ytdmlcgmajpjmdaa
open Go.RowKit

/-- A path and true, or the empty text and false. -/
def tup : Option (List UInt8) → Value
  | some p => .tuple #[.string (str p), .bool true]
  | none => .tuple #[.string ByteArray.empty, .bool false]

set_option maxHeartbeats 4000000 in
set_option maxRecDepth 100000 in
theorem clone_call (l : List UInt8) (w : World) (hl : l.length ≤ 140737488355328) :
    Calls Try.prog 21 #[.string (str l)] w fun e w' => e = .returned (.string (str l)) ∧ Kept [] w w' := by
  have cC := Try.stringslite_Clone (str l)
  have hl' : (str l).size ≤ 281474976710656 := by rw [str_size]; omega
  go_enter Try.func21, Try.ntmps21
  go_wp2_with fail
  refine (cC _ hl').mono ?_
  rintro e w' ⟨rfl, hB⟩
  go_wp2
  go_ret
  exact ⟨rfl, Kept.of_below hB⟩

set_option maxHeartbeats 4000000 in
set_option maxRecDepth 100000 in
theorem joins_call (k : List (List UInt8)) (b : Nat) (w : World) (h8 : k.length ≤ 8) (hb : b < w.heap.size) (hK : KA w b k) (hj : (joinB k).length ≤ 140737488355328) :
    Calls Try.prog 48 #[.slice (some ⟨b, 0, none⟩) k.length 8, .string ⟨#[47]⟩] w fun e w' => e = .returned (.string (str (joinB k))) ∧ Kept [] w w' := by
  have e1 : (k.map str).map (fun x => x.data.toList) = k := by
    rw [List.map_map]; conv => rhs; rw [← List.map_id k]
    exact List.map_congr_left fun x _ => str_data x
  have h := Try.strings_Join b 0 8 (k.map str) ⟨#[47]⟩ w ?_ hb (by simp; omega) (by simpa using h8) (by rw [e1]; exact hj)
  · rw [e1, List.length_map] at h
    refine h.mono ?_
    rintro e w' ⟨rfl, hB⟩
    exact ⟨rfl, Kept.of_below hB⟩
  · intro j x hx
    rw [List.getElem?_map] at hx
    cases hkj : k[j]? with
    | none => rw [hkj] at hx; cases hx
    | some y =>
      rw [hkj] at hx
      cases hx
      have hjlt : j < k.length := by
        by_cases h : j < k.length
        · exact h
        · rw [List.getElem?_eq_none (by omega)] at hkj; cases hkj
      obtain ⟨⟨s, h1, h2⟩, _⟩ := hK.cell j (by omega)
      rw [Nat.zero_add, h1, h2 y hkj]

theorem joinB_le (k : List (List UInt8)) (n m : Nat) (hk : k.length ≤ n) (h : ∀ p ∈ k, p.length ≤ m) : (joinB k).length ≤ n * (m + 1) := by
  induction k generalizing n with
  | nil => simp [joinB, Lib.join_nil]
  | cons p r ih =>
    cases n with
    | zero => simp at hk
    | succ n =>
      have hp := h p (by simp)
      cases r with
      | nil => rw [joinB_one, Nat.succ_mul]; omega
      | cons q r =>
        have := ih n (by simp at hk ⊢; omega) (fun x hx => h x (by simp [hx]))
        rw [joinB_cons2, Nat.succ_mul]
        simp only [List.length_append, List.length_cons]
        omega

set_option maxHeartbeats 4000000 in
set_option maxRecDepth 100000 in
theorem join_call (k : List (List UInt8)) (b : Nat) (w : World) (h8 : k.length ≤ 8) (hb : b < w.heap.size) (hK : KA w b k) (hj : (joinB k).length ≤ 140737488355328) :
    Calls Try.prog 39 #[.slice (some ⟨b, 0, none⟩) k.length 8] w fun e w' => e = .returned (tup (if (joinB k).length ≤ 64 then some (joinB k) else none)) ∧ Kept [] w w' := by
  have cJ := joins_call k b w h8 hb hK hj
  have hsz : ((str (joinB k)).size : Int) = (joinB k).length := by rw [str_size]
  generalize joinB k = J at *
  by_cases h64 : J.length ≤ 64
  · rw [if_pos h64]
    have hi : (J.length : Int) ≤ 64 := by omega
    unfold tup
    go_enter Try.func39, Try.ntmps39
    go_wp2_with fail
    refine cJ.mono ?_
    rintro e w1 ⟨rfl, hK1⟩
    go_wp2_with fail
    refine (clone_call J _ hj).mono ?_
    rintro e w2 ⟨rfl, hK2⟩
    go_wp2
    go_ret2
    exact ⟨rfl, hK1.trans hK2 (by simp)⟩
  · rw [if_neg h64]
    have hi : 64 < (J.length : Int) := by omega
    unfold tup
    go_enter Try.func39, Try.ntmps39
    go_wp2_with fail
    refine cJ.mono ?_
    rintro e w1 ⟨rfl, hK1⟩
    go_wp2_with fail
    go_ret2
    exact ⟨rfl, hK1⟩

end Go.Proofs.Ytdmlcgmajpjmdaa
