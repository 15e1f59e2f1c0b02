/-
  path.Compare: by parts.
-/
import Derived.Test.YtfoghemiaidnhaaGreatPaParts
namespace Go.Proofs.YtfoghemiaidnhaaGreat
open Go.RowKit

/-- How many parts the closure has left. -/
def leftOf (m a : Nat) (w : World) : Nat :=
  match w.cell? ⟨m, 0, none⟩, w.cell? ⟨a, 0, none⟩ with
  | some (.bool true), some (.string s) => (partsB s.data.toList).length
  | _, _ => 0

theorem PtAt.left {w : World} {m a : Nat} {ps : List (List UInt8)} (h : PtAt w m a ps) : leftOf m a w = ps.length := by
  obtain ⟨h0, b, l, h1, h2, h3, h4⟩ := h
  unfold leftOf
  rw [cell_of_one h1, cell_of_one h2]
  rcases h4 with ⟨rfl, rfl⟩ | ⟨rfl, rfl⟩
  · rfl
  · simp [str_data]

theorem PtAt.lt {w : World} {m a : Nat} {ps : List (List UInt8)} (h : PtAt w m a ps) : m < w.heap.size ∧ a < w.heap.size := by
  obtain ⟨h0, b, l, h1, h2, h3, h4⟩ := h
  exact ⟨lt_of_at h1, lt_of_at h2⟩

set_option maxHeartbeats 4000000 in
set_option maxRecDepth 100000 in
theorem compare_call (a b : List UInt8) (w : World) (ha : a.length ≤ 140737488355328) (hb : b.length ≤ 140737488355328) :
    Calls Tryz.prog 60 #[.string (str a), .string (str b)] w fun e w' => e = .returned (.int .i64 (cmpT a b)) ∧ Kept [] w w' := by
  obtain ⟨R, hR⟩ : ∃ R, R = cmpT a b := ⟨_, rfl⟩
  have hs0 : cmpP (partsB a) (partsB b) = R := hR.symm
  rw [← hR]
  clear hR
  go_enter Tryz.func60, Tryz.ntmps60
  go_wp2_with fail
  refine (parts_call a _ ha).mono ?_
  rintro e w1 ⟨m1, a1, rfl, hP1, hK1, hm1, ha1⟩
  go_wp2_with fail
  refine (parts_call b _ hb).mono ?_
  rintro e w2 ⟨m2, a2, rfl, hP2, hK2, hm2, ha2⟩
  have l1 := hP1.lt
  have hQ1 := hP1.kept hK2 (by simp) (by simp)
  have hK : Kept [] w w2 := hK1.trans hK2 (by simp)
  have d1 : m1 ∉ [m2, a2] := by simp; omega
  have d2 : a1 ∉ [m2, a2] := by simp; omega
  have d3 : m2 ∉ [m1, a1] := by simp; omega
  have d4 : a2 ∉ [m1, a1] := by simp; omega
  have d5 : ∀ i ∈ [m1, a1], i ∈ ([] : List Nat) ∨ w.heap.size ≤ i := by simp; omega
  have d6 : ∀ i ∈ [m2, a2], i ∈ ([] : List Nat) ∨ w.heap.size ≤ i := by have := hK1.size; simp; omega
  clear hP1 hK1 hm1 ha1 hK2 hm2 ha2 l1
  go_wp2_with fail
  go_loopw [] (fun wr => ∃ ps qs, PtAt wr m1 a1 ps ∧ PtAt wr m2 a2 qs ∧ cmpP ps qs = R ∧ Kept [] w wr) (fun wr => leftOf m1 a1 wr)
  case atStart => exact ⟨_, _, hQ1, hP2, hs0, hK⟩
  case round =>
    obtain ⟨ps, qs, hA, hB, hc, hKr⟩ := hrel
    clear hQ1 hP2 hs0 hK
    cases ps with
    | nil =>
      go_wp2_with fail
      refine (next_none wr m1 a1 hA).mono ?_
      rintro e w' ⟨rfl, rfl⟩
      go_wp2_with fail
      cases qs with
      | nil =>
        refine (next_none _ m2 a2 hB).mono ?_
        rintro e w' ⟨rfl, rfl⟩
        go_wp2
        go_ret
        exact ⟨by rw [← hc]; rfl, hKr⟩
      | cons q qs =>
        refine (next_some _ m2 a2 q qs hB).mono ?_
        rintro e w3 ⟨rfl, hB', hK3⟩
        go_wp2
        go_ret
        exact ⟨by rw [← hc]; rfl, hKr.trans hK3 d6⟩
    | cons p ps =>
      go_wp2_with fail
      refine (next_some wr m1 a1 p ps hA).mono ?_
      rintro e w3 ⟨rfl, hA3, hK3⟩
      have hB3 := hB.kept hK3 d3 d4
      have hKr3 := hKr.trans hK3 d5
      have hle : leftOf m1 a1 wr = ps.length + 1 := by rw [hA.left]; rfl
      clear hA hB hK3 hKr
      go_wp2_with fail
      cases qs with
      | nil =>
        refine (next_none _ m2 a2 hB3).mono ?_
        rintro e w' ⟨rfl, rfl⟩
        go_wp2
        go_ret
        exact ⟨by rw [← hc]; rfl, hKr3⟩
      | cons q qs =>
        refine (next_some _ m2 a2 q qs hB3).mono ?_
        rintro e w4 ⟨rfl, hB4, hK4⟩
        have hA4 := hA3.kept hK4 d1 d2
        have hKr4 := hKr3.trans hK4 d6
        clear hB3 hK4 hA3 hKr3
        have hcm := Tryz.strings_Compare (str p) (str q)
        rw [str_data, str_data] at hcm
        unfold cmpP lexC at hc
        by_cases h0 : Lib.compareBytes p q = 0
        · rw [if_pos h0] at hc
          rw [h0] at hcm
          go_wp2_with (go_at_call 86; refine (hcm _).mono ?_; rintro e w' ⟨rfl, rfl⟩)
          go_roundw
          case rel => exact ⟨ps, qs, hA4, hB4, hc, hKr4⟩
          case measure => rw [hle, hA4.left]; omega
        · rw [if_neg h0] at hc
          rw [hc] at hcm h0
          go_wp2_with (go_at_call 86; refine (hcm _).mono ?_; rintro e w' ⟨rfl, rfl⟩)
          go_ret
          exact ⟨rfl, hKr4⟩

end Go.Proofs.YtfoghemiaidnhaaGreat
