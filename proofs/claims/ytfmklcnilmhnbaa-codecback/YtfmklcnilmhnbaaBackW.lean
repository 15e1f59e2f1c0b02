/-
  CodecBack: the walk.
-/
import Derived.Test.YtfmklcnilmhnbaaWr4
import Derived.Test.YtfmklcnilmhnbaaRd5
import Derived.Deep.RegionWith
import Derived.Deep.DeepCutAuto
namespace Go.Proofs.Ytfmklcnilmhnbaa
open Go.RowKit

/-- A thing's bytes. -/
def encTh (t : Th) : List Int :=
  if t.d ≤ 1 then encNum t.n else if t.d = 2 then encNum t.s.size ++ strOf t.s else if t.d = 3 then encNum t.bl.length ++ t.bl else if t.d = 4 then [if t.f then 1 else 0] else hiB 8 t.x

/-- A thing that may be written. -/
def OkTh (t : Th) : Prop := (t.d ≤ 1 → 0 ≤ t.n ∧ t.n ≤ 1099511627776) ∧ t.d ≤ 5

theorem wrThing_ok (e : Int) (l : List Int) (t : Th) (h : (wrThing e l t).2 = 0) : e = 0 ∧ OkTh t ∧ (wrThing e l t).1 = l ++ encTh t := by
  by_cases he : e = 0
  · subst he
    refine ⟨rfl, ?_⟩
    unfold wrThing at h ⊢
    unfold OkTh encTh
    by_cases h1 : t.d ≤ 1
    · rw [if_pos h1] at h ⊢
      unfold wrNum at h ⊢
      rw [if_pos rfl] at h ⊢
      by_cases hn : 0 ≤ t.n ∧ t.n ≤ 1099511627776
      · rw [if_pos hn, if_pos h1]
        exact ⟨⟨fun _ => hn, by omega⟩, rfl⟩
      · rw [if_neg hn] at h; simp at h
    · rw [if_neg h1] at h ⊢
      rw [if_neg h1]
      by_cases h2 : t.d = 2
      · rw [if_pos h2] at h ⊢
        rw [if_pos h2]
        unfold wrRun at h ⊢
        rw [if_pos rfl] at h ⊢
        by_cases hn : (strOf t.s).length ≤ 1048576
        · rw [if_pos hn]
          exact ⟨⟨fun h => absurd h h1, by omega⟩, by simp [strOf_length]⟩
        · rw [if_neg hn] at h; simp at h
      · rw [if_neg h2] at h ⊢
        rw [if_neg h2]
        by_cases h3 : t.d = 3
        · rw [if_pos h3] at h ⊢
          rw [if_pos h3]
          unfold wrRun at h ⊢
          rw [if_pos rfl] at h ⊢
          by_cases hn : t.bl.length ≤ 1048576
          · rw [if_pos hn]
            exact ⟨⟨fun h => absurd h h1, by omega⟩, rfl⟩
          · rw [if_neg hn] at h; simp at h
        · rw [if_neg h3] at h ⊢
          rw [if_neg h3]
          by_cases h4 : t.d = 4
          · rw [if_pos h4] at h ⊢
            rw [if_pos h4]
            unfold wrFlag at h ⊢
            rw [if_pos rfl]
            exact ⟨⟨fun h => absurd h h1, by omega⟩, rfl⟩
          · rw [if_neg h4] at h ⊢
            rw [if_neg h4]
            by_cases h5 : t.d = 5
            · rw [if_pos h5] at h ⊢
              unfold wrWord at h ⊢
              rw [if_pos rfl]
              exact ⟨⟨fun h => absurd h h1, by omega⟩, rfl⟩
            · rw [if_neg h5] at h
              simp [wrRefuse] at h
  · exfalso
    have : (wrThing e l t).2 = e := by
      unfold wrThing wrNum wrRun wrFlag wrWord wrRefuse
      simp [he]
      repeat (split <;> try rfl)
    exact he (by rw [← this]; exact h)

/-- What is written of a row of things. -/
def wrs (L : List Th) : List Int × Int := L.foldl (fun q t => wrThing q.2 q.1 t) ([], 0)

theorem wrs_snoc (L : List Th) (t : Th) : wrs (L ++ [t]) = wrThing (wrs L).2 (wrs L).1 t := by
  unfold wrs; rw [List.foldl_append]; rfl

theorem wrs_ok (L : List Th) (h : (wrs L).2 = 0) : (wrs L).1 = L.flatMap encTh ∧ ∀ t ∈ L, OkTh t := by
  have : ∀ M : List Th, (wrs M.reverse).2 = 0 → (wrs M.reverse).1 = M.reverse.flatMap encTh ∧ ∀ t ∈ M.reverse, OkTh t := by
    intro M
    induction M with
    | nil => intro _; exact ⟨rfl, by simp⟩
    | cons t M ih =>
      intro h
      rw [List.reverse_cons, wrs_snoc] at h
      obtain ⟨h1, h2, h3⟩ := wrThing_ok _ _ _ h
      obtain ⟨h4, h5⟩ := ih h1
      rw [List.reverse_cons, wrs_snoc, h3, h4]
      refine ⟨by simp, fun t' ht' => ?_⟩
      rcases List.mem_append.1 ht' with h6 | h6
      · exact h5 t' h6
      · simp at h6; rw [h6]; exact h2
  have h2 := this L.reverse (by simpa using h)
  simpa using h2

theorem wrs_len (L : List Th) (hr : ∀ t ∈ L, t.s.size ≤ 2000 ∧ t.bl.length ≤ 2000) : (wrs L).1.length ≤ 2010 * L.length := by
  have : ∀ M : List Th, (∀ t ∈ M.reverse, t.s.size ≤ 2000 ∧ t.bl.length ≤ 2000) → (wrs M.reverse).1.length ≤ 2010 * M.length := by
    intro M
    induction M with
    | nil => intro _; simp [wrs]
    | cons t M ih =>
      intro h
      have h1 := ih (fun t' ht' => h t' (by simp at ht' ⊢; exact .inl ht'))
      have h2 := h t (by simp)
      have h3 := wrThing_len (wrs M.reverse).2 (wrs M.reverse).1 t h2.1 h2.2
      rw [List.reverse_cons, wrs_snoc]
      simp; omega
  have h2 := this L.reverse (by simpa using hr)
  simpa using h2

/-- What is read of a row of things. -/
theorem read_num (n : Int) (l : List Int) (h0 : 0 ≤ n) (h1 : n ≤ 1099511627776) : rdNumE 0 (encNum n ++ l) = (0, n, l) := by
  unfold rdNumE; rw [if_pos rfl]; exact rdNum_enc n l h0 h1

theorem read_run (m l : List Int) (h : m.length ≤ 2000) : rdRunE 0 2000 (encNum m.length ++ m ++ l) = (0, m, l) := by
  unfold rdRunE
  rw [if_pos rfl, List.append_assoc, rdRun_num (rdNum_enc m.length (m ++ l) (by omega) (by omega)), if_neg (by simp), if_neg (by omega), if_neg (by simp; omega)]
  simp

theorem read_flag (b : Bool) (l : List Int) : rdFlagE 0 ([if b then 1 else 0] ++ l) = (0, b, l) := by
  cases b <;> simp [rdFlagE, rdFlag]

theorem rdHi_append8 (x : Int) (h0 : 0 ≤ x) (h1 : x ≤ 18446744073709551615) : rdHi (hiB 8 x) = x := by
  have e : hiB 8 x = [x / 72057594037927936 % 256, x / 281474976710656 % 256, x / 1099511627776 % 256, x / 4294967296 % 256, x / 16777216 % 256, x / 65536 % 256, x / 256 % 256, x % 256] := by
    simp [hiB, List.range, List.range.loop]
  rw [e]
  simp only [rdHi, List.foldl_cons, List.foldl_nil]
  omega

theorem read_word (x : Int) (l : List Int) (h0 : 0 ≤ x) (h1 : x ≤ 18446744073709551615) : rdWordE 0 (hiB 8 x ++ l) = (0, x, l) := by
  have h8 := hiB_length 8 x
  unfold rdWordE rdWord
  rw [if_pos rfl, if_neg (by simp; omega), List.take_append_of_le_length (by omega), List.drop_append_of_le_length (by omega), List.take_of_length_le (by omega), List.drop_eq_nil_of_le (by omega), rdHi_append8 x h0 h1]
  rfl

theorem flat_drop (L : List Th) (j : Nat) (h : j < L.length) : (L.drop j).flatMap encTh = encTh L[j] ++ (L.drop (j + 1)).flatMap encTh := by
  rw [List.drop_eq_getElem_cons h, List.flatMap_cons]

theorem flat_len (L : List Th) (j : Nat) : ((L.drop j).flatMap encTh).length ≤ (L.flatMap encTh).length := by
  conv => rhs; rw [← List.take_append_drop j L, List.flatMap_append, List.length_append]
  omega

theorem Rd.drew {w : World} {p : Nat} {F : List Nat} {l : List Int} {e : Int} (h : Rd w p F l e) : Rd w.drew p F l e := h

end Go.Proofs.Ytfmklcnilmhnbaa
