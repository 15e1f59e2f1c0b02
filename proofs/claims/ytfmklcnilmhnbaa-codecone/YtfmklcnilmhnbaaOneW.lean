/-
  Of any bytes that begin with a number: written again it is just these bytes: the walk.
-/
import Derived.Test.YtfmklcnilmhnbaaAwake
namespace Go.Proofs.Ytfmklcnilmhnbaa
open Go.RowKit

set_option maxHeartbeats 2000000 in
theorem one_walk (w : World) (ao : Option Addr) (n c : Nat) (l : List Int) (hs : Sl w ao n c l) (ho : Oct l) (hbig : n ≤ 140737488355328) :
    Calls Try.prog 7 #[.slice ao n c] w fun r w' => r = .returned (.bool true) ∧ Below w.heap.size w w' := by
  have hn := hs.1
  subst hn
  have hm := hs.2.2.1
  have hc := hs.2.1
  unfold maxLen at hm
  have HS : Hid (Sl w ao l.length c l) := hs
  clear hs
  go_enter Try.func7, Try.ntmps7
  go_wp2_with fail
  refine (awake_call _).mono ?_
  rintro _ w1 ⟨rfl, hk1⟩
  go_wp2_with fail
  refine (newReader_call _ _ _ _ _ (Sl.kept hk1 HS.out (by simp)) hbig ho).mono ?_
  rintro _ w2 ⟨p, F, rfl, hp, hF, hF', hr2, hk2⟩
  have HF : Hid (∀ k ∈ F, w1.heap.size ≤ k) := hF
  have HF' : Hid (∀ k ∈ F, k < w2.heap.size) := hF'
  clear hF hF'
  go_wp2_with fail
  refine (newWriter_call _).mono ?_
  rintro _ w3 ⟨rfl, hw3, hk3⟩
  have hr3 := Rd.kept hk3 hr2 (by simp) (by simp)
  have hpw := hr2.lt
  go_wp2_with fail
  refine (num_call _ _ _ _ _ hr3).mono ?_
  have hE : rdNumE 0 l = rdNum l := by unfold rdNumE; rw [if_pos rfl]
  rw [hE]
  have hsh := rdN_shape 6 0 0 l
  have hone := fun x rest => rdNum_one x l rest ho
  change ((rdNum l).1 = 0 ∧ ∃ k, (rdNum l).2.2 = l.drop k) ∨ ((rdNum l).1 ≠ 0 ∧ (rdNum l).2 = (0, [])) at hsh
  generalize rdNum l = q at hsh hone ⊢
  obtain ⟨e, x, rest⟩ := q
  rintro _ w4 ⟨rfl, hr4, hk4⟩
  have hw4 := Wr.kept hk4 hw3 (by simp; omega) (by simp)
  have hK4 : Kept [] w w4 := by
    have h1 : Kept [] w w3 := (hk1.trans hk2 (by simp)).trans hk3 (by simp)
    exact h1.trans hk4 (by have := hk1.size; simp; omega)
  clear hr2 hw3 hr3 hE
  simp only at hr4 hsh
  by_cases he : e = 0
  · subst he
    obtain ⟨hx0, hx1, hl⟩ := hone x rest rfl
    clear hsh hone
    have HL : Hid (l = encNum x ++ rest) := hl
    have hlen : l.length = (encNum x).length + rest.length := by rw [hl]; simp
    clear hl
    go_wp2_with fail
    refine (fail_call _ _ _ _ _ hr4).mono ?_
    rintro _ _ ⟨rfl, rfl⟩
    go_wp2_with fail
    refine (wnum_call _ _ _ _ _ x hw4 (by simp)).mono ?_
    have e5 : wrNum 0 [] x = (encNum x, 0) := by unfold wrNum; rw [if_pos rfl, if_pos ⟨hx0, hx1⟩]; rfl
    rw [e5]
    rintro _ w5 ⟨rfl, g5, hw5, hf5, hk5⟩
    have hr5 := Rd.kept hk5 hr4 (by simp; omega) (by intro k hk; have := HF'.out k hk; simp; omega)
    have hK5 : Kept [] w w5 := hK4.trans hk5 (by have := hk1.size; have := hk2.size; simp; omega)
    simp only at hw5
    go_wp2_with fail
    refine (done_call _ _ _ _ _ hw5 (by have := enc_length 5 x; unfold encNum; omega)).mono ?_
    rintro _ w6 ⟨a6, c6, rfl, hs6, hb6, hk6⟩
    have hr6 := Rd.kept hk6 hr5 (by simp) (by simp)
    go_wp2_with fail
    refine (left_call _ _ _ _ _ hr6).mono ?_
    rintro _ _ ⟨rfl, rfl⟩
    have hbeq : ((l.length : Int) - (rest.length : Int) == ((encNum x).length : Int)) = true := by simp; omega
    have hle : (encNum x).length ≤ c := by omega
    have hsb : Sl w6 ao (encNum x).length c (encNum x) := by
      have h1 : Sl w ao (encNum x).length c (l.take (encNum x).length) := HS.out.take (by omega)
      have h2 : l.take (encNum x).length = encNum x := by rw [HL.out]; simp
      rw [h2] at h1
      exact Sl.kept (hK5.trans hk6 (by simp)) h1 (by simp)
    go_wp2_with fail
    refine (same_call _ _ _ _ _ _ _ _ _ hs6 hsb).mono ?_
    rintro _ w7 ⟨rfl, hk7⟩
    go_wp2
    go_ret
    exact ⟨by simp, ((hK5.trans hk6 (by simp)).trans hk7 (by simp)).below (Nat.le_refl _) (by simp)⟩
  · have hx : x = 0 ∧ rest = [] := by
      rcases hsh with h | h
      · exact absurd h.1 he
      · simpa using h.2
    obtain ⟨rfl, rfl⟩ := hx
    have heb : (e != 0) = true := by simp [he]
    clear hsh hone he
    go_wp2_with fail
    refine (fail_call _ _ _ _ _ hr4).mono ?_
    rintro _ _ ⟨rfl, rfl⟩
    go_wp2_with fail
    refine (left_call _ _ _ _ _ hr4).mono ?_
    rintro _ _ ⟨rfl, rfl⟩
    go_wp2
    go_ret
    exact ⟨rfl, hK4.below (Nat.le_refl _) (by simp)⟩

end Go.Proofs.Ytfmklcnilmhnbaa
