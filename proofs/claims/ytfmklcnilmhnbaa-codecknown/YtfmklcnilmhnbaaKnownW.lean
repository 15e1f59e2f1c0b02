/-
  CodecKnown: the walk.
-/
import Derived.Test.YtfmklcnilmhnbaaFr0
import Derived.Test.YtfmklcnilmhnbaaAwake
import Derived.Lib.SlBytesConst
namespace Go.Proofs.Ytfmklcnilmhnbaa
open Go.RowKit

theorem crc_check : crcOf [49, 50, 51, 52, 53, 54, 55, 56, 57] = 3421780262 := by decide +kernel
theorem frame_none : frameE [] = (frameOf [], 0) := by decide +kernel
theorem frame_none_len : (frameOf []).length = 12 := by decide +kernel
theorem frame_none_oct : Oct (frameOf []) := by
  have h : ∀ x ∈ frameOf [], 0 ≤ x ∧ x < 256 := by decide +kernel
  exact h
theorem frame_none7 : unframe ((frameOf []).take 7) = ([], 0, 2) := by decide +kernel
theorem frame_none9 : unframe ((frameOf []).take 9) = ([], 0, 2) := by decide +kernel

/-- A row that was just laid. -/
theorem Sl.lit {w : World} {vs : Array Value} {t : TypeId} {mk : Nat × Nat} {n : Nat} {l : List Int} (hn : l.length = n) (h : vs = (l.map (Value.int .u8)).toArray) (hb : n ≤ maxLen) : Sl (w.alloc (.cells vs t mk)) (Option.some ⟨w.heap.size, 0, none⟩) n n l := by
  subst hn; subst h
  refine ⟨rfl, Nat.le_refl _, hb, by simp, fun i hi => ⟨w.heap.size, 0, rfl, ?_⟩⟩
  rw [World.cell?_alloc_mark]
  simp [List.getD, List.getElem?_eq_getElem hi]

set_option maxRecDepth 100000 in
set_option maxHeartbeats 2000000 in
theorem known_walk (w : World) : Calls Try.prog 3 #[] w fun r w' => r = .returned (.bool true) ∧ Below w.heap.size w w' := by
  have kc := fun (w : World) (C : Array Value) (n c : Nat) => Lib.run_convert_bytes_const (P := Try.prog) w 25 5 C n c Try.underlying25 Try.underlying5
  go_enter Try.func3, Try.ntmps3
  go_wp2_with fail
  refine (awake_call _).mono ?_
  rintro _ w1 ⟨rfl, hk1⟩
  go_wp2_with fail
  refine (newReader_call _ _ _ _ _ (Sl.lit (l := [128, 0]) rfl rfl (by decide)) (by simp) (by intro x hx; simp at hx; omega)).mono ?_
  rintro _ w2 ⟨p2, F2, rfl, hp2, hF2, hF2', hr2, hk2⟩
  have HF2 : Hid (∀ k ∈ F2, k < w2.heap.size) := hF2'
  clear hF2 hF2'
  go_wp2_with fail
  refine (newReader_call _ _ _ _ _ (Sl.lit (l := [128]) rfl rfl (by decide)) (by simp) (by intro x hx; simp at hx; omega)).mono ?_
  rintro _ w3 ⟨p3, F3, rfl, hp3, hF3, hF3', hr3, hk3⟩
  have HF3 : Hid (∀ k ∈ F3, w2.heap.size < k) := by intro k hk; have := hF3 k hk; simp at this; omega
  clear hF3 hF3'
  have hp2w := hr2.lt
  have hr23 : Rd w3 p2 F2 [128, 0] 0 := Rd.kept (((Kept.refl [] w2).alloc _).trans hk3 (by simp)) hr2 (by simp) (by simp)
  simp at hp3
  go_wp2_with fail
  refine (num_call _ _ _ _ _ hr23).mono ?_
  have e1 : rdNumE 0 [128, 0] = (4, 0, []) := by decide +kernel
  rw [e1]
  rintro _ w4 ⟨rfl, hr4, hk4⟩
  have hr34 : Rd w4 p3 F3 [128] 0 := Rd.kept hk4 hr3 (by simp; omega) (by intro k hk; have := HF3.out k hk; simp; omega)
  go_wp2_with fail
  refine (num_call _ _ _ _ _ hr34).mono ?_
  have e2 : rdNumE 0 [128] = (2, 0, []) := by decide +kernel
  rw [e2]
  rintro _ w5 ⟨rfl, hr5, hk5⟩
  have hr45 : Rd w5 p2 F2 [] 4 := Rd.kept hk5 hr4 (by simp; omega) (by intro k hk; have := HF2.out k hk; simp; omega)
  have hK5 : Kept [] w w5 := by
    have h1 : Kept [] w w3 := ((((hk1.alloc _).trans hk2 (by simp)).alloc _).trans hk3 (by simp))
    have h2 := hk1.size
    simp at hp2
    exact (h1.trans hk4 (by simp; omega)).trans hk5 (by simp; omega)
  clear hr2 hr3 hr23 hr34 hr4 e1 e2
  go_wp2_with fail
  refine (frame_call _ _ _ _ _ (Sl.nil _) (by intro x hx; simp at hx)).mono ?_
  rw [frame_none]
  rintro _ w6 ⟨a6, n6, c6, rfl, hM6⟩
  have hn6 : n6 = 12 := by have := hM6.1.1; rw [frame_none_len] at this; omega
  subst hn6
  have hc6 := hM6.1.2.1
  have hK6 := hM6.2.2
  have hc6' : (7 : Int) ≤ (c6 : Int) := by omega
  have hc6'' : (9 : Int) ≤ (c6 : Int) := by omega
  have hs6 : Sl w6 a6 12 c6 (frameOf []) := hM6.1
  have HS6 : Hid (Sl w6 a6 12 c6 (frameOf [])) := hs6
  clear hM6 hs6
  go_wp2_with fail
  refine (unframe_call _ _ _ _ _ (HS6.out.take (k := 7) (by omega)) (frame_none_oct.take _)).mono ?_
  rw [frame_none7]
  rintro _ w7 ⟨a7, n7, c7, rfl, hM7⟩
  have hK7 := hM7.2.2
  clear hM7
  go_wp2_with fail
  refine (unframe_call _ _ _ _ _ (Sl.kept hK7 (HS6.out.take (k := 9) (by omega)) (by simp)) (frame_none_oct.take _)).mono ?_
  rw [frame_none9]
  rintro _ w8 ⟨a8, n8, c8, rfl, hM8⟩
  have hK8 := hM8.2.2
  clear hM8
  have hK58 : Kept [] w5 w8 := (hK6.trans hK7 (by simp)).trans hK8 (by simp)
  have hr48 := Rd.kept hK58 hr45 (by simp) (by simp)
  have hr58 := Rd.kept hK58 hr5 (by simp) (by simp)
  go_wp2_with fail
  refine (fail_call _ _ _ _ _ hr48).mono ?_
  rintro _ _ ⟨rfl, rfl⟩
  go_wp2_with fail
  refine (fail_call _ _ _ _ _ hr58).mono ?_
  rintro _ _ ⟨rfl, rfl⟩
  go_wp2_with fail
  refine (crc_call _ _ _ _ _ (Sl.lit (l := [49, 50, 51, 52, 53, 54, 55, 56, 57]) rfl rfl (by decide)) (by intro x hx; simp at hx; omega)).mono ?_
  rw [crc_check]
  rintro _ _ ⟨rfl, rfl⟩
  go_wp2
  go_ret
  exact ⟨rfl, (((hK5.trans hK58 (by simp)).alloc _)).below (Nat.le_refl _) (by simp)⟩

end Go.Proofs.Ytfmklcnilmhnbaa
