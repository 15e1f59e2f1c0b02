/-
  made, isAlpha, sort.Search, place.
-/
import Derived.Test.YtddkaagdkmmknabEpMem
namespace Go.Proofs.Ytddkaagdkmmknab
open Go.RowKit

set_option maxHeartbeats 1000000 in
theorem made_call (B : Nat) (w : World) (p : Nat) (al : Int) (L : List Ep) (h : EpA B w p al L) (hn : L ≠ []) :
    Calls Try.prog 12 #[.pointer (some ⟨p, 0, none⟩)] w fun e w' => e = .returned (.bool true) ∧ w = w' := by
  obtain ⟨g, cap, h1, h2, h3, h4⟩ := h.open hn
  have c1 : w.cell? ⟨p, 1, none⟩ = some (.slice (some ⟨g, 0, none⟩) L.length cap) := cell_inC (k := 1) h1 rfl
  have hl : 0 < (L.length : Int) := by have := List.length_pos_iff.2 hn; omega
  clear h1 h2 h3 h4 h hn
  generalize L.length = n at *
  go_enter Try.func12, Try.ntmps12
  go_wp2
  go_ret
  simp
  omega

set_option maxHeartbeats 1000000 in
theorem isAlpha_call (w : World) (x : Int) : Calls Try.prog 11 #[.int .i64 x] w fun e w' => e = .returned (.bool (decide (1 ≤ x ∧ x ≤ 8))) ∧ w = w' := by
  by_cases h0 : 1 ≤ x
  · by_cases h1 : x ≤ 8
    · have hd : decide (1 ≤ x ∧ x ≤ 8) = true := by simp [h0, h1]
      rw [hd]; clear hd
      go_enter Try.func11, Try.ntmps11
      go_wp2
      go_ret
      simp
    · have hd : decide (1 ≤ x ∧ x ≤ 8) = false := by simp [h1]
      rw [hd]; clear hd
      go_enter Try.func11, Try.ntmps11
      go_wp2
      go_ret
      simp
  · have hd : decide (1 ≤ x ∧ x ≤ 8) = false := by simp [h0]
    rw [hd]; clear hd
    go_enter Try.func11, Try.ntmps11
    go_wp2
    go_ret
    simp

set_option maxHeartbeats 4000000 in
set_option maxRecDepth 100000 in
theorem place1_call (W : World) (be bs p g n cap : Nat) (f z : Int) (hb : W.cell? ⟨be, 0, none⟩ = some (.pointer (some ⟨p, 0, none⟩))) (hs : W.cell? ⟨bs, 0, none⟩ = some (.int .i64 z))
    (h1 : W.cell? ⟨p, 1, none⟩ = some (.slice (some ⟨g, 0, none⟩) n cap)) (i : Nat) (hi : i < n) (c0 : W.cell? ⟨g, i * 16, none⟩ = some (.int .i64 f)) :
    Calls Try.prog 21 #[.int .i64 (i : Int), .pointer (some ⟨be, 0, none⟩), .pointer (some ⟨bs, 0, none⟩)] W fun e W' => e = .returned (.bool (decide (z < f))) ∧ Kept [] W W' := by
  have hi' : (i : Int) < n := by omega
  go_enter Try.func21, Try.ntmps21
  go_wp2_with fail
  go_region
  all_goals go_wp2_with fail
  all_goals go_ret
  all_goals exact ⟨rfl, (Kept.refl _ _).drew⟩

def SeI (w : World) (n c : Nat) (iv jv : Value) (wr : World) : Prop := ∃ i j : Nat, iv = .int .i64 (i : Int) ∧ jv = .int .i64 (j : Int) ∧ i ≤ c ∧ c ≤ j ∧ j ≤ n ∧ Hid (Kept [] w wr)

set_option maxHeartbeats 4000000 in
set_option maxRecDepth 100000 in
theorem search_call (w : World) (n c be bs : Nat) (hn : n ≤ 1000000) (hcn : c ≤ n)
    (hf : ∀ i, i < n → ∀ W, Kept [] w W → Calls Try.prog 21 #[.int .i64 (i : Int), .pointer (some ⟨be, 0, none⟩), .pointer (some ⟨bs, 0, none⟩)] W fun e W' => e = .returned (.bool (decide (c ≤ i))) ∧ Kept [] W W') :
    Calls Try.prog 20 #[.int .i64 (n : Int), .func (.func 21) #[] #[.pointer (some ⟨be, 0, none⟩), .pointer (some ⟨bs, 0, none⟩)]] w fun e w' => e = .returned (.int .i64 (c : Int)) ∧ Kept [] w w' := by
  go_enter Try.func20, Try.ntmps20
  go_wp2_with fail
  go_loopw [5, 6] (fun iv jv wr => SeI w n c iv jv wr) (fun iv jv _ => (intOf jv).toNat - (intOf iv).toNat)
  case atStart => exact ⟨0, n, rfl, rfl, Nat.zero_le _, hcn, Nat.le_refl _, Kept.refl _ _⟩
  case round =>
    obtain ⟨i, j, rfl, rfl, hi, hj, hjn, HK⟩ := hrel
    by_cases hlt : i < j
    · have hlt' : (i : Int) < j := by omega
      obtain ⟨h, hh⟩ : ∃ h : Nat, ((i : Int) + j) / 2 = h := ⟨(i + j) / 2, by omega⟩
      have c1 := hf h (by omega) wr HK.out
      by_cases hc : c ≤ h
      · have hd : decide (c ≤ h) = true := by simpa using hc
        rw [hd] at c1
        clear hd
        go_wp2_with (go_at_call 21; refine c1.mono ?_; rintro _ w2 ⟨rfl, hK2⟩)
        go_roundw
        case rel => exact ⟨i, h, rfl, rfl, hi, hc, by omega, HK.out.trans hK2 (by simp)⟩
        case measure => simp [intOf]; omega
      · have hd : decide (c ≤ h) = false := by simpa using hc
        rw [hd] at c1
        clear hd
        go_wp2_with (go_at_call 21; refine c1.mono ?_; rintro _ w2 ⟨rfl, hK2⟩)
        go_roundw
        case rel => exact ⟨h + 1, j, by go_num, rfl, by omega, hj, hjn, HK.out.trans hK2 (by simp)⟩
        case measure => simp [intOf]; omega
    · have hlt' : ¬ (i : Int) < j := by omega
      obtain rfl : i = c := by omega
      go_wp2_with fail
      go_ret
      exact ⟨rfl, HK.out⟩

set_option maxHeartbeats 4000000 in
set_option maxRecDepth 100000 in
theorem place_call (B : Nat) (w : World) (p : Nat) (al : Int) (L : List Ep) (h : EpA B w p al L) (hn : L ≠ []) (hr : RiseL L) (hl : L.length ≤ 1000000) (z : Int) :
    Calls Try.prog 15 #[.pointer (some ⟨p, 0, none⟩), .int .i64 z] w fun e w' => e = .returned (.int .i64 (plc L z : Int)) ∧ Kept [] w w' := by
  obtain ⟨g, cap, h1, h2, h3, h4⟩ := h.open hn
  obtain ⟨W0, hW0⟩ : ∃ W0, W0 = (w.alloc (.cells #[.pointer (some ⟨p, 0, none⟩)] 24)).alloc (.cells #[.int .i64 z] 3) := ⟨_, rfl⟩
  have hK0 : Kept [] w W0 := by rw [hW0]; exact ((Kept.refl _ _).alloc _).alloc _
  have a1 : W0.cell? ⟨w.heap.size, 0, none⟩ = some (.pointer (some ⟨p, 0, none⟩)) := by rw [hW0]; exact cell_inC (k := 0) ((Below.heap_alloc _ _ _ (by simp)).trans (heap_alloc_new w _)) rfl
  have a2 : W0.cell? ⟨w.heap.size + 1, 0, none⟩ = some (.int .i64 z) := by
    rw [hW0]
    have := heap_alloc_new (w.alloc (.cells #[.pointer (some ⟨p, 0, none⟩)] 24)) (.cells #[.int .i64 z] 3)
    rw [World.size_alloc] at this
    exact cell_inC (k := 0) this rfl
  have a3 : W0.cell? ⟨p, 1, none⟩ = some (.slice (some ⟨g, 0, none⟩) L.length cap) := cell_inC (k := 1) (hK0.at h1 (by simp)) rfl
  have cS := search_call W0 L.length (cntL L z) w.heap.size (w.heap.size + 1) hl (cnt_le L z) (fun i hi W hk => by
    have := place1_call W w.heap.size (w.heap.size + 1) p g L.length cap L[i].f z (hk.cell a1 (by simp)) (hk.cell a2 (by simp)) (hk.cell a3 (by simp)) i hi (hk.cell (hK0.cell (spC_from (h4 i hi)) (by simp)) (by simp))
    rwa [show decide (z < L[i].f) = decide (cntL L z ≤ i) by
      rw [decide_eq_decide]
      have := cnt_iff hr z i hi
      omega] at this)
  have hcl := cnt_le L z
  have HP : Hid (plc L z = cntL L z - 1) := rfl
  have HK := hide hK0
  generalize plc L z = q at *
  generalize cntL L z = c at *
  clear h1 h2 h3 h4 h hn hr hK0
  generalize L.length = n at *
  go_enter Try.func15, Try.ntmps15
  go_upto_region 1 with fail
  rw [← hW0]
  clear hW0
  go_wp2_with (go_at_call 20; refine cS.mono ?_; clear cS; rintro _ w2 ⟨rfl, hK2⟩)
  go_ret
  have hp : q = c - 1 := HP.out
  refine ⟨?_, HK.out.trans hK2 (by simp)⟩
  simp
  omega

end Go.Proofs.Ytddkaagdkmmknab
