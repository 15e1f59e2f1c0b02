/-
  (*Epochs).At.
-/
import Derived.Test.YtddkaagdkmmknabEpPlace
import Derived.Test.YtddkaagdkmmknabEpTell
import Derived.Deep.RegionHeld3
namespace Go.Proofs.Ytddkaagdkmmknab
open Go.RowKit

set_option linter.unusedSimpArgs false in
set_option maxHeartbeats 4000000 in
set_option maxRecDepth 100000 in
theorem at_call (B : Nat) (w : World) (p : Nat) (al : Int) (L : List Ep) (h : EpA B w p al L) (hok : OkL L) (hl : L.length ≤ 1000000) (z : Int) :
    Calls Try.prog 9 #[.pointer (some ⟨p, 0, none⟩), .int .i64 z] w fun e w' => ∃ v, e = .returned v ∧ RowI w.heap.size w' v (atL L z) ∧ Kept [] w w' := by
  obtain ⟨g, cap, h1, h2, h3, h4⟩ := h.open hok.1
  have c1 : w.cell? ⟨p, 1, none⟩ = some (.slice (some ⟨g, 0, none⟩) L.length cap) := cell_inC (k := 1) h1 rfl
  have cM := made_call B w p al L h hok.1
  have cP := fun W (hk : Kept [] w W) => place_call B W p al L (h.kept hk) hok.1 hok.2.1 hl z
  have hq := plc_lt hok.1 z
  have HA : Hid (told (setB L[plc L z].m) = atL L z) := by
    show _ = _
    rw [told_may (hok.2.2 _ (List.getElem_mem hq)).1]
    unfold atL
    rw [List.getD_eq_getElem?_getD, List.getElem?_eq_getElem hq]
    rfl
  have hr := spC_set (h4 _ hq)
  have hq' : (plc L z : Int) < L.length := by omega
  generalize setB L[plc L z].m = M at *
  generalize plc L z = q at *
  unfold maxLen at h3
  clear h1 h4 h hok hl
  generalize L.length = n at *
  have HR2 : ∀ W, Kept [] w W → W.rangeAt g (q * 16 + 1) (setC M) := fun W hk j v hv => hk.cell (hr j v hv) (by simp)
  go_enter Try.func9, Try.ntmps9
  go_wp2_with (go_at_call 12; refine cM.mono ?_; clear cM; rintro _ _ ⟨rfl, rfl⟩)
  refine wp_region_held_drew (S := fun w' => w'.cell? ⟨p, 1, none⟩ = some (.slice (some ⟨g, 0, none⟩) n cap) ∧ w'.rangeAt g (q * 16 + 1) (setC M)) (by kernel_rfl) ⟨c1, hr⟩ (fun hHeld => ?_)
  refine wpAnyH_take (i := 0) (v := ?_) rfl (by kernel_rfl) (by kernel_rfl) (by kernel_rfl) (fun _ _ _ h => h) (Or.inl ⟨by rfl, ?_⟩) hHeld ?_
  rotate_left
  · intro w9 hSw; (try dsimp only at hSw); go_simp; (try with_reducible rfl)
  try simp only [List.getElem_toArray, List.getElem_cons_succ, List.getElem_cons_zero, Act.put, List.setIfInBounds_toArray, List.set_cons_zero, List.set_cons_succ]
  refine wpAnyH_take (i := 1) (v := ?_) rfl (by kernel_rfl) (by kernel_rfl) (by kernel_rfl) (fun _ _ _ h => h) (Or.inl ⟨by rfl, ?_⟩) hHeld ?_
  rotate_left
  · intro w9 hSw; (try dsimp only at hSw); go_simp; (try with_reducible rfl)
  try simp only [List.getElem_toArray, List.getElem_cons_succ, List.getElem_cons_zero, Act.put, List.setIfInBounds_toArray, List.set_cons_zero, List.set_cons_succ]
  refine wpAnyH_take (i := 2) (v := ?_) rfl (by kernel_rfl) (by kernel_rfl) (by kernel_rfl) (fun _ _ _ h => h) (Or.inl ⟨by rfl, ?_⟩) hHeld ?_
  rotate_left
  · intro w9 hSw; (try dsimp only at hSw); go_simp; (try with_reducible rfl)
  try simp only [List.getElem_toArray, List.getElem_cons_succ, List.getElem_cons_zero, Act.put, List.setIfInBounds_toArray, List.set_cons_zero, List.set_cons_succ]
  refine wpAnyH_take (i := 3) (v := ?_) rfl (by kernel_rfl) (by kernel_rfl) (by kernel_rfl) (fun _ _ _ h => h) (Or.inl ⟨by rfl, ?_⟩) hHeld ?_
  rotate_left
  · intro w9 hSw; (try dsimp only at hSw); go_simp; (try with_reducible rfl)
  try simp only [List.getElem_toArray, List.getElem_cons_succ, List.getElem_cons_zero, Act.put, List.setIfInBounds_toArray, List.set_cons_zero, List.set_cons_succ]
  refine wpAnyH_take (i := 4) (v := ?_) rfl (by kernel_rfl) (by kernel_rfl) (by kernel_rfl) (fun _ _ _ h => h) (Or.inl ⟨by rfl, ?_⟩) hHeld ?_
  rotate_left
  · intro w9 hSw; (try dsimp only at hSw); go_simp; (try with_reducible rfl)
  try simp only [List.getElem_toArray, List.getElem_cons_succ, List.getElem_cons_zero, Act.put, List.setIfInBounds_toArray, List.set_cons_zero, List.set_cons_succ]
  refine wpAnyH_take (i := 5) (v := ?_) rfl (by kernel_rfl) (by kernel_rfl) (by kernel_rfl) (fun _ _ _ h => h) (Or.inl ⟨by rfl, ?_⟩) hHeld ?_
  rotate_left
  · intro w9 hSw; (try dsimp only at hSw); go_simp; (try with_reducible rfl)
  try simp only [List.getElem_toArray, List.getElem_cons_succ, List.getElem_cons_zero, Act.put, List.setIfInBounds_toArray, List.set_cons_zero, List.set_cons_succ]
  refine wpAnyH_ready (rs := [6]) (by kernel_rfl) (by simp) (AllReadyH.cons rfl (fun K0 hK0 => ?_) AllReadyH.nil)
  go_simp
  refine (cP _ ((Kept.refl [] w).drew)).mono ?_
  rintro _ w2 ⟨rfl, hK2⟩
  have HK2 : Hid (Kept [] w w2) := (Kept.refl [] w).drew.trans hK2 (by simp)
  clear hK2 cP
  go_wp2_with fail
  refine hK0.out _ _ ⟨HK2.out.cell c1 (by simp), HR2 _ HK2.out⟩ (fun hHeld => ?_)
  clear hK0 K0
  try simp only [List.getElem_toArray, List.getElem_cons_succ, List.getElem_cons_zero, Act.put, List.setIfInBounds_toArray, List.set_cons_zero, List.set_cons_succ]
  refine wpAnyH_take (i := 7) (v := ?_) rfl (by kernel_rfl) (by kernel_rfl) (by kernel_rfl) (fun _ _ _ h => h) (Or.inl ⟨by rfl, ?_⟩) hHeld ?_
  rotate_left
  · intro w9 hSw; (try dsimp only at hSw); go_simp; (try with_reducible rfl)
  try simp only [List.getElem_toArray, List.getElem_cons_succ, List.getElem_cons_zero, Act.put, List.setIfInBounds_toArray, List.set_cons_zero, List.set_cons_succ]
  refine wpAnyH_take (i := 8) (v := ?_) rfl (by kernel_rfl) (by kernel_rfl) (by kernel_rfl) (fun _ _ _ h => h) (Or.inl ⟨by rfl, ?_⟩) hHeld ?_
  rotate_left
  · intro w9 hSw; (try dsimp only at hSw); go_simp; (try with_reducible rfl)
  try simp only [List.getElem_toArray, List.getElem_cons_succ, List.getElem_cons_zero, Act.put, List.setIfInBounds_toArray, List.set_cons_zero, List.set_cons_succ]
  refine wpAnyH_take (i := 9) (v := .agg (setC M).toArray) rfl (by kernel_rfl) (by kernel_rfl) (by kernel_rfl) (fun _ _ _ h => h) (yieldsIf_load_mid (by rfl) _ _ rfl g (q * 16 + 1) rfl (setC M) _ (fun w9 hSw => hSw.2) Try.underlying38 rfl size_set) hHeld ?_
  try simp only [List.getElem_toArray, List.getElem_cons_succ, List.getElem_cons_zero, Act.put, List.setIfInBounds_toArray, List.set_cons_zero, List.set_cons_succ]
  refine wpAnyH_ready (rs := [10]) (by kernel_rfl) (by simp) (AllReadyH.cons rfl (fun K0 hK0 => ?_) AllReadyH.nil)
  go_simp
  refine (tell_call _ M).mono ?_
  rintro _ w3 ⟨v, rfl, hR3, hK3⟩
  have HK3 := hide hK3
  have HR3 := hide hR3
  clear hK3 hR3
  go_wp2_with fail
  have HK4 : Hid (Kept [] w w3) := HK2.out.trans HK3.out (by simp)
  refine hK0.out _ _ ⟨HK4.out.cell c1 (by simp), HR2 _ HK4.out⟩ (fun hHeld => ?_)
  clear hK0 K0
  try simp only [List.getElem_toArray, List.getElem_cons_succ, List.getElem_cons_zero, Act.put, List.setIfInBounds_toArray, List.set_cons_zero, List.set_cons_succ]
  refine wpAnyH_take (i := 11) (v := ?_) rfl (by kernel_rfl) (by kernel_rfl) (by kernel_rfl) (fun _ _ _ h => h) (Or.inl ⟨by rfl, ?_⟩) hHeld ?_
  rotate_left
  · intro w9 hSw; (try dsimp only at hSw); go_simp; (try with_reducible rfl)
  try simp only [List.getElem_toArray, List.getElem_cons_succ, List.getElem_cons_zero, Act.put, List.setIfInBounds_toArray, List.set_cons_zero, List.set_cons_succ]
  try simp only [List.getElem_toArray, List.getElem_cons_succ, List.getElem_cons_zero, Act.put, List.setIfInBounds_toArray, List.set_cons_zero, List.set_cons_succ]
  refine wpAnyH_done (by kernel_rfl) ?_ _
  clear hHeld

  go_wp2_with fail
  go_ret
  exact ⟨v, rfl, by rw [← HA.out]; exact row_mono HR3.out HK2.out.size, HK4.out⟩

end Go.Proofs.Ytddkaagdkmmknab
