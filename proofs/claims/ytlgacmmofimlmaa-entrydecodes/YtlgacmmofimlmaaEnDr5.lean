/-
  The document's Heard. (Written by mk/mkdtake.py.)
-/
import Derived.Test.YtlgacmmofimlmaaEnDr4
import Derived.Test.YtlgacmmofimlmaaF8
import Derived.Test.YtlgacmmofimlmaaF12
namespace Go.Proofs.Ytlgacmmofimlmaa
open Go.RowKit

/-- What is answered, and left. -/
def dheardP (B p : Nat) (w : World) (q : Vt) (st : St) (r : Ending) (w' : World) : Prop := ∃ v, r = .returned (.agg (vtL (if st.2 = 0 then q else vt0) v).toArray) ∧ KoO w.heap.size w' v (if st.2 = 0 then q else vt0).k ∧ AtR B p w' st ∧ Kept [p] w w'

set_option maxHeartbeats 8000000 in
set_option maxRecDepth 100000 in
theorem dheard_1 (B p : Nat) (w : World) (s s1 sF : St) (xs : Int) (e1 : eyeP.num s 0 = (1, s1)) (e_s : eyeP.num s1 0 = (xs, sF)) (hA : AtR B p w s) : Calls Try.prog 40 #[.pointer (some ⟨p, 0, none⟩)] w (dheardP B p w ⟨1, xs, 0, [], 0, [], 0⟩ sF) := by
  have hlt := hA.lt
  obtain ⟨W, hW⟩ : ∃ W, W = w.alloc (.cells #[.int .i64 0, .int .i64 0, .int .i64 0, .string ⟨#[]⟩, .int .u64 0, .slice none 0 0, .int .i64 0] 43) := ⟨_, rfl⟩
  have HW := hide hW
  have k0 : Kept [] w W := by rw [hW]; exact (Kept.refl _ _).alloc _
  have HR : Hid (Bx W w.heap.size 43 zvt) := by rw [hW]; exact Bx.new w _ zvt
  have hsz : w.heap.size < W.heap.size := HR.out.lt
  have cN := dr_num B p W s (hA.kept k0 (by simp) (by simp))
  rw [e1] at cN
  have CN := hide cN
  have HK0 := hide k0
  have HLc : Hid (([.int .i64 1, .int .i64 0, .int .i64 0, .string ⟨#[]⟩, .int .u64 0, .slice none 0 0, .int .i64 0] : List Value).length = zvt.length) := rfl
  have HOc : Hid (∀ z ∈ ([.int .i64 1, .int .i64 0, .int .i64 0, .string ⟨#[]⟩, .int .u64 0, .slice none 0 0, .int .i64 0] : List Value), z.oneCell' = true) := by intro z hv; simp at hv; rcases hv with rfl | rfl | rfl | rfl | rfl | rfl | rfl <;> rfl
  have HTc : Hid (RowT Try.prog 43 ([.int .i64 1, .int .i64 0, .int .i64 0, .string ⟨#[]⟩, .int .u64 0, .slice none 0 0, .int .i64 0] : List Value).length) := rowT_ver
  clear hW k0 cN hA e1
  go_enter Try.func40, Try.ntmps40
  go_upto_region 1 with fail
  rw [← HW.out]
  go_upto_region 2 with (first | (go_at_call 63; refine CN.out.mono ?_; clear CN; rintro _ wa ⟨rfl, hA1, hk1⟩; have HAa := hide hA1; have HKa := hide hk1; have HZ : Hid (Bx (wa.alloc (.cells #[.int .i64 0, .int .i64 0, .int .i64 0, .string ⟨#[]⟩, .int .u64 0, .slice none 0 0, .int .i64 0] 43)) wa.heap.size 43 zvt) := (Bx.new wa _ zvt); clear hA1 hk1) | ((with_reducible refine wl_store_bx HZ.out HLc.out HOc.out HTc.out ?_ ?_ ?_); rfl; rfl; intro w1 HB1 HKx))
  have hza := HKa.out.size
  have k1 : Kept [] wa w1 := (Kept.refl [] wa).trans (((Kept.refl [wa.heap.size] wa).alloc _).trans HKx.out (by simp)) (by intro i hi; simp at hi; right; omega)
  obtain ⟨bx, hbx⟩ : ∃ bx, bx = wa.heap.size := ⟨_, rfl⟩
  rw [← hbx] at HB1 ⊢
  have hb1 : w.heap.size < bx := by omega
  have HA1 := hide (HAa.out.kept k1 (by simp) (by simp))
  have HR1 := hide ((HR.out.kept HKa.out (by simp; omega)).kept k1 (by simp))
  have HK1 : Hid (Kept [p] w w1) := ((HK0.out.mono (by simp)).trans HKa.out (by simp)).trans k1 (by simp)
  clear k1 HKx HZ hbx HAa HKa HLc HOc
  have hc0 : w1.cell? ⟨bx, 0, none⟩ = some (.int .i64 1) := HB1.out.cell 0 rfl
  go_upto_region 6 with fail
  clear hc0
  have fj : Hid (∀ W2, Kept [p] w1 W2 → W2.cell? ⟨bx, 1, none⟩ = some (.int .i64 0) ∧ W2.frozen? ⟨bx, 1, none⟩ = false) := fun W2 k => by
    have h := HB1.out.kept k (by simp; omega)
    exact ⟨h.cell 1 rfl, h.froz 1⟩
  have cj := dr_num B p w1 s1 HA1.out
  rw [e_s] at cj
  have CJ := hide cj
  clear cj
  go_upto_region 26 with (go_at_call 63; refine CJ.out.mono ?_; clear CJ; rintro _ wm2 ⟨rfl, hA, hk⟩; have HAm := hide hA; have HKm := hide hk; obtain ⟨sc, sf⟩ := fj.out _ hk; clear hA hk fj)
  obtain ⟨w2, hw⟩ : ∃ w2, w2 = wm2.setCell ⟨bx, 1, none⟩ (.int .i64 xs) := ⟨_, rfl⟩
  rw [← hw]
  have HB2 : Hid (Bx w2 bx 43 [.int .i64 1, .int .i64 xs, .int .i64 0, .string ⟨#[]⟩, .int .u64 0, .slice none 0 0, .int .i64 0]) := by rw [hw]; exact (HB1.out.kept HKm.out (by simp; omega)).set 1 _
  have kc : Kept [bx] wm2 w2 := by rw [hw]; exact kept_set wm2 bx 1 _
  have HA2 := hide (HAm.out.kept kc (by simp; omega) (by simp; omega))
  have HR2 := hide ((HR1.out.kept HKm.out (by simp; omega)).kept kc (by simp; omega))
  have HK2 : Hid (Kept [p] w w2) := (HK1.out.trans HKm.out (by simp)).trans kc (by simp; omega)
  clear hw kc sc sf HKm HAm
  have hfe := HA2.out.fail
  have HTe : Hid (RowT Try.prog 43 ([.int .i64 1, .int .i64 xs, .int .i64 0, .string ⟨#[]⟩, .int .u64 0, .slice none 0 0, .int .i64 0] : List Value).length) := rowT_ver
  have HLe : Hid (([.int .i64 1, .int .i64 xs, .int .i64 0, .string ⟨#[]⟩, .int .u64 0, .slice none 0 0, .int .i64 0] : List Value).length = zvt.length) := rfl
  have HOe : Hid (∀ z ∈ ([.int .i64 1, .int .i64 xs, .int .i64 0, .string ⟨#[]⟩, .int .u64 0, .slice none 0 0, .int .i64 0] : List Value), z.oneCell' = true) := by intro z hv; simp at hv; rcases hv with rfl | rfl | rfl | rfl | rfl | rfl | rfl <;> rfl
  have HLz : Hid ((zvt : List Value).length = zvt.length) := rfl
  have HOz : Hid (∀ z ∈ (zvt : List Value), z.oneCell' = true) := by intro z hv; simp [zvt] at hv; rcases hv with rfl | rfl | rfl | rfl | rfl | rfl | rfl <;> rfl
  have HTz : Hid (RowT Try.prog 43 (zvt : List Value).length) := rowT_ver
  by_cases hF : sF.2 = 0
  · have HPQ : Hid (dheardP B p w ⟨1, xs, 0, [], 0, [], 0⟩ sF = fun r w' => ∃ v, r = .returned (.agg (vtL ⟨1, xs, 0, [], 0, [], 0⟩ v).toArray) ∧ KoO w.heap.size w' v (⟨1, xs, 0, [], 0, [], 0⟩ : Vt).k ∧ AtR B p w' sF ∧ Kept [p] w w') := by show _ = _; unfold dheardP; simp only [if_pos hF]
    rw [hF] at hfe
    clear hF
    go_wp2_with (first | ((with_reducible refine wl_load_bx HB2.out HTe.out ?_ ?_); rfl) | ((with_reducible refine wl_store_bx HR2.out HLe.out HOe.out HTe.out ?_ ?_ ?_); rfl; rfl; intro wz HBz HKz))
    refine bodyPost_ret (bx_result (by rfl) _ (by rfl) HBz.out HTe.out) rfl ?_
    rw [HPQ.out]
    exact ⟨.slice none 0 0, rfl, KoO.nil _ _, HA2.out.kept HKz.out (by simp; omega) (by simp; omega), HK2.out.trans HKz.out (by simp)⟩
  · have HPQ : Hid (dheardP B p w ⟨1, xs, 0, [], 0, [], 0⟩ sF = fun r w' => ∃ v, r = .returned (.agg (vtL vt0 v).toArray) ∧ KoO w.heap.size w' v vt0.k ∧ AtR B p w' sF ∧ Kept [p] w w') := by show _ = _; unfold dheardP; simp only [if_neg hF]
    have hfb : (sF.2 != 0) = true := by simpa using hF
    have hfc : (sF.2 == 0) = false := by simpa using hF
    clear hF
    go_wp2_with ((with_reducible refine wl_store_bx HR2.out HLz.out HOz.out HTz.out ?_ ?_ ?_); rfl; rfl; intro wz HBz HKz)
    refine bodyPost_ret (bx_result (by rfl) _ (by rfl) HBz.out HTz.out) rfl ?_
    rw [HPQ.out]
    exact ⟨.slice none 0 0, rfl, KoO.nil _ _, HA2.out.kept HKz.out (by simp; omega) (by simp; omega), HK2.out.trans HKz.out (by simp)⟩

set_option maxHeartbeats 8000000 in
set_option maxRecDepth 100000 in
theorem dheard_2 (B p : Nat) (w : World) (s s1 sF : St) (xr : Int) (e1 : eyeP.num s 0 = (2, s1)) (e_r : eyeP.num s1 0 = (xr, sF)) (hA : AtR B p w s) : Calls Try.prog 40 #[.pointer (some ⟨p, 0, none⟩)] w (dheardP B p w ⟨2, 0, xr, [], 0, [], 0⟩ sF) := by
  have hlt := hA.lt
  obtain ⟨W, hW⟩ : ∃ W, W = w.alloc (.cells #[.int .i64 0, .int .i64 0, .int .i64 0, .string ⟨#[]⟩, .int .u64 0, .slice none 0 0, .int .i64 0] 43) := ⟨_, rfl⟩
  have HW := hide hW
  have k0 : Kept [] w W := by rw [hW]; exact (Kept.refl _ _).alloc _
  have HR : Hid (Bx W w.heap.size 43 zvt) := by rw [hW]; exact Bx.new w _ zvt
  have hsz : w.heap.size < W.heap.size := HR.out.lt
  have cN := dr_num B p W s (hA.kept k0 (by simp) (by simp))
  rw [e1] at cN
  have CN := hide cN
  have HK0 := hide k0
  have HLc : Hid (([.int .i64 2, .int .i64 0, .int .i64 0, .string ⟨#[]⟩, .int .u64 0, .slice none 0 0, .int .i64 0] : List Value).length = zvt.length) := rfl
  have HOc : Hid (∀ z ∈ ([.int .i64 2, .int .i64 0, .int .i64 0, .string ⟨#[]⟩, .int .u64 0, .slice none 0 0, .int .i64 0] : List Value), z.oneCell' = true) := by intro z hv; simp at hv; rcases hv with rfl | rfl | rfl | rfl | rfl | rfl | rfl <;> rfl
  have HTc : Hid (RowT Try.prog 43 ([.int .i64 2, .int .i64 0, .int .i64 0, .string ⟨#[]⟩, .int .u64 0, .slice none 0 0, .int .i64 0] : List Value).length) := rowT_ver
  clear hW k0 cN hA e1
  go_enter Try.func40, Try.ntmps40
  go_upto_region 1 with fail
  rw [← HW.out]
  go_upto_region 2 with (first | (go_at_call 63; refine CN.out.mono ?_; clear CN; rintro _ wa ⟨rfl, hA1, hk1⟩; have HAa := hide hA1; have HKa := hide hk1; have HZ : Hid (Bx (wa.alloc (.cells #[.int .i64 0, .int .i64 0, .int .i64 0, .string ⟨#[]⟩, .int .u64 0, .slice none 0 0, .int .i64 0] 43)) wa.heap.size 43 zvt) := (Bx.new wa _ zvt); clear hA1 hk1) | ((with_reducible refine wl_store_bx HZ.out HLc.out HOc.out HTc.out ?_ ?_ ?_); rfl; rfl; intro w1 HB1 HKx))
  have hza := HKa.out.size
  have k1 : Kept [] wa w1 := (Kept.refl [] wa).trans (((Kept.refl [wa.heap.size] wa).alloc _).trans HKx.out (by simp)) (by intro i hi; simp at hi; right; omega)
  obtain ⟨bx, hbx⟩ : ∃ bx, bx = wa.heap.size := ⟨_, rfl⟩
  rw [← hbx] at HB1 ⊢
  have hb1 : w.heap.size < bx := by omega
  have HA1 := hide (HAa.out.kept k1 (by simp) (by simp))
  have HR1 := hide ((HR.out.kept HKa.out (by simp; omega)).kept k1 (by simp))
  have HK1 : Hid (Kept [p] w w1) := ((HK0.out.mono (by simp)).trans HKa.out (by simp)).trans k1 (by simp)
  clear k1 HKx HZ hbx HAa HKa HLc HOc
  have hc0 : w1.cell? ⟨bx, 0, none⟩ = some (.int .i64 2) := HB1.out.cell 0 rfl
  go_upto_region 10 with fail
  clear hc0
  have fj : Hid (∀ W2, Kept [p] w1 W2 → W2.cell? ⟨bx, 2, none⟩ = some (.int .i64 0) ∧ W2.frozen? ⟨bx, 2, none⟩ = false) := fun W2 k => by
    have h := HB1.out.kept k (by simp; omega)
    exact ⟨h.cell 2 rfl, h.froz 2⟩
  have cj := dr_num B p w1 s1 HA1.out
  rw [e_r] at cj
  have CJ := hide cj
  clear cj
  go_upto_region 26 with (go_at_call 63; refine CJ.out.mono ?_; clear CJ; rintro _ wm2 ⟨rfl, hA, hk⟩; have HAm := hide hA; have HKm := hide hk; obtain ⟨sc, sf⟩ := fj.out _ hk; clear hA hk fj)
  obtain ⟨w2, hw⟩ : ∃ w2, w2 = wm2.setCell ⟨bx, 2, none⟩ (.int .i64 xr) := ⟨_, rfl⟩
  rw [← hw]
  have HB2 : Hid (Bx w2 bx 43 [.int .i64 2, .int .i64 0, .int .i64 xr, .string ⟨#[]⟩, .int .u64 0, .slice none 0 0, .int .i64 0]) := by rw [hw]; exact (HB1.out.kept HKm.out (by simp; omega)).set 2 _
  have kc : Kept [bx] wm2 w2 := by rw [hw]; exact kept_set wm2 bx 2 _
  have HA2 := hide (HAm.out.kept kc (by simp; omega) (by simp; omega))
  have HR2 := hide ((HR1.out.kept HKm.out (by simp; omega)).kept kc (by simp; omega))
  have HK2 : Hid (Kept [p] w w2) := (HK1.out.trans HKm.out (by simp)).trans kc (by simp; omega)
  clear hw kc sc sf HKm HAm
  have hfe := HA2.out.fail
  have HTe : Hid (RowT Try.prog 43 ([.int .i64 2, .int .i64 0, .int .i64 xr, .string ⟨#[]⟩, .int .u64 0, .slice none 0 0, .int .i64 0] : List Value).length) := rowT_ver
  have HLe : Hid (([.int .i64 2, .int .i64 0, .int .i64 xr, .string ⟨#[]⟩, .int .u64 0, .slice none 0 0, .int .i64 0] : List Value).length = zvt.length) := rfl
  have HOe : Hid (∀ z ∈ ([.int .i64 2, .int .i64 0, .int .i64 xr, .string ⟨#[]⟩, .int .u64 0, .slice none 0 0, .int .i64 0] : List Value), z.oneCell' = true) := by intro z hv; simp at hv; rcases hv with rfl | rfl | rfl | rfl | rfl | rfl | rfl <;> rfl
  have HLz : Hid ((zvt : List Value).length = zvt.length) := rfl
  have HOz : Hid (∀ z ∈ (zvt : List Value), z.oneCell' = true) := by intro z hv; simp [zvt] at hv; rcases hv with rfl | rfl | rfl | rfl | rfl | rfl | rfl <;> rfl
  have HTz : Hid (RowT Try.prog 43 (zvt : List Value).length) := rowT_ver
  by_cases hF : sF.2 = 0
  · have HPQ : Hid (dheardP B p w ⟨2, 0, xr, [], 0, [], 0⟩ sF = fun r w' => ∃ v, r = .returned (.agg (vtL ⟨2, 0, xr, [], 0, [], 0⟩ v).toArray) ∧ KoO w.heap.size w' v (⟨2, 0, xr, [], 0, [], 0⟩ : Vt).k ∧ AtR B p w' sF ∧ Kept [p] w w') := by show _ = _; unfold dheardP; simp only [if_pos hF]
    rw [hF] at hfe
    clear hF
    go_wp2_with (first | ((with_reducible refine wl_load_bx HB2.out HTe.out ?_ ?_); rfl) | ((with_reducible refine wl_store_bx HR2.out HLe.out HOe.out HTe.out ?_ ?_ ?_); rfl; rfl; intro wz HBz HKz))
    refine bodyPost_ret (bx_result (by rfl) _ (by rfl) HBz.out HTe.out) rfl ?_
    rw [HPQ.out]
    exact ⟨.slice none 0 0, rfl, KoO.nil _ _, HA2.out.kept HKz.out (by simp; omega) (by simp; omega), HK2.out.trans HKz.out (by simp)⟩
  · have HPQ : Hid (dheardP B p w ⟨2, 0, xr, [], 0, [], 0⟩ sF = fun r w' => ∃ v, r = .returned (.agg (vtL vt0 v).toArray) ∧ KoO w.heap.size w' v vt0.k ∧ AtR B p w' sF ∧ Kept [p] w w') := by show _ = _; unfold dheardP; simp only [if_neg hF]
    have hfb : (sF.2 != 0) = true := by simpa using hF
    have hfc : (sF.2 == 0) = false := by simpa using hF
    clear hF
    go_wp2_with ((with_reducible refine wl_store_bx HR2.out HLz.out HOz.out HTz.out ?_ ?_ ?_); rfl; rfl; intro wz HBz HKz)
    refine bodyPost_ret (bx_result (by rfl) _ (by rfl) HBz.out HTz.out) rfl ?_
    rw [HPQ.out]
    exact ⟨.slice none 0 0, rfl, KoO.nil _ _, HA2.out.kept HKz.out (by simp; omega) (by simp; omega), HK2.out.trans HKz.out (by simp)⟩

set_option maxHeartbeats 8000000 in
set_option maxRecDepth 100000 in
theorem dheard_4 (B p : Nat) (w : World) (s s1 sF : St) (xr : Int) (e1 : eyeP.num s 0 = (4, s1)) (e_r : eyeP.num s1 0 = (xr, sF)) (hA : AtR B p w s) : Calls Try.prog 40 #[.pointer (some ⟨p, 0, none⟩)] w (dheardP B p w ⟨4, 0, xr, [], 0, [], 0⟩ sF) := by
  have hlt := hA.lt
  obtain ⟨W, hW⟩ : ∃ W, W = w.alloc (.cells #[.int .i64 0, .int .i64 0, .int .i64 0, .string ⟨#[]⟩, .int .u64 0, .slice none 0 0, .int .i64 0] 43) := ⟨_, rfl⟩
  have HW := hide hW
  have k0 : Kept [] w W := by rw [hW]; exact (Kept.refl _ _).alloc _
  have HR : Hid (Bx W w.heap.size 43 zvt) := by rw [hW]; exact Bx.new w _ zvt
  have hsz : w.heap.size < W.heap.size := HR.out.lt
  have cN := dr_num B p W s (hA.kept k0 (by simp) (by simp))
  rw [e1] at cN
  have CN := hide cN
  have HK0 := hide k0
  have HLc : Hid (([.int .i64 4, .int .i64 0, .int .i64 0, .string ⟨#[]⟩, .int .u64 0, .slice none 0 0, .int .i64 0] : List Value).length = zvt.length) := rfl
  have HOc : Hid (∀ z ∈ ([.int .i64 4, .int .i64 0, .int .i64 0, .string ⟨#[]⟩, .int .u64 0, .slice none 0 0, .int .i64 0] : List Value), z.oneCell' = true) := by intro z hv; simp at hv; rcases hv with rfl | rfl | rfl | rfl | rfl | rfl | rfl <;> rfl
  have HTc : Hid (RowT Try.prog 43 ([.int .i64 4, .int .i64 0, .int .i64 0, .string ⟨#[]⟩, .int .u64 0, .slice none 0 0, .int .i64 0] : List Value).length) := rowT_ver
  clear hW k0 cN hA e1
  go_enter Try.func40, Try.ntmps40
  go_upto_region 1 with fail
  rw [← HW.out]
  go_upto_region 2 with (first | (go_at_call 63; refine CN.out.mono ?_; clear CN; rintro _ wa ⟨rfl, hA1, hk1⟩; have HAa := hide hA1; have HKa := hide hk1; have HZ : Hid (Bx (wa.alloc (.cells #[.int .i64 0, .int .i64 0, .int .i64 0, .string ⟨#[]⟩, .int .u64 0, .slice none 0 0, .int .i64 0] 43)) wa.heap.size 43 zvt) := (Bx.new wa _ zvt); clear hA1 hk1) | ((with_reducible refine wl_store_bx HZ.out HLc.out HOc.out HTc.out ?_ ?_ ?_); rfl; rfl; intro w1 HB1 HKx))
  have hza := HKa.out.size
  have k1 : Kept [] wa w1 := (Kept.refl [] wa).trans (((Kept.refl [wa.heap.size] wa).alloc _).trans HKx.out (by simp)) (by intro i hi; simp at hi; right; omega)
  obtain ⟨bx, hbx⟩ : ∃ bx, bx = wa.heap.size := ⟨_, rfl⟩
  rw [← hbx] at HB1 ⊢
  have hb1 : w.heap.size < bx := by omega
  have HA1 := hide (HAa.out.kept k1 (by simp) (by simp))
  have HR1 := hide ((HR.out.kept HKa.out (by simp; omega)).kept k1 (by simp))
  have HK1 : Hid (Kept [p] w w1) := ((HK0.out.mono (by simp)).trans HKa.out (by simp)).trans k1 (by simp)
  clear k1 HKx HZ hbx HAa HKa HLc HOc
  have hc0 : w1.cell? ⟨bx, 0, none⟩ = some (.int .i64 4) := HB1.out.cell 0 rfl
  go_upto_region 10 with fail
  clear hc0
  have fj : Hid (∀ W2, Kept [p] w1 W2 → W2.cell? ⟨bx, 2, none⟩ = some (.int .i64 0) ∧ W2.frozen? ⟨bx, 2, none⟩ = false) := fun W2 k => by
    have h := HB1.out.kept k (by simp; omega)
    exact ⟨h.cell 2 rfl, h.froz 2⟩
  have cj := dr_num B p w1 s1 HA1.out
  rw [e_r] at cj
  have CJ := hide cj
  clear cj
  go_upto_region 26 with (go_at_call 63; refine CJ.out.mono ?_; clear CJ; rintro _ wm2 ⟨rfl, hA, hk⟩; have HAm := hide hA; have HKm := hide hk; obtain ⟨sc, sf⟩ := fj.out _ hk; clear hA hk fj)
  obtain ⟨w2, hw⟩ : ∃ w2, w2 = wm2.setCell ⟨bx, 2, none⟩ (.int .i64 xr) := ⟨_, rfl⟩
  rw [← hw]
  have HB2 : Hid (Bx w2 bx 43 [.int .i64 4, .int .i64 0, .int .i64 xr, .string ⟨#[]⟩, .int .u64 0, .slice none 0 0, .int .i64 0]) := by rw [hw]; exact (HB1.out.kept HKm.out (by simp; omega)).set 2 _
  have kc : Kept [bx] wm2 w2 := by rw [hw]; exact kept_set wm2 bx 2 _
  have HA2 := hide (HAm.out.kept kc (by simp; omega) (by simp; omega))
  have HR2 := hide ((HR1.out.kept HKm.out (by simp; omega)).kept kc (by simp; omega))
  have HK2 : Hid (Kept [p] w w2) := (HK1.out.trans HKm.out (by simp)).trans kc (by simp; omega)
  clear hw kc sc sf HKm HAm
  have hfe := HA2.out.fail
  have HTe : Hid (RowT Try.prog 43 ([.int .i64 4, .int .i64 0, .int .i64 xr, .string ⟨#[]⟩, .int .u64 0, .slice none 0 0, .int .i64 0] : List Value).length) := rowT_ver
  have HLe : Hid (([.int .i64 4, .int .i64 0, .int .i64 xr, .string ⟨#[]⟩, .int .u64 0, .slice none 0 0, .int .i64 0] : List Value).length = zvt.length) := rfl
  have HOe : Hid (∀ z ∈ ([.int .i64 4, .int .i64 0, .int .i64 xr, .string ⟨#[]⟩, .int .u64 0, .slice none 0 0, .int .i64 0] : List Value), z.oneCell' = true) := by intro z hv; simp at hv; rcases hv with rfl | rfl | rfl | rfl | rfl | rfl | rfl <;> rfl
  have HLz : Hid ((zvt : List Value).length = zvt.length) := rfl
  have HOz : Hid (∀ z ∈ (zvt : List Value), z.oneCell' = true) := by intro z hv; simp [zvt] at hv; rcases hv with rfl | rfl | rfl | rfl | rfl | rfl | rfl <;> rfl
  have HTz : Hid (RowT Try.prog 43 (zvt : List Value).length) := rowT_ver
  by_cases hF : sF.2 = 0
  · have HPQ : Hid (dheardP B p w ⟨4, 0, xr, [], 0, [], 0⟩ sF = fun r w' => ∃ v, r = .returned (.agg (vtL ⟨4, 0, xr, [], 0, [], 0⟩ v).toArray) ∧ KoO w.heap.size w' v (⟨4, 0, xr, [], 0, [], 0⟩ : Vt).k ∧ AtR B p w' sF ∧ Kept [p] w w') := by show _ = _; unfold dheardP; simp only [if_pos hF]
    rw [hF] at hfe
    clear hF
    go_wp2_with (first | ((with_reducible refine wl_load_bx HB2.out HTe.out ?_ ?_); rfl) | ((with_reducible refine wl_store_bx HR2.out HLe.out HOe.out HTe.out ?_ ?_ ?_); rfl; rfl; intro wz HBz HKz))
    refine bodyPost_ret (bx_result (by rfl) _ (by rfl) HBz.out HTe.out) rfl ?_
    rw [HPQ.out]
    exact ⟨.slice none 0 0, rfl, KoO.nil _ _, HA2.out.kept HKz.out (by simp; omega) (by simp; omega), HK2.out.trans HKz.out (by simp)⟩
  · have HPQ : Hid (dheardP B p w ⟨4, 0, xr, [], 0, [], 0⟩ sF = fun r w' => ∃ v, r = .returned (.agg (vtL vt0 v).toArray) ∧ KoO w.heap.size w' v vt0.k ∧ AtR B p w' sF ∧ Kept [p] w w') := by show _ = _; unfold dheardP; simp only [if_neg hF]
    have hfb : (sF.2 != 0) = true := by simpa using hF
    have hfc : (sF.2 == 0) = false := by simpa using hF
    clear hF
    go_wp2_with ((with_reducible refine wl_store_bx HR2.out HLz.out HOz.out HTz.out ?_ ?_ ?_); rfl; rfl; intro wz HBz HKz)
    refine bodyPost_ret (bx_result (by rfl) _ (by rfl) HBz.out HTz.out) rfl ?_
    rw [HPQ.out]
    exact ⟨.slice none 0 0, rfl, KoO.nil _ _, HA2.out.kept HKz.out (by simp; omega) (by simp; omega), HK2.out.trans HKz.out (by simp)⟩

set_option maxHeartbeats 8000000 in
set_option maxRecDepth 100000 in
theorem dheard_8 (B p : Nat) (w : World) (s s1 sF : St) (xr : Int) (e1 : eyeP.num s 0 = (8, s1)) (e_r : eyeP.num s1 0 = (xr, sF)) (hA : AtR B p w s) : Calls Try.prog 40 #[.pointer (some ⟨p, 0, none⟩)] w (dheardP B p w ⟨8, 0, xr, [], 0, [], 0⟩ sF) := by
  have hlt := hA.lt
  obtain ⟨W, hW⟩ : ∃ W, W = w.alloc (.cells #[.int .i64 0, .int .i64 0, .int .i64 0, .string ⟨#[]⟩, .int .u64 0, .slice none 0 0, .int .i64 0] 43) := ⟨_, rfl⟩
  have HW := hide hW
  have k0 : Kept [] w W := by rw [hW]; exact (Kept.refl _ _).alloc _
  have HR : Hid (Bx W w.heap.size 43 zvt) := by rw [hW]; exact Bx.new w _ zvt
  have hsz : w.heap.size < W.heap.size := HR.out.lt
  have cN := dr_num B p W s (hA.kept k0 (by simp) (by simp))
  rw [e1] at cN
  have CN := hide cN
  have HK0 := hide k0
  have HLc : Hid (([.int .i64 8, .int .i64 0, .int .i64 0, .string ⟨#[]⟩, .int .u64 0, .slice none 0 0, .int .i64 0] : List Value).length = zvt.length) := rfl
  have HOc : Hid (∀ z ∈ ([.int .i64 8, .int .i64 0, .int .i64 0, .string ⟨#[]⟩, .int .u64 0, .slice none 0 0, .int .i64 0] : List Value), z.oneCell' = true) := by intro z hv; simp at hv; rcases hv with rfl | rfl | rfl | rfl | rfl | rfl | rfl <;> rfl
  have HTc : Hid (RowT Try.prog 43 ([.int .i64 8, .int .i64 0, .int .i64 0, .string ⟨#[]⟩, .int .u64 0, .slice none 0 0, .int .i64 0] : List Value).length) := rowT_ver
  clear hW k0 cN hA e1
  go_enter Try.func40, Try.ntmps40
  go_upto_region 1 with fail
  rw [← HW.out]
  go_upto_region 2 with (first | (go_at_call 63; refine CN.out.mono ?_; clear CN; rintro _ wa ⟨rfl, hA1, hk1⟩; have HAa := hide hA1; have HKa := hide hk1; have HZ : Hid (Bx (wa.alloc (.cells #[.int .i64 0, .int .i64 0, .int .i64 0, .string ⟨#[]⟩, .int .u64 0, .slice none 0 0, .int .i64 0] 43)) wa.heap.size 43 zvt) := (Bx.new wa _ zvt); clear hA1 hk1) | ((with_reducible refine wl_store_bx HZ.out HLc.out HOc.out HTc.out ?_ ?_ ?_); rfl; rfl; intro w1 HB1 HKx))
  have hza := HKa.out.size
  have k1 : Kept [] wa w1 := (Kept.refl [] wa).trans (((Kept.refl [wa.heap.size] wa).alloc _).trans HKx.out (by simp)) (by intro i hi; simp at hi; right; omega)
  obtain ⟨bx, hbx⟩ : ∃ bx, bx = wa.heap.size := ⟨_, rfl⟩
  rw [← hbx] at HB1 ⊢
  have hb1 : w.heap.size < bx := by omega
  have HA1 := hide (HAa.out.kept k1 (by simp) (by simp))
  have HR1 := hide ((HR.out.kept HKa.out (by simp; omega)).kept k1 (by simp))
  have HK1 : Hid (Kept [p] w w1) := ((HK0.out.mono (by simp)).trans HKa.out (by simp)).trans k1 (by simp)
  clear k1 HKx HZ hbx HAa HKa HLc HOc
  have hc0 : w1.cell? ⟨bx, 0, none⟩ = some (.int .i64 8) := HB1.out.cell 0 rfl
  go_upto_region 10 with fail
  clear hc0
  have fj : Hid (∀ W2, Kept [p] w1 W2 → W2.cell? ⟨bx, 2, none⟩ = some (.int .i64 0) ∧ W2.frozen? ⟨bx, 2, none⟩ = false) := fun W2 k => by
    have h := HB1.out.kept k (by simp; omega)
    exact ⟨h.cell 2 rfl, h.froz 2⟩
  have cj := dr_num B p w1 s1 HA1.out
  rw [e_r] at cj
  have CJ := hide cj
  clear cj
  go_upto_region 26 with (go_at_call 63; refine CJ.out.mono ?_; clear CJ; rintro _ wm2 ⟨rfl, hA, hk⟩; have HAm := hide hA; have HKm := hide hk; obtain ⟨sc, sf⟩ := fj.out _ hk; clear hA hk fj)
  obtain ⟨w2, hw⟩ : ∃ w2, w2 = wm2.setCell ⟨bx, 2, none⟩ (.int .i64 xr) := ⟨_, rfl⟩
  rw [← hw]
  have HB2 : Hid (Bx w2 bx 43 [.int .i64 8, .int .i64 0, .int .i64 xr, .string ⟨#[]⟩, .int .u64 0, .slice none 0 0, .int .i64 0]) := by rw [hw]; exact (HB1.out.kept HKm.out (by simp; omega)).set 2 _
  have kc : Kept [bx] wm2 w2 := by rw [hw]; exact kept_set wm2 bx 2 _
  have HA2 := hide (HAm.out.kept kc (by simp; omega) (by simp; omega))
  have HR2 := hide ((HR1.out.kept HKm.out (by simp; omega)).kept kc (by simp; omega))
  have HK2 : Hid (Kept [p] w w2) := (HK1.out.trans HKm.out (by simp)).trans kc (by simp; omega)
  clear hw kc sc sf HKm HAm
  have hfe := HA2.out.fail
  have HTe : Hid (RowT Try.prog 43 ([.int .i64 8, .int .i64 0, .int .i64 xr, .string ⟨#[]⟩, .int .u64 0, .slice none 0 0, .int .i64 0] : List Value).length) := rowT_ver
  have HLe : Hid (([.int .i64 8, .int .i64 0, .int .i64 xr, .string ⟨#[]⟩, .int .u64 0, .slice none 0 0, .int .i64 0] : List Value).length = zvt.length) := rfl
  have HOe : Hid (∀ z ∈ ([.int .i64 8, .int .i64 0, .int .i64 xr, .string ⟨#[]⟩, .int .u64 0, .slice none 0 0, .int .i64 0] : List Value), z.oneCell' = true) := by intro z hv; simp at hv; rcases hv with rfl | rfl | rfl | rfl | rfl | rfl | rfl <;> rfl
  have HLz : Hid ((zvt : List Value).length = zvt.length) := rfl
  have HOz : Hid (∀ z ∈ (zvt : List Value), z.oneCell' = true) := by intro z hv; simp [zvt] at hv; rcases hv with rfl | rfl | rfl | rfl | rfl | rfl | rfl <;> rfl
  have HTz : Hid (RowT Try.prog 43 (zvt : List Value).length) := rowT_ver
  by_cases hF : sF.2 = 0
  · have HPQ : Hid (dheardP B p w ⟨8, 0, xr, [], 0, [], 0⟩ sF = fun r w' => ∃ v, r = .returned (.agg (vtL ⟨8, 0, xr, [], 0, [], 0⟩ v).toArray) ∧ KoO w.heap.size w' v (⟨8, 0, xr, [], 0, [], 0⟩ : Vt).k ∧ AtR B p w' sF ∧ Kept [p] w w') := by show _ = _; unfold dheardP; simp only [if_pos hF]
    rw [hF] at hfe
    clear hF
    go_wp2_with (first | ((with_reducible refine wl_load_bx HB2.out HTe.out ?_ ?_); rfl) | ((with_reducible refine wl_store_bx HR2.out HLe.out HOe.out HTe.out ?_ ?_ ?_); rfl; rfl; intro wz HBz HKz))
    refine bodyPost_ret (bx_result (by rfl) _ (by rfl) HBz.out HTe.out) rfl ?_
    rw [HPQ.out]
    exact ⟨.slice none 0 0, rfl, KoO.nil _ _, HA2.out.kept HKz.out (by simp; omega) (by simp; omega), HK2.out.trans HKz.out (by simp)⟩
  · have HPQ : Hid (dheardP B p w ⟨8, 0, xr, [], 0, [], 0⟩ sF = fun r w' => ∃ v, r = .returned (.agg (vtL vt0 v).toArray) ∧ KoO w.heap.size w' v vt0.k ∧ AtR B p w' sF ∧ Kept [p] w w') := by show _ = _; unfold dheardP; simp only [if_neg hF]
    have hfb : (sF.2 != 0) = true := by simpa using hF
    have hfc : (sF.2 == 0) = false := by simpa using hF
    clear hF
    go_wp2_with ((with_reducible refine wl_store_bx HR2.out HLz.out HOz.out HTz.out ?_ ?_ ?_); rfl; rfl; intro wz HBz HKz)
    refine bodyPost_ret (bx_result (by rfl) _ (by rfl) HBz.out HTz.out) rfl ?_
    rw [HPQ.out]
    exact ⟨.slice none 0 0, rfl, KoO.nil _ _, HA2.out.kept HKz.out (by simp; omega) (by simp; omega), HK2.out.trans HKz.out (by simp)⟩

set_option maxHeartbeats 8000000 in
set_option maxRecDepth 100000 in
theorem dheard_3 (B p : Nat) (w : World) (s s1 s2 sF : St) (xp : List UInt8) (xr : Int) (e1 : eyeP.num s 0 = (3, s1)) (e_p : eyeP.text s1 [] = (xp, s2)) (e_r : eyeP.num s2 0 = (xr, sF)) (hA : AtR B p w s) : Calls Try.prog 40 #[.pointer (some ⟨p, 0, none⟩)] w (dheardP B p w ⟨3, 0, xr, xp, 0, [], 0⟩ sF) := by
  have hlt := hA.lt
  obtain ⟨W, hW⟩ : ∃ W, W = w.alloc (.cells #[.int .i64 0, .int .i64 0, .int .i64 0, .string ⟨#[]⟩, .int .u64 0, .slice none 0 0, .int .i64 0] 43) := ⟨_, rfl⟩
  have HW := hide hW
  have k0 : Kept [] w W := by rw [hW]; exact (Kept.refl _ _).alloc _
  have HR : Hid (Bx W w.heap.size 43 zvt) := by rw [hW]; exact Bx.new w _ zvt
  have hsz : w.heap.size < W.heap.size := HR.out.lt
  have cN := dr_num B p W s (hA.kept k0 (by simp) (by simp))
  rw [e1] at cN
  have CN := hide cN
  have HK0 := hide k0
  have HLc : Hid (([.int .i64 3, .int .i64 0, .int .i64 0, .string ⟨#[]⟩, .int .u64 0, .slice none 0 0, .int .i64 0] : List Value).length = zvt.length) := rfl
  have HOc : Hid (∀ z ∈ ([.int .i64 3, .int .i64 0, .int .i64 0, .string ⟨#[]⟩, .int .u64 0, .slice none 0 0, .int .i64 0] : List Value), z.oneCell' = true) := by intro z hv; simp at hv; rcases hv with rfl | rfl | rfl | rfl | rfl | rfl | rfl <;> rfl
  have HTc : Hid (RowT Try.prog 43 ([.int .i64 3, .int .i64 0, .int .i64 0, .string ⟨#[]⟩, .int .u64 0, .slice none 0 0, .int .i64 0] : List Value).length) := rowT_ver
  clear hW k0 cN hA e1
  go_enter Try.func40, Try.ntmps40
  go_upto_region 1 with fail
  rw [← HW.out]
  go_upto_region 2 with (first | (go_at_call 63; refine CN.out.mono ?_; clear CN; rintro _ wa ⟨rfl, hA1, hk1⟩; have HAa := hide hA1; have HKa := hide hk1; have HZ : Hid (Bx (wa.alloc (.cells #[.int .i64 0, .int .i64 0, .int .i64 0, .string ⟨#[]⟩, .int .u64 0, .slice none 0 0, .int .i64 0] 43)) wa.heap.size 43 zvt) := (Bx.new wa _ zvt); clear hA1 hk1) | ((with_reducible refine wl_store_bx HZ.out HLc.out HOc.out HTc.out ?_ ?_ ?_); rfl; rfl; intro w1 HB1 HKx))
  have hza := HKa.out.size
  have k1 : Kept [] wa w1 := (Kept.refl [] wa).trans (((Kept.refl [wa.heap.size] wa).alloc _).trans HKx.out (by simp)) (by intro i hi; simp at hi; right; omega)
  obtain ⟨bx, hbx⟩ : ∃ bx, bx = wa.heap.size := ⟨_, rfl⟩
  rw [← hbx] at HB1 ⊢
  have hb1 : w.heap.size < bx := by omega
  have HA1 := hide (HAa.out.kept k1 (by simp) (by simp))
  have HR1 := hide ((HR.out.kept HKa.out (by simp; omega)).kept k1 (by simp))
  have HK1 : Hid (Kept [p] w w1) := ((HK0.out.mono (by simp)).trans HKa.out (by simp)).trans k1 (by simp)
  clear k1 HKx HZ hbx HAa HKa HLc HOc
  have hc0 : w1.cell? ⟨bx, 0, none⟩ = some (.int .i64 3) := HB1.out.cell 0 rfl
  go_upto_region 12 with fail
  clear hc0
  have fj : Hid (∀ W2, Kept [p] w1 W2 → W2.cell? ⟨bx, 3, none⟩ = some (.string ⟨#[]⟩) ∧ W2.frozen? ⟨bx, 3, none⟩ = false) := fun W2 k => by
    have h := HB1.out.kept k (by simp; omega)
    exact ⟨h.cell 3 rfl, h.froz 3⟩
  have cj := dr_text B p w1 s1 HA1.out
  rw [e_p] at cj
  have CJ := hide cj
  clear cj
  go_upto_region 13 with (go_at_call 65; refine CJ.out.mono ?_; clear CJ; rintro _ wm2 ⟨rfl, hA, hk⟩; have HAm := hide hA; have HKm := hide hk; obtain ⟨sc, sf⟩ := fj.out _ hk; clear hA hk fj)
  obtain ⟨w2, hw⟩ : ∃ w2, w2 = wm2.setCell ⟨bx, 3, none⟩ (.string (str xp)) := ⟨_, rfl⟩
  rw [← hw]
  have HB2 : Hid (Bx w2 bx 43 [.int .i64 3, .int .i64 0, .int .i64 0, .string (str xp), .int .u64 0, .slice none 0 0, .int .i64 0]) := by rw [hw]; exact (HB1.out.kept HKm.out (by simp; omega)).set 3 _
  have kc : Kept [bx] wm2 w2 := by rw [hw]; exact kept_set wm2 bx 3 _
  have HA2 := hide (HAm.out.kept kc (by simp; omega) (by simp; omega))
  have HR2 := hide ((HR1.out.kept HKm.out (by simp; omega)).kept kc (by simp; omega))
  have HK2 : Hid (Kept [p] w w2) := (HK1.out.trans HKm.out (by simp)).trans kc (by simp; omega)
  clear hw kc sc sf HKm HAm
  have fj : Hid (∀ W2, Kept [p] w2 W2 → W2.cell? ⟨bx, 2, none⟩ = some (.int .i64 0) ∧ W2.frozen? ⟨bx, 2, none⟩ = false) := fun W2 k => by
    have h := HB2.out.kept k (by simp; omega)
    exact ⟨h.cell 2 rfl, h.froz 2⟩
  have cj := dr_num B p w2 s2 HA2.out
  rw [e_r] at cj
  have CJ := hide cj
  clear cj
  go_upto_region 26 with (go_at_call 63; refine CJ.out.mono ?_; clear CJ; rintro _ wm3 ⟨rfl, hA, hk⟩; have HAm := hide hA; have HKm := hide hk; obtain ⟨sc, sf⟩ := fj.out _ hk; clear hA hk fj)
  obtain ⟨w3, hw⟩ : ∃ w3, w3 = wm3.setCell ⟨bx, 2, none⟩ (.int .i64 xr) := ⟨_, rfl⟩
  rw [← hw]
  have HB3 : Hid (Bx w3 bx 43 [.int .i64 3, .int .i64 0, .int .i64 xr, .string (str xp), .int .u64 0, .slice none 0 0, .int .i64 0]) := by rw [hw]; exact (HB2.out.kept HKm.out (by simp; omega)).set 2 _
  have kc : Kept [bx] wm3 w3 := by rw [hw]; exact kept_set wm3 bx 2 _
  have HA3 := hide (HAm.out.kept kc (by simp; omega) (by simp; omega))
  have HR3 := hide ((HR2.out.kept HKm.out (by simp; omega)).kept kc (by simp; omega))
  have HK3 : Hid (Kept [p] w w3) := (HK2.out.trans HKm.out (by simp)).trans kc (by simp; omega)
  clear hw kc sc sf HKm HAm
  have hfe := HA3.out.fail
  have HTe : Hid (RowT Try.prog 43 ([.int .i64 3, .int .i64 0, .int .i64 xr, .string (str xp), .int .u64 0, .slice none 0 0, .int .i64 0] : List Value).length) := rowT_ver
  have HLe : Hid (([.int .i64 3, .int .i64 0, .int .i64 xr, .string (str xp), .int .u64 0, .slice none 0 0, .int .i64 0] : List Value).length = zvt.length) := rfl
  have HOe : Hid (∀ z ∈ ([.int .i64 3, .int .i64 0, .int .i64 xr, .string (str xp), .int .u64 0, .slice none 0 0, .int .i64 0] : List Value), z.oneCell' = true) := by intro z hv; simp at hv; rcases hv with rfl | rfl | rfl | rfl | rfl | rfl | rfl <;> rfl
  have HLz : Hid ((zvt : List Value).length = zvt.length) := rfl
  have HOz : Hid (∀ z ∈ (zvt : List Value), z.oneCell' = true) := by intro z hv; simp [zvt] at hv; rcases hv with rfl | rfl | rfl | rfl | rfl | rfl | rfl <;> rfl
  have HTz : Hid (RowT Try.prog 43 (zvt : List Value).length) := rowT_ver
  by_cases hF : sF.2 = 0
  · have HPQ : Hid (dheardP B p w ⟨3, 0, xr, xp, 0, [], 0⟩ sF = fun r w' => ∃ v, r = .returned (.agg (vtL ⟨3, 0, xr, xp, 0, [], 0⟩ v).toArray) ∧ KoO w.heap.size w' v (⟨3, 0, xr, xp, 0, [], 0⟩ : Vt).k ∧ AtR B p w' sF ∧ Kept [p] w w') := by show _ = _; unfold dheardP; simp only [if_pos hF]
    rw [hF] at hfe
    clear hF
    go_wp2_with (first | ((with_reducible refine wl_load_bx HB3.out HTe.out ?_ ?_); rfl) | ((with_reducible refine wl_store_bx HR3.out HLe.out HOe.out HTe.out ?_ ?_ ?_); rfl; rfl; intro wz HBz HKz))
    refine bodyPost_ret (bx_result (by rfl) _ (by rfl) HBz.out HTe.out) rfl ?_
    rw [HPQ.out]
    exact ⟨.slice none 0 0, rfl, KoO.nil _ _, HA3.out.kept HKz.out (by simp; omega) (by simp; omega), HK3.out.trans HKz.out (by simp)⟩
  · have HPQ : Hid (dheardP B p w ⟨3, 0, xr, xp, 0, [], 0⟩ sF = fun r w' => ∃ v, r = .returned (.agg (vtL vt0 v).toArray) ∧ KoO w.heap.size w' v vt0.k ∧ AtR B p w' sF ∧ Kept [p] w w') := by show _ = _; unfold dheardP; simp only [if_neg hF]
    have hfb : (sF.2 != 0) = true := by simpa using hF
    have hfc : (sF.2 == 0) = false := by simpa using hF
    clear hF
    go_wp2_with ((with_reducible refine wl_store_bx HR3.out HLz.out HOz.out HTz.out ?_ ?_ ?_); rfl; rfl; intro wz HBz HKz)
    refine bodyPost_ret (bx_result (by rfl) _ (by rfl) HBz.out HTz.out) rfl ?_
    rw [HPQ.out]
    exact ⟨.slice none 0 0, rfl, KoO.nil _ _, HA3.out.kept HKz.out (by simp; omega) (by simp; omega), HK3.out.trans HKz.out (by simp)⟩

set_option maxHeartbeats 8000000 in
set_option maxRecDepth 100000 in
theorem dheard_9 (B p : Nat) (w : World) (s s1 s2 s3 sF : St) (xp : List UInt8) (xd : Int) (xr : Int) (e1 : eyeP.num s 0 = (9, s1)) (e_p : eyeP.text s1 [] = (xp, s2)) (e_d : eyeP.word s2 0 = (xd, s3)) (e_r : eyeP.num s3 0 = (xr, sF)) (hA : AtR B p w s) : Calls Try.prog 40 #[.pointer (some ⟨p, 0, none⟩)] w (dheardP B p w ⟨9, 0, xr, xp, xd, [], 0⟩ sF) := by
  have hlt := hA.lt
  obtain ⟨W, hW⟩ : ∃ W, W = w.alloc (.cells #[.int .i64 0, .int .i64 0, .int .i64 0, .string ⟨#[]⟩, .int .u64 0, .slice none 0 0, .int .i64 0] 43) := ⟨_, rfl⟩
  have HW := hide hW
  have k0 : Kept [] w W := by rw [hW]; exact (Kept.refl _ _).alloc _
  have HR : Hid (Bx W w.heap.size 43 zvt) := by rw [hW]; exact Bx.new w _ zvt
  have hsz : w.heap.size < W.heap.size := HR.out.lt
  have cN := dr_num B p W s (hA.kept k0 (by simp) (by simp))
  rw [e1] at cN
  have CN := hide cN
  have HK0 := hide k0
  have HLc : Hid (([.int .i64 9, .int .i64 0, .int .i64 0, .string ⟨#[]⟩, .int .u64 0, .slice none 0 0, .int .i64 0] : List Value).length = zvt.length) := rfl
  have HOc : Hid (∀ z ∈ ([.int .i64 9, .int .i64 0, .int .i64 0, .string ⟨#[]⟩, .int .u64 0, .slice none 0 0, .int .i64 0] : List Value), z.oneCell' = true) := by intro z hv; simp at hv; rcases hv with rfl | rfl | rfl | rfl | rfl | rfl | rfl <;> rfl
  have HTc : Hid (RowT Try.prog 43 ([.int .i64 9, .int .i64 0, .int .i64 0, .string ⟨#[]⟩, .int .u64 0, .slice none 0 0, .int .i64 0] : List Value).length) := rowT_ver
  clear hW k0 cN hA e1
  go_enter Try.func40, Try.ntmps40
  go_upto_region 1 with fail
  rw [← HW.out]
  go_upto_region 2 with (first | (go_at_call 63; refine CN.out.mono ?_; clear CN; rintro _ wa ⟨rfl, hA1, hk1⟩; have HAa := hide hA1; have HKa := hide hk1; have HZ : Hid (Bx (wa.alloc (.cells #[.int .i64 0, .int .i64 0, .int .i64 0, .string ⟨#[]⟩, .int .u64 0, .slice none 0 0, .int .i64 0] 43)) wa.heap.size 43 zvt) := (Bx.new wa _ zvt); clear hA1 hk1) | ((with_reducible refine wl_store_bx HZ.out HLc.out HOc.out HTc.out ?_ ?_ ?_); rfl; rfl; intro w1 HB1 HKx))
  have hza := HKa.out.size
  have k1 : Kept [] wa w1 := (Kept.refl [] wa).trans (((Kept.refl [wa.heap.size] wa).alloc _).trans HKx.out (by simp)) (by intro i hi; simp at hi; right; omega)
  obtain ⟨bx, hbx⟩ : ∃ bx, bx = wa.heap.size := ⟨_, rfl⟩
  rw [← hbx] at HB1 ⊢
  have hb1 : w.heap.size < bx := by omega
  have HA1 := hide (HAa.out.kept k1 (by simp) (by simp))
  have HR1 := hide ((HR.out.kept HKa.out (by simp; omega)).kept k1 (by simp))
  have HK1 : Hid (Kept [p] w w1) := ((HK0.out.mono (by simp)).trans HKa.out (by simp)).trans k1 (by simp)
  clear k1 HKx HZ hbx HAa HKa HLc HOc
  have hc0 : w1.cell? ⟨bx, 0, none⟩ = some (.int .i64 9) := HB1.out.cell 0 rfl
  go_upto_region 15 with fail
  clear hc0
  have fj : Hid (∀ W2, Kept [p] w1 W2 → W2.cell? ⟨bx, 3, none⟩ = some (.string ⟨#[]⟩) ∧ W2.frozen? ⟨bx, 3, none⟩ = false) := fun W2 k => by
    have h := HB1.out.kept k (by simp; omega)
    exact ⟨h.cell 3 rfl, h.froz 3⟩
  have cj := dr_text B p w1 s1 HA1.out
  rw [e_p] at cj
  have CJ := hide cj
  clear cj
  go_upto_region 16 with (go_at_call 65; refine CJ.out.mono ?_; clear CJ; rintro _ wm2 ⟨rfl, hA, hk⟩; have HAm := hide hA; have HKm := hide hk; obtain ⟨sc, sf⟩ := fj.out _ hk; clear hA hk fj)
  obtain ⟨w2, hw⟩ : ∃ w2, w2 = wm2.setCell ⟨bx, 3, none⟩ (.string (str xp)) := ⟨_, rfl⟩
  rw [← hw]
  have HB2 : Hid (Bx w2 bx 43 [.int .i64 9, .int .i64 0, .int .i64 0, .string (str xp), .int .u64 0, .slice none 0 0, .int .i64 0]) := by rw [hw]; exact (HB1.out.kept HKm.out (by simp; omega)).set 3 _
  have kc : Kept [bx] wm2 w2 := by rw [hw]; exact kept_set wm2 bx 3 _
  have HA2 := hide (HAm.out.kept kc (by simp; omega) (by simp; omega))
  have HR2 := hide ((HR1.out.kept HKm.out (by simp; omega)).kept kc (by simp; omega))
  have HK2 : Hid (Kept [p] w w2) := (HK1.out.trans HKm.out (by simp)).trans kc (by simp; omega)
  clear hw kc sc sf HKm HAm
  have fj : Hid (∀ W2, Kept [p] w2 W2 → W2.cell? ⟨bx, 4, none⟩ = some (.int .u64 0) ∧ W2.frozen? ⟨bx, 4, none⟩ = false) := fun W2 k => by
    have h := HB2.out.kept k (by simp; omega)
    exact ⟨h.cell 4 rfl, h.froz 4⟩
  have cj := dr_word B p w2 s2 HA2.out
  rw [e_d] at cj
  have CJ := hide cj
  clear cj
  go_upto_region 17 with (go_at_call 69; refine CJ.out.mono ?_; clear CJ; rintro _ wm3 ⟨rfl, hA, hk⟩; have HAm := hide hA; have HKm := hide hk; obtain ⟨sc, sf⟩ := fj.out _ hk; clear hA hk fj)
  obtain ⟨w3, hw⟩ : ∃ w3, w3 = wm3.setCell ⟨bx, 4, none⟩ (.int .u64 xd) := ⟨_, rfl⟩
  rw [← hw]
  have HB3 : Hid (Bx w3 bx 43 [.int .i64 9, .int .i64 0, .int .i64 0, .string (str xp), .int .u64 xd, .slice none 0 0, .int .i64 0]) := by rw [hw]; exact (HB2.out.kept HKm.out (by simp; omega)).set 4 _
  have kc : Kept [bx] wm3 w3 := by rw [hw]; exact kept_set wm3 bx 4 _
  have HA3 := hide (HAm.out.kept kc (by simp; omega) (by simp; omega))
  have HR3 := hide ((HR2.out.kept HKm.out (by simp; omega)).kept kc (by simp; omega))
  have HK3 : Hid (Kept [p] w w3) := (HK2.out.trans HKm.out (by simp)).trans kc (by simp; omega)
  clear hw kc sc sf HKm HAm
  have fj : Hid (∀ W2, Kept [p] w3 W2 → W2.cell? ⟨bx, 2, none⟩ = some (.int .i64 0) ∧ W2.frozen? ⟨bx, 2, none⟩ = false) := fun W2 k => by
    have h := HB3.out.kept k (by simp; omega)
    exact ⟨h.cell 2 rfl, h.froz 2⟩
  have cj := dr_num B p w3 s3 HA3.out
  rw [e_r] at cj
  have CJ := hide cj
  clear cj
  go_upto_region 26 with (go_at_call 63; refine CJ.out.mono ?_; clear CJ; rintro _ wm4 ⟨rfl, hA, hk⟩; have HAm := hide hA; have HKm := hide hk; obtain ⟨sc, sf⟩ := fj.out _ hk; clear hA hk fj)
  obtain ⟨w4, hw⟩ : ∃ w4, w4 = wm4.setCell ⟨bx, 2, none⟩ (.int .i64 xr) := ⟨_, rfl⟩
  rw [← hw]
  have HB4 : Hid (Bx w4 bx 43 [.int .i64 9, .int .i64 0, .int .i64 xr, .string (str xp), .int .u64 xd, .slice none 0 0, .int .i64 0]) := by rw [hw]; exact (HB3.out.kept HKm.out (by simp; omega)).set 2 _
  have kc : Kept [bx] wm4 w4 := by rw [hw]; exact kept_set wm4 bx 2 _
  have HA4 := hide (HAm.out.kept kc (by simp; omega) (by simp; omega))
  have HR4 := hide ((HR3.out.kept HKm.out (by simp; omega)).kept kc (by simp; omega))
  have HK4 : Hid (Kept [p] w w4) := (HK3.out.trans HKm.out (by simp)).trans kc (by simp; omega)
  clear hw kc sc sf HKm HAm
  have hfe := HA4.out.fail
  have HTe : Hid (RowT Try.prog 43 ([.int .i64 9, .int .i64 0, .int .i64 xr, .string (str xp), .int .u64 xd, .slice none 0 0, .int .i64 0] : List Value).length) := rowT_ver
  have HLe : Hid (([.int .i64 9, .int .i64 0, .int .i64 xr, .string (str xp), .int .u64 xd, .slice none 0 0, .int .i64 0] : List Value).length = zvt.length) := rfl
  have HOe : Hid (∀ z ∈ ([.int .i64 9, .int .i64 0, .int .i64 xr, .string (str xp), .int .u64 xd, .slice none 0 0, .int .i64 0] : List Value), z.oneCell' = true) := by intro z hv; simp at hv; rcases hv with rfl | rfl | rfl | rfl | rfl | rfl | rfl <;> rfl
  have HLz : Hid ((zvt : List Value).length = zvt.length) := rfl
  have HOz : Hid (∀ z ∈ (zvt : List Value), z.oneCell' = true) := by intro z hv; simp [zvt] at hv; rcases hv with rfl | rfl | rfl | rfl | rfl | rfl | rfl <;> rfl
  have HTz : Hid (RowT Try.prog 43 (zvt : List Value).length) := rowT_ver
  by_cases hF : sF.2 = 0
  · have HPQ : Hid (dheardP B p w ⟨9, 0, xr, xp, xd, [], 0⟩ sF = fun r w' => ∃ v, r = .returned (.agg (vtL ⟨9, 0, xr, xp, xd, [], 0⟩ v).toArray) ∧ KoO w.heap.size w' v (⟨9, 0, xr, xp, xd, [], 0⟩ : Vt).k ∧ AtR B p w' sF ∧ Kept [p] w w') := by show _ = _; unfold dheardP; simp only [if_pos hF]
    rw [hF] at hfe
    clear hF
    go_wp2_with (first | ((with_reducible refine wl_load_bx HB4.out HTe.out ?_ ?_); rfl) | ((with_reducible refine wl_store_bx HR4.out HLe.out HOe.out HTe.out ?_ ?_ ?_); rfl; rfl; intro wz HBz HKz))
    refine bodyPost_ret (bx_result (by rfl) _ (by rfl) HBz.out HTe.out) rfl ?_
    rw [HPQ.out]
    exact ⟨.slice none 0 0, rfl, KoO.nil _ _, HA4.out.kept HKz.out (by simp; omega) (by simp; omega), HK4.out.trans HKz.out (by simp)⟩
  · have HPQ : Hid (dheardP B p w ⟨9, 0, xr, xp, xd, [], 0⟩ sF = fun r w' => ∃ v, r = .returned (.agg (vtL vt0 v).toArray) ∧ KoO w.heap.size w' v vt0.k ∧ AtR B p w' sF ∧ Kept [p] w w') := by show _ = _; unfold dheardP; simp only [if_neg hF]
    have hfb : (sF.2 != 0) = true := by simpa using hF
    have hfc : (sF.2 == 0) = false := by simpa using hF
    clear hF
    go_wp2_with ((with_reducible refine wl_store_bx HR4.out HLz.out HOz.out HTz.out ?_ ?_ ?_); rfl; rfl; intro wz HBz HKz)
    refine bodyPost_ret (bx_result (by rfl) _ (by rfl) HBz.out HTz.out) rfl ?_
    rw [HPQ.out]
    exact ⟨.slice none 0 0, rfl, KoO.nil _ _, HA4.out.kept HKz.out (by simp; omega) (by simp; omega), HK4.out.trans HKz.out (by simp)⟩

set_option maxHeartbeats 8000000 in
set_option maxRecDepth 100000 in
theorem dheard_10 (B p : Nat) (w : World) (s s1 sF : St) (xp : List UInt8) (e1 : eyeP.num s 0 = (10, s1)) (e_p : eyeP.text s1 [] = (xp, sF)) (hA : AtR B p w s) : Calls Try.prog 40 #[.pointer (some ⟨p, 0, none⟩)] w (dheardP B p w ⟨10, 0, 0, xp, 0, [], 0⟩ sF) := by
  have hlt := hA.lt
  obtain ⟨W, hW⟩ : ∃ W, W = w.alloc (.cells #[.int .i64 0, .int .i64 0, .int .i64 0, .string ⟨#[]⟩, .int .u64 0, .slice none 0 0, .int .i64 0] 43) := ⟨_, rfl⟩
  have HW := hide hW
  have k0 : Kept [] w W := by rw [hW]; exact (Kept.refl _ _).alloc _
  have HR : Hid (Bx W w.heap.size 43 zvt) := by rw [hW]; exact Bx.new w _ zvt
  have hsz : w.heap.size < W.heap.size := HR.out.lt
  have cN := dr_num B p W s (hA.kept k0 (by simp) (by simp))
  rw [e1] at cN
  have CN := hide cN
  have HK0 := hide k0
  have HLc : Hid (([.int .i64 10, .int .i64 0, .int .i64 0, .string ⟨#[]⟩, .int .u64 0, .slice none 0 0, .int .i64 0] : List Value).length = zvt.length) := rfl
  have HOc : Hid (∀ z ∈ ([.int .i64 10, .int .i64 0, .int .i64 0, .string ⟨#[]⟩, .int .u64 0, .slice none 0 0, .int .i64 0] : List Value), z.oneCell' = true) := by intro z hv; simp at hv; rcases hv with rfl | rfl | rfl | rfl | rfl | rfl | rfl <;> rfl
  have HTc : Hid (RowT Try.prog 43 ([.int .i64 10, .int .i64 0, .int .i64 0, .string ⟨#[]⟩, .int .u64 0, .slice none 0 0, .int .i64 0] : List Value).length) := rowT_ver
  clear hW k0 cN hA e1
  go_enter Try.func40, Try.ntmps40
  go_upto_region 1 with fail
  rw [← HW.out]
  go_upto_region 2 with (first | (go_at_call 63; refine CN.out.mono ?_; clear CN; rintro _ wa ⟨rfl, hA1, hk1⟩; have HAa := hide hA1; have HKa := hide hk1; have HZ : Hid (Bx (wa.alloc (.cells #[.int .i64 0, .int .i64 0, .int .i64 0, .string ⟨#[]⟩, .int .u64 0, .slice none 0 0, .int .i64 0] 43)) wa.heap.size 43 zvt) := (Bx.new wa _ zvt); clear hA1 hk1) | ((with_reducible refine wl_store_bx HZ.out HLc.out HOc.out HTc.out ?_ ?_ ?_); rfl; rfl; intro w1 HB1 HKx))
  have hza := HKa.out.size
  have k1 : Kept [] wa w1 := (Kept.refl [] wa).trans (((Kept.refl [wa.heap.size] wa).alloc _).trans HKx.out (by simp)) (by intro i hi; simp at hi; right; omega)
  obtain ⟨bx, hbx⟩ : ∃ bx, bx = wa.heap.size := ⟨_, rfl⟩
  rw [← hbx] at HB1 ⊢
  have hb1 : w.heap.size < bx := by omega
  have HA1 := hide (HAa.out.kept k1 (by simp) (by simp))
  have HR1 := hide ((HR.out.kept HKa.out (by simp; omega)).kept k1 (by simp))
  have HK1 : Hid (Kept [p] w w1) := ((HK0.out.mono (by simp)).trans HKa.out (by simp)).trans k1 (by simp)
  clear k1 HKx HZ hbx HAa HKa HLc HOc
  have hc0 : w1.cell? ⟨bx, 0, none⟩ = some (.int .i64 10) := HB1.out.cell 0 rfl
  go_upto_region 19 with fail
  clear hc0
  have fj : Hid (∀ W2, Kept [p] w1 W2 → W2.cell? ⟨bx, 3, none⟩ = some (.string ⟨#[]⟩) ∧ W2.frozen? ⟨bx, 3, none⟩ = false) := fun W2 k => by
    have h := HB1.out.kept k (by simp; omega)
    exact ⟨h.cell 3 rfl, h.froz 3⟩
  have cj := dr_text B p w1 s1 HA1.out
  rw [e_p] at cj
  have CJ := hide cj
  clear cj
  go_upto_region 26 with (go_at_call 65; refine CJ.out.mono ?_; clear CJ; rintro _ wm2 ⟨rfl, hA, hk⟩; have HAm := hide hA; have HKm := hide hk; obtain ⟨sc, sf⟩ := fj.out _ hk; clear hA hk fj)
  obtain ⟨w2, hw⟩ : ∃ w2, w2 = wm2.setCell ⟨bx, 3, none⟩ (.string (str xp)) := ⟨_, rfl⟩
  rw [← hw]
  have HB2 : Hid (Bx w2 bx 43 [.int .i64 10, .int .i64 0, .int .i64 0, .string (str xp), .int .u64 0, .slice none 0 0, .int .i64 0]) := by rw [hw]; exact (HB1.out.kept HKm.out (by simp; omega)).set 3 _
  have kc : Kept [bx] wm2 w2 := by rw [hw]; exact kept_set wm2 bx 3 _
  have HA2 := hide (HAm.out.kept kc (by simp; omega) (by simp; omega))
  have HR2 := hide ((HR1.out.kept HKm.out (by simp; omega)).kept kc (by simp; omega))
  have HK2 : Hid (Kept [p] w w2) := (HK1.out.trans HKm.out (by simp)).trans kc (by simp; omega)
  clear hw kc sc sf HKm HAm
  have hfe := HA2.out.fail
  have HTe : Hid (RowT Try.prog 43 ([.int .i64 10, .int .i64 0, .int .i64 0, .string (str xp), .int .u64 0, .slice none 0 0, .int .i64 0] : List Value).length) := rowT_ver
  have HLe : Hid (([.int .i64 10, .int .i64 0, .int .i64 0, .string (str xp), .int .u64 0, .slice none 0 0, .int .i64 0] : List Value).length = zvt.length) := rfl
  have HOe : Hid (∀ z ∈ ([.int .i64 10, .int .i64 0, .int .i64 0, .string (str xp), .int .u64 0, .slice none 0 0, .int .i64 0] : List Value), z.oneCell' = true) := by intro z hv; simp at hv; rcases hv with rfl | rfl | rfl | rfl | rfl | rfl | rfl <;> rfl
  have HLz : Hid ((zvt : List Value).length = zvt.length) := rfl
  have HOz : Hid (∀ z ∈ (zvt : List Value), z.oneCell' = true) := by intro z hv; simp [zvt] at hv; rcases hv with rfl | rfl | rfl | rfl | rfl | rfl | rfl <;> rfl
  have HTz : Hid (RowT Try.prog 43 (zvt : List Value).length) := rowT_ver
  by_cases hF : sF.2 = 0
  · have HPQ : Hid (dheardP B p w ⟨10, 0, 0, xp, 0, [], 0⟩ sF = fun r w' => ∃ v, r = .returned (.agg (vtL ⟨10, 0, 0, xp, 0, [], 0⟩ v).toArray) ∧ KoO w.heap.size w' v (⟨10, 0, 0, xp, 0, [], 0⟩ : Vt).k ∧ AtR B p w' sF ∧ Kept [p] w w') := by show _ = _; unfold dheardP; simp only [if_pos hF]
    rw [hF] at hfe
    clear hF
    go_wp2_with (first | ((with_reducible refine wl_load_bx HB2.out HTe.out ?_ ?_); rfl) | ((with_reducible refine wl_store_bx HR2.out HLe.out HOe.out HTe.out ?_ ?_ ?_); rfl; rfl; intro wz HBz HKz))
    refine bodyPost_ret (bx_result (by rfl) _ (by rfl) HBz.out HTe.out) rfl ?_
    rw [HPQ.out]
    exact ⟨.slice none 0 0, rfl, KoO.nil _ _, HA2.out.kept HKz.out (by simp; omega) (by simp; omega), HK2.out.trans HKz.out (by simp)⟩
  · have HPQ : Hid (dheardP B p w ⟨10, 0, 0, xp, 0, [], 0⟩ sF = fun r w' => ∃ v, r = .returned (.agg (vtL vt0 v).toArray) ∧ KoO w.heap.size w' v vt0.k ∧ AtR B p w' sF ∧ Kept [p] w w') := by show _ = _; unfold dheardP; simp only [if_neg hF]
    have hfb : (sF.2 != 0) = true := by simpa using hF
    have hfc : (sF.2 == 0) = false := by simpa using hF
    clear hF
    go_wp2_with ((with_reducible refine wl_store_bx HR2.out HLz.out HOz.out HTz.out ?_ ?_ ?_); rfl; rfl; intro wz HBz HKz)
    refine bodyPost_ret (bx_result (by rfl) _ (by rfl) HBz.out HTz.out) rfl ?_
    rw [HPQ.out]
    exact ⟨.slice none 0 0, rfl, KoO.nil _ _, HA2.out.kept HKz.out (by simp; omega) (by simp; omega), HK2.out.trans HKz.out (by simp)⟩

set_option maxHeartbeats 8000000 in
set_option maxRecDepth 100000 in
theorem dheard_11 (B p : Nat) (w : World) (s s1 sF : St) (xk : List Com) (e1 : eyeP.num s 0 = (11, s1)) (e_k : tkL comD 32 s1 = (xk, sF)) (hA : AtR B p w s) : Calls Try.prog 40 #[.pointer (some ⟨p, 0, none⟩)] w (dheardP B p w ⟨11, 0, 0, [], 0, xk, 0⟩ sF) := by
  have hlt := hA.lt
  obtain ⟨W, hW⟩ : ∃ W, W = w.alloc (.cells #[.int .i64 0, .int .i64 0, .int .i64 0, .string ⟨#[]⟩, .int .u64 0, .slice none 0 0, .int .i64 0] 43) := ⟨_, rfl⟩
  have HW := hide hW
  have k0 : Kept [] w W := by rw [hW]; exact (Kept.refl _ _).alloc _
  have HR : Hid (Bx W w.heap.size 43 zvt) := by rw [hW]; exact Bx.new w _ zvt
  have hsz : w.heap.size < W.heap.size := HR.out.lt
  have cN := dr_num B p W s (hA.kept k0 (by simp) (by simp))
  rw [e1] at cN
  have CN := hide cN
  have HK0 := hide k0
  have HLc : Hid (([.int .i64 11, .int .i64 0, .int .i64 0, .string ⟨#[]⟩, .int .u64 0, .slice none 0 0, .int .i64 0] : List Value).length = zvt.length) := rfl
  have HOc : Hid (∀ z ∈ ([.int .i64 11, .int .i64 0, .int .i64 0, .string ⟨#[]⟩, .int .u64 0, .slice none 0 0, .int .i64 0] : List Value), z.oneCell' = true) := by intro z hv; simp at hv; rcases hv with rfl | rfl | rfl | rfl | rfl | rfl | rfl <;> rfl
  have HTc : Hid (RowT Try.prog 43 ([.int .i64 11, .int .i64 0, .int .i64 0, .string ⟨#[]⟩, .int .u64 0, .slice none 0 0, .int .i64 0] : List Value).length) := rowT_ver
  clear hW k0 cN hA e1
  go_enter Try.func40, Try.ntmps40
  go_upto_region 1 with fail
  rw [← HW.out]
  go_upto_region 2 with (first | (go_at_call 63; refine CN.out.mono ?_; clear CN; rintro _ wa ⟨rfl, hA1, hk1⟩; have HAa := hide hA1; have HKa := hide hk1; have HZ : Hid (Bx (wa.alloc (.cells #[.int .i64 0, .int .i64 0, .int .i64 0, .string ⟨#[]⟩, .int .u64 0, .slice none 0 0, .int .i64 0] 43)) wa.heap.size 43 zvt) := (Bx.new wa _ zvt); clear hA1 hk1) | ((with_reducible refine wl_store_bx HZ.out HLc.out HOc.out HTc.out ?_ ?_ ?_); rfl; rfl; intro w1 HB1 HKx))
  have hza := HKa.out.size
  have k1 : Kept [] wa w1 := (Kept.refl [] wa).trans (((Kept.refl [wa.heap.size] wa).alloc _).trans HKx.out (by simp)) (by intro i hi; simp at hi; right; omega)
  obtain ⟨bx, hbx⟩ : ∃ bx, bx = wa.heap.size := ⟨_, rfl⟩
  rw [← hbx] at HB1 ⊢
  have hb1 : w.heap.size < bx := by omega
  have HA1 := hide (HAa.out.kept k1 (by simp) (by simp))
  have HR1 := hide ((HR.out.kept HKa.out (by simp; omega)).kept k1 (by simp))
  have HK1 : Hid (Kept [p] w w1) := ((HK0.out.mono (by simp)).trans HKa.out (by simp)).trans k1 (by simp)
  clear k1 HKx HZ hbx HAa HKa HLc HOc
  have hc0 : w1.cell? ⟨bx, 0, none⟩ = some (.int .i64 11) := HB1.out.cell 0 rfl
  go_upto_region 21 with fail
  clear hc0
  have fj : Hid (∀ W2, Kept [p] w1 W2 → W2.cell? ⟨bx, 5, none⟩ = some (.slice none 0 0) ∧ W2.frozen? ⟨bx, 5, none⟩ = false) := fun W2 k => by
    have h := HB1.out.kept k (by simp; omega)
    exact ⟨h.cell 5 rfl, h.froz 5⟩
  have cj := tkK_call B p w1 s1 HA1.out
  rw [e_k] at cj
  have CJ := hide cj
  clear cj
  go_upto_region 26 with (go_at_call 70; refine CJ.out.mono ?_; clear CJ; rintro _ wm2 ⟨lv, rfl, hO, hA, hk⟩; have HAm := hide hA; have HKm := hide hk; have HLv := hide hO; clear hO; obtain ⟨sc, sf⟩ := fj.out _ hk; clear hA hk fj; obtain ⟨lo, ln, lc, rfl⟩ := koO_bare HLv.out)
  obtain ⟨w2, hw⟩ : ∃ w2, w2 = wm2.setCell ⟨bx, 5, none⟩ (.slice lo ln lc) := ⟨_, rfl⟩
  rw [← hw]
  have HB2 : Hid (Bx w2 bx 43 [.int .i64 11, .int .i64 0, .int .i64 0, .string ⟨#[]⟩, .int .u64 0, .slice lo ln lc, .int .i64 0]) := by rw [hw]; exact (HB1.out.kept HKm.out (by simp; omega)).set 5 _
  have kc : Kept [bx] wm2 w2 := by rw [hw]; exact kept_set wm2 bx 5 _
  have HA2 := hide (HAm.out.kept kc (by simp; omega) (by simp; omega))
  have HR2 := hide ((HR1.out.kept HKm.out (by simp; omega)).kept kc (by simp; omega))
  have HK2 : Hid (Kept [p] w w2) := (HK1.out.trans HKm.out (by simp)).trans kc (by simp; omega)
  have hbl : bx < w1.heap.size := HB1.out.lt
  have HLx := hide (HLv.out.off kc (by simp; omega))
  clear hw kc sc sf HKm HAm
  have hfe := HA2.out.fail
  have HTe : Hid (RowT Try.prog 43 ([.int .i64 11, .int .i64 0, .int .i64 0, .string ⟨#[]⟩, .int .u64 0, .slice lo ln lc, .int .i64 0] : List Value).length) := rowT_ver
  have HLe : Hid (([.int .i64 11, .int .i64 0, .int .i64 0, .string ⟨#[]⟩, .int .u64 0, .slice lo ln lc, .int .i64 0] : List Value).length = zvt.length) := rfl
  have HOe : Hid (∀ z ∈ ([.int .i64 11, .int .i64 0, .int .i64 0, .string ⟨#[]⟩, .int .u64 0, .slice lo ln lc, .int .i64 0] : List Value), z.oneCell' = true) := by intro z hv; simp at hv; rcases hv with rfl | rfl | rfl | rfl | rfl | rfl | rfl <;> rfl
  have HLz : Hid ((zvt : List Value).length = zvt.length) := rfl
  have HOz : Hid (∀ z ∈ (zvt : List Value), z.oneCell' = true) := by intro z hv; simp [zvt] at hv; rcases hv with rfl | rfl | rfl | rfl | rfl | rfl | rfl <;> rfl
  have HTz : Hid (RowT Try.prog 43 (zvt : List Value).length) := rowT_ver
  by_cases hF : sF.2 = 0
  · have HPQ : Hid (dheardP B p w ⟨11, 0, 0, [], 0, xk, 0⟩ sF = fun r w' => ∃ v, r = .returned (.agg (vtL ⟨11, 0, 0, [], 0, xk, 0⟩ v).toArray) ∧ KoO w.heap.size w' v (⟨11, 0, 0, [], 0, xk, 0⟩ : Vt).k ∧ AtR B p w' sF ∧ Kept [p] w w') := by show _ = _; unfold dheardP; simp only [if_pos hF]
    rw [hF] at hfe
    clear hF
    go_wp2_with (first | ((with_reducible refine wl_load_bx HB2.out HTe.out ?_ ?_); rfl) | ((with_reducible refine wl_store_bx HR2.out HLe.out HOe.out HTe.out ?_ ?_ ?_); rfl; rfl; intro wz HBz HKz))
    refine bodyPost_ret (bx_result (by rfl) _ (by rfl) HBz.out HTe.out) rfl ?_
    rw [HPQ.out]
    exact ⟨.slice lo ln lc, rfl, (HLx.out.off HKz.out (by simp; omega)).mono (by omega), HA2.out.kept HKz.out (by simp; omega) (by simp; omega), HK2.out.trans HKz.out (by simp)⟩
  · have HPQ : Hid (dheardP B p w ⟨11, 0, 0, [], 0, xk, 0⟩ sF = fun r w' => ∃ v, r = .returned (.agg (vtL vt0 v).toArray) ∧ KoO w.heap.size w' v vt0.k ∧ AtR B p w' sF ∧ Kept [p] w w') := by show _ = _; unfold dheardP; simp only [if_neg hF]
    have hfb : (sF.2 != 0) = true := by simpa using hF
    have hfc : (sF.2 == 0) = false := by simpa using hF
    clear hF
    go_wp2_with ((with_reducible refine wl_store_bx HR2.out HLz.out HOz.out HTz.out ?_ ?_ ?_); rfl; rfl; intro wz HBz HKz)
    refine bodyPost_ret (bx_result (by rfl) _ (by rfl) HBz.out HTz.out) rfl ?_
    rw [HPQ.out]
    exact ⟨.slice none 0 0, rfl, KoO.nil _ _, HA2.out.kept HKz.out (by simp; omega) (by simp; omega), HK2.out.trans HKz.out (by simp)⟩

set_option maxHeartbeats 8000000 in
set_option maxRecDepth 100000 in
theorem dheard_12 (B p : Nat) (w : World) (s s1 sF : St) (xm : Int) (e1 : eyeP.num s 0 = (12, s1)) (e_m : eyeP.num s1 0 = (xm, sF)) (hA : AtR B p w s) : Calls Try.prog 40 #[.pointer (some ⟨p, 0, none⟩)] w (dheardP B p w ⟨12, 0, 0, [], 0, [], xm⟩ sF) := by
  have hlt := hA.lt
  obtain ⟨W, hW⟩ : ∃ W, W = w.alloc (.cells #[.int .i64 0, .int .i64 0, .int .i64 0, .string ⟨#[]⟩, .int .u64 0, .slice none 0 0, .int .i64 0] 43) := ⟨_, rfl⟩
  have HW := hide hW
  have k0 : Kept [] w W := by rw [hW]; exact (Kept.refl _ _).alloc _
  have HR : Hid (Bx W w.heap.size 43 zvt) := by rw [hW]; exact Bx.new w _ zvt
  have hsz : w.heap.size < W.heap.size := HR.out.lt
  have cN := dr_num B p W s (hA.kept k0 (by simp) (by simp))
  rw [e1] at cN
  have CN := hide cN
  have HK0 := hide k0
  have HLc : Hid (([.int .i64 12, .int .i64 0, .int .i64 0, .string ⟨#[]⟩, .int .u64 0, .slice none 0 0, .int .i64 0] : List Value).length = zvt.length) := rfl
  have HOc : Hid (∀ z ∈ ([.int .i64 12, .int .i64 0, .int .i64 0, .string ⟨#[]⟩, .int .u64 0, .slice none 0 0, .int .i64 0] : List Value), z.oneCell' = true) := by intro z hv; simp at hv; rcases hv with rfl | rfl | rfl | rfl | rfl | rfl | rfl <;> rfl
  have HTc : Hid (RowT Try.prog 43 ([.int .i64 12, .int .i64 0, .int .i64 0, .string ⟨#[]⟩, .int .u64 0, .slice none 0 0, .int .i64 0] : List Value).length) := rowT_ver
  clear hW k0 cN hA e1
  go_enter Try.func40, Try.ntmps40
  go_upto_region 1 with fail
  rw [← HW.out]
  go_upto_region 2 with (first | (go_at_call 63; refine CN.out.mono ?_; clear CN; rintro _ wa ⟨rfl, hA1, hk1⟩; have HAa := hide hA1; have HKa := hide hk1; have HZ : Hid (Bx (wa.alloc (.cells #[.int .i64 0, .int .i64 0, .int .i64 0, .string ⟨#[]⟩, .int .u64 0, .slice none 0 0, .int .i64 0] 43)) wa.heap.size 43 zvt) := (Bx.new wa _ zvt); clear hA1 hk1) | ((with_reducible refine wl_store_bx HZ.out HLc.out HOc.out HTc.out ?_ ?_ ?_); rfl; rfl; intro w1 HB1 HKx))
  have hza := HKa.out.size
  have k1 : Kept [] wa w1 := (Kept.refl [] wa).trans (((Kept.refl [wa.heap.size] wa).alloc _).trans HKx.out (by simp)) (by intro i hi; simp at hi; right; omega)
  obtain ⟨bx, hbx⟩ : ∃ bx, bx = wa.heap.size := ⟨_, rfl⟩
  rw [← hbx] at HB1 ⊢
  have hb1 : w.heap.size < bx := by omega
  have HA1 := hide (HAa.out.kept k1 (by simp) (by simp))
  have HR1 := hide ((HR.out.kept HKa.out (by simp; omega)).kept k1 (by simp))
  have HK1 : Hid (Kept [p] w w1) := ((HK0.out.mono (by simp)).trans HKa.out (by simp)).trans k1 (by simp)
  clear k1 HKx HZ hbx HAa HKa HLc HOc
  have hc0 : w1.cell? ⟨bx, 0, none⟩ = some (.int .i64 12) := HB1.out.cell 0 rfl
  go_upto_region 25 with fail
  clear hc0
  have fj : Hid (∀ W2, Kept [p] w1 W2 → W2.cell? ⟨bx, 6, none⟩ = some (.int .i64 0) ∧ W2.frozen? ⟨bx, 6, none⟩ = false) := fun W2 k => by
    have h := HB1.out.kept k (by simp; omega)
    exact ⟨h.cell 6 rfl, h.froz 6⟩
  have cj := dr_num B p w1 s1 HA1.out
  rw [e_m] at cj
  have CJ := hide cj
  clear cj
  go_upto_region 26 with (go_at_call 63; refine CJ.out.mono ?_; clear CJ; rintro _ wm2 ⟨rfl, hA, hk⟩; have HAm := hide hA; have HKm := hide hk; obtain ⟨sc, sf⟩ := fj.out _ hk; clear hA hk fj)
  obtain ⟨w2, hw⟩ : ∃ w2, w2 = wm2.setCell ⟨bx, 6, none⟩ (.int .i64 xm) := ⟨_, rfl⟩
  rw [← hw]
  have HB2 : Hid (Bx w2 bx 43 [.int .i64 12, .int .i64 0, .int .i64 0, .string ⟨#[]⟩, .int .u64 0, .slice none 0 0, .int .i64 xm]) := by rw [hw]; exact (HB1.out.kept HKm.out (by simp; omega)).set 6 _
  have kc : Kept [bx] wm2 w2 := by rw [hw]; exact kept_set wm2 bx 6 _
  have HA2 := hide (HAm.out.kept kc (by simp; omega) (by simp; omega))
  have HR2 := hide ((HR1.out.kept HKm.out (by simp; omega)).kept kc (by simp; omega))
  have HK2 : Hid (Kept [p] w w2) := (HK1.out.trans HKm.out (by simp)).trans kc (by simp; omega)
  clear hw kc sc sf HKm HAm
  have hfe := HA2.out.fail
  have HTe : Hid (RowT Try.prog 43 ([.int .i64 12, .int .i64 0, .int .i64 0, .string ⟨#[]⟩, .int .u64 0, .slice none 0 0, .int .i64 xm] : List Value).length) := rowT_ver
  have HLe : Hid (([.int .i64 12, .int .i64 0, .int .i64 0, .string ⟨#[]⟩, .int .u64 0, .slice none 0 0, .int .i64 xm] : List Value).length = zvt.length) := rfl
  have HOe : Hid (∀ z ∈ ([.int .i64 12, .int .i64 0, .int .i64 0, .string ⟨#[]⟩, .int .u64 0, .slice none 0 0, .int .i64 xm] : List Value), z.oneCell' = true) := by intro z hv; simp at hv; rcases hv with rfl | rfl | rfl | rfl | rfl | rfl | rfl <;> rfl
  have HLz : Hid ((zvt : List Value).length = zvt.length) := rfl
  have HOz : Hid (∀ z ∈ (zvt : List Value), z.oneCell' = true) := by intro z hv; simp [zvt] at hv; rcases hv with rfl | rfl | rfl | rfl | rfl | rfl | rfl <;> rfl
  have HTz : Hid (RowT Try.prog 43 (zvt : List Value).length) := rowT_ver
  by_cases hF : sF.2 = 0
  · have HPQ : Hid (dheardP B p w ⟨12, 0, 0, [], 0, [], xm⟩ sF = fun r w' => ∃ v, r = .returned (.agg (vtL ⟨12, 0, 0, [], 0, [], xm⟩ v).toArray) ∧ KoO w.heap.size w' v (⟨12, 0, 0, [], 0, [], xm⟩ : Vt).k ∧ AtR B p w' sF ∧ Kept [p] w w') := by show _ = _; unfold dheardP; simp only [if_pos hF]
    rw [hF] at hfe
    clear hF
    go_wp2_with (first | ((with_reducible refine wl_load_bx HB2.out HTe.out ?_ ?_); rfl) | ((with_reducible refine wl_store_bx HR2.out HLe.out HOe.out HTe.out ?_ ?_ ?_); rfl; rfl; intro wz HBz HKz))
    refine bodyPost_ret (bx_result (by rfl) _ (by rfl) HBz.out HTe.out) rfl ?_
    rw [HPQ.out]
    exact ⟨.slice none 0 0, rfl, KoO.nil _ _, HA2.out.kept HKz.out (by simp; omega) (by simp; omega), HK2.out.trans HKz.out (by simp)⟩
  · have HPQ : Hid (dheardP B p w ⟨12, 0, 0, [], 0, [], xm⟩ sF = fun r w' => ∃ v, r = .returned (.agg (vtL vt0 v).toArray) ∧ KoO w.heap.size w' v vt0.k ∧ AtR B p w' sF ∧ Kept [p] w w') := by show _ = _; unfold dheardP; simp only [if_neg hF]
    have hfb : (sF.2 != 0) = true := by simpa using hF
    have hfc : (sF.2 == 0) = false := by simpa using hF
    clear hF
    go_wp2_with ((with_reducible refine wl_store_bx HR2.out HLz.out HOz.out HTz.out ?_ ?_ ?_); rfl; rfl; intro wz HBz HKz)
    refine bodyPost_ret (bx_result (by rfl) _ (by rfl) HBz.out HTz.out) rfl ?_
    rw [HPQ.out]
    exact ⟨.slice none 0 0, rfl, KoO.nil _ _, HA2.out.kept HKz.out (by simp; omega) (by simp; omega), HK2.out.trans HKz.out (by simp)⟩

set_option maxHeartbeats 8000000 in
set_option maxRecDepth 100000 in
theorem dheard_13 (B p : Nat) (w : World) (s s1 sF : St) (xm : Int) (e1 : eyeP.num s 0 = (13, s1)) (e_m : eyeP.num s1 0 = (xm, sF)) (hA : AtR B p w s) : Calls Try.prog 40 #[.pointer (some ⟨p, 0, none⟩)] w (dheardP B p w ⟨13, 0, 0, [], 0, [], xm⟩ sF) := by
  have hlt := hA.lt
  obtain ⟨W, hW⟩ : ∃ W, W = w.alloc (.cells #[.int .i64 0, .int .i64 0, .int .i64 0, .string ⟨#[]⟩, .int .u64 0, .slice none 0 0, .int .i64 0] 43) := ⟨_, rfl⟩
  have HW := hide hW
  have k0 : Kept [] w W := by rw [hW]; exact (Kept.refl _ _).alloc _
  have HR : Hid (Bx W w.heap.size 43 zvt) := by rw [hW]; exact Bx.new w _ zvt
  have hsz : w.heap.size < W.heap.size := HR.out.lt
  have cN := dr_num B p W s (hA.kept k0 (by simp) (by simp))
  rw [e1] at cN
  have CN := hide cN
  have HK0 := hide k0
  have HLc : Hid (([.int .i64 13, .int .i64 0, .int .i64 0, .string ⟨#[]⟩, .int .u64 0, .slice none 0 0, .int .i64 0] : List Value).length = zvt.length) := rfl
  have HOc : Hid (∀ z ∈ ([.int .i64 13, .int .i64 0, .int .i64 0, .string ⟨#[]⟩, .int .u64 0, .slice none 0 0, .int .i64 0] : List Value), z.oneCell' = true) := by intro z hv; simp at hv; rcases hv with rfl | rfl | rfl | rfl | rfl | rfl | rfl <;> rfl
  have HTc : Hid (RowT Try.prog 43 ([.int .i64 13, .int .i64 0, .int .i64 0, .string ⟨#[]⟩, .int .u64 0, .slice none 0 0, .int .i64 0] : List Value).length) := rowT_ver
  clear hW k0 cN hA e1
  go_enter Try.func40, Try.ntmps40
  go_upto_region 1 with fail
  rw [← HW.out]
  go_upto_region 2 with (first | (go_at_call 63; refine CN.out.mono ?_; clear CN; rintro _ wa ⟨rfl, hA1, hk1⟩; have HAa := hide hA1; have HKa := hide hk1; have HZ : Hid (Bx (wa.alloc (.cells #[.int .i64 0, .int .i64 0, .int .i64 0, .string ⟨#[]⟩, .int .u64 0, .slice none 0 0, .int .i64 0] 43)) wa.heap.size 43 zvt) := (Bx.new wa _ zvt); clear hA1 hk1) | ((with_reducible refine wl_store_bx HZ.out HLc.out HOc.out HTc.out ?_ ?_ ?_); rfl; rfl; intro w1 HB1 HKx))
  have hza := HKa.out.size
  have k1 : Kept [] wa w1 := (Kept.refl [] wa).trans (((Kept.refl [wa.heap.size] wa).alloc _).trans HKx.out (by simp)) (by intro i hi; simp at hi; right; omega)
  obtain ⟨bx, hbx⟩ : ∃ bx, bx = wa.heap.size := ⟨_, rfl⟩
  rw [← hbx] at HB1 ⊢
  have hb1 : w.heap.size < bx := by omega
  have HA1 := hide (HAa.out.kept k1 (by simp) (by simp))
  have HR1 := hide ((HR.out.kept HKa.out (by simp; omega)).kept k1 (by simp))
  have HK1 : Hid (Kept [p] w w1) := ((HK0.out.mono (by simp)).trans HKa.out (by simp)).trans k1 (by simp)
  clear k1 HKx HZ hbx HAa HKa HLc HOc
  have hc0 : w1.cell? ⟨bx, 0, none⟩ = some (.int .i64 13) := HB1.out.cell 0 rfl
  go_upto_region 25 with fail
  clear hc0
  have fj : Hid (∀ W2, Kept [p] w1 W2 → W2.cell? ⟨bx, 6, none⟩ = some (.int .i64 0) ∧ W2.frozen? ⟨bx, 6, none⟩ = false) := fun W2 k => by
    have h := HB1.out.kept k (by simp; omega)
    exact ⟨h.cell 6 rfl, h.froz 6⟩
  have cj := dr_num B p w1 s1 HA1.out
  rw [e_m] at cj
  have CJ := hide cj
  clear cj
  go_upto_region 26 with (go_at_call 63; refine CJ.out.mono ?_; clear CJ; rintro _ wm2 ⟨rfl, hA, hk⟩; have HAm := hide hA; have HKm := hide hk; obtain ⟨sc, sf⟩ := fj.out _ hk; clear hA hk fj)
  obtain ⟨w2, hw⟩ : ∃ w2, w2 = wm2.setCell ⟨bx, 6, none⟩ (.int .i64 xm) := ⟨_, rfl⟩
  rw [← hw]
  have HB2 : Hid (Bx w2 bx 43 [.int .i64 13, .int .i64 0, .int .i64 0, .string ⟨#[]⟩, .int .u64 0, .slice none 0 0, .int .i64 xm]) := by rw [hw]; exact (HB1.out.kept HKm.out (by simp; omega)).set 6 _
  have kc : Kept [bx] wm2 w2 := by rw [hw]; exact kept_set wm2 bx 6 _
  have HA2 := hide (HAm.out.kept kc (by simp; omega) (by simp; omega))
  have HR2 := hide ((HR1.out.kept HKm.out (by simp; omega)).kept kc (by simp; omega))
  have HK2 : Hid (Kept [p] w w2) := (HK1.out.trans HKm.out (by simp)).trans kc (by simp; omega)
  clear hw kc sc sf HKm HAm
  have hfe := HA2.out.fail
  have HTe : Hid (RowT Try.prog 43 ([.int .i64 13, .int .i64 0, .int .i64 0, .string ⟨#[]⟩, .int .u64 0, .slice none 0 0, .int .i64 xm] : List Value).length) := rowT_ver
  have HLe : Hid (([.int .i64 13, .int .i64 0, .int .i64 0, .string ⟨#[]⟩, .int .u64 0, .slice none 0 0, .int .i64 xm] : List Value).length = zvt.length) := rfl
  have HOe : Hid (∀ z ∈ ([.int .i64 13, .int .i64 0, .int .i64 0, .string ⟨#[]⟩, .int .u64 0, .slice none 0 0, .int .i64 xm] : List Value), z.oneCell' = true) := by intro z hv; simp at hv; rcases hv with rfl | rfl | rfl | rfl | rfl | rfl | rfl <;> rfl
  have HLz : Hid ((zvt : List Value).length = zvt.length) := rfl
  have HOz : Hid (∀ z ∈ (zvt : List Value), z.oneCell' = true) := by intro z hv; simp [zvt] at hv; rcases hv with rfl | rfl | rfl | rfl | rfl | rfl | rfl <;> rfl
  have HTz : Hid (RowT Try.prog 43 (zvt : List Value).length) := rowT_ver
  by_cases hF : sF.2 = 0
  · have HPQ : Hid (dheardP B p w ⟨13, 0, 0, [], 0, [], xm⟩ sF = fun r w' => ∃ v, r = .returned (.agg (vtL ⟨13, 0, 0, [], 0, [], xm⟩ v).toArray) ∧ KoO w.heap.size w' v (⟨13, 0, 0, [], 0, [], xm⟩ : Vt).k ∧ AtR B p w' sF ∧ Kept [p] w w') := by show _ = _; unfold dheardP; simp only [if_pos hF]
    rw [hF] at hfe
    clear hF
    go_wp2_with (first | ((with_reducible refine wl_load_bx HB2.out HTe.out ?_ ?_); rfl) | ((with_reducible refine wl_store_bx HR2.out HLe.out HOe.out HTe.out ?_ ?_ ?_); rfl; rfl; intro wz HBz HKz))
    refine bodyPost_ret (bx_result (by rfl) _ (by rfl) HBz.out HTe.out) rfl ?_
    rw [HPQ.out]
    exact ⟨.slice none 0 0, rfl, KoO.nil _ _, HA2.out.kept HKz.out (by simp; omega) (by simp; omega), HK2.out.trans HKz.out (by simp)⟩
  · have HPQ : Hid (dheardP B p w ⟨13, 0, 0, [], 0, [], xm⟩ sF = fun r w' => ∃ v, r = .returned (.agg (vtL vt0 v).toArray) ∧ KoO w.heap.size w' v vt0.k ∧ AtR B p w' sF ∧ Kept [p] w w') := by show _ = _; unfold dheardP; simp only [if_neg hF]
    have hfb : (sF.2 != 0) = true := by simpa using hF
    have hfc : (sF.2 == 0) = false := by simpa using hF
    clear hF
    go_wp2_with ((with_reducible refine wl_store_bx HR2.out HLz.out HOz.out HTz.out ?_ ?_ ?_); rfl; rfl; intro wz HBz HKz)
    refine bodyPost_ret (bx_result (by rfl) _ (by rfl) HBz.out HTz.out) rfl ?_
    rw [HPQ.out]
    exact ⟨.slice none 0 0, rfl, KoO.nil _ _, HA2.out.kept HKz.out (by simp; omega) (by simp; omega), HK2.out.trans HKz.out (by simp)⟩

set_option maxHeartbeats 8000000 in
set_option maxRecDepth 100000 in
theorem dheard_14 (B p : Nat) (w : World) (s s1 sF : St) (xm : Int) (e1 : eyeP.num s 0 = (14, s1)) (e_m : eyeP.num s1 0 = (xm, sF)) (hA : AtR B p w s) : Calls Try.prog 40 #[.pointer (some ⟨p, 0, none⟩)] w (dheardP B p w ⟨14, 0, 0, [], 0, [], xm⟩ sF) := by
  have hlt := hA.lt
  obtain ⟨W, hW⟩ : ∃ W, W = w.alloc (.cells #[.int .i64 0, .int .i64 0, .int .i64 0, .string ⟨#[]⟩, .int .u64 0, .slice none 0 0, .int .i64 0] 43) := ⟨_, rfl⟩
  have HW := hide hW
  have k0 : Kept [] w W := by rw [hW]; exact (Kept.refl _ _).alloc _
  have HR : Hid (Bx W w.heap.size 43 zvt) := by rw [hW]; exact Bx.new w _ zvt
  have hsz : w.heap.size < W.heap.size := HR.out.lt
  have cN := dr_num B p W s (hA.kept k0 (by simp) (by simp))
  rw [e1] at cN
  have CN := hide cN
  have HK0 := hide k0
  have HLc : Hid (([.int .i64 14, .int .i64 0, .int .i64 0, .string ⟨#[]⟩, .int .u64 0, .slice none 0 0, .int .i64 0] : List Value).length = zvt.length) := rfl
  have HOc : Hid (∀ z ∈ ([.int .i64 14, .int .i64 0, .int .i64 0, .string ⟨#[]⟩, .int .u64 0, .slice none 0 0, .int .i64 0] : List Value), z.oneCell' = true) := by intro z hv; simp at hv; rcases hv with rfl | rfl | rfl | rfl | rfl | rfl | rfl <;> rfl
  have HTc : Hid (RowT Try.prog 43 ([.int .i64 14, .int .i64 0, .int .i64 0, .string ⟨#[]⟩, .int .u64 0, .slice none 0 0, .int .i64 0] : List Value).length) := rowT_ver
  clear hW k0 cN hA e1
  go_enter Try.func40, Try.ntmps40
  go_upto_region 1 with fail
  rw [← HW.out]
  go_upto_region 2 with (first | (go_at_call 63; refine CN.out.mono ?_; clear CN; rintro _ wa ⟨rfl, hA1, hk1⟩; have HAa := hide hA1; have HKa := hide hk1; have HZ : Hid (Bx (wa.alloc (.cells #[.int .i64 0, .int .i64 0, .int .i64 0, .string ⟨#[]⟩, .int .u64 0, .slice none 0 0, .int .i64 0] 43)) wa.heap.size 43 zvt) := (Bx.new wa _ zvt); clear hA1 hk1) | ((with_reducible refine wl_store_bx HZ.out HLc.out HOc.out HTc.out ?_ ?_ ?_); rfl; rfl; intro w1 HB1 HKx))
  have hza := HKa.out.size
  have k1 : Kept [] wa w1 := (Kept.refl [] wa).trans (((Kept.refl [wa.heap.size] wa).alloc _).trans HKx.out (by simp)) (by intro i hi; simp at hi; right; omega)
  obtain ⟨bx, hbx⟩ : ∃ bx, bx = wa.heap.size := ⟨_, rfl⟩
  rw [← hbx] at HB1 ⊢
  have hb1 : w.heap.size < bx := by omega
  have HA1 := hide (HAa.out.kept k1 (by simp) (by simp))
  have HR1 := hide ((HR.out.kept HKa.out (by simp; omega)).kept k1 (by simp))
  have HK1 : Hid (Kept [p] w w1) := ((HK0.out.mono (by simp)).trans HKa.out (by simp)).trans k1 (by simp)
  clear k1 HKx HZ hbx HAa HKa HLc HOc
  have hc0 : w1.cell? ⟨bx, 0, none⟩ = some (.int .i64 14) := HB1.out.cell 0 rfl
  go_upto_region 25 with fail
  clear hc0
  have fj : Hid (∀ W2, Kept [p] w1 W2 → W2.cell? ⟨bx, 6, none⟩ = some (.int .i64 0) ∧ W2.frozen? ⟨bx, 6, none⟩ = false) := fun W2 k => by
    have h := HB1.out.kept k (by simp; omega)
    exact ⟨h.cell 6 rfl, h.froz 6⟩
  have cj := dr_num B p w1 s1 HA1.out
  rw [e_m] at cj
  have CJ := hide cj
  clear cj
  go_upto_region 26 with (go_at_call 63; refine CJ.out.mono ?_; clear CJ; rintro _ wm2 ⟨rfl, hA, hk⟩; have HAm := hide hA; have HKm := hide hk; obtain ⟨sc, sf⟩ := fj.out _ hk; clear hA hk fj)
  obtain ⟨w2, hw⟩ : ∃ w2, w2 = wm2.setCell ⟨bx, 6, none⟩ (.int .i64 xm) := ⟨_, rfl⟩
  rw [← hw]
  have HB2 : Hid (Bx w2 bx 43 [.int .i64 14, .int .i64 0, .int .i64 0, .string ⟨#[]⟩, .int .u64 0, .slice none 0 0, .int .i64 xm]) := by rw [hw]; exact (HB1.out.kept HKm.out (by simp; omega)).set 6 _
  have kc : Kept [bx] wm2 w2 := by rw [hw]; exact kept_set wm2 bx 6 _
  have HA2 := hide (HAm.out.kept kc (by simp; omega) (by simp; omega))
  have HR2 := hide ((HR1.out.kept HKm.out (by simp; omega)).kept kc (by simp; omega))
  have HK2 : Hid (Kept [p] w w2) := (HK1.out.trans HKm.out (by simp)).trans kc (by simp; omega)
  clear hw kc sc sf HKm HAm
  have hfe := HA2.out.fail
  have HTe : Hid (RowT Try.prog 43 ([.int .i64 14, .int .i64 0, .int .i64 0, .string ⟨#[]⟩, .int .u64 0, .slice none 0 0, .int .i64 xm] : List Value).length) := rowT_ver
  have HLe : Hid (([.int .i64 14, .int .i64 0, .int .i64 0, .string ⟨#[]⟩, .int .u64 0, .slice none 0 0, .int .i64 xm] : List Value).length = zvt.length) := rfl
  have HOe : Hid (∀ z ∈ ([.int .i64 14, .int .i64 0, .int .i64 0, .string ⟨#[]⟩, .int .u64 0, .slice none 0 0, .int .i64 xm] : List Value), z.oneCell' = true) := by intro z hv; simp at hv; rcases hv with rfl | rfl | rfl | rfl | rfl | rfl | rfl <;> rfl
  have HLz : Hid ((zvt : List Value).length = zvt.length) := rfl
  have HOz : Hid (∀ z ∈ (zvt : List Value), z.oneCell' = true) := by intro z hv; simp [zvt] at hv; rcases hv with rfl | rfl | rfl | rfl | rfl | rfl | rfl <;> rfl
  have HTz : Hid (RowT Try.prog 43 (zvt : List Value).length) := rowT_ver
  by_cases hF : sF.2 = 0
  · have HPQ : Hid (dheardP B p w ⟨14, 0, 0, [], 0, [], xm⟩ sF = fun r w' => ∃ v, r = .returned (.agg (vtL ⟨14, 0, 0, [], 0, [], xm⟩ v).toArray) ∧ KoO w.heap.size w' v (⟨14, 0, 0, [], 0, [], xm⟩ : Vt).k ∧ AtR B p w' sF ∧ Kept [p] w w') := by show _ = _; unfold dheardP; simp only [if_pos hF]
    rw [hF] at hfe
    clear hF
    go_wp2_with (first | ((with_reducible refine wl_load_bx HB2.out HTe.out ?_ ?_); rfl) | ((with_reducible refine wl_store_bx HR2.out HLe.out HOe.out HTe.out ?_ ?_ ?_); rfl; rfl; intro wz HBz HKz))
    refine bodyPost_ret (bx_result (by rfl) _ (by rfl) HBz.out HTe.out) rfl ?_
    rw [HPQ.out]
    exact ⟨.slice none 0 0, rfl, KoO.nil _ _, HA2.out.kept HKz.out (by simp; omega) (by simp; omega), HK2.out.trans HKz.out (by simp)⟩
  · have HPQ : Hid (dheardP B p w ⟨14, 0, 0, [], 0, [], xm⟩ sF = fun r w' => ∃ v, r = .returned (.agg (vtL vt0 v).toArray) ∧ KoO w.heap.size w' v vt0.k ∧ AtR B p w' sF ∧ Kept [p] w w') := by show _ = _; unfold dheardP; simp only [if_neg hF]
    have hfb : (sF.2 != 0) = true := by simpa using hF
    have hfc : (sF.2 == 0) = false := by simpa using hF
    clear hF
    go_wp2_with ((with_reducible refine wl_store_bx HR2.out HLz.out HOz.out HTz.out ?_ ?_ ?_); rfl; rfl; intro wz HBz HKz)
    refine bodyPost_ret (bx_result (by rfl) _ (by rfl) HBz.out HTz.out) rfl ?_
    rw [HPQ.out]
    exact ⟨.slice none 0 0, rfl, KoO.nil _ _, HA2.out.kept HKz.out (by simp; omega) (by simp; omega), HK2.out.trans HKz.out (by simp)⟩

set_option maxHeartbeats 8000000 in
set_option maxRecDepth 100000 in
theorem dheard_0 (B p : Nat) (w : World) (s s1 : St) (e1 : eyeP.num s 0 = (0, s1)) (hA : AtR B p w s) : Calls Try.prog 40 #[.pointer (some ⟨p, 0, none⟩)] w (dheardP B p w ⟨0, 0, 0, [], 0, [], 0⟩ s1) := by
  have hlt := hA.lt
  obtain ⟨W, hW⟩ : ∃ W, W = w.alloc (.cells #[.int .i64 0, .int .i64 0, .int .i64 0, .string ⟨#[]⟩, .int .u64 0, .slice none 0 0, .int .i64 0] 43) := ⟨_, rfl⟩
  have HW := hide hW
  have k0 : Kept [] w W := by rw [hW]; exact (Kept.refl _ _).alloc _
  have HR : Hid (Bx W w.heap.size 43 zvt) := by rw [hW]; exact Bx.new w _ zvt
  have hsz : w.heap.size < W.heap.size := HR.out.lt
  have cN := dr_num B p W s (hA.kept k0 (by simp) (by simp))
  rw [e1] at cN
  have CN := hide cN
  have HK0 := hide k0
  have HLc : Hid (([.int .i64 0, .int .i64 0, .int .i64 0, .string ⟨#[]⟩, .int .u64 0, .slice none 0 0, .int .i64 0] : List Value).length = zvt.length) := rfl
  have HOc : Hid (∀ z ∈ ([.int .i64 0, .int .i64 0, .int .i64 0, .string ⟨#[]⟩, .int .u64 0, .slice none 0 0, .int .i64 0] : List Value), z.oneCell' = true) := by intro z hv; simp at hv; rcases hv with rfl | rfl | rfl | rfl | rfl | rfl | rfl <;> rfl
  have HTc : Hid (RowT Try.prog 43 ([.int .i64 0, .int .i64 0, .int .i64 0, .string ⟨#[]⟩, .int .u64 0, .slice none 0 0, .int .i64 0] : List Value).length) := rowT_ver
  clear hW k0 cN hA e1
  go_enter Try.func40, Try.ntmps40
  go_upto_region 1 with fail
  rw [← HW.out]
  go_upto_region 2 with (first | (go_at_call 63; refine CN.out.mono ?_; clear CN; rintro _ wa ⟨rfl, hA1, hk1⟩; have HAa := hide hA1; have HKa := hide hk1; have HZ : Hid (Bx (wa.alloc (.cells #[.int .i64 0, .int .i64 0, .int .i64 0, .string ⟨#[]⟩, .int .u64 0, .slice none 0 0, .int .i64 0] 43)) wa.heap.size 43 zvt) := (Bx.new wa _ zvt); clear hA1 hk1) | ((with_reducible refine wl_store_bx HZ.out HLc.out HOc.out HTc.out ?_ ?_ ?_); rfl; rfl; intro w1 HB1 HKx))
  have hza := HKa.out.size
  have k1 : Kept [] wa w1 := (Kept.refl [] wa).trans (((Kept.refl [wa.heap.size] wa).alloc _).trans HKx.out (by simp)) (by intro i hi; simp at hi; right; omega)
  obtain ⟨bx, hbx⟩ : ∃ bx, bx = wa.heap.size := ⟨_, rfl⟩
  rw [← hbx] at HB1 ⊢
  have hb1 : w.heap.size < bx := by omega
  have HA1 := hide (HAa.out.kept k1 (by simp) (by simp))
  have HR1 := hide ((HR.out.kept HKa.out (by simp; omega)).kept k1 (by simp))
  have HK1 : Hid (Kept [p] w w1) := ((HK0.out.mono (by simp)).trans HKa.out (by simp)).trans k1 (by simp)
  clear k1 HKx HZ hbx HAa HKa HLc HOc
  have hc0 : w1.cell? ⟨bx, 0, none⟩ = some (.int .i64 0) := HB1.out.cell 0 rfl
  have hfe := HA1.out.fail
  have HTe : Hid (RowT Try.prog 43 ([.int .i64 0, .int .i64 0, .int .i64 0, .string ⟨#[]⟩, .int .u64 0, .slice none 0 0, .int .i64 0] : List Value).length) := rowT_ver
  have HLe : Hid (([.int .i64 0, .int .i64 0, .int .i64 0, .string ⟨#[]⟩, .int .u64 0, .slice none 0 0, .int .i64 0] : List Value).length = zvt.length) := rfl
  have HOe : Hid (∀ z ∈ ([.int .i64 0, .int .i64 0, .int .i64 0, .string ⟨#[]⟩, .int .u64 0, .slice none 0 0, .int .i64 0] : List Value), z.oneCell' = true) := by intro z hv; simp at hv; rcases hv with rfl | rfl | rfl | rfl | rfl | rfl | rfl <;> rfl
  have HLz : Hid ((zvt : List Value).length = zvt.length) := rfl
  have HOz : Hid (∀ z ∈ (zvt : List Value), z.oneCell' = true) := by intro z hv; simp [zvt] at hv; rcases hv with rfl | rfl | rfl | rfl | rfl | rfl | rfl <;> rfl
  have HTz : Hid (RowT Try.prog 43 (zvt : List Value).length) := rowT_ver
  by_cases hF : s1.2 = 0
  · have HPQ : Hid (dheardP B p w ⟨0, 0, 0, [], 0, [], 0⟩ s1 = fun r w' => ∃ v, r = .returned (.agg (vtL ⟨0, 0, 0, [], 0, [], 0⟩ v).toArray) ∧ KoO w.heap.size w' v (⟨0, 0, 0, [], 0, [], 0⟩ : Vt).k ∧ AtR B p w' s1 ∧ Kept [p] w w') := by show _ = _; unfold dheardP; simp only [if_pos hF]
    rw [hF] at hfe
    clear hF
    go_wp2_with (first | ((with_reducible refine wl_load_bx HB1.out HTe.out ?_ ?_); rfl) | ((with_reducible refine wl_store_bx HR1.out HLe.out HOe.out HTe.out ?_ ?_ ?_); rfl; rfl; intro wz HBz HKz))
    refine bodyPost_ret (bx_result (by rfl) _ (by rfl) HBz.out HTe.out) rfl ?_
    rw [HPQ.out]
    exact ⟨.slice none 0 0, rfl, KoO.nil _ _, HA1.out.kept HKz.out (by simp; omega) (by simp; omega), HK1.out.trans HKz.out (by simp)⟩
  · have HPQ : Hid (dheardP B p w ⟨0, 0, 0, [], 0, [], 0⟩ s1 = fun r w' => ∃ v, r = .returned (.agg (vtL vt0 v).toArray) ∧ KoO w.heap.size w' v vt0.k ∧ AtR B p w' s1 ∧ Kept [p] w w') := by show _ = _; unfold dheardP; simp only [if_neg hF]
    have hfb : (s1.2 != 0) = true := by simpa using hF
    have hfc : (s1.2 == 0) = false := by simpa using hF
    clear hF
    go_wp2_with ((with_reducible refine wl_store_bx HR1.out HLz.out HOz.out HTz.out ?_ ?_ ?_); rfl; rfl; intro wz HBz HKz)
    refine bodyPost_ret (bx_result (by rfl) _ (by rfl) HBz.out HTz.out) rfl ?_
    rw [HPQ.out]
    exact ⟨.slice none 0 0, rfl, KoO.nil _ _, HA1.out.kept HKz.out (by simp; omega) (by simp; omega), HK1.out.trans HKz.out (by simp)⟩

set_option maxHeartbeats 8000000 in
set_option maxRecDepth 100000 in
theorem dheard_5 (B p : Nat) (w : World) (s s1 : St) (e1 : eyeP.num s 0 = (5, s1)) (hA : AtR B p w s) : Calls Try.prog 40 #[.pointer (some ⟨p, 0, none⟩)] w (dheardP B p w ⟨5, 0, 0, [], 0, [], 0⟩ s1) := by
  have hlt := hA.lt
  obtain ⟨W, hW⟩ : ∃ W, W = w.alloc (.cells #[.int .i64 0, .int .i64 0, .int .i64 0, .string ⟨#[]⟩, .int .u64 0, .slice none 0 0, .int .i64 0] 43) := ⟨_, rfl⟩
  have HW := hide hW
  have k0 : Kept [] w W := by rw [hW]; exact (Kept.refl _ _).alloc _
  have HR : Hid (Bx W w.heap.size 43 zvt) := by rw [hW]; exact Bx.new w _ zvt
  have hsz : w.heap.size < W.heap.size := HR.out.lt
  have cN := dr_num B p W s (hA.kept k0 (by simp) (by simp))
  rw [e1] at cN
  have CN := hide cN
  have HK0 := hide k0
  have HLc : Hid (([.int .i64 5, .int .i64 0, .int .i64 0, .string ⟨#[]⟩, .int .u64 0, .slice none 0 0, .int .i64 0] : List Value).length = zvt.length) := rfl
  have HOc : Hid (∀ z ∈ ([.int .i64 5, .int .i64 0, .int .i64 0, .string ⟨#[]⟩, .int .u64 0, .slice none 0 0, .int .i64 0] : List Value), z.oneCell' = true) := by intro z hv; simp at hv; rcases hv with rfl | rfl | rfl | rfl | rfl | rfl | rfl <;> rfl
  have HTc : Hid (RowT Try.prog 43 ([.int .i64 5, .int .i64 0, .int .i64 0, .string ⟨#[]⟩, .int .u64 0, .slice none 0 0, .int .i64 0] : List Value).length) := rowT_ver
  clear hW k0 cN hA e1
  go_enter Try.func40, Try.ntmps40
  go_upto_region 1 with fail
  rw [← HW.out]
  go_upto_region 2 with (first | (go_at_call 63; refine CN.out.mono ?_; clear CN; rintro _ wa ⟨rfl, hA1, hk1⟩; have HAa := hide hA1; have HKa := hide hk1; have HZ : Hid (Bx (wa.alloc (.cells #[.int .i64 0, .int .i64 0, .int .i64 0, .string ⟨#[]⟩, .int .u64 0, .slice none 0 0, .int .i64 0] 43)) wa.heap.size 43 zvt) := (Bx.new wa _ zvt); clear hA1 hk1) | ((with_reducible refine wl_store_bx HZ.out HLc.out HOc.out HTc.out ?_ ?_ ?_); rfl; rfl; intro w1 HB1 HKx))
  have hza := HKa.out.size
  have k1 : Kept [] wa w1 := (Kept.refl [] wa).trans (((Kept.refl [wa.heap.size] wa).alloc _).trans HKx.out (by simp)) (by intro i hi; simp at hi; right; omega)
  obtain ⟨bx, hbx⟩ : ∃ bx, bx = wa.heap.size := ⟨_, rfl⟩
  rw [← hbx] at HB1 ⊢
  have hb1 : w.heap.size < bx := by omega
  have HA1 := hide (HAa.out.kept k1 (by simp) (by simp))
  have HR1 := hide ((HR.out.kept HKa.out (by simp; omega)).kept k1 (by simp))
  have HK1 : Hid (Kept [p] w w1) := ((HK0.out.mono (by simp)).trans HKa.out (by simp)).trans k1 (by simp)
  clear k1 HKx HZ hbx HAa HKa HLc HOc
  have hc0 : w1.cell? ⟨bx, 0, none⟩ = some (.int .i64 5) := HB1.out.cell 0 rfl
  have hfe := HA1.out.fail
  have HTe : Hid (RowT Try.prog 43 ([.int .i64 5, .int .i64 0, .int .i64 0, .string ⟨#[]⟩, .int .u64 0, .slice none 0 0, .int .i64 0] : List Value).length) := rowT_ver
  have HLe : Hid (([.int .i64 5, .int .i64 0, .int .i64 0, .string ⟨#[]⟩, .int .u64 0, .slice none 0 0, .int .i64 0] : List Value).length = zvt.length) := rfl
  have HOe : Hid (∀ z ∈ ([.int .i64 5, .int .i64 0, .int .i64 0, .string ⟨#[]⟩, .int .u64 0, .slice none 0 0, .int .i64 0] : List Value), z.oneCell' = true) := by intro z hv; simp at hv; rcases hv with rfl | rfl | rfl | rfl | rfl | rfl | rfl <;> rfl
  have HLz : Hid ((zvt : List Value).length = zvt.length) := rfl
  have HOz : Hid (∀ z ∈ (zvt : List Value), z.oneCell' = true) := by intro z hv; simp [zvt] at hv; rcases hv with rfl | rfl | rfl | rfl | rfl | rfl | rfl <;> rfl
  have HTz : Hid (RowT Try.prog 43 (zvt : List Value).length) := rowT_ver
  by_cases hF : s1.2 = 0
  · have HPQ : Hid (dheardP B p w ⟨5, 0, 0, [], 0, [], 0⟩ s1 = fun r w' => ∃ v, r = .returned (.agg (vtL ⟨5, 0, 0, [], 0, [], 0⟩ v).toArray) ∧ KoO w.heap.size w' v (⟨5, 0, 0, [], 0, [], 0⟩ : Vt).k ∧ AtR B p w' s1 ∧ Kept [p] w w') := by show _ = _; unfold dheardP; simp only [if_pos hF]
    rw [hF] at hfe
    clear hF
    go_wp2_with (first | ((with_reducible refine wl_load_bx HB1.out HTe.out ?_ ?_); rfl) | ((with_reducible refine wl_store_bx HR1.out HLe.out HOe.out HTe.out ?_ ?_ ?_); rfl; rfl; intro wz HBz HKz))
    refine bodyPost_ret (bx_result (by rfl) _ (by rfl) HBz.out HTe.out) rfl ?_
    rw [HPQ.out]
    exact ⟨.slice none 0 0, rfl, KoO.nil _ _, HA1.out.kept HKz.out (by simp; omega) (by simp; omega), HK1.out.trans HKz.out (by simp)⟩
  · have HPQ : Hid (dheardP B p w ⟨5, 0, 0, [], 0, [], 0⟩ s1 = fun r w' => ∃ v, r = .returned (.agg (vtL vt0 v).toArray) ∧ KoO w.heap.size w' v vt0.k ∧ AtR B p w' s1 ∧ Kept [p] w w') := by show _ = _; unfold dheardP; simp only [if_neg hF]
    have hfb : (s1.2 != 0) = true := by simpa using hF
    have hfc : (s1.2 == 0) = false := by simpa using hF
    clear hF
    go_wp2_with ((with_reducible refine wl_store_bx HR1.out HLz.out HOz.out HTz.out ?_ ?_ ?_); rfl; rfl; intro wz HBz HKz)
    refine bodyPost_ret (bx_result (by rfl) _ (by rfl) HBz.out HTz.out) rfl ?_
    rw [HPQ.out]
    exact ⟨.slice none 0 0, rfl, KoO.nil _ _, HA1.out.kept HKz.out (by simp; omega) (by simp; omega), HK1.out.trans HKz.out (by simp)⟩

set_option maxHeartbeats 8000000 in
set_option maxRecDepth 100000 in
theorem dheard_6 (B p : Nat) (w : World) (s s1 : St) (e1 : eyeP.num s 0 = (6, s1)) (hA : AtR B p w s) : Calls Try.prog 40 #[.pointer (some ⟨p, 0, none⟩)] w (dheardP B p w ⟨6, 0, 0, [], 0, [], 0⟩ s1) := by
  have hlt := hA.lt
  obtain ⟨W, hW⟩ : ∃ W, W = w.alloc (.cells #[.int .i64 0, .int .i64 0, .int .i64 0, .string ⟨#[]⟩, .int .u64 0, .slice none 0 0, .int .i64 0] 43) := ⟨_, rfl⟩
  have HW := hide hW
  have k0 : Kept [] w W := by rw [hW]; exact (Kept.refl _ _).alloc _
  have HR : Hid (Bx W w.heap.size 43 zvt) := by rw [hW]; exact Bx.new w _ zvt
  have hsz : w.heap.size < W.heap.size := HR.out.lt
  have cN := dr_num B p W s (hA.kept k0 (by simp) (by simp))
  rw [e1] at cN
  have CN := hide cN
  have HK0 := hide k0
  have HLc : Hid (([.int .i64 6, .int .i64 0, .int .i64 0, .string ⟨#[]⟩, .int .u64 0, .slice none 0 0, .int .i64 0] : List Value).length = zvt.length) := rfl
  have HOc : Hid (∀ z ∈ ([.int .i64 6, .int .i64 0, .int .i64 0, .string ⟨#[]⟩, .int .u64 0, .slice none 0 0, .int .i64 0] : List Value), z.oneCell' = true) := by intro z hv; simp at hv; rcases hv with rfl | rfl | rfl | rfl | rfl | rfl | rfl <;> rfl
  have HTc : Hid (RowT Try.prog 43 ([.int .i64 6, .int .i64 0, .int .i64 0, .string ⟨#[]⟩, .int .u64 0, .slice none 0 0, .int .i64 0] : List Value).length) := rowT_ver
  clear hW k0 cN hA e1
  go_enter Try.func40, Try.ntmps40
  go_upto_region 1 with fail
  rw [← HW.out]
  go_upto_region 2 with (first | (go_at_call 63; refine CN.out.mono ?_; clear CN; rintro _ wa ⟨rfl, hA1, hk1⟩; have HAa := hide hA1; have HKa := hide hk1; have HZ : Hid (Bx (wa.alloc (.cells #[.int .i64 0, .int .i64 0, .int .i64 0, .string ⟨#[]⟩, .int .u64 0, .slice none 0 0, .int .i64 0] 43)) wa.heap.size 43 zvt) := (Bx.new wa _ zvt); clear hA1 hk1) | ((with_reducible refine wl_store_bx HZ.out HLc.out HOc.out HTc.out ?_ ?_ ?_); rfl; rfl; intro w1 HB1 HKx))
  have hza := HKa.out.size
  have k1 : Kept [] wa w1 := (Kept.refl [] wa).trans (((Kept.refl [wa.heap.size] wa).alloc _).trans HKx.out (by simp)) (by intro i hi; simp at hi; right; omega)
  obtain ⟨bx, hbx⟩ : ∃ bx, bx = wa.heap.size := ⟨_, rfl⟩
  rw [← hbx] at HB1 ⊢
  have hb1 : w.heap.size < bx := by omega
  have HA1 := hide (HAa.out.kept k1 (by simp) (by simp))
  have HR1 := hide ((HR.out.kept HKa.out (by simp; omega)).kept k1 (by simp))
  have HK1 : Hid (Kept [p] w w1) := ((HK0.out.mono (by simp)).trans HKa.out (by simp)).trans k1 (by simp)
  clear k1 HKx HZ hbx HAa HKa HLc HOc
  have hc0 : w1.cell? ⟨bx, 0, none⟩ = some (.int .i64 6) := HB1.out.cell 0 rfl
  have hfe := HA1.out.fail
  have HTe : Hid (RowT Try.prog 43 ([.int .i64 6, .int .i64 0, .int .i64 0, .string ⟨#[]⟩, .int .u64 0, .slice none 0 0, .int .i64 0] : List Value).length) := rowT_ver
  have HLe : Hid (([.int .i64 6, .int .i64 0, .int .i64 0, .string ⟨#[]⟩, .int .u64 0, .slice none 0 0, .int .i64 0] : List Value).length = zvt.length) := rfl
  have HOe : Hid (∀ z ∈ ([.int .i64 6, .int .i64 0, .int .i64 0, .string ⟨#[]⟩, .int .u64 0, .slice none 0 0, .int .i64 0] : List Value), z.oneCell' = true) := by intro z hv; simp at hv; rcases hv with rfl | rfl | rfl | rfl | rfl | rfl | rfl <;> rfl
  have HLz : Hid ((zvt : List Value).length = zvt.length) := rfl
  have HOz : Hid (∀ z ∈ (zvt : List Value), z.oneCell' = true) := by intro z hv; simp [zvt] at hv; rcases hv with rfl | rfl | rfl | rfl | rfl | rfl | rfl <;> rfl
  have HTz : Hid (RowT Try.prog 43 (zvt : List Value).length) := rowT_ver
  by_cases hF : s1.2 = 0
  · have HPQ : Hid (dheardP B p w ⟨6, 0, 0, [], 0, [], 0⟩ s1 = fun r w' => ∃ v, r = .returned (.agg (vtL ⟨6, 0, 0, [], 0, [], 0⟩ v).toArray) ∧ KoO w.heap.size w' v (⟨6, 0, 0, [], 0, [], 0⟩ : Vt).k ∧ AtR B p w' s1 ∧ Kept [p] w w') := by show _ = _; unfold dheardP; simp only [if_pos hF]
    rw [hF] at hfe
    clear hF
    go_wp2_with (first | ((with_reducible refine wl_load_bx HB1.out HTe.out ?_ ?_); rfl) | ((with_reducible refine wl_store_bx HR1.out HLe.out HOe.out HTe.out ?_ ?_ ?_); rfl; rfl; intro wz HBz HKz))
    refine bodyPost_ret (bx_result (by rfl) _ (by rfl) HBz.out HTe.out) rfl ?_
    rw [HPQ.out]
    exact ⟨.slice none 0 0, rfl, KoO.nil _ _, HA1.out.kept HKz.out (by simp; omega) (by simp; omega), HK1.out.trans HKz.out (by simp)⟩
  · have HPQ : Hid (dheardP B p w ⟨6, 0, 0, [], 0, [], 0⟩ s1 = fun r w' => ∃ v, r = .returned (.agg (vtL vt0 v).toArray) ∧ KoO w.heap.size w' v vt0.k ∧ AtR B p w' s1 ∧ Kept [p] w w') := by show _ = _; unfold dheardP; simp only [if_neg hF]
    have hfb : (s1.2 != 0) = true := by simpa using hF
    have hfc : (s1.2 == 0) = false := by simpa using hF
    clear hF
    go_wp2_with ((with_reducible refine wl_store_bx HR1.out HLz.out HOz.out HTz.out ?_ ?_ ?_); rfl; rfl; intro wz HBz HKz)
    refine bodyPost_ret (bx_result (by rfl) _ (by rfl) HBz.out HTz.out) rfl ?_
    rw [HPQ.out]
    exact ⟨.slice none 0 0, rfl, KoO.nil _ _, HA1.out.kept HKz.out (by simp; omega) (by simp; omega), HK1.out.trans HKz.out (by simp)⟩

set_option maxHeartbeats 8000000 in
set_option maxRecDepth 100000 in
theorem dheard_7 (B p : Nat) (w : World) (s s1 : St) (e1 : eyeP.num s 0 = (7, s1)) (hA : AtR B p w s) : Calls Try.prog 40 #[.pointer (some ⟨p, 0, none⟩)] w (dheardP B p w ⟨7, 0, 0, [], 0, [], 0⟩ s1) := by
  have hlt := hA.lt
  obtain ⟨W, hW⟩ : ∃ W, W = w.alloc (.cells #[.int .i64 0, .int .i64 0, .int .i64 0, .string ⟨#[]⟩, .int .u64 0, .slice none 0 0, .int .i64 0] 43) := ⟨_, rfl⟩
  have HW := hide hW
  have k0 : Kept [] w W := by rw [hW]; exact (Kept.refl _ _).alloc _
  have HR : Hid (Bx W w.heap.size 43 zvt) := by rw [hW]; exact Bx.new w _ zvt
  have hsz : w.heap.size < W.heap.size := HR.out.lt
  have cN := dr_num B p W s (hA.kept k0 (by simp) (by simp))
  rw [e1] at cN
  have CN := hide cN
  have HK0 := hide k0
  have HLc : Hid (([.int .i64 7, .int .i64 0, .int .i64 0, .string ⟨#[]⟩, .int .u64 0, .slice none 0 0, .int .i64 0] : List Value).length = zvt.length) := rfl
  have HOc : Hid (∀ z ∈ ([.int .i64 7, .int .i64 0, .int .i64 0, .string ⟨#[]⟩, .int .u64 0, .slice none 0 0, .int .i64 0] : List Value), z.oneCell' = true) := by intro z hv; simp at hv; rcases hv with rfl | rfl | rfl | rfl | rfl | rfl | rfl <;> rfl
  have HTc : Hid (RowT Try.prog 43 ([.int .i64 7, .int .i64 0, .int .i64 0, .string ⟨#[]⟩, .int .u64 0, .slice none 0 0, .int .i64 0] : List Value).length) := rowT_ver
  clear hW k0 cN hA e1
  go_enter Try.func40, Try.ntmps40
  go_upto_region 1 with fail
  rw [← HW.out]
  go_upto_region 2 with (first | (go_at_call 63; refine CN.out.mono ?_; clear CN; rintro _ wa ⟨rfl, hA1, hk1⟩; have HAa := hide hA1; have HKa := hide hk1; have HZ : Hid (Bx (wa.alloc (.cells #[.int .i64 0, .int .i64 0, .int .i64 0, .string ⟨#[]⟩, .int .u64 0, .slice none 0 0, .int .i64 0] 43)) wa.heap.size 43 zvt) := (Bx.new wa _ zvt); clear hA1 hk1) | ((with_reducible refine wl_store_bx HZ.out HLc.out HOc.out HTc.out ?_ ?_ ?_); rfl; rfl; intro w1 HB1 HKx))
  have hza := HKa.out.size
  have k1 : Kept [] wa w1 := (Kept.refl [] wa).trans (((Kept.refl [wa.heap.size] wa).alloc _).trans HKx.out (by simp)) (by intro i hi; simp at hi; right; omega)
  obtain ⟨bx, hbx⟩ : ∃ bx, bx = wa.heap.size := ⟨_, rfl⟩
  rw [← hbx] at HB1 ⊢
  have hb1 : w.heap.size < bx := by omega
  have HA1 := hide (HAa.out.kept k1 (by simp) (by simp))
  have HR1 := hide ((HR.out.kept HKa.out (by simp; omega)).kept k1 (by simp))
  have HK1 : Hid (Kept [p] w w1) := ((HK0.out.mono (by simp)).trans HKa.out (by simp)).trans k1 (by simp)
  clear k1 HKx HZ hbx HAa HKa HLc HOc
  have hc0 : w1.cell? ⟨bx, 0, none⟩ = some (.int .i64 7) := HB1.out.cell 0 rfl
  have hfe := HA1.out.fail
  have HTe : Hid (RowT Try.prog 43 ([.int .i64 7, .int .i64 0, .int .i64 0, .string ⟨#[]⟩, .int .u64 0, .slice none 0 0, .int .i64 0] : List Value).length) := rowT_ver
  have HLe : Hid (([.int .i64 7, .int .i64 0, .int .i64 0, .string ⟨#[]⟩, .int .u64 0, .slice none 0 0, .int .i64 0] : List Value).length = zvt.length) := rfl
  have HOe : Hid (∀ z ∈ ([.int .i64 7, .int .i64 0, .int .i64 0, .string ⟨#[]⟩, .int .u64 0, .slice none 0 0, .int .i64 0] : List Value), z.oneCell' = true) := by intro z hv; simp at hv; rcases hv with rfl | rfl | rfl | rfl | rfl | rfl | rfl <;> rfl
  have HLz : Hid ((zvt : List Value).length = zvt.length) := rfl
  have HOz : Hid (∀ z ∈ (zvt : List Value), z.oneCell' = true) := by intro z hv; simp [zvt] at hv; rcases hv with rfl | rfl | rfl | rfl | rfl | rfl | rfl <;> rfl
  have HTz : Hid (RowT Try.prog 43 (zvt : List Value).length) := rowT_ver
  by_cases hF : s1.2 = 0
  · have HPQ : Hid (dheardP B p w ⟨7, 0, 0, [], 0, [], 0⟩ s1 = fun r w' => ∃ v, r = .returned (.agg (vtL ⟨7, 0, 0, [], 0, [], 0⟩ v).toArray) ∧ KoO w.heap.size w' v (⟨7, 0, 0, [], 0, [], 0⟩ : Vt).k ∧ AtR B p w' s1 ∧ Kept [p] w w') := by show _ = _; unfold dheardP; simp only [if_pos hF]
    rw [hF] at hfe
    clear hF
    go_wp2_with (first | ((with_reducible refine wl_load_bx HB1.out HTe.out ?_ ?_); rfl) | ((with_reducible refine wl_store_bx HR1.out HLe.out HOe.out HTe.out ?_ ?_ ?_); rfl; rfl; intro wz HBz HKz))
    refine bodyPost_ret (bx_result (by rfl) _ (by rfl) HBz.out HTe.out) rfl ?_
    rw [HPQ.out]
    exact ⟨.slice none 0 0, rfl, KoO.nil _ _, HA1.out.kept HKz.out (by simp; omega) (by simp; omega), HK1.out.trans HKz.out (by simp)⟩
  · have HPQ : Hid (dheardP B p w ⟨7, 0, 0, [], 0, [], 0⟩ s1 = fun r w' => ∃ v, r = .returned (.agg (vtL vt0 v).toArray) ∧ KoO w.heap.size w' v vt0.k ∧ AtR B p w' s1 ∧ Kept [p] w w') := by show _ = _; unfold dheardP; simp only [if_neg hF]
    have hfb : (s1.2 != 0) = true := by simpa using hF
    have hfc : (s1.2 == 0) = false := by simpa using hF
    clear hF
    go_wp2_with ((with_reducible refine wl_store_bx HR1.out HLz.out HOz.out HTz.out ?_ ?_ ?_); rfl; rfl; intro wz HBz HKz)
    refine bodyPost_ret (bx_result (by rfl) _ (by rfl) HBz.out HTz.out) rfl ?_
    rw [HPQ.out]
    exact ⟨.slice none 0 0, rfl, KoO.nil _ _, HA1.out.kept HKz.out (by simp; omega) (by simp; omega), HK1.out.trans HKz.out (by simp)⟩

end Go.Proofs.Ytlgacmmofimlmaa
