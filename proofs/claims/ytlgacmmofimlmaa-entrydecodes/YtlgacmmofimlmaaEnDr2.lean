/-
  The document's Take. (Written by mk/mkdtake.py.)
-/
import Derived.Test.YtlgacmmofimlmaaEnDr1
import Derived.Test.YtlgacmmofimlmaaF7
import Derived.Test.YtlgacmmofimlmaaF12
namespace Go.Proofs.Ytlgacmmofimlmaa
open Go.RowKit

/-- What is answered, and left. -/
def dtakeP (B p : Nat) (w : World) (q : Rq) (st : St) (r : Ending) (w' : World) : Prop := ∃ v, r = .returned (.agg (rqL (if st.2 = 0 then q else rq0) v).toArray) ∧ OwnC w.heap.size w' v (if st.2 = 0 then q else rq0).c ∧ AtR B p w' st ∧ Kept [p] w w'

set_option maxHeartbeats 8000000 in
set_option maxRecDepth 100000 in
theorem dtake_1 (B p : Nat) (w : World) (s s1 sF : St) (xn : List UInt8) (e1 : eyeP.num s 0 = (1, s1)) (h1 : s1.2 = 0) (e_n : eyeP.text s1 [] = (xn, sF)) (hA : AtR B p w s) : Calls Try.prog 36 #[.pointer (some ⟨p, 0, none⟩)] w (dtakeP B p w ⟨1, xn, 0, 0, 0, [], [], [], 0, 0, 0⟩ sF) := by
  have hlt := hA.lt
  obtain ⟨W, hW⟩ : ∃ W, W = w.alloc (.cells #[.int .i64 0, .string ⟨#[]⟩, .int .i64 0, .int .i64 0, .int .i64 0, .string ⟨#[]⟩, .slice none 0 0, .string ⟨#[]⟩, .int .i64 0, .int .i64 0, .int .i64 0] 29) := ⟨_, rfl⟩
  have HW := hide hW
  have k0 : Kept [] w W := by rw [hW]; exact (Kept.refl _ _).alloc _
  have HR : Hid (Bx W w.heap.size 29 zrq) := by rw [hW]; exact Bx.new w _ zrq
  have hsz : w.heap.size < W.heap.size := HR.out.lt
  have cN := dr_num B p W s (hA.kept k0 (by simp) (by simp))
  rw [e1] at cN
  have CN := hide cN
  have HK0 := hide k0
  have HLc : Hid (([.int .i64 1, .string ⟨#[]⟩, .int .i64 0, .int .i64 0, .int .i64 0, .string ⟨#[]⟩, .slice none 0 0, .string ⟨#[]⟩, .int .i64 0, .int .i64 0, .int .i64 0] : List Value).length = zrq.length) := rfl
  have HOc : Hid (∀ z ∈ ([.int .i64 1, .string ⟨#[]⟩, .int .i64 0, .int .i64 0, .int .i64 0, .string ⟨#[]⟩, .slice none 0 0, .string ⟨#[]⟩, .int .i64 0, .int .i64 0, .int .i64 0] : List Value), z.oneCell' = true) := by intro z hv; simp at hv; rcases hv with rfl | rfl | rfl | rfl | rfl | rfl | rfl | rfl | rfl | rfl | rfl <;> rfl
  have HTc : Hid (RowT Try.prog 29 ([.int .i64 1, .string ⟨#[]⟩, .int .i64 0, .int .i64 0, .int .i64 0, .string ⟨#[]⟩, .slice none 0 0, .string ⟨#[]⟩, .int .i64 0, .int .i64 0, .int .i64 0] : List Value).length) := rowT_req
  clear hW k0 cN hA e1
  go_enter Try.func36, Try.ntmps36
  go_upto_region 1 with fail
  rw [← HW.out]
  go_upto_region 2 with (first | (go_at_call 63; refine CN.out.mono ?_; clear CN; rintro _ wa ⟨rfl, hA1, hk1⟩; have HAa := hide hA1; have HKa := hide hk1; have HZ : Hid (Bx (wa.alloc (.cells #[.int .i64 0, .string ⟨#[]⟩, .int .i64 0, .int .i64 0, .int .i64 0, .string ⟨#[]⟩, .slice none 0 0, .string ⟨#[]⟩, .int .i64 0, .int .i64 0, .int .i64 0] 29)) wa.heap.size 29 zrq) := (Bx.new wa _ zrq); clear hA1 hk1) | ((with_reducible refine wl_store_bx HZ.out HLc.out HOc.out HTc.out ?_ ?_ ?_); rfl; rfl; intro w1 HB1 HKx))
  have hza := HKa.out.size
  have k1 : Kept [] wa w1 := (Kept.refl [] wa).trans (((Kept.refl [wa.heap.size] wa).alloc _).trans HKx.out (by simp)) (by intro i hi; simp at hi; right; omega)
  obtain ⟨bx, hbx⟩ : ∃ bx, bx = wa.heap.size := ⟨_, rfl⟩
  rw [← hbx] at HB1 ⊢
  have hb1 : w.heap.size < bx := by omega
  have HA1 := hide (HAa.out.kept k1 (by simp) (by simp))
  have HR1 := hide ((HR.out.kept HKa.out (by simp; omega)).kept k1 (by simp))
  have HK1 : Hid (Kept [p] w w1) := ((HK0.out.mono (by simp)).trans HKa.out (by simp)).trans k1 (by simp)
  clear k1 HKx HZ hbx HAa HKa HLc HOc
  have hf0 : w1.cell? ⟨p, 1, none⟩ = some (.int .i64 0) := by rw [← h1]; exact HA1.out.fail
  have hc0 : w1.cell? ⟨bx, 0, none⟩ = some (.int .i64 1) := HB1.out.cell 0 rfl
  go_upto_region 21 with fail
  clear hc0 hf0
  have fj : Hid (∀ W2, Kept [p] w1 W2 → W2.cell? ⟨bx, 1, none⟩ = some (.string ⟨#[]⟩) ∧ W2.frozen? ⟨bx, 1, none⟩ = false) := fun W2 k => by
    have h := HB1.out.kept k (by simp; omega)
    exact ⟨h.cell 1 rfl, h.froz 1⟩
  have cj := dr_text B p w1 s1 HA1.out
  rw [e_n] at cj
  have CJ := hide cj
  clear cj
  go_upto_region 22 with (go_at_call 65; refine CJ.out.mono ?_; clear CJ; rintro _ wm2 ⟨rfl, hA, hk⟩; have HAm := hide hA; have HKm := hide hk; obtain ⟨sc, sf⟩ := fj.out _ hk; clear hA hk fj)
  obtain ⟨w2, hw⟩ : ∃ w2, w2 = wm2.setCell ⟨bx, 1, none⟩ (.string (str xn)) := ⟨_, rfl⟩
  rw [← hw]
  have HB2 : Hid (Bx w2 bx 29 [.int .i64 1, .string (str xn), .int .i64 0, .int .i64 0, .int .i64 0, .string ⟨#[]⟩, .slice none 0 0, .string ⟨#[]⟩, .int .i64 0, .int .i64 0, .int .i64 0]) := by rw [hw]; exact (HB1.out.kept HKm.out (by simp; omega)).set 1 _
  have kc : Kept [bx] wm2 w2 := by rw [hw]; exact kept_set wm2 bx 1 _
  have HA2 := hide (HAm.out.kept kc (by simp; omega) (by simp; omega))
  have HR2 := hide ((HR1.out.kept HKm.out (by simp; omega)).kept kc (by simp; omega))
  have HK2 : Hid (Kept [p] w w2) := (HK1.out.trans HKm.out (by simp)).trans kc (by simp; omega)
  clear hw kc sc sf HKm HAm
  have hfe := HA2.out.fail
  have HTe : Hid (RowT Try.prog 29 ([.int .i64 1, .string (str xn), .int .i64 0, .int .i64 0, .int .i64 0, .string ⟨#[]⟩, .slice none 0 0, .string ⟨#[]⟩, .int .i64 0, .int .i64 0, .int .i64 0] : List Value).length) := rowT_req
  have HLe : Hid (([.int .i64 1, .string (str xn), .int .i64 0, .int .i64 0, .int .i64 0, .string ⟨#[]⟩, .slice none 0 0, .string ⟨#[]⟩, .int .i64 0, .int .i64 0, .int .i64 0] : List Value).length = zrq.length) := rfl
  have HOe : Hid (∀ z ∈ ([.int .i64 1, .string (str xn), .int .i64 0, .int .i64 0, .int .i64 0, .string ⟨#[]⟩, .slice none 0 0, .string ⟨#[]⟩, .int .i64 0, .int .i64 0, .int .i64 0] : List Value), z.oneCell' = true) := by intro z hv; simp at hv; rcases hv with rfl | rfl | rfl | rfl | rfl | rfl | rfl | rfl | rfl | rfl | rfl <;> rfl
  have HLz : Hid ((zrq : List Value).length = zrq.length) := rfl
  have HOz : Hid (∀ z ∈ (zrq : List Value), z.oneCell' = true) := by intro z hv; simp [zrq] at hv; rcases hv with rfl | rfl | rfl | rfl | rfl | rfl | rfl | rfl | rfl | rfl | rfl <;> rfl
  have HTz : Hid (RowT Try.prog 29 (zrq : List Value).length) := rowT_req
  by_cases hF : sF.2 = 0
  · have HPQ : Hid (dtakeP B p w ⟨1, xn, 0, 0, 0, [], [], [], 0, 0, 0⟩ sF = fun r w' => ∃ v, r = .returned (.agg (rqL ⟨1, xn, 0, 0, 0, [], [], [], 0, 0, 0⟩ v).toArray) ∧ OwnC w.heap.size w' v (⟨1, xn, 0, 0, 0, [], [], [], 0, 0, 0⟩ : Rq).c ∧ AtR B p w' sF ∧ Kept [p] w w') := by show _ = _; unfold dtakeP; simp only [if_pos hF]
    rw [hF] at hfe
    clear hF
    go_wp2_with (first | ((with_reducible refine wl_load_bx HB2.out HTe.out ?_ ?_); rfl) | ((with_reducible refine wl_store_bx HR2.out HLe.out HOe.out HTe.out ?_ ?_ ?_); rfl; rfl; intro wz HBz HKz))
    refine bodyPost_ret (bx_result (by rfl) _ (by rfl) HBz.out HTe.out) rfl ?_
    rw [HPQ.out]
    exact ⟨.slice none 0 0, rfl, OwnC.nil _ _, HA2.out.kept HKz.out (by simp; omega) (by simp; omega), HK2.out.trans HKz.out (by simp)⟩
  · have HPQ : Hid (dtakeP B p w ⟨1, xn, 0, 0, 0, [], [], [], 0, 0, 0⟩ sF = fun r w' => ∃ v, r = .returned (.agg (rqL rq0 v).toArray) ∧ OwnC w.heap.size w' v rq0.c ∧ AtR B p w' sF ∧ Kept [p] w w') := by show _ = _; unfold dtakeP; simp only [if_neg hF]
    have hfb : (sF.2 != 0) = true := by simpa using hF
    have hfc : (sF.2 == 0) = false := by simpa using hF
    clear hF
    go_wp2_with ((with_reducible refine wl_store_bx HR2.out HLz.out HOz.out HTz.out ?_ ?_ ?_); rfl; rfl; intro wz HBz HKz)
    refine bodyPost_ret (bx_result (by rfl) _ (by rfl) HBz.out HTz.out) rfl ?_
    rw [HPQ.out]
    exact ⟨.slice none 0 0, rfl, OwnC.nil _ _, HA2.out.kept HKz.out (by simp; omega) (by simp; omega), HK2.out.trans HKz.out (by simp)⟩

set_option maxHeartbeats 8000000 in
set_option maxRecDepth 100000 in
theorem dtake_2 (B p : Nat) (w : World) (s s1 s2 s3 s4 s5 sF : St) (xs : Int) (xq : Int) (xb : Int) (xf : List UInt8) (xc : List Ch) (e1 : eyeP.num s 0 = (2, s1)) (h1 : s1.2 = 0) (e_s : eyeP.num s1 0 = (xs, s2)) (e_q : eyeP.num s2 0 = (xq, s3)) (e_b : eyeP.num s3 0 = (xb, s4)) (e_f : eyeP.text s4 [] = (xf, s5)) (e_c : tkL chgR 64 s5 = (xc, sF)) (hA : AtR B p w s) : Calls Try.prog 36 #[.pointer (some ⟨p, 0, none⟩)] w (dtakeP B p w ⟨2, [], xs, xq, xb, xf, xc, [], 0, 0, 0⟩ sF) := by
  have hlt := hA.lt
  obtain ⟨W, hW⟩ : ∃ W, W = w.alloc (.cells #[.int .i64 0, .string ⟨#[]⟩, .int .i64 0, .int .i64 0, .int .i64 0, .string ⟨#[]⟩, .slice none 0 0, .string ⟨#[]⟩, .int .i64 0, .int .i64 0, .int .i64 0] 29) := ⟨_, rfl⟩
  have HW := hide hW
  have k0 : Kept [] w W := by rw [hW]; exact (Kept.refl _ _).alloc _
  have HR : Hid (Bx W w.heap.size 29 zrq) := by rw [hW]; exact Bx.new w _ zrq
  have hsz : w.heap.size < W.heap.size := HR.out.lt
  have cN := dr_num B p W s (hA.kept k0 (by simp) (by simp))
  rw [e1] at cN
  have CN := hide cN
  have HK0 := hide k0
  have HLc : Hid (([.int .i64 2, .string ⟨#[]⟩, .int .i64 0, .int .i64 0, .int .i64 0, .string ⟨#[]⟩, .slice none 0 0, .string ⟨#[]⟩, .int .i64 0, .int .i64 0, .int .i64 0] : List Value).length = zrq.length) := rfl
  have HOc : Hid (∀ z ∈ ([.int .i64 2, .string ⟨#[]⟩, .int .i64 0, .int .i64 0, .int .i64 0, .string ⟨#[]⟩, .slice none 0 0, .string ⟨#[]⟩, .int .i64 0, .int .i64 0, .int .i64 0] : List Value), z.oneCell' = true) := by intro z hv; simp at hv; rcases hv with rfl | rfl | rfl | rfl | rfl | rfl | rfl | rfl | rfl | rfl | rfl <;> rfl
  have HTc : Hid (RowT Try.prog 29 ([.int .i64 2, .string ⟨#[]⟩, .int .i64 0, .int .i64 0, .int .i64 0, .string ⟨#[]⟩, .slice none 0 0, .string ⟨#[]⟩, .int .i64 0, .int .i64 0, .int .i64 0] : List Value).length) := rowT_req
  clear hW k0 cN hA e1
  go_enter Try.func36, Try.ntmps36
  go_upto_region 1 with fail
  rw [← HW.out]
  go_upto_region 2 with (first | (go_at_call 63; refine CN.out.mono ?_; clear CN; rintro _ wa ⟨rfl, hA1, hk1⟩; have HAa := hide hA1; have HKa := hide hk1; have HZ : Hid (Bx (wa.alloc (.cells #[.int .i64 0, .string ⟨#[]⟩, .int .i64 0, .int .i64 0, .int .i64 0, .string ⟨#[]⟩, .slice none 0 0, .string ⟨#[]⟩, .int .i64 0, .int .i64 0, .int .i64 0] 29)) wa.heap.size 29 zrq) := (Bx.new wa _ zrq); clear hA1 hk1) | ((with_reducible refine wl_store_bx HZ.out HLc.out HOc.out HTc.out ?_ ?_ ?_); rfl; rfl; intro w1 HB1 HKx))
  have hza := HKa.out.size
  have k1 : Kept [] wa w1 := (Kept.refl [] wa).trans (((Kept.refl [wa.heap.size] wa).alloc _).trans HKx.out (by simp)) (by intro i hi; simp at hi; right; omega)
  obtain ⟨bx, hbx⟩ : ∃ bx, bx = wa.heap.size := ⟨_, rfl⟩
  rw [← hbx] at HB1 ⊢
  have hb1 : w.heap.size < bx := by omega
  have HA1 := hide (HAa.out.kept k1 (by simp) (by simp))
  have HR1 := hide ((HR.out.kept HKa.out (by simp; omega)).kept k1 (by simp))
  have HK1 : Hid (Kept [p] w w1) := ((HK0.out.mono (by simp)).trans HKa.out (by simp)).trans k1 (by simp)
  clear k1 HKx HZ hbx HAa HKa HLc HOc
  have hf0 : w1.cell? ⟨p, 1, none⟩ = some (.int .i64 0) := by rw [← h1]; exact HA1.out.fail
  have hc0 : w1.cell? ⟨bx, 0, none⟩ = some (.int .i64 2) := HB1.out.cell 0 rfl
  go_upto_region 4 with fail
  clear hc0 hf0
  have fj : Hid (∀ W2, Kept [p] w1 W2 → W2.cell? ⟨bx, 2, none⟩ = some (.int .i64 0) ∧ W2.frozen? ⟨bx, 2, none⟩ = false) := fun W2 k => by
    have h := HB1.out.kept k (by simp; omega)
    exact ⟨h.cell 2 rfl, h.froz 2⟩
  have cj := dr_num B p w1 s1 HA1.out
  rw [e_s] at cj
  have CJ := hide cj
  clear cj
  go_upto_region 5 with (go_at_call 63; refine CJ.out.mono ?_; clear CJ; rintro _ wm2 ⟨rfl, hA, hk⟩; have HAm := hide hA; have HKm := hide hk; obtain ⟨sc, sf⟩ := fj.out _ hk; clear hA hk fj)
  obtain ⟨w2, hw⟩ : ∃ w2, w2 = wm2.setCell ⟨bx, 2, none⟩ (.int .i64 xs) := ⟨_, rfl⟩
  rw [← hw]
  have HB2 : Hid (Bx w2 bx 29 [.int .i64 2, .string ⟨#[]⟩, .int .i64 xs, .int .i64 0, .int .i64 0, .string ⟨#[]⟩, .slice none 0 0, .string ⟨#[]⟩, .int .i64 0, .int .i64 0, .int .i64 0]) := by rw [hw]; exact (HB1.out.kept HKm.out (by simp; omega)).set 2 _
  have kc : Kept [bx] wm2 w2 := by rw [hw]; exact kept_set wm2 bx 2 _
  have HA2 := hide (HAm.out.kept kc (by simp; omega) (by simp; omega))
  have HR2 := hide ((HR1.out.kept HKm.out (by simp; omega)).kept kc (by simp; omega))
  have HK2 : Hid (Kept [p] w w2) := (HK1.out.trans HKm.out (by simp)).trans kc (by simp; omega)
  clear hw kc sc sf HKm HAm
  have fj : Hid (∀ W2, Kept [p] w2 W2 → W2.cell? ⟨bx, 3, none⟩ = some (.int .i64 0) ∧ W2.frozen? ⟨bx, 3, none⟩ = false) := fun W2 k => by
    have h := HB2.out.kept k (by simp; omega)
    exact ⟨h.cell 3 rfl, h.froz 3⟩
  have cj := dr_num B p w2 s2 HA2.out
  rw [e_q] at cj
  have CJ := hide cj
  clear cj
  go_upto_region 6 with (go_at_call 63; refine CJ.out.mono ?_; clear CJ; rintro _ wm3 ⟨rfl, hA, hk⟩; have HAm := hide hA; have HKm := hide hk; obtain ⟨sc, sf⟩ := fj.out _ hk; clear hA hk fj)
  obtain ⟨w3, hw⟩ : ∃ w3, w3 = wm3.setCell ⟨bx, 3, none⟩ (.int .i64 xq) := ⟨_, rfl⟩
  rw [← hw]
  have HB3 : Hid (Bx w3 bx 29 [.int .i64 2, .string ⟨#[]⟩, .int .i64 xs, .int .i64 xq, .int .i64 0, .string ⟨#[]⟩, .slice none 0 0, .string ⟨#[]⟩, .int .i64 0, .int .i64 0, .int .i64 0]) := by rw [hw]; exact (HB2.out.kept HKm.out (by simp; omega)).set 3 _
  have kc : Kept [bx] wm3 w3 := by rw [hw]; exact kept_set wm3 bx 3 _
  have HA3 := hide (HAm.out.kept kc (by simp; omega) (by simp; omega))
  have HR3 := hide ((HR2.out.kept HKm.out (by simp; omega)).kept kc (by simp; omega))
  have HK3 : Hid (Kept [p] w w3) := (HK2.out.trans HKm.out (by simp)).trans kc (by simp; omega)
  clear hw kc sc sf HKm HAm
  have hc0 : w3.cell? ⟨bx, 0, none⟩ = some (.int .i64 2) := HB3.out.cell 0 rfl
  go_upto_region 8 with fail
  clear hc0
  have fj : Hid (∀ W2, Kept [p] w3 W2 → W2.cell? ⟨bx, 4, none⟩ = some (.int .i64 0) ∧ W2.frozen? ⟨bx, 4, none⟩ = false) := fun W2 k => by
    have h := HB3.out.kept k (by simp; omega)
    exact ⟨h.cell 4 rfl, h.froz 4⟩
  have cj := dr_num B p w3 s3 HA3.out
  rw [e_b] at cj
  have CJ := hide cj
  clear cj
  go_upto_region 9 with (go_at_call 63; refine CJ.out.mono ?_; clear CJ; rintro _ wm4 ⟨rfl, hA, hk⟩; have HAm := hide hA; have HKm := hide hk; obtain ⟨sc, sf⟩ := fj.out _ hk; clear hA hk fj)
  obtain ⟨w4, hw⟩ : ∃ w4, w4 = wm4.setCell ⟨bx, 4, none⟩ (.int .i64 xb) := ⟨_, rfl⟩
  rw [← hw]
  have HB4 : Hid (Bx w4 bx 29 [.int .i64 2, .string ⟨#[]⟩, .int .i64 xs, .int .i64 xq, .int .i64 xb, .string ⟨#[]⟩, .slice none 0 0, .string ⟨#[]⟩, .int .i64 0, .int .i64 0, .int .i64 0]) := by rw [hw]; exact (HB3.out.kept HKm.out (by simp; omega)).set 4 _
  have kc : Kept [bx] wm4 w4 := by rw [hw]; exact kept_set wm4 bx 4 _
  have HA4 := hide (HAm.out.kept kc (by simp; omega) (by simp; omega))
  have HR4 := hide ((HR3.out.kept HKm.out (by simp; omega)).kept kc (by simp; omega))
  have HK4 : Hid (Kept [p] w w4) := (HK3.out.trans HKm.out (by simp)).trans kc (by simp; omega)
  clear hw kc sc sf HKm HAm
  have fj : Hid (∀ W2, Kept [p] w4 W2 → W2.cell? ⟨bx, 5, none⟩ = some (.string ⟨#[]⟩) ∧ W2.frozen? ⟨bx, 5, none⟩ = false) := fun W2 k => by
    have h := HB4.out.kept k (by simp; omega)
    exact ⟨h.cell 5 rfl, h.froz 5⟩
  have cj := dr_text B p w4 s4 HA4.out
  rw [e_f] at cj
  have CJ := hide cj
  clear cj
  go_upto_region 10 with (go_at_call 65; refine CJ.out.mono ?_; clear CJ; rintro _ wm5 ⟨rfl, hA, hk⟩; have HAm := hide hA; have HKm := hide hk; obtain ⟨sc, sf⟩ := fj.out _ hk; clear hA hk fj)
  obtain ⟨w5, hw⟩ : ∃ w5, w5 = wm5.setCell ⟨bx, 5, none⟩ (.string (str xf)) := ⟨_, rfl⟩
  rw [← hw]
  have HB5 : Hid (Bx w5 bx 29 [.int .i64 2, .string ⟨#[]⟩, .int .i64 xs, .int .i64 xq, .int .i64 xb, .string (str xf), .slice none 0 0, .string ⟨#[]⟩, .int .i64 0, .int .i64 0, .int .i64 0]) := by rw [hw]; exact (HB4.out.kept HKm.out (by simp; omega)).set 5 _
  have kc : Kept [bx] wm5 w5 := by rw [hw]; exact kept_set wm5 bx 5 _
  have HA5 := hide (HAm.out.kept kc (by simp; omega) (by simp; omega))
  have HR5 := hide ((HR4.out.kept HKm.out (by simp; omega)).kept kc (by simp; omega))
  have HK5 : Hid (Kept [p] w w5) := (HK4.out.trans HKm.out (by simp)).trans kc (by simp; omega)
  clear hw kc sc sf HKm HAm
  have fj : Hid (∀ W2, Kept [p] w5 W2 → W2.cell? ⟨bx, 6, none⟩ = some (.slice none 0 0) ∧ W2.frozen? ⟨bx, 6, none⟩ = false) := fun W2 k => by
    have h := HB5.out.kept k (by simp; omega)
    exact ⟨h.cell 6 rfl, h.froz 6⟩
  have cj := tkC_call B p w5 s5 HA5.out
  rw [e_c] at cj
  have CJ := hide cj
  clear cj
  go_upto_region 22 with (go_at_call 66; refine CJ.out.mono ?_; clear CJ; rintro _ wm6 ⟨lv, rfl, hO, hA, hk⟩; have HAm := hide hA; have HKm := hide hk; have HLv := hide hO; clear hO; obtain ⟨sc, sf⟩ := fj.out _ hk; clear hA hk fj; obtain ⟨lo, ln, lc, rfl⟩ := own_bare HLv.out)
  obtain ⟨w6, hw⟩ : ∃ w6, w6 = wm6.setCell ⟨bx, 6, none⟩ (.slice lo ln lc) := ⟨_, rfl⟩
  rw [← hw]
  have HB6 : Hid (Bx w6 bx 29 [.int .i64 2, .string ⟨#[]⟩, .int .i64 xs, .int .i64 xq, .int .i64 xb, .string (str xf), .slice lo ln lc, .string ⟨#[]⟩, .int .i64 0, .int .i64 0, .int .i64 0]) := by rw [hw]; exact (HB5.out.kept HKm.out (by simp; omega)).set 6 _
  have kc : Kept [bx] wm6 w6 := by rw [hw]; exact kept_set wm6 bx 6 _
  have HA6 := hide (HAm.out.kept kc (by simp; omega) (by simp; omega))
  have HR6 := hide ((HR5.out.kept HKm.out (by simp; omega)).kept kc (by simp; omega))
  have HK6 : Hid (Kept [p] w w6) := (HK5.out.trans HKm.out (by simp)).trans kc (by simp; omega)
  have hbl : bx < w5.heap.size := HB5.out.lt
  have HLx := hide ((show OwnC w5.heap.size w6 _ _ from kc.ownsRow HLv.out (fun i hi hm => by have := (World.ownsRow.lt HLv.out i hi).1; simp at hm; omega)))
  clear hw kc sc sf HKm HAm
  have hfe := HA6.out.fail
  have HTe : Hid (RowT Try.prog 29 ([.int .i64 2, .string ⟨#[]⟩, .int .i64 xs, .int .i64 xq, .int .i64 xb, .string (str xf), .slice lo ln lc, .string ⟨#[]⟩, .int .i64 0, .int .i64 0, .int .i64 0] : List Value).length) := rowT_req
  have HLe : Hid (([.int .i64 2, .string ⟨#[]⟩, .int .i64 xs, .int .i64 xq, .int .i64 xb, .string (str xf), .slice lo ln lc, .string ⟨#[]⟩, .int .i64 0, .int .i64 0, .int .i64 0] : List Value).length = zrq.length) := rfl
  have HOe : Hid (∀ z ∈ ([.int .i64 2, .string ⟨#[]⟩, .int .i64 xs, .int .i64 xq, .int .i64 xb, .string (str xf), .slice lo ln lc, .string ⟨#[]⟩, .int .i64 0, .int .i64 0, .int .i64 0] : List Value), z.oneCell' = true) := by intro z hv; simp at hv; rcases hv with rfl | rfl | rfl | rfl | rfl | rfl | rfl | rfl | rfl | rfl | rfl <;> rfl
  have HLz : Hid ((zrq : List Value).length = zrq.length) := rfl
  have HOz : Hid (∀ z ∈ (zrq : List Value), z.oneCell' = true) := by intro z hv; simp [zrq] at hv; rcases hv with rfl | rfl | rfl | rfl | rfl | rfl | rfl | rfl | rfl | rfl | rfl <;> rfl
  have HTz : Hid (RowT Try.prog 29 (zrq : List Value).length) := rowT_req
  by_cases hF : sF.2 = 0
  · have HPQ : Hid (dtakeP B p w ⟨2, [], xs, xq, xb, xf, xc, [], 0, 0, 0⟩ sF = fun r w' => ∃ v, r = .returned (.agg (rqL ⟨2, [], xs, xq, xb, xf, xc, [], 0, 0, 0⟩ v).toArray) ∧ OwnC w.heap.size w' v (⟨2, [], xs, xq, xb, xf, xc, [], 0, 0, 0⟩ : Rq).c ∧ AtR B p w' sF ∧ Kept [p] w w') := by show _ = _; unfold dtakeP; simp only [if_pos hF]
    rw [hF] at hfe
    clear hF
    go_wp2_with (first | ((with_reducible refine wl_load_bx HB6.out HTe.out ?_ ?_); rfl) | ((with_reducible refine wl_store_bx HR6.out HLe.out HOe.out HTe.out ?_ ?_ ?_); rfl; rfl; intro wz HBz HKz))
    refine bodyPost_ret (bx_result (by rfl) _ (by rfl) HBz.out HTe.out) rfl ?_
    rw [HPQ.out]
    exact ⟨.slice lo ln lc, rfl, (show OwnC _ wz _ _ from HKz.out.ownsRow HLx.out (fun i hi hm => by have := (World.ownsRow.lt HLx.out i hi).1; simp at hm; omega)).mono (by omega), HA6.out.kept HKz.out (by simp; omega) (by simp; omega), HK6.out.trans HKz.out (by simp)⟩
  · have HPQ : Hid (dtakeP B p w ⟨2, [], xs, xq, xb, xf, xc, [], 0, 0, 0⟩ sF = fun r w' => ∃ v, r = .returned (.agg (rqL rq0 v).toArray) ∧ OwnC w.heap.size w' v rq0.c ∧ AtR B p w' sF ∧ Kept [p] w w') := by show _ = _; unfold dtakeP; simp only [if_neg hF]
    have hfb : (sF.2 != 0) = true := by simpa using hF
    have hfc : (sF.2 == 0) = false := by simpa using hF
    clear hF
    go_wp2_with ((with_reducible refine wl_store_bx HR6.out HLz.out HOz.out HTz.out ?_ ?_ ?_); rfl; rfl; intro wz HBz HKz)
    refine bodyPost_ret (bx_result (by rfl) _ (by rfl) HBz.out HTz.out) rfl ?_
    rw [HPQ.out]
    exact ⟨.slice none 0 0, rfl, OwnC.nil _ _, HA6.out.kept HKz.out (by simp; omega) (by simp; omega), HK6.out.trans HKz.out (by simp)⟩

set_option maxHeartbeats 8000000 in
set_option maxRecDepth 100000 in
theorem dtake_3 (B p : Nat) (w : World) (s s1 s2 sF : St) (xs : Int) (xq : Int) (e1 : eyeP.num s 0 = (3, s1)) (h1 : s1.2 = 0) (e_s : eyeP.num s1 0 = (xs, s2)) (e_q : eyeP.num s2 0 = (xq, sF)) (hA : AtR B p w s) : Calls Try.prog 36 #[.pointer (some ⟨p, 0, none⟩)] w (dtakeP B p w ⟨3, [], xs, xq, 0, [], [], [], 0, 0, 0⟩ sF) := by
  have hlt := hA.lt
  obtain ⟨W, hW⟩ : ∃ W, W = w.alloc (.cells #[.int .i64 0, .string ⟨#[]⟩, .int .i64 0, .int .i64 0, .int .i64 0, .string ⟨#[]⟩, .slice none 0 0, .string ⟨#[]⟩, .int .i64 0, .int .i64 0, .int .i64 0] 29) := ⟨_, rfl⟩
  have HW := hide hW
  have k0 : Kept [] w W := by rw [hW]; exact (Kept.refl _ _).alloc _
  have HR : Hid (Bx W w.heap.size 29 zrq) := by rw [hW]; exact Bx.new w _ zrq
  have hsz : w.heap.size < W.heap.size := HR.out.lt
  have cN := dr_num B p W s (hA.kept k0 (by simp) (by simp))
  rw [e1] at cN
  have CN := hide cN
  have HK0 := hide k0
  have HLc : Hid (([.int .i64 3, .string ⟨#[]⟩, .int .i64 0, .int .i64 0, .int .i64 0, .string ⟨#[]⟩, .slice none 0 0, .string ⟨#[]⟩, .int .i64 0, .int .i64 0, .int .i64 0] : List Value).length = zrq.length) := rfl
  have HOc : Hid (∀ z ∈ ([.int .i64 3, .string ⟨#[]⟩, .int .i64 0, .int .i64 0, .int .i64 0, .string ⟨#[]⟩, .slice none 0 0, .string ⟨#[]⟩, .int .i64 0, .int .i64 0, .int .i64 0] : List Value), z.oneCell' = true) := by intro z hv; simp at hv; rcases hv with rfl | rfl | rfl | rfl | rfl | rfl | rfl | rfl | rfl | rfl | rfl <;> rfl
  have HTc : Hid (RowT Try.prog 29 ([.int .i64 3, .string ⟨#[]⟩, .int .i64 0, .int .i64 0, .int .i64 0, .string ⟨#[]⟩, .slice none 0 0, .string ⟨#[]⟩, .int .i64 0, .int .i64 0, .int .i64 0] : List Value).length) := rowT_req
  clear hW k0 cN hA e1
  go_enter Try.func36, Try.ntmps36
  go_upto_region 1 with fail
  rw [← HW.out]
  go_upto_region 2 with (first | (go_at_call 63; refine CN.out.mono ?_; clear CN; rintro _ wa ⟨rfl, hA1, hk1⟩; have HAa := hide hA1; have HKa := hide hk1; have HZ : Hid (Bx (wa.alloc (.cells #[.int .i64 0, .string ⟨#[]⟩, .int .i64 0, .int .i64 0, .int .i64 0, .string ⟨#[]⟩, .slice none 0 0, .string ⟨#[]⟩, .int .i64 0, .int .i64 0, .int .i64 0] 29)) wa.heap.size 29 zrq) := (Bx.new wa _ zrq); clear hA1 hk1) | ((with_reducible refine wl_store_bx HZ.out HLc.out HOc.out HTc.out ?_ ?_ ?_); rfl; rfl; intro w1 HB1 HKx))
  have hza := HKa.out.size
  have k1 : Kept [] wa w1 := (Kept.refl [] wa).trans (((Kept.refl [wa.heap.size] wa).alloc _).trans HKx.out (by simp)) (by intro i hi; simp at hi; right; omega)
  obtain ⟨bx, hbx⟩ : ∃ bx, bx = wa.heap.size := ⟨_, rfl⟩
  rw [← hbx] at HB1 ⊢
  have hb1 : w.heap.size < bx := by omega
  have HA1 := hide (HAa.out.kept k1 (by simp) (by simp))
  have HR1 := hide ((HR.out.kept HKa.out (by simp; omega)).kept k1 (by simp))
  have HK1 : Hid (Kept [p] w w1) := ((HK0.out.mono (by simp)).trans HKa.out (by simp)).trans k1 (by simp)
  clear k1 HKx HZ hbx HAa HKa HLc HOc
  have hf0 : w1.cell? ⟨p, 1, none⟩ = some (.int .i64 0) := by rw [← h1]; exact HA1.out.fail
  have hc0 : w1.cell? ⟨bx, 0, none⟩ = some (.int .i64 3) := HB1.out.cell 0 rfl
  go_upto_region 4 with fail
  clear hc0 hf0
  have fj : Hid (∀ W2, Kept [p] w1 W2 → W2.cell? ⟨bx, 2, none⟩ = some (.int .i64 0) ∧ W2.frozen? ⟨bx, 2, none⟩ = false) := fun W2 k => by
    have h := HB1.out.kept k (by simp; omega)
    exact ⟨h.cell 2 rfl, h.froz 2⟩
  have cj := dr_num B p w1 s1 HA1.out
  rw [e_s] at cj
  have CJ := hide cj
  clear cj
  go_upto_region 5 with (go_at_call 63; refine CJ.out.mono ?_; clear CJ; rintro _ wm2 ⟨rfl, hA, hk⟩; have HAm := hide hA; have HKm := hide hk; obtain ⟨sc, sf⟩ := fj.out _ hk; clear hA hk fj)
  obtain ⟨w2, hw⟩ : ∃ w2, w2 = wm2.setCell ⟨bx, 2, none⟩ (.int .i64 xs) := ⟨_, rfl⟩
  rw [← hw]
  have HB2 : Hid (Bx w2 bx 29 [.int .i64 3, .string ⟨#[]⟩, .int .i64 xs, .int .i64 0, .int .i64 0, .string ⟨#[]⟩, .slice none 0 0, .string ⟨#[]⟩, .int .i64 0, .int .i64 0, .int .i64 0]) := by rw [hw]; exact (HB1.out.kept HKm.out (by simp; omega)).set 2 _
  have kc : Kept [bx] wm2 w2 := by rw [hw]; exact kept_set wm2 bx 2 _
  have HA2 := hide (HAm.out.kept kc (by simp; omega) (by simp; omega))
  have HR2 := hide ((HR1.out.kept HKm.out (by simp; omega)).kept kc (by simp; omega))
  have HK2 : Hid (Kept [p] w w2) := (HK1.out.trans HKm.out (by simp)).trans kc (by simp; omega)
  clear hw kc sc sf HKm HAm
  have fj : Hid (∀ W2, Kept [p] w2 W2 → W2.cell? ⟨bx, 3, none⟩ = some (.int .i64 0) ∧ W2.frozen? ⟨bx, 3, none⟩ = false) := fun W2 k => by
    have h := HB2.out.kept k (by simp; omega)
    exact ⟨h.cell 3 rfl, h.froz 3⟩
  have cj := dr_num B p w2 s2 HA2.out
  rw [e_q] at cj
  have CJ := hide cj
  clear cj
  go_upto_region 6 with (go_at_call 63; refine CJ.out.mono ?_; clear CJ; rintro _ wm3 ⟨rfl, hA, hk⟩; have HAm := hide hA; have HKm := hide hk; obtain ⟨sc, sf⟩ := fj.out _ hk; clear hA hk fj)
  obtain ⟨w3, hw⟩ : ∃ w3, w3 = wm3.setCell ⟨bx, 3, none⟩ (.int .i64 xq) := ⟨_, rfl⟩
  rw [← hw]
  have HB3 : Hid (Bx w3 bx 29 [.int .i64 3, .string ⟨#[]⟩, .int .i64 xs, .int .i64 xq, .int .i64 0, .string ⟨#[]⟩, .slice none 0 0, .string ⟨#[]⟩, .int .i64 0, .int .i64 0, .int .i64 0]) := by rw [hw]; exact (HB2.out.kept HKm.out (by simp; omega)).set 3 _
  have kc : Kept [bx] wm3 w3 := by rw [hw]; exact kept_set wm3 bx 3 _
  have HA3 := hide (HAm.out.kept kc (by simp; omega) (by simp; omega))
  have HR3 := hide ((HR2.out.kept HKm.out (by simp; omega)).kept kc (by simp; omega))
  have HK3 : Hid (Kept [p] w w3) := (HK2.out.trans HKm.out (by simp)).trans kc (by simp; omega)
  clear hw kc sc sf HKm HAm
  have hc0 : w3.cell? ⟨bx, 0, none⟩ = some (.int .i64 3) := HB3.out.cell 0 rfl
  go_upto_region 22 with fail
  clear hc0
  have hfe := HA3.out.fail
  have HTe : Hid (RowT Try.prog 29 ([.int .i64 3, .string ⟨#[]⟩, .int .i64 xs, .int .i64 xq, .int .i64 0, .string ⟨#[]⟩, .slice none 0 0, .string ⟨#[]⟩, .int .i64 0, .int .i64 0, .int .i64 0] : List Value).length) := rowT_req
  have HLe : Hid (([.int .i64 3, .string ⟨#[]⟩, .int .i64 xs, .int .i64 xq, .int .i64 0, .string ⟨#[]⟩, .slice none 0 0, .string ⟨#[]⟩, .int .i64 0, .int .i64 0, .int .i64 0] : List Value).length = zrq.length) := rfl
  have HOe : Hid (∀ z ∈ ([.int .i64 3, .string ⟨#[]⟩, .int .i64 xs, .int .i64 xq, .int .i64 0, .string ⟨#[]⟩, .slice none 0 0, .string ⟨#[]⟩, .int .i64 0, .int .i64 0, .int .i64 0] : List Value), z.oneCell' = true) := by intro z hv; simp at hv; rcases hv with rfl | rfl | rfl | rfl | rfl | rfl | rfl | rfl | rfl | rfl | rfl <;> rfl
  have HLz : Hid ((zrq : List Value).length = zrq.length) := rfl
  have HOz : Hid (∀ z ∈ (zrq : List Value), z.oneCell' = true) := by intro z hv; simp [zrq] at hv; rcases hv with rfl | rfl | rfl | rfl | rfl | rfl | rfl | rfl | rfl | rfl | rfl <;> rfl
  have HTz : Hid (RowT Try.prog 29 (zrq : List Value).length) := rowT_req
  by_cases hF : sF.2 = 0
  · have HPQ : Hid (dtakeP B p w ⟨3, [], xs, xq, 0, [], [], [], 0, 0, 0⟩ sF = fun r w' => ∃ v, r = .returned (.agg (rqL ⟨3, [], xs, xq, 0, [], [], [], 0, 0, 0⟩ v).toArray) ∧ OwnC w.heap.size w' v (⟨3, [], xs, xq, 0, [], [], [], 0, 0, 0⟩ : Rq).c ∧ AtR B p w' sF ∧ Kept [p] w w') := by show _ = _; unfold dtakeP; simp only [if_pos hF]
    rw [hF] at hfe
    clear hF
    go_wp2_with (first | ((with_reducible refine wl_load_bx HB3.out HTe.out ?_ ?_); rfl) | ((with_reducible refine wl_store_bx HR3.out HLe.out HOe.out HTe.out ?_ ?_ ?_); rfl; rfl; intro wz HBz HKz))
    refine bodyPost_ret (bx_result (by rfl) _ (by rfl) HBz.out HTe.out) rfl ?_
    rw [HPQ.out]
    exact ⟨.slice none 0 0, rfl, OwnC.nil _ _, HA3.out.kept HKz.out (by simp; omega) (by simp; omega), HK3.out.trans HKz.out (by simp)⟩
  · have HPQ : Hid (dtakeP B p w ⟨3, [], xs, xq, 0, [], [], [], 0, 0, 0⟩ sF = fun r w' => ∃ v, r = .returned (.agg (rqL rq0 v).toArray) ∧ OwnC w.heap.size w' v rq0.c ∧ AtR B p w' sF ∧ Kept [p] w w') := by show _ = _; unfold dtakeP; simp only [if_neg hF]
    have hfb : (sF.2 != 0) = true := by simpa using hF
    have hfc : (sF.2 == 0) = false := by simpa using hF
    clear hF
    go_wp2_with ((with_reducible refine wl_store_bx HR3.out HLz.out HOz.out HTz.out ?_ ?_ ?_); rfl; rfl; intro wz HBz HKz)
    refine bodyPost_ret (bx_result (by rfl) _ (by rfl) HBz.out HTz.out) rfl ?_
    rw [HPQ.out]
    exact ⟨.slice none 0 0, rfl, OwnC.nil _ _, HA3.out.kept HKz.out (by simp; omega) (by simp; omega), HK3.out.trans HKz.out (by simp)⟩

set_option maxHeartbeats 8000000 in
set_option maxRecDepth 100000 in
theorem dtake_4 (B p : Nat) (w : World) (s s1 s2 s3 sF : St) (xs : Int) (xq : Int) (xp : List UInt8) (e1 : eyeP.num s 0 = (4, s1)) (h1 : s1.2 = 0) (e_s : eyeP.num s1 0 = (xs, s2)) (e_q : eyeP.num s2 0 = (xq, s3)) (e_p : eyeP.text s3 [] = (xp, sF)) (hA : AtR B p w s) : Calls Try.prog 36 #[.pointer (some ⟨p, 0, none⟩)] w (dtakeP B p w ⟨4, [], xs, xq, 0, [], [], xp, 0, 0, 0⟩ sF) := by
  have hlt := hA.lt
  obtain ⟨W, hW⟩ : ∃ W, W = w.alloc (.cells #[.int .i64 0, .string ⟨#[]⟩, .int .i64 0, .int .i64 0, .int .i64 0, .string ⟨#[]⟩, .slice none 0 0, .string ⟨#[]⟩, .int .i64 0, .int .i64 0, .int .i64 0] 29) := ⟨_, rfl⟩
  have HW := hide hW
  have k0 : Kept [] w W := by rw [hW]; exact (Kept.refl _ _).alloc _
  have HR : Hid (Bx W w.heap.size 29 zrq) := by rw [hW]; exact Bx.new w _ zrq
  have hsz : w.heap.size < W.heap.size := HR.out.lt
  have cN := dr_num B p W s (hA.kept k0 (by simp) (by simp))
  rw [e1] at cN
  have CN := hide cN
  have HK0 := hide k0
  have HLc : Hid (([.int .i64 4, .string ⟨#[]⟩, .int .i64 0, .int .i64 0, .int .i64 0, .string ⟨#[]⟩, .slice none 0 0, .string ⟨#[]⟩, .int .i64 0, .int .i64 0, .int .i64 0] : List Value).length = zrq.length) := rfl
  have HOc : Hid (∀ z ∈ ([.int .i64 4, .string ⟨#[]⟩, .int .i64 0, .int .i64 0, .int .i64 0, .string ⟨#[]⟩, .slice none 0 0, .string ⟨#[]⟩, .int .i64 0, .int .i64 0, .int .i64 0] : List Value), z.oneCell' = true) := by intro z hv; simp at hv; rcases hv with rfl | rfl | rfl | rfl | rfl | rfl | rfl | rfl | rfl | rfl | rfl <;> rfl
  have HTc : Hid (RowT Try.prog 29 ([.int .i64 4, .string ⟨#[]⟩, .int .i64 0, .int .i64 0, .int .i64 0, .string ⟨#[]⟩, .slice none 0 0, .string ⟨#[]⟩, .int .i64 0, .int .i64 0, .int .i64 0] : List Value).length) := rowT_req
  clear hW k0 cN hA e1
  go_enter Try.func36, Try.ntmps36
  go_upto_region 1 with fail
  rw [← HW.out]
  go_upto_region 2 with (first | (go_at_call 63; refine CN.out.mono ?_; clear CN; rintro _ wa ⟨rfl, hA1, hk1⟩; have HAa := hide hA1; have HKa := hide hk1; have HZ : Hid (Bx (wa.alloc (.cells #[.int .i64 0, .string ⟨#[]⟩, .int .i64 0, .int .i64 0, .int .i64 0, .string ⟨#[]⟩, .slice none 0 0, .string ⟨#[]⟩, .int .i64 0, .int .i64 0, .int .i64 0] 29)) wa.heap.size 29 zrq) := (Bx.new wa _ zrq); clear hA1 hk1) | ((with_reducible refine wl_store_bx HZ.out HLc.out HOc.out HTc.out ?_ ?_ ?_); rfl; rfl; intro w1 HB1 HKx))
  have hza := HKa.out.size
  have k1 : Kept [] wa w1 := (Kept.refl [] wa).trans (((Kept.refl [wa.heap.size] wa).alloc _).trans HKx.out (by simp)) (by intro i hi; simp at hi; right; omega)
  obtain ⟨bx, hbx⟩ : ∃ bx, bx = wa.heap.size := ⟨_, rfl⟩
  rw [← hbx] at HB1 ⊢
  have hb1 : w.heap.size < bx := by omega
  have HA1 := hide (HAa.out.kept k1 (by simp) (by simp))
  have HR1 := hide ((HR.out.kept HKa.out (by simp; omega)).kept k1 (by simp))
  have HK1 : Hid (Kept [p] w w1) := ((HK0.out.mono (by simp)).trans HKa.out (by simp)).trans k1 (by simp)
  clear k1 HKx HZ hbx HAa HKa HLc HOc
  have hf0 : w1.cell? ⟨p, 1, none⟩ = some (.int .i64 0) := by rw [← h1]; exact HA1.out.fail
  have hc0 : w1.cell? ⟨bx, 0, none⟩ = some (.int .i64 4) := HB1.out.cell 0 rfl
  go_upto_region 4 with fail
  clear hc0 hf0
  have fj : Hid (∀ W2, Kept [p] w1 W2 → W2.cell? ⟨bx, 2, none⟩ = some (.int .i64 0) ∧ W2.frozen? ⟨bx, 2, none⟩ = false) := fun W2 k => by
    have h := HB1.out.kept k (by simp; omega)
    exact ⟨h.cell 2 rfl, h.froz 2⟩
  have cj := dr_num B p w1 s1 HA1.out
  rw [e_s] at cj
  have CJ := hide cj
  clear cj
  go_upto_region 5 with (go_at_call 63; refine CJ.out.mono ?_; clear CJ; rintro _ wm2 ⟨rfl, hA, hk⟩; have HAm := hide hA; have HKm := hide hk; obtain ⟨sc, sf⟩ := fj.out _ hk; clear hA hk fj)
  obtain ⟨w2, hw⟩ : ∃ w2, w2 = wm2.setCell ⟨bx, 2, none⟩ (.int .i64 xs) := ⟨_, rfl⟩
  rw [← hw]
  have HB2 : Hid (Bx w2 bx 29 [.int .i64 4, .string ⟨#[]⟩, .int .i64 xs, .int .i64 0, .int .i64 0, .string ⟨#[]⟩, .slice none 0 0, .string ⟨#[]⟩, .int .i64 0, .int .i64 0, .int .i64 0]) := by rw [hw]; exact (HB1.out.kept HKm.out (by simp; omega)).set 2 _
  have kc : Kept [bx] wm2 w2 := by rw [hw]; exact kept_set wm2 bx 2 _
  have HA2 := hide (HAm.out.kept kc (by simp; omega) (by simp; omega))
  have HR2 := hide ((HR1.out.kept HKm.out (by simp; omega)).kept kc (by simp; omega))
  have HK2 : Hid (Kept [p] w w2) := (HK1.out.trans HKm.out (by simp)).trans kc (by simp; omega)
  clear hw kc sc sf HKm HAm
  have fj : Hid (∀ W2, Kept [p] w2 W2 → W2.cell? ⟨bx, 3, none⟩ = some (.int .i64 0) ∧ W2.frozen? ⟨bx, 3, none⟩ = false) := fun W2 k => by
    have h := HB2.out.kept k (by simp; omega)
    exact ⟨h.cell 3 rfl, h.froz 3⟩
  have cj := dr_num B p w2 s2 HA2.out
  rw [e_q] at cj
  have CJ := hide cj
  clear cj
  go_upto_region 6 with (go_at_call 63; refine CJ.out.mono ?_; clear CJ; rintro _ wm3 ⟨rfl, hA, hk⟩; have HAm := hide hA; have HKm := hide hk; obtain ⟨sc, sf⟩ := fj.out _ hk; clear hA hk fj)
  obtain ⟨w3, hw⟩ : ∃ w3, w3 = wm3.setCell ⟨bx, 3, none⟩ (.int .i64 xq) := ⟨_, rfl⟩
  rw [← hw]
  have HB3 : Hid (Bx w3 bx 29 [.int .i64 4, .string ⟨#[]⟩, .int .i64 xs, .int .i64 xq, .int .i64 0, .string ⟨#[]⟩, .slice none 0 0, .string ⟨#[]⟩, .int .i64 0, .int .i64 0, .int .i64 0]) := by rw [hw]; exact (HB2.out.kept HKm.out (by simp; omega)).set 3 _
  have kc : Kept [bx] wm3 w3 := by rw [hw]; exact kept_set wm3 bx 3 _
  have HA3 := hide (HAm.out.kept kc (by simp; omega) (by simp; omega))
  have HR3 := hide ((HR2.out.kept HKm.out (by simp; omega)).kept kc (by simp; omega))
  have HK3 : Hid (Kept [p] w w3) := (HK2.out.trans HKm.out (by simp)).trans kc (by simp; omega)
  clear hw kc sc sf HKm HAm
  have hc0 : w3.cell? ⟨bx, 0, none⟩ = some (.int .i64 4) := HB3.out.cell 0 rfl
  go_upto_region 12 with fail
  clear hc0
  have fj : Hid (∀ W2, Kept [p] w3 W2 → W2.cell? ⟨bx, 7, none⟩ = some (.string ⟨#[]⟩) ∧ W2.frozen? ⟨bx, 7, none⟩ = false) := fun W2 k => by
    have h := HB3.out.kept k (by simp; omega)
    exact ⟨h.cell 7 rfl, h.froz 7⟩
  have cj := dr_text B p w3 s3 HA3.out
  rw [e_p] at cj
  have CJ := hide cj
  clear cj
  go_upto_region 22 with (go_at_call 65; refine CJ.out.mono ?_; clear CJ; rintro _ wm4 ⟨rfl, hA, hk⟩; have HAm := hide hA; have HKm := hide hk; obtain ⟨sc, sf⟩ := fj.out _ hk; clear hA hk fj)
  obtain ⟨w4, hw⟩ : ∃ w4, w4 = wm4.setCell ⟨bx, 7, none⟩ (.string (str xp)) := ⟨_, rfl⟩
  rw [← hw]
  have HB4 : Hid (Bx w4 bx 29 [.int .i64 4, .string ⟨#[]⟩, .int .i64 xs, .int .i64 xq, .int .i64 0, .string ⟨#[]⟩, .slice none 0 0, .string (str xp), .int .i64 0, .int .i64 0, .int .i64 0]) := by rw [hw]; exact (HB3.out.kept HKm.out (by simp; omega)).set 7 _
  have kc : Kept [bx] wm4 w4 := by rw [hw]; exact kept_set wm4 bx 7 _
  have HA4 := hide (HAm.out.kept kc (by simp; omega) (by simp; omega))
  have HR4 := hide ((HR3.out.kept HKm.out (by simp; omega)).kept kc (by simp; omega))
  have HK4 : Hid (Kept [p] w w4) := (HK3.out.trans HKm.out (by simp)).trans kc (by simp; omega)
  clear hw kc sc sf HKm HAm
  have hfe := HA4.out.fail
  have HTe : Hid (RowT Try.prog 29 ([.int .i64 4, .string ⟨#[]⟩, .int .i64 xs, .int .i64 xq, .int .i64 0, .string ⟨#[]⟩, .slice none 0 0, .string (str xp), .int .i64 0, .int .i64 0, .int .i64 0] : List Value).length) := rowT_req
  have HLe : Hid (([.int .i64 4, .string ⟨#[]⟩, .int .i64 xs, .int .i64 xq, .int .i64 0, .string ⟨#[]⟩, .slice none 0 0, .string (str xp), .int .i64 0, .int .i64 0, .int .i64 0] : List Value).length = zrq.length) := rfl
  have HOe : Hid (∀ z ∈ ([.int .i64 4, .string ⟨#[]⟩, .int .i64 xs, .int .i64 xq, .int .i64 0, .string ⟨#[]⟩, .slice none 0 0, .string (str xp), .int .i64 0, .int .i64 0, .int .i64 0] : List Value), z.oneCell' = true) := by intro z hv; simp at hv; rcases hv with rfl | rfl | rfl | rfl | rfl | rfl | rfl | rfl | rfl | rfl | rfl <;> rfl
  have HLz : Hid ((zrq : List Value).length = zrq.length) := rfl
  have HOz : Hid (∀ z ∈ (zrq : List Value), z.oneCell' = true) := by intro z hv; simp [zrq] at hv; rcases hv with rfl | rfl | rfl | rfl | rfl | rfl | rfl | rfl | rfl | rfl | rfl <;> rfl
  have HTz : Hid (RowT Try.prog 29 (zrq : List Value).length) := rowT_req
  by_cases hF : sF.2 = 0
  · have HPQ : Hid (dtakeP B p w ⟨4, [], xs, xq, 0, [], [], xp, 0, 0, 0⟩ sF = fun r w' => ∃ v, r = .returned (.agg (rqL ⟨4, [], xs, xq, 0, [], [], xp, 0, 0, 0⟩ v).toArray) ∧ OwnC w.heap.size w' v (⟨4, [], xs, xq, 0, [], [], xp, 0, 0, 0⟩ : Rq).c ∧ AtR B p w' sF ∧ Kept [p] w w') := by show _ = _; unfold dtakeP; simp only [if_pos hF]
    rw [hF] at hfe
    clear hF
    go_wp2_with (first | ((with_reducible refine wl_load_bx HB4.out HTe.out ?_ ?_); rfl) | ((with_reducible refine wl_store_bx HR4.out HLe.out HOe.out HTe.out ?_ ?_ ?_); rfl; rfl; intro wz HBz HKz))
    refine bodyPost_ret (bx_result (by rfl) _ (by rfl) HBz.out HTe.out) rfl ?_
    rw [HPQ.out]
    exact ⟨.slice none 0 0, rfl, OwnC.nil _ _, HA4.out.kept HKz.out (by simp; omega) (by simp; omega), HK4.out.trans HKz.out (by simp)⟩
  · have HPQ : Hid (dtakeP B p w ⟨4, [], xs, xq, 0, [], [], xp, 0, 0, 0⟩ sF = fun r w' => ∃ v, r = .returned (.agg (rqL rq0 v).toArray) ∧ OwnC w.heap.size w' v rq0.c ∧ AtR B p w' sF ∧ Kept [p] w w') := by show _ = _; unfold dtakeP; simp only [if_neg hF]
    have hfb : (sF.2 != 0) = true := by simpa using hF
    have hfc : (sF.2 == 0) = false := by simpa using hF
    clear hF
    go_wp2_with ((with_reducible refine wl_store_bx HR4.out HLz.out HOz.out HTz.out ?_ ?_ ?_); rfl; rfl; intro wz HBz HKz)
    refine bodyPost_ret (bx_result (by rfl) _ (by rfl) HBz.out HTz.out) rfl ?_
    rw [HPQ.out]
    exact ⟨.slice none 0 0, rfl, OwnC.nil _ _, HA4.out.kept HKz.out (by simp; omega) (by simp; omega), HK4.out.trans HKz.out (by simp)⟩

set_option maxHeartbeats 8000000 in
set_option maxRecDepth 100000 in
theorem dtake_5 (B p : Nat) (w : World) (s s1 s2 s3 s4 sF : St) (xs : Int) (xq : Int) (xfr : Int) (xmn : Int) (e1 : eyeP.num s 0 = (5, s1)) (h1 : s1.2 = 0) (e_s : eyeP.num s1 0 = (xs, s2)) (e_q : eyeP.num s2 0 = (xq, s3)) (e_fr : eyeP.num s3 0 = (xfr, s4)) (e_mn : eyeP.num s4 0 = (xmn, sF)) (hA : AtR B p w s) : Calls Try.prog 36 #[.pointer (some ⟨p, 0, none⟩)] w (dtakeP B p w ⟨5, [], xs, xq, 0, [], [], [], xfr, xmn, 0⟩ sF) := by
  have hlt := hA.lt
  obtain ⟨W, hW⟩ : ∃ W, W = w.alloc (.cells #[.int .i64 0, .string ⟨#[]⟩, .int .i64 0, .int .i64 0, .int .i64 0, .string ⟨#[]⟩, .slice none 0 0, .string ⟨#[]⟩, .int .i64 0, .int .i64 0, .int .i64 0] 29) := ⟨_, rfl⟩
  have HW := hide hW
  have k0 : Kept [] w W := by rw [hW]; exact (Kept.refl _ _).alloc _
  have HR : Hid (Bx W w.heap.size 29 zrq) := by rw [hW]; exact Bx.new w _ zrq
  have hsz : w.heap.size < W.heap.size := HR.out.lt
  have cN := dr_num B p W s (hA.kept k0 (by simp) (by simp))
  rw [e1] at cN
  have CN := hide cN
  have HK0 := hide k0
  have HLc : Hid (([.int .i64 5, .string ⟨#[]⟩, .int .i64 0, .int .i64 0, .int .i64 0, .string ⟨#[]⟩, .slice none 0 0, .string ⟨#[]⟩, .int .i64 0, .int .i64 0, .int .i64 0] : List Value).length = zrq.length) := rfl
  have HOc : Hid (∀ z ∈ ([.int .i64 5, .string ⟨#[]⟩, .int .i64 0, .int .i64 0, .int .i64 0, .string ⟨#[]⟩, .slice none 0 0, .string ⟨#[]⟩, .int .i64 0, .int .i64 0, .int .i64 0] : List Value), z.oneCell' = true) := by intro z hv; simp at hv; rcases hv with rfl | rfl | rfl | rfl | rfl | rfl | rfl | rfl | rfl | rfl | rfl <;> rfl
  have HTc : Hid (RowT Try.prog 29 ([.int .i64 5, .string ⟨#[]⟩, .int .i64 0, .int .i64 0, .int .i64 0, .string ⟨#[]⟩, .slice none 0 0, .string ⟨#[]⟩, .int .i64 0, .int .i64 0, .int .i64 0] : List Value).length) := rowT_req
  clear hW k0 cN hA e1
  go_enter Try.func36, Try.ntmps36
  go_upto_region 1 with fail
  rw [← HW.out]
  go_upto_region 2 with (first | (go_at_call 63; refine CN.out.mono ?_; clear CN; rintro _ wa ⟨rfl, hA1, hk1⟩; have HAa := hide hA1; have HKa := hide hk1; have HZ : Hid (Bx (wa.alloc (.cells #[.int .i64 0, .string ⟨#[]⟩, .int .i64 0, .int .i64 0, .int .i64 0, .string ⟨#[]⟩, .slice none 0 0, .string ⟨#[]⟩, .int .i64 0, .int .i64 0, .int .i64 0] 29)) wa.heap.size 29 zrq) := (Bx.new wa _ zrq); clear hA1 hk1) | ((with_reducible refine wl_store_bx HZ.out HLc.out HOc.out HTc.out ?_ ?_ ?_); rfl; rfl; intro w1 HB1 HKx))
  have hza := HKa.out.size
  have k1 : Kept [] wa w1 := (Kept.refl [] wa).trans (((Kept.refl [wa.heap.size] wa).alloc _).trans HKx.out (by simp)) (by intro i hi; simp at hi; right; omega)
  obtain ⟨bx, hbx⟩ : ∃ bx, bx = wa.heap.size := ⟨_, rfl⟩
  rw [← hbx] at HB1 ⊢
  have hb1 : w.heap.size < bx := by omega
  have HA1 := hide (HAa.out.kept k1 (by simp) (by simp))
  have HR1 := hide ((HR.out.kept HKa.out (by simp; omega)).kept k1 (by simp))
  have HK1 : Hid (Kept [p] w w1) := ((HK0.out.mono (by simp)).trans HKa.out (by simp)).trans k1 (by simp)
  clear k1 HKx HZ hbx HAa HKa HLc HOc
  have hf0 : w1.cell? ⟨p, 1, none⟩ = some (.int .i64 0) := by rw [← h1]; exact HA1.out.fail
  have hc0 : w1.cell? ⟨bx, 0, none⟩ = some (.int .i64 5) := HB1.out.cell 0 rfl
  go_upto_region 4 with fail
  clear hc0 hf0
  have fj : Hid (∀ W2, Kept [p] w1 W2 → W2.cell? ⟨bx, 2, none⟩ = some (.int .i64 0) ∧ W2.frozen? ⟨bx, 2, none⟩ = false) := fun W2 k => by
    have h := HB1.out.kept k (by simp; omega)
    exact ⟨h.cell 2 rfl, h.froz 2⟩
  have cj := dr_num B p w1 s1 HA1.out
  rw [e_s] at cj
  have CJ := hide cj
  clear cj
  go_upto_region 5 with (go_at_call 63; refine CJ.out.mono ?_; clear CJ; rintro _ wm2 ⟨rfl, hA, hk⟩; have HAm := hide hA; have HKm := hide hk; obtain ⟨sc, sf⟩ := fj.out _ hk; clear hA hk fj)
  obtain ⟨w2, hw⟩ : ∃ w2, w2 = wm2.setCell ⟨bx, 2, none⟩ (.int .i64 xs) := ⟨_, rfl⟩
  rw [← hw]
  have HB2 : Hid (Bx w2 bx 29 [.int .i64 5, .string ⟨#[]⟩, .int .i64 xs, .int .i64 0, .int .i64 0, .string ⟨#[]⟩, .slice none 0 0, .string ⟨#[]⟩, .int .i64 0, .int .i64 0, .int .i64 0]) := by rw [hw]; exact (HB1.out.kept HKm.out (by simp; omega)).set 2 _
  have kc : Kept [bx] wm2 w2 := by rw [hw]; exact kept_set wm2 bx 2 _
  have HA2 := hide (HAm.out.kept kc (by simp; omega) (by simp; omega))
  have HR2 := hide ((HR1.out.kept HKm.out (by simp; omega)).kept kc (by simp; omega))
  have HK2 : Hid (Kept [p] w w2) := (HK1.out.trans HKm.out (by simp)).trans kc (by simp; omega)
  clear hw kc sc sf HKm HAm
  have fj : Hid (∀ W2, Kept [p] w2 W2 → W2.cell? ⟨bx, 3, none⟩ = some (.int .i64 0) ∧ W2.frozen? ⟨bx, 3, none⟩ = false) := fun W2 k => by
    have h := HB2.out.kept k (by simp; omega)
    exact ⟨h.cell 3 rfl, h.froz 3⟩
  have cj := dr_num B p w2 s2 HA2.out
  rw [e_q] at cj
  have CJ := hide cj
  clear cj
  go_upto_region 6 with (go_at_call 63; refine CJ.out.mono ?_; clear CJ; rintro _ wm3 ⟨rfl, hA, hk⟩; have HAm := hide hA; have HKm := hide hk; obtain ⟨sc, sf⟩ := fj.out _ hk; clear hA hk fj)
  obtain ⟨w3, hw⟩ : ∃ w3, w3 = wm3.setCell ⟨bx, 3, none⟩ (.int .i64 xq) := ⟨_, rfl⟩
  rw [← hw]
  have HB3 : Hid (Bx w3 bx 29 [.int .i64 5, .string ⟨#[]⟩, .int .i64 xs, .int .i64 xq, .int .i64 0, .string ⟨#[]⟩, .slice none 0 0, .string ⟨#[]⟩, .int .i64 0, .int .i64 0, .int .i64 0]) := by rw [hw]; exact (HB2.out.kept HKm.out (by simp; omega)).set 3 _
  have kc : Kept [bx] wm3 w3 := by rw [hw]; exact kept_set wm3 bx 3 _
  have HA3 := hide (HAm.out.kept kc (by simp; omega) (by simp; omega))
  have HR3 := hide ((HR2.out.kept HKm.out (by simp; omega)).kept kc (by simp; omega))
  have HK3 : Hid (Kept [p] w w3) := (HK2.out.trans HKm.out (by simp)).trans kc (by simp; omega)
  clear hw kc sc sf HKm HAm
  have hc0 : w3.cell? ⟨bx, 0, none⟩ = some (.int .i64 5) := HB3.out.cell 0 rfl
  go_upto_region 14 with fail
  clear hc0
  have fj : Hid (∀ W2, Kept [p] w3 W2 → W2.cell? ⟨bx, 8, none⟩ = some (.int .i64 0) ∧ W2.frozen? ⟨bx, 8, none⟩ = false) := fun W2 k => by
    have h := HB3.out.kept k (by simp; omega)
    exact ⟨h.cell 8 rfl, h.froz 8⟩
  have cj := dr_num B p w3 s3 HA3.out
  rw [e_fr] at cj
  have CJ := hide cj
  clear cj
  go_upto_region 15 with (go_at_call 63; refine CJ.out.mono ?_; clear CJ; rintro _ wm4 ⟨rfl, hA, hk⟩; have HAm := hide hA; have HKm := hide hk; obtain ⟨sc, sf⟩ := fj.out _ hk; clear hA hk fj)
  obtain ⟨w4, hw⟩ : ∃ w4, w4 = wm4.setCell ⟨bx, 8, none⟩ (.int .i64 xfr) := ⟨_, rfl⟩
  rw [← hw]
  have HB4 : Hid (Bx w4 bx 29 [.int .i64 5, .string ⟨#[]⟩, .int .i64 xs, .int .i64 xq, .int .i64 0, .string ⟨#[]⟩, .slice none 0 0, .string ⟨#[]⟩, .int .i64 xfr, .int .i64 0, .int .i64 0]) := by rw [hw]; exact (HB3.out.kept HKm.out (by simp; omega)).set 8 _
  have kc : Kept [bx] wm4 w4 := by rw [hw]; exact kept_set wm4 bx 8 _
  have HA4 := hide (HAm.out.kept kc (by simp; omega) (by simp; omega))
  have HR4 := hide ((HR3.out.kept HKm.out (by simp; omega)).kept kc (by simp; omega))
  have HK4 : Hid (Kept [p] w w4) := (HK3.out.trans HKm.out (by simp)).trans kc (by simp; omega)
  clear hw kc sc sf HKm HAm
  have fj : Hid (∀ W2, Kept [p] w4 W2 → W2.cell? ⟨bx, 9, none⟩ = some (.int .i64 0) ∧ W2.frozen? ⟨bx, 9, none⟩ = false) := fun W2 k => by
    have h := HB4.out.kept k (by simp; omega)
    exact ⟨h.cell 9 rfl, h.froz 9⟩
  have cj := dr_num B p w4 s4 HA4.out
  rw [e_mn] at cj
  have CJ := hide cj
  clear cj
  go_upto_region 22 with (go_at_call 63; refine CJ.out.mono ?_; clear CJ; rintro _ wm5 ⟨rfl, hA, hk⟩; have HAm := hide hA; have HKm := hide hk; obtain ⟨sc, sf⟩ := fj.out _ hk; clear hA hk fj)
  obtain ⟨w5, hw⟩ : ∃ w5, w5 = wm5.setCell ⟨bx, 9, none⟩ (.int .i64 xmn) := ⟨_, rfl⟩
  rw [← hw]
  have HB5 : Hid (Bx w5 bx 29 [.int .i64 5, .string ⟨#[]⟩, .int .i64 xs, .int .i64 xq, .int .i64 0, .string ⟨#[]⟩, .slice none 0 0, .string ⟨#[]⟩, .int .i64 xfr, .int .i64 xmn, .int .i64 0]) := by rw [hw]; exact (HB4.out.kept HKm.out (by simp; omega)).set 9 _
  have kc : Kept [bx] wm5 w5 := by rw [hw]; exact kept_set wm5 bx 9 _
  have HA5 := hide (HAm.out.kept kc (by simp; omega) (by simp; omega))
  have HR5 := hide ((HR4.out.kept HKm.out (by simp; omega)).kept kc (by simp; omega))
  have HK5 : Hid (Kept [p] w w5) := (HK4.out.trans HKm.out (by simp)).trans kc (by simp; omega)
  clear hw kc sc sf HKm HAm
  have hfe := HA5.out.fail
  have HTe : Hid (RowT Try.prog 29 ([.int .i64 5, .string ⟨#[]⟩, .int .i64 xs, .int .i64 xq, .int .i64 0, .string ⟨#[]⟩, .slice none 0 0, .string ⟨#[]⟩, .int .i64 xfr, .int .i64 xmn, .int .i64 0] : List Value).length) := rowT_req
  have HLe : Hid (([.int .i64 5, .string ⟨#[]⟩, .int .i64 xs, .int .i64 xq, .int .i64 0, .string ⟨#[]⟩, .slice none 0 0, .string ⟨#[]⟩, .int .i64 xfr, .int .i64 xmn, .int .i64 0] : List Value).length = zrq.length) := rfl
  have HOe : Hid (∀ z ∈ ([.int .i64 5, .string ⟨#[]⟩, .int .i64 xs, .int .i64 xq, .int .i64 0, .string ⟨#[]⟩, .slice none 0 0, .string ⟨#[]⟩, .int .i64 xfr, .int .i64 xmn, .int .i64 0] : List Value), z.oneCell' = true) := by intro z hv; simp at hv; rcases hv with rfl | rfl | rfl | rfl | rfl | rfl | rfl | rfl | rfl | rfl | rfl <;> rfl
  have HLz : Hid ((zrq : List Value).length = zrq.length) := rfl
  have HOz : Hid (∀ z ∈ (zrq : List Value), z.oneCell' = true) := by intro z hv; simp [zrq] at hv; rcases hv with rfl | rfl | rfl | rfl | rfl | rfl | rfl | rfl | rfl | rfl | rfl <;> rfl
  have HTz : Hid (RowT Try.prog 29 (zrq : List Value).length) := rowT_req
  by_cases hF : sF.2 = 0
  · have HPQ : Hid (dtakeP B p w ⟨5, [], xs, xq, 0, [], [], [], xfr, xmn, 0⟩ sF = fun r w' => ∃ v, r = .returned (.agg (rqL ⟨5, [], xs, xq, 0, [], [], [], xfr, xmn, 0⟩ v).toArray) ∧ OwnC w.heap.size w' v (⟨5, [], xs, xq, 0, [], [], [], xfr, xmn, 0⟩ : Rq).c ∧ AtR B p w' sF ∧ Kept [p] w w') := by show _ = _; unfold dtakeP; simp only [if_pos hF]
    rw [hF] at hfe
    clear hF
    go_wp2_with (first | ((with_reducible refine wl_load_bx HB5.out HTe.out ?_ ?_); rfl) | ((with_reducible refine wl_store_bx HR5.out HLe.out HOe.out HTe.out ?_ ?_ ?_); rfl; rfl; intro wz HBz HKz))
    refine bodyPost_ret (bx_result (by rfl) _ (by rfl) HBz.out HTe.out) rfl ?_
    rw [HPQ.out]
    exact ⟨.slice none 0 0, rfl, OwnC.nil _ _, HA5.out.kept HKz.out (by simp; omega) (by simp; omega), HK5.out.trans HKz.out (by simp)⟩
  · have HPQ : Hid (dtakeP B p w ⟨5, [], xs, xq, 0, [], [], [], xfr, xmn, 0⟩ sF = fun r w' => ∃ v, r = .returned (.agg (rqL rq0 v).toArray) ∧ OwnC w.heap.size w' v rq0.c ∧ AtR B p w' sF ∧ Kept [p] w w') := by show _ = _; unfold dtakeP; simp only [if_neg hF]
    have hfb : (sF.2 != 0) = true := by simpa using hF
    have hfc : (sF.2 == 0) = false := by simpa using hF
    clear hF
    go_wp2_with ((with_reducible refine wl_store_bx HR5.out HLz.out HOz.out HTz.out ?_ ?_ ?_); rfl; rfl; intro wz HBz HKz)
    refine bodyPost_ret (bx_result (by rfl) _ (by rfl) HBz.out HTz.out) rfl ?_
    rw [HPQ.out]
    exact ⟨.slice none 0 0, rfl, OwnC.nil _ _, HA5.out.kept HKz.out (by simp; omega) (by simp; omega), HK5.out.trans HKz.out (by simp)⟩

set_option maxHeartbeats 8000000 in
set_option maxRecDepth 100000 in
theorem dtake_6 (B p : Nat) (w : World) (s s1 s2 s3 sF : St) (xs : Int) (xq : Int) (xmb : Int) (e1 : eyeP.num s 0 = (6, s1)) (h1 : s1.2 = 0) (e_s : eyeP.num s1 0 = (xs, s2)) (e_q : eyeP.num s2 0 = (xq, s3)) (e_mb : eyeP.num s3 0 = (xmb, sF)) (hA : AtR B p w s) : Calls Try.prog 36 #[.pointer (some ⟨p, 0, none⟩)] w (dtakeP B p w ⟨6, [], xs, xq, 0, [], [], [], 0, 0, xmb⟩ sF) := by
  have hlt := hA.lt
  obtain ⟨W, hW⟩ : ∃ W, W = w.alloc (.cells #[.int .i64 0, .string ⟨#[]⟩, .int .i64 0, .int .i64 0, .int .i64 0, .string ⟨#[]⟩, .slice none 0 0, .string ⟨#[]⟩, .int .i64 0, .int .i64 0, .int .i64 0] 29) := ⟨_, rfl⟩
  have HW := hide hW
  have k0 : Kept [] w W := by rw [hW]; exact (Kept.refl _ _).alloc _
  have HR : Hid (Bx W w.heap.size 29 zrq) := by rw [hW]; exact Bx.new w _ zrq
  have hsz : w.heap.size < W.heap.size := HR.out.lt
  have cN := dr_num B p W s (hA.kept k0 (by simp) (by simp))
  rw [e1] at cN
  have CN := hide cN
  have HK0 := hide k0
  have HLc : Hid (([.int .i64 6, .string ⟨#[]⟩, .int .i64 0, .int .i64 0, .int .i64 0, .string ⟨#[]⟩, .slice none 0 0, .string ⟨#[]⟩, .int .i64 0, .int .i64 0, .int .i64 0] : List Value).length = zrq.length) := rfl
  have HOc : Hid (∀ z ∈ ([.int .i64 6, .string ⟨#[]⟩, .int .i64 0, .int .i64 0, .int .i64 0, .string ⟨#[]⟩, .slice none 0 0, .string ⟨#[]⟩, .int .i64 0, .int .i64 0, .int .i64 0] : List Value), z.oneCell' = true) := by intro z hv; simp at hv; rcases hv with rfl | rfl | rfl | rfl | rfl | rfl | rfl | rfl | rfl | rfl | rfl <;> rfl
  have HTc : Hid (RowT Try.prog 29 ([.int .i64 6, .string ⟨#[]⟩, .int .i64 0, .int .i64 0, .int .i64 0, .string ⟨#[]⟩, .slice none 0 0, .string ⟨#[]⟩, .int .i64 0, .int .i64 0, .int .i64 0] : List Value).length) := rowT_req
  clear hW k0 cN hA e1
  go_enter Try.func36, Try.ntmps36
  go_upto_region 1 with fail
  rw [← HW.out]
  go_upto_region 2 with (first | (go_at_call 63; refine CN.out.mono ?_; clear CN; rintro _ wa ⟨rfl, hA1, hk1⟩; have HAa := hide hA1; have HKa := hide hk1; have HZ : Hid (Bx (wa.alloc (.cells #[.int .i64 0, .string ⟨#[]⟩, .int .i64 0, .int .i64 0, .int .i64 0, .string ⟨#[]⟩, .slice none 0 0, .string ⟨#[]⟩, .int .i64 0, .int .i64 0, .int .i64 0] 29)) wa.heap.size 29 zrq) := (Bx.new wa _ zrq); clear hA1 hk1) | ((with_reducible refine wl_store_bx HZ.out HLc.out HOc.out HTc.out ?_ ?_ ?_); rfl; rfl; intro w1 HB1 HKx))
  have hza := HKa.out.size
  have k1 : Kept [] wa w1 := (Kept.refl [] wa).trans (((Kept.refl [wa.heap.size] wa).alloc _).trans HKx.out (by simp)) (by intro i hi; simp at hi; right; omega)
  obtain ⟨bx, hbx⟩ : ∃ bx, bx = wa.heap.size := ⟨_, rfl⟩
  rw [← hbx] at HB1 ⊢
  have hb1 : w.heap.size < bx := by omega
  have HA1 := hide (HAa.out.kept k1 (by simp) (by simp))
  have HR1 := hide ((HR.out.kept HKa.out (by simp; omega)).kept k1 (by simp))
  have HK1 : Hid (Kept [p] w w1) := ((HK0.out.mono (by simp)).trans HKa.out (by simp)).trans k1 (by simp)
  clear k1 HKx HZ hbx HAa HKa HLc HOc
  have hf0 : w1.cell? ⟨p, 1, none⟩ = some (.int .i64 0) := by rw [← h1]; exact HA1.out.fail
  have hc0 : w1.cell? ⟨bx, 0, none⟩ = some (.int .i64 6) := HB1.out.cell 0 rfl
  go_upto_region 4 with fail
  clear hc0 hf0
  have fj : Hid (∀ W2, Kept [p] w1 W2 → W2.cell? ⟨bx, 2, none⟩ = some (.int .i64 0) ∧ W2.frozen? ⟨bx, 2, none⟩ = false) := fun W2 k => by
    have h := HB1.out.kept k (by simp; omega)
    exact ⟨h.cell 2 rfl, h.froz 2⟩
  have cj := dr_num B p w1 s1 HA1.out
  rw [e_s] at cj
  have CJ := hide cj
  clear cj
  go_upto_region 5 with (go_at_call 63; refine CJ.out.mono ?_; clear CJ; rintro _ wm2 ⟨rfl, hA, hk⟩; have HAm := hide hA; have HKm := hide hk; obtain ⟨sc, sf⟩ := fj.out _ hk; clear hA hk fj)
  obtain ⟨w2, hw⟩ : ∃ w2, w2 = wm2.setCell ⟨bx, 2, none⟩ (.int .i64 xs) := ⟨_, rfl⟩
  rw [← hw]
  have HB2 : Hid (Bx w2 bx 29 [.int .i64 6, .string ⟨#[]⟩, .int .i64 xs, .int .i64 0, .int .i64 0, .string ⟨#[]⟩, .slice none 0 0, .string ⟨#[]⟩, .int .i64 0, .int .i64 0, .int .i64 0]) := by rw [hw]; exact (HB1.out.kept HKm.out (by simp; omega)).set 2 _
  have kc : Kept [bx] wm2 w2 := by rw [hw]; exact kept_set wm2 bx 2 _
  have HA2 := hide (HAm.out.kept kc (by simp; omega) (by simp; omega))
  have HR2 := hide ((HR1.out.kept HKm.out (by simp; omega)).kept kc (by simp; omega))
  have HK2 : Hid (Kept [p] w w2) := (HK1.out.trans HKm.out (by simp)).trans kc (by simp; omega)
  clear hw kc sc sf HKm HAm
  have fj : Hid (∀ W2, Kept [p] w2 W2 → W2.cell? ⟨bx, 3, none⟩ = some (.int .i64 0) ∧ W2.frozen? ⟨bx, 3, none⟩ = false) := fun W2 k => by
    have h := HB2.out.kept k (by simp; omega)
    exact ⟨h.cell 3 rfl, h.froz 3⟩
  have cj := dr_num B p w2 s2 HA2.out
  rw [e_q] at cj
  have CJ := hide cj
  clear cj
  go_upto_region 6 with (go_at_call 63; refine CJ.out.mono ?_; clear CJ; rintro _ wm3 ⟨rfl, hA, hk⟩; have HAm := hide hA; have HKm := hide hk; obtain ⟨sc, sf⟩ := fj.out _ hk; clear hA hk fj)
  obtain ⟨w3, hw⟩ : ∃ w3, w3 = wm3.setCell ⟨bx, 3, none⟩ (.int .i64 xq) := ⟨_, rfl⟩
  rw [← hw]
  have HB3 : Hid (Bx w3 bx 29 [.int .i64 6, .string ⟨#[]⟩, .int .i64 xs, .int .i64 xq, .int .i64 0, .string ⟨#[]⟩, .slice none 0 0, .string ⟨#[]⟩, .int .i64 0, .int .i64 0, .int .i64 0]) := by rw [hw]; exact (HB2.out.kept HKm.out (by simp; omega)).set 3 _
  have kc : Kept [bx] wm3 w3 := by rw [hw]; exact kept_set wm3 bx 3 _
  have HA3 := hide (HAm.out.kept kc (by simp; omega) (by simp; omega))
  have HR3 := hide ((HR2.out.kept HKm.out (by simp; omega)).kept kc (by simp; omega))
  have HK3 : Hid (Kept [p] w w3) := (HK2.out.trans HKm.out (by simp)).trans kc (by simp; omega)
  clear hw kc sc sf HKm HAm
  have hc0 : w3.cell? ⟨bx, 0, none⟩ = some (.int .i64 6) := HB3.out.cell 0 rfl
  go_upto_region 18 with fail
  clear hc0
  have fj : Hid (∀ W2, Kept [p] w3 W2 → W2.cell? ⟨bx, 10, none⟩ = some (.int .i64 0) ∧ W2.frozen? ⟨bx, 10, none⟩ = false) := fun W2 k => by
    have h := HB3.out.kept k (by simp; omega)
    exact ⟨h.cell 10 rfl, h.froz 10⟩
  have cj := dr_num B p w3 s3 HA3.out
  rw [e_mb] at cj
  have CJ := hide cj
  clear cj
  go_upto_region 22 with (go_at_call 63; refine CJ.out.mono ?_; clear CJ; rintro _ wm4 ⟨rfl, hA, hk⟩; have HAm := hide hA; have HKm := hide hk; obtain ⟨sc, sf⟩ := fj.out _ hk; clear hA hk fj)
  obtain ⟨w4, hw⟩ : ∃ w4, w4 = wm4.setCell ⟨bx, 10, none⟩ (.int .i64 xmb) := ⟨_, rfl⟩
  rw [← hw]
  have HB4 : Hid (Bx w4 bx 29 [.int .i64 6, .string ⟨#[]⟩, .int .i64 xs, .int .i64 xq, .int .i64 0, .string ⟨#[]⟩, .slice none 0 0, .string ⟨#[]⟩, .int .i64 0, .int .i64 0, .int .i64 xmb]) := by rw [hw]; exact (HB3.out.kept HKm.out (by simp; omega)).set 10 _
  have kc : Kept [bx] wm4 w4 := by rw [hw]; exact kept_set wm4 bx 10 _
  have HA4 := hide (HAm.out.kept kc (by simp; omega) (by simp; omega))
  have HR4 := hide ((HR3.out.kept HKm.out (by simp; omega)).kept kc (by simp; omega))
  have HK4 : Hid (Kept [p] w w4) := (HK3.out.trans HKm.out (by simp)).trans kc (by simp; omega)
  clear hw kc sc sf HKm HAm
  have hfe := HA4.out.fail
  have HTe : Hid (RowT Try.prog 29 ([.int .i64 6, .string ⟨#[]⟩, .int .i64 xs, .int .i64 xq, .int .i64 0, .string ⟨#[]⟩, .slice none 0 0, .string ⟨#[]⟩, .int .i64 0, .int .i64 0, .int .i64 xmb] : List Value).length) := rowT_req
  have HLe : Hid (([.int .i64 6, .string ⟨#[]⟩, .int .i64 xs, .int .i64 xq, .int .i64 0, .string ⟨#[]⟩, .slice none 0 0, .string ⟨#[]⟩, .int .i64 0, .int .i64 0, .int .i64 xmb] : List Value).length = zrq.length) := rfl
  have HOe : Hid (∀ z ∈ ([.int .i64 6, .string ⟨#[]⟩, .int .i64 xs, .int .i64 xq, .int .i64 0, .string ⟨#[]⟩, .slice none 0 0, .string ⟨#[]⟩, .int .i64 0, .int .i64 0, .int .i64 xmb] : List Value), z.oneCell' = true) := by intro z hv; simp at hv; rcases hv with rfl | rfl | rfl | rfl | rfl | rfl | rfl | rfl | rfl | rfl | rfl <;> rfl
  have HLz : Hid ((zrq : List Value).length = zrq.length) := rfl
  have HOz : Hid (∀ z ∈ (zrq : List Value), z.oneCell' = true) := by intro z hv; simp [zrq] at hv; rcases hv with rfl | rfl | rfl | rfl | rfl | rfl | rfl | rfl | rfl | rfl | rfl <;> rfl
  have HTz : Hid (RowT Try.prog 29 (zrq : List Value).length) := rowT_req
  by_cases hF : sF.2 = 0
  · have HPQ : Hid (dtakeP B p w ⟨6, [], xs, xq, 0, [], [], [], 0, 0, xmb⟩ sF = fun r w' => ∃ v, r = .returned (.agg (rqL ⟨6, [], xs, xq, 0, [], [], [], 0, 0, xmb⟩ v).toArray) ∧ OwnC w.heap.size w' v (⟨6, [], xs, xq, 0, [], [], [], 0, 0, xmb⟩ : Rq).c ∧ AtR B p w' sF ∧ Kept [p] w w') := by show _ = _; unfold dtakeP; simp only [if_pos hF]
    rw [hF] at hfe
    clear hF
    go_wp2_with (first | ((with_reducible refine wl_load_bx HB4.out HTe.out ?_ ?_); rfl) | ((with_reducible refine wl_store_bx HR4.out HLe.out HOe.out HTe.out ?_ ?_ ?_); rfl; rfl; intro wz HBz HKz))
    refine bodyPost_ret (bx_result (by rfl) _ (by rfl) HBz.out HTe.out) rfl ?_
    rw [HPQ.out]
    exact ⟨.slice none 0 0, rfl, OwnC.nil _ _, HA4.out.kept HKz.out (by simp; omega) (by simp; omega), HK4.out.trans HKz.out (by simp)⟩
  · have HPQ : Hid (dtakeP B p w ⟨6, [], xs, xq, 0, [], [], [], 0, 0, xmb⟩ sF = fun r w' => ∃ v, r = .returned (.agg (rqL rq0 v).toArray) ∧ OwnC w.heap.size w' v rq0.c ∧ AtR B p w' sF ∧ Kept [p] w w') := by show _ = _; unfold dtakeP; simp only [if_neg hF]
    have hfb : (sF.2 != 0) = true := by simpa using hF
    have hfc : (sF.2 == 0) = false := by simpa using hF
    clear hF
    go_wp2_with ((with_reducible refine wl_store_bx HR4.out HLz.out HOz.out HTz.out ?_ ?_ ?_); rfl; rfl; intro wz HBz HKz)
    refine bodyPost_ret (bx_result (by rfl) _ (by rfl) HBz.out HTz.out) rfl ?_
    rw [HPQ.out]
    exact ⟨.slice none 0 0, rfl, OwnC.nil _ _, HA4.out.kept HKz.out (by simp; omega) (by simp; omega), HK4.out.trans HKz.out (by simp)⟩

set_option maxHeartbeats 8000000 in
set_option maxRecDepth 100000 in
theorem dtake_7 (B p : Nat) (w : World) (s s1 s2 s3 sF : St) (xs : Int) (xq : Int) (xmb : Int) (e1 : eyeP.num s 0 = (7, s1)) (h1 : s1.2 = 0) (e_s : eyeP.num s1 0 = (xs, s2)) (e_q : eyeP.num s2 0 = (xq, s3)) (e_mb : eyeP.num s3 0 = (xmb, sF)) (hA : AtR B p w s) : Calls Try.prog 36 #[.pointer (some ⟨p, 0, none⟩)] w (dtakeP B p w ⟨7, [], xs, xq, 0, [], [], [], 0, 0, xmb⟩ sF) := by
  have hlt := hA.lt
  obtain ⟨W, hW⟩ : ∃ W, W = w.alloc (.cells #[.int .i64 0, .string ⟨#[]⟩, .int .i64 0, .int .i64 0, .int .i64 0, .string ⟨#[]⟩, .slice none 0 0, .string ⟨#[]⟩, .int .i64 0, .int .i64 0, .int .i64 0] 29) := ⟨_, rfl⟩
  have HW := hide hW
  have k0 : Kept [] w W := by rw [hW]; exact (Kept.refl _ _).alloc _
  have HR : Hid (Bx W w.heap.size 29 zrq) := by rw [hW]; exact Bx.new w _ zrq
  have hsz : w.heap.size < W.heap.size := HR.out.lt
  have cN := dr_num B p W s (hA.kept k0 (by simp) (by simp))
  rw [e1] at cN
  have CN := hide cN
  have HK0 := hide k0
  have HLc : Hid (([.int .i64 7, .string ⟨#[]⟩, .int .i64 0, .int .i64 0, .int .i64 0, .string ⟨#[]⟩, .slice none 0 0, .string ⟨#[]⟩, .int .i64 0, .int .i64 0, .int .i64 0] : List Value).length = zrq.length) := rfl
  have HOc : Hid (∀ z ∈ ([.int .i64 7, .string ⟨#[]⟩, .int .i64 0, .int .i64 0, .int .i64 0, .string ⟨#[]⟩, .slice none 0 0, .string ⟨#[]⟩, .int .i64 0, .int .i64 0, .int .i64 0] : List Value), z.oneCell' = true) := by intro z hv; simp at hv; rcases hv with rfl | rfl | rfl | rfl | rfl | rfl | rfl | rfl | rfl | rfl | rfl <;> rfl
  have HTc : Hid (RowT Try.prog 29 ([.int .i64 7, .string ⟨#[]⟩, .int .i64 0, .int .i64 0, .int .i64 0, .string ⟨#[]⟩, .slice none 0 0, .string ⟨#[]⟩, .int .i64 0, .int .i64 0, .int .i64 0] : List Value).length) := rowT_req
  clear hW k0 cN hA e1
  go_enter Try.func36, Try.ntmps36
  go_upto_region 1 with fail
  rw [← HW.out]
  go_upto_region 2 with (first | (go_at_call 63; refine CN.out.mono ?_; clear CN; rintro _ wa ⟨rfl, hA1, hk1⟩; have HAa := hide hA1; have HKa := hide hk1; have HZ : Hid (Bx (wa.alloc (.cells #[.int .i64 0, .string ⟨#[]⟩, .int .i64 0, .int .i64 0, .int .i64 0, .string ⟨#[]⟩, .slice none 0 0, .string ⟨#[]⟩, .int .i64 0, .int .i64 0, .int .i64 0] 29)) wa.heap.size 29 zrq) := (Bx.new wa _ zrq); clear hA1 hk1) | ((with_reducible refine wl_store_bx HZ.out HLc.out HOc.out HTc.out ?_ ?_ ?_); rfl; rfl; intro w1 HB1 HKx))
  have hza := HKa.out.size
  have k1 : Kept [] wa w1 := (Kept.refl [] wa).trans (((Kept.refl [wa.heap.size] wa).alloc _).trans HKx.out (by simp)) (by intro i hi; simp at hi; right; omega)
  obtain ⟨bx, hbx⟩ : ∃ bx, bx = wa.heap.size := ⟨_, rfl⟩
  rw [← hbx] at HB1 ⊢
  have hb1 : w.heap.size < bx := by omega
  have HA1 := hide (HAa.out.kept k1 (by simp) (by simp))
  have HR1 := hide ((HR.out.kept HKa.out (by simp; omega)).kept k1 (by simp))
  have HK1 : Hid (Kept [p] w w1) := ((HK0.out.mono (by simp)).trans HKa.out (by simp)).trans k1 (by simp)
  clear k1 HKx HZ hbx HAa HKa HLc HOc
  have hf0 : w1.cell? ⟨p, 1, none⟩ = some (.int .i64 0) := by rw [← h1]; exact HA1.out.fail
  have hc0 : w1.cell? ⟨bx, 0, none⟩ = some (.int .i64 7) := HB1.out.cell 0 rfl
  go_upto_region 4 with fail
  clear hc0 hf0
  have fj : Hid (∀ W2, Kept [p] w1 W2 → W2.cell? ⟨bx, 2, none⟩ = some (.int .i64 0) ∧ W2.frozen? ⟨bx, 2, none⟩ = false) := fun W2 k => by
    have h := HB1.out.kept k (by simp; omega)
    exact ⟨h.cell 2 rfl, h.froz 2⟩
  have cj := dr_num B p w1 s1 HA1.out
  rw [e_s] at cj
  have CJ := hide cj
  clear cj
  go_upto_region 5 with (go_at_call 63; refine CJ.out.mono ?_; clear CJ; rintro _ wm2 ⟨rfl, hA, hk⟩; have HAm := hide hA; have HKm := hide hk; obtain ⟨sc, sf⟩ := fj.out _ hk; clear hA hk fj)
  obtain ⟨w2, hw⟩ : ∃ w2, w2 = wm2.setCell ⟨bx, 2, none⟩ (.int .i64 xs) := ⟨_, rfl⟩
  rw [← hw]
  have HB2 : Hid (Bx w2 bx 29 [.int .i64 7, .string ⟨#[]⟩, .int .i64 xs, .int .i64 0, .int .i64 0, .string ⟨#[]⟩, .slice none 0 0, .string ⟨#[]⟩, .int .i64 0, .int .i64 0, .int .i64 0]) := by rw [hw]; exact (HB1.out.kept HKm.out (by simp; omega)).set 2 _
  have kc : Kept [bx] wm2 w2 := by rw [hw]; exact kept_set wm2 bx 2 _
  have HA2 := hide (HAm.out.kept kc (by simp; omega) (by simp; omega))
  have HR2 := hide ((HR1.out.kept HKm.out (by simp; omega)).kept kc (by simp; omega))
  have HK2 : Hid (Kept [p] w w2) := (HK1.out.trans HKm.out (by simp)).trans kc (by simp; omega)
  clear hw kc sc sf HKm HAm
  have fj : Hid (∀ W2, Kept [p] w2 W2 → W2.cell? ⟨bx, 3, none⟩ = some (.int .i64 0) ∧ W2.frozen? ⟨bx, 3, none⟩ = false) := fun W2 k => by
    have h := HB2.out.kept k (by simp; omega)
    exact ⟨h.cell 3 rfl, h.froz 3⟩
  have cj := dr_num B p w2 s2 HA2.out
  rw [e_q] at cj
  have CJ := hide cj
  clear cj
  go_upto_region 6 with (go_at_call 63; refine CJ.out.mono ?_; clear CJ; rintro _ wm3 ⟨rfl, hA, hk⟩; have HAm := hide hA; have HKm := hide hk; obtain ⟨sc, sf⟩ := fj.out _ hk; clear hA hk fj)
  obtain ⟨w3, hw⟩ : ∃ w3, w3 = wm3.setCell ⟨bx, 3, none⟩ (.int .i64 xq) := ⟨_, rfl⟩
  rw [← hw]
  have HB3 : Hid (Bx w3 bx 29 [.int .i64 7, .string ⟨#[]⟩, .int .i64 xs, .int .i64 xq, .int .i64 0, .string ⟨#[]⟩, .slice none 0 0, .string ⟨#[]⟩, .int .i64 0, .int .i64 0, .int .i64 0]) := by rw [hw]; exact (HB2.out.kept HKm.out (by simp; omega)).set 3 _
  have kc : Kept [bx] wm3 w3 := by rw [hw]; exact kept_set wm3 bx 3 _
  have HA3 := hide (HAm.out.kept kc (by simp; omega) (by simp; omega))
  have HR3 := hide ((HR2.out.kept HKm.out (by simp; omega)).kept kc (by simp; omega))
  have HK3 : Hid (Kept [p] w w3) := (HK2.out.trans HKm.out (by simp)).trans kc (by simp; omega)
  clear hw kc sc sf HKm HAm
  have hc0 : w3.cell? ⟨bx, 0, none⟩ = some (.int .i64 7) := HB3.out.cell 0 rfl
  go_upto_region 18 with fail
  clear hc0
  have fj : Hid (∀ W2, Kept [p] w3 W2 → W2.cell? ⟨bx, 10, none⟩ = some (.int .i64 0) ∧ W2.frozen? ⟨bx, 10, none⟩ = false) := fun W2 k => by
    have h := HB3.out.kept k (by simp; omega)
    exact ⟨h.cell 10 rfl, h.froz 10⟩
  have cj := dr_num B p w3 s3 HA3.out
  rw [e_mb] at cj
  have CJ := hide cj
  clear cj
  go_upto_region 22 with (go_at_call 63; refine CJ.out.mono ?_; clear CJ; rintro _ wm4 ⟨rfl, hA, hk⟩; have HAm := hide hA; have HKm := hide hk; obtain ⟨sc, sf⟩ := fj.out _ hk; clear hA hk fj)
  obtain ⟨w4, hw⟩ : ∃ w4, w4 = wm4.setCell ⟨bx, 10, none⟩ (.int .i64 xmb) := ⟨_, rfl⟩
  rw [← hw]
  have HB4 : Hid (Bx w4 bx 29 [.int .i64 7, .string ⟨#[]⟩, .int .i64 xs, .int .i64 xq, .int .i64 0, .string ⟨#[]⟩, .slice none 0 0, .string ⟨#[]⟩, .int .i64 0, .int .i64 0, .int .i64 xmb]) := by rw [hw]; exact (HB3.out.kept HKm.out (by simp; omega)).set 10 _
  have kc : Kept [bx] wm4 w4 := by rw [hw]; exact kept_set wm4 bx 10 _
  have HA4 := hide (HAm.out.kept kc (by simp; omega) (by simp; omega))
  have HR4 := hide ((HR3.out.kept HKm.out (by simp; omega)).kept kc (by simp; omega))
  have HK4 : Hid (Kept [p] w w4) := (HK3.out.trans HKm.out (by simp)).trans kc (by simp; omega)
  clear hw kc sc sf HKm HAm
  have hfe := HA4.out.fail
  have HTe : Hid (RowT Try.prog 29 ([.int .i64 7, .string ⟨#[]⟩, .int .i64 xs, .int .i64 xq, .int .i64 0, .string ⟨#[]⟩, .slice none 0 0, .string ⟨#[]⟩, .int .i64 0, .int .i64 0, .int .i64 xmb] : List Value).length) := rowT_req
  have HLe : Hid (([.int .i64 7, .string ⟨#[]⟩, .int .i64 xs, .int .i64 xq, .int .i64 0, .string ⟨#[]⟩, .slice none 0 0, .string ⟨#[]⟩, .int .i64 0, .int .i64 0, .int .i64 xmb] : List Value).length = zrq.length) := rfl
  have HOe : Hid (∀ z ∈ ([.int .i64 7, .string ⟨#[]⟩, .int .i64 xs, .int .i64 xq, .int .i64 0, .string ⟨#[]⟩, .slice none 0 0, .string ⟨#[]⟩, .int .i64 0, .int .i64 0, .int .i64 xmb] : List Value), z.oneCell' = true) := by intro z hv; simp at hv; rcases hv with rfl | rfl | rfl | rfl | rfl | rfl | rfl | rfl | rfl | rfl | rfl <;> rfl
  have HLz : Hid ((zrq : List Value).length = zrq.length) := rfl
  have HOz : Hid (∀ z ∈ (zrq : List Value), z.oneCell' = true) := by intro z hv; simp [zrq] at hv; rcases hv with rfl | rfl | rfl | rfl | rfl | rfl | rfl | rfl | rfl | rfl | rfl <;> rfl
  have HTz : Hid (RowT Try.prog 29 (zrq : List Value).length) := rowT_req
  by_cases hF : sF.2 = 0
  · have HPQ : Hid (dtakeP B p w ⟨7, [], xs, xq, 0, [], [], [], 0, 0, xmb⟩ sF = fun r w' => ∃ v, r = .returned (.agg (rqL ⟨7, [], xs, xq, 0, [], [], [], 0, 0, xmb⟩ v).toArray) ∧ OwnC w.heap.size w' v (⟨7, [], xs, xq, 0, [], [], [], 0, 0, xmb⟩ : Rq).c ∧ AtR B p w' sF ∧ Kept [p] w w') := by show _ = _; unfold dtakeP; simp only [if_pos hF]
    rw [hF] at hfe
    clear hF
    go_wp2_with (first | ((with_reducible refine wl_load_bx HB4.out HTe.out ?_ ?_); rfl) | ((with_reducible refine wl_store_bx HR4.out HLe.out HOe.out HTe.out ?_ ?_ ?_); rfl; rfl; intro wz HBz HKz))
    refine bodyPost_ret (bx_result (by rfl) _ (by rfl) HBz.out HTe.out) rfl ?_
    rw [HPQ.out]
    exact ⟨.slice none 0 0, rfl, OwnC.nil _ _, HA4.out.kept HKz.out (by simp; omega) (by simp; omega), HK4.out.trans HKz.out (by simp)⟩
  · have HPQ : Hid (dtakeP B p w ⟨7, [], xs, xq, 0, [], [], [], 0, 0, xmb⟩ sF = fun r w' => ∃ v, r = .returned (.agg (rqL rq0 v).toArray) ∧ OwnC w.heap.size w' v rq0.c ∧ AtR B p w' sF ∧ Kept [p] w w') := by show _ = _; unfold dtakeP; simp only [if_neg hF]
    have hfb : (sF.2 != 0) = true := by simpa using hF
    have hfc : (sF.2 == 0) = false := by simpa using hF
    clear hF
    go_wp2_with ((with_reducible refine wl_store_bx HR4.out HLz.out HOz.out HTz.out ?_ ?_ ?_); rfl; rfl; intro wz HBz HKz)
    refine bodyPost_ret (bx_result (by rfl) _ (by rfl) HBz.out HTz.out) rfl ?_
    rw [HPQ.out]
    exact ⟨.slice none 0 0, rfl, OwnC.nil _ _, HA4.out.kept HKz.out (by simp; omega) (by simp; omega), HK4.out.trans HKz.out (by simp)⟩

end Go.Proofs.Ytlgacmmofimlmaa
