/-
  The document's Take: the other kinds; all of it. (Written by mk/mkdtake2.py.)
-/
import Derived.Test.YtlgacmmofimlmaaEnDr2
namespace Go.Proofs.Ytlgacmmofimlmaa
open Go.RowKit

set_option maxHeartbeats 8000000 in
set_option maxRecDepth 100000 in
theorem dtake_big (B p : Nat) (w : World) (s s1 : St) (n : Int) (e1 : eyeP.num s 0 = (n, s1)) (hn : 8 ≤ n) (hA : AtR B p w s) : Calls Try.prog 36 #[.pointer (some ⟨p, 0, none⟩)] w (dtakeP B p w rq0 ([], rdRefE s1.2)) := by
  have hlt := hA.lt
  obtain ⟨W, hW⟩ : ∃ W, W = w.alloc (.cells #[.int .i64 0, .string ⟨#[]⟩, .int .i64 0, .int .i64 0, .int .i64 0, .string ⟨#[]⟩, .slice none 0 0, .string ⟨#[]⟩, .int .i64 0, .int .i64 0, .int .i64 0] 29) := ⟨_, rfl⟩
  have HW := hide hW
  have k0 : Kept [] w W := by rw [hW]; exact (Kept.refl _ _).alloc _
  have HR : Hid (Bx W w.heap.size 29 zrq) := by rw [hW]; exact Bx.new w _ zrq
  have hsz : w.heap.size < W.heap.size := HR.out.lt
  have cN := dr_num B p W s (hA.kept k0 (by simp) (by simp))
  rw [e1] at cN
  have CN := hide cN
  have HK0 := hide k0
  have HLc : Hid (([.int .i64 n, .string ⟨#[]⟩, .int .i64 0, .int .i64 0, .int .i64 0, .string ⟨#[]⟩, .slice none 0 0, .string ⟨#[]⟩, .int .i64 0, .int .i64 0, .int .i64 0] : List Value).length = zrq.length) := rfl
  have HOc : Hid (∀ z ∈ ([.int .i64 n, .string ⟨#[]⟩, .int .i64 0, .int .i64 0, .int .i64 0, .string ⟨#[]⟩, .slice none 0 0, .string ⟨#[]⟩, .int .i64 0, .int .i64 0, .int .i64 0] : List Value), z.oneCell' = true) := by intro z hv; simp at hv; rcases hv with rfl | rfl | rfl | rfl | rfl | rfl | rfl | rfl | rfl | rfl | rfl <;> rfl
  have HTc : Hid (RowT Try.prog 29 ([.int .i64 n, .string ⟨#[]⟩, .int .i64 0, .int .i64 0, .int .i64 0, .string ⟨#[]⟩, .slice none 0 0, .string ⟨#[]⟩, .int .i64 0, .int .i64 0, .int .i64 0] : List Value).length) := rowT_req
  clear hW k0 cN hA e1
  go_enter Try.func36, Try.ntmps36
  go_upto_region 1 with fail
  rw [← HW.out]
  go_upto_region 2 with (first | (go_at_call 63; refine CN.out.mono ?_; clear CN; rintro _ wa ⟨rfl, hA1, hk1⟩; have HAa := hide hA1; have HKa := hide hk1; have HZ : Hid (Bx (wa.alloc (.cells #[.int .i64 0, .string ⟨#[]⟩, .int .i64 0, .int .i64 0, .int .i64 0, .string ⟨#[]⟩, .slice none 0 0, .string ⟨#[]⟩, .int .i64 0, .int .i64 0, .int .i64 0] 29)) wa.heap.size 29 zrq) := (Bx.new wa _ zrq); clear hA1 hk1) | ((with_reducible refine wl_store_bx HZ.out HLc.out HOc.out HTc.out ?_ ?_ ?_); rfl; rfl; intro w1 HB1 HKx))
  have hza := HKa.out.size
  have k1 : Kept [] wa w1 := (Kept.refl [] wa).trans (((Kept.refl [wa.heap.size] wa).alloc _).trans HKx.out (by simp)) (by intro i hi; simp at hi; right; omega)
  obtain ⟨bx, hbx⟩ : ∃ bx, bx = wa.heap.size := ⟨_, rfl⟩
  rw [← hbx] at HB1 ⊢
  have hb1 : w.heap.size < bx := by omega
  have HA1 := hide (HAa.out.kept k1 (by simp) (by simp))
  have HR1 := hide ((HR.out.kept HKa.out (by simp; omega)).kept k1 (by simp))
  have HK1 : Hid (Kept [p] w w1) := ((HK0.out.mono (by simp)).trans HKa.out (by simp)).trans k1 (by simp)
  clear k1 HKx HZ hbx HAa HKa HLc HOc
  have hc0 : w1.cell? ⟨bx, 0, none⟩ = some (.int .i64 n) := HB1.out.cell 0 rfl
  have hnd : decide (8 ≤ n) = true := decide_eq_true hn
  have CR := hide (dr_refuse B p w1 s1 HA1.out)
  have HF2 := hide (rdRefE_ne s1.2)
  obtain ⟨s2, hs2⟩ : ∃ s2 : St, s2 = ([], rdRefE s1.2) := ⟨_, rfl⟩
  rw [← hs2] at CR
  have HS2 := hide hs2
  have hF : s2.2 ≠ 0 := by rw [hs2]; exact HF2.out
  clear hs2 HF2
  go_upto_region 19 with (go_at_call 64; refine CR.out.mono ?_; clear CR; rintro _ w2 ⟨rfl, hA2, hk2⟩; have HA2 := hide hA2; have HKm := hide hk2; clear hA2 hk2)
  have hc2 : w2.cell? ⟨bx, 0, none⟩ = some (.int .i64 n) := (HB1.out.kept HKm.out (by simp; omega)).cell 0 rfl
  have HR2 := hide (HR1.out.kept HKm.out (by simp; omega))
  have HK2 := hide (HK1.out.trans HKm.out (by simp))
  clear hc0
  have hfe := HA2.out.fail
  have HLz : Hid ((zrq : List Value).length = zrq.length) := rfl
  have HOz : Hid (∀ z ∈ (zrq : List Value), z.oneCell' = true) := by intro z hv; simp [zrq] at hv; rcases hv with rfl | rfl | rfl | rfl | rfl | rfl | rfl | rfl | rfl | rfl | rfl <;> rfl
  have HTz : Hid (RowT Try.prog 29 (zrq : List Value).length) := rowT_req
  have HG2 : Hid (dtakeP B p w rq0 ([], rdRefE s1.2) = dtakeP B p w rq0 s2) := by show _ = _; rw [HS2.out]
  have HPQ : Hid (dtakeP B p w rq0 s2 = fun r w' => ∃ v, r = .returned (.agg (rqL rq0 v).toArray) ∧ OwnC w.heap.size w' v rq0.c ∧ AtR B p w' s2 ∧ Kept [p] w w') := by show _ = _; unfold dtakeP; simp only [if_neg hF]
  have hfb : (s2.2 != 0) = true := by simpa using hF
  have hfc : (s2.2 == 0) = false := by simpa using hF
  clear hF
  go_wp2_with ((with_reducible refine wl_store_bx HR2.out HLz.out HOz.out HTz.out ?_ ?_ ?_); rfl; rfl; intro wz HBz HKz)
  refine bodyPost_ret (bx_result (by rfl) _ (by rfl) HBz.out HTz.out) rfl ?_
  rw [HG2.out, HPQ.out]
  exact ⟨.slice none 0 0, rfl, OwnC.nil _ _, HA2.out.kept HKz.out (by simp; omega) (by simp; omega), HK2.out.trans HKz.out (by simp)⟩

set_option maxHeartbeats 8000000 in
set_option maxRecDepth 100000 in
theorem dtake_0 (B p : Nat) (w : World) (s s1 : St) (e1 : eyeP.num s 0 = (0, s1)) (hA : AtR B p w s) : Calls Try.prog 36 #[.pointer (some ⟨p, 0, none⟩)] w (dtakeP B p w rq0 s1) := by
  have hlt := hA.lt
  obtain ⟨W, hW⟩ : ∃ W, W = w.alloc (.cells #[.int .i64 0, .string ⟨#[]⟩, .int .i64 0, .int .i64 0, .int .i64 0, .string ⟨#[]⟩, .slice none 0 0, .string ⟨#[]⟩, .int .i64 0, .int .i64 0, .int .i64 0] 29) := ⟨_, rfl⟩
  have HW := hide hW
  have k0 : Kept [] w W := by rw [hW]; exact (Kept.refl _ _).alloc _
  have HR : Hid (Bx W w.heap.size 29 zrq) := by rw [hW]; exact Bx.new w _ zrq
  have hsz : w.heap.size < W.heap.size := HR.out.lt
  have cN := dr_num B p W s (hA.kept k0 (by simp) (by simp))
  rw [e1] at cN
  have CN := hide cN
  have HK0 := hide k0
  have HLc : Hid (([.int .i64 0, .string ⟨#[]⟩, .int .i64 0, .int .i64 0, .int .i64 0, .string ⟨#[]⟩, .slice none 0 0, .string ⟨#[]⟩, .int .i64 0, .int .i64 0, .int .i64 0] : List Value).length = zrq.length) := rfl
  have HOc : Hid (∀ z ∈ ([.int .i64 0, .string ⟨#[]⟩, .int .i64 0, .int .i64 0, .int .i64 0, .string ⟨#[]⟩, .slice none 0 0, .string ⟨#[]⟩, .int .i64 0, .int .i64 0, .int .i64 0] : List Value), z.oneCell' = true) := by intro z hv; simp at hv; rcases hv with rfl | rfl | rfl | rfl | rfl | rfl | rfl | rfl | rfl | rfl | rfl <;> rfl
  have HTc : Hid (RowT Try.prog 29 ([.int .i64 0, .string ⟨#[]⟩, .int .i64 0, .int .i64 0, .int .i64 0, .string ⟨#[]⟩, .slice none 0 0, .string ⟨#[]⟩, .int .i64 0, .int .i64 0, .int .i64 0] : List Value).length) := rowT_req
  clear hW k0 cN hA e1
  go_enter Try.func36, Try.ntmps36
  go_upto_region 1 with fail
  rw [← HW.out]
  go_upto_region 2 with (first | (go_at_call 63; refine CN.out.mono ?_; clear CN; rintro _ wa ⟨rfl, hA1, hk1⟩; have HAa := hide hA1; have HKa := hide hk1; have HZ : Hid (Bx (wa.alloc (.cells #[.int .i64 0, .string ⟨#[]⟩, .int .i64 0, .int .i64 0, .int .i64 0, .string ⟨#[]⟩, .slice none 0 0, .string ⟨#[]⟩, .int .i64 0, .int .i64 0, .int .i64 0] 29)) wa.heap.size 29 zrq) := (Bx.new wa _ zrq); clear hA1 hk1) | ((with_reducible refine wl_store_bx HZ.out HLc.out HOc.out HTc.out ?_ ?_ ?_); rfl; rfl; intro w1 HB1 HKx))
  have hza := HKa.out.size
  have k1 : Kept [] wa w1 := (Kept.refl [] wa).trans (((Kept.refl [wa.heap.size] wa).alloc _).trans HKx.out (by simp)) (by intro i hi; simp at hi; right; omega)
  obtain ⟨bx, hbx⟩ : ∃ bx, bx = wa.heap.size := ⟨_, rfl⟩
  rw [← hbx] at HB1 ⊢
  have hb1 : w.heap.size < bx := by omega
  have HA1 := hide (HAa.out.kept k1 (by simp) (by simp))
  have HR1 := hide ((HR.out.kept HKa.out (by simp; omega)).kept k1 (by simp))
  have HK1 : Hid (Kept [p] w w1) := ((HK0.out.mono (by simp)).trans HKa.out (by simp)).trans k1 (by simp)
  clear k1 HKx HZ hbx HAa HKa HLc HOc
  have hc0 : w1.cell? ⟨bx, 0, none⟩ = some (.int .i64 0) := HB1.out.cell 0 rfl
  have hfe := HA1.out.fail
  have HTe : Hid (RowT Try.prog 29 ([.int .i64 0, .string ⟨#[]⟩, .int .i64 0, .int .i64 0, .int .i64 0, .string ⟨#[]⟩, .slice none 0 0, .string ⟨#[]⟩, .int .i64 0, .int .i64 0, .int .i64 0] : List Value).length) := rowT_req
  have HLe : Hid (([.int .i64 0, .string ⟨#[]⟩, .int .i64 0, .int .i64 0, .int .i64 0, .string ⟨#[]⟩, .slice none 0 0, .string ⟨#[]⟩, .int .i64 0, .int .i64 0, .int .i64 0] : List Value).length = zrq.length) := rfl
  have HOe : Hid (∀ z ∈ ([.int .i64 0, .string ⟨#[]⟩, .int .i64 0, .int .i64 0, .int .i64 0, .string ⟨#[]⟩, .slice none 0 0, .string ⟨#[]⟩, .int .i64 0, .int .i64 0, .int .i64 0] : List Value), z.oneCell' = true) := by intro z hv; simp at hv; rcases hv with rfl | rfl | rfl | rfl | rfl | rfl | rfl | rfl | rfl | rfl | rfl <;> rfl
  have HLz : Hid ((zrq : List Value).length = zrq.length) := rfl
  have HOz : Hid (∀ z ∈ (zrq : List Value), z.oneCell' = true) := by intro z hv; simp [zrq] at hv; rcases hv with rfl | rfl | rfl | rfl | rfl | rfl | rfl | rfl | rfl | rfl | rfl <;> rfl
  have HTz : Hid (RowT Try.prog 29 (zrq : List Value).length) := rowT_req
  by_cases hF : s1.2 = 0
  · have HPQ : Hid (dtakeP B p w rq0 s1 = fun r w' => ∃ v, r = .returned (.agg (rqL rq0 v).toArray) ∧ OwnC w.heap.size w' v (rq0 : Rq).c ∧ AtR B p w' s1 ∧ Kept [p] w w') := by show _ = _; unfold dtakeP; simp only [if_pos hF]
    rw [hF] at hfe
    clear hF
    go_wp2_with (first | ((with_reducible refine wl_load_bx HB1.out HTe.out ?_ ?_); rfl) | ((with_reducible refine wl_store_bx HR1.out HLe.out HOe.out HTe.out ?_ ?_ ?_); rfl; rfl; intro wz HBz HKz))
    refine bodyPost_ret (bx_result (by rfl) _ (by rfl) HBz.out HTe.out) rfl ?_
    rw [HPQ.out]
    exact ⟨.slice none 0 0, rfl, OwnC.nil _ _, HA1.out.kept HKz.out (by simp; omega) (by simp; omega), HK1.out.trans HKz.out (by simp)⟩
  · have HPQ : Hid (dtakeP B p w rq0 s1 = fun r w' => ∃ v, r = .returned (.agg (rqL rq0 v).toArray) ∧ OwnC w.heap.size w' v rq0.c ∧ AtR B p w' s1 ∧ Kept [p] w w') := by show _ = _; unfold dtakeP; simp only [if_neg hF]
    have hfb : (s1.2 != 0) = true := by simpa using hF
    have hfc : (s1.2 == 0) = false := by simpa using hF
    clear hF
    go_wp2_with ((with_reducible refine wl_store_bx HR1.out HLz.out HOz.out HTz.out ?_ ?_ ?_); rfl; rfl; intro wz HBz HKz)
    refine bodyPost_ret (bx_result (by rfl) _ (by rfl) HBz.out HTz.out) rfl ?_
    rw [HPQ.out]
    exact ⟨.slice none 0 0, rfl, OwnC.nil _ _, HA1.out.kept HKz.out (by simp; omega) (by simp; omega), HK1.out.trans HKz.out (by simp)⟩

theorem rdNumE_zero {e : Int} {l : List Int} (h : (rdNumE e l).1 ≠ 0) : (rdNumE e l).2.1 = 0 := by
  unfold rdNumE at h ⊢
  split
  · rename_i he
    rw [if_pos he] at h
    rcases rdN_shape 6 0 0 l with ⟨h1, k, h2⟩ | ⟨_, h2⟩
    · exact absurd h1 h
    · show (rdN 6 0 0 l).2.1 = 0; rw [h2]
  · rfl

theorem up_num (s : St) (t : Int) (h : ¬ t < (eyeP.num s 0).1) : eyeP.upTo s 0 t = eyeP.num s 0 := by
  have h' : ¬ t < (rdNumE s.2 s.1).2.1 := h
  show (if _ then _ else _) = _
  rw [if_neg h']
  rfl

theorem up_big (s : St) (t : Int) (h : t < (eyeP.num s 0).1) : eyeP.upTo s 0 t = (0, ([], rdRefE (eyeP.num s 0).2.2)) := by
  have h' : t < (rdNumE s.2 s.1).2.1 := h
  show (if _ then _ else _) = _
  rw [if_pos h']
  rfl

/-- The document's Take reads what the program's does. -/
theorem dtake_call (B p : Nat) (w : World) (s : St) (hA : AtR B p w s) : Calls Try.prog 36 #[.pointer (some ⟨p, 0, none⟩)] w (dtakeP B p w (reqP eyeP s rq0).1 (reqP eyeP s rq0).2) := by
  have hnn : 0 ≤ (eyeP.num s 0).1 := rdNumE_nonneg hA.oct
  have hz : (eyeP.num s 0).2.2 ≠ 0 → (eyeP.num s 0).1 = 0 := fun h => rdNumE_zero h
  have hnl : Nl (eyeP.num s 0).2 := cdc_nl cdc_num s hA.nl
  have hu : ¬ 7 < (eyeP.num s 0).1 → eyeP.upTo s rq0.k 7 = eyeP.num s 0 := up_num s 7
  have hb : 7 < (eyeP.num s 0).1 → eyeP.upTo s rq0.k 7 = (0, ([], rdRefE (eyeP.num s 0).2.2)) := up_big s 7
  obtain ⟨n, hn⟩ : ∃ n, n = (eyeP.num s 0).1 := ⟨_, rfl⟩
  obtain ⟨s1, hs1⟩ : ∃ s1, s1 = (eyeP.num s 0).2 := ⟨_, rfl⟩
  have e1 : eyeP.num s 0 = (n, s1) := by rw [hn, hs1]
  rw [e1] at hnn hz hnl hu hb
  simp only at hnn hz hnl hu hb
  by_cases hbig : 7 < n
  · have e : reqP eyeP s rq0 = (rq0, ([], rdRefE s1.2)) := by unfold reqP reqK; rw [hb hbig]; rfl
    rw [e]
    exact dtake_big B p w s s1 n e1 (by omega) hA
  have hu' := hu hbig
  by_cases h0 : n = 0
  · rw [h0] at e1 hu'
    have e : reqP eyeP s rq0 = (rq0, s1) := by unfold reqP reqK; rw [hu']; rfl
    rw [e]
    exact dtake_0 B p w s s1 e1 hA
  have hs0 : s1.2 = 0 := by
    by_cases h : s1.2 = 0
    · exact h
    · exact absurd (hz h) h0
  by_cases h1 : n = 1
  · rw [h1] at e1 hu'
    have e : reqP eyeP s rq0 = (⟨1, (eyeP.text s1 []).1, 0, 0, 0, [], [], [], 0, 0, 0⟩, (eyeP.text s1 []).2) := by unfold reqP reqK; rw [hu']; rfl
    rw [e]
    exact dtake_1 B p w s s1 _ _ e1 hs0 rfl hA
  by_cases h2 : n = 2
  · rw [h2] at e1 hu'
    have e : reqP eyeP s rq0 = (⟨2, [], (eyeP.num s1 0).1, (eyeP.num (eyeP.num s1 0).2 0).1, (eyeP.num (eyeP.num (eyeP.num s1 0).2 0).2 0).1, (eyeP.text (eyeP.num (eyeP.num (eyeP.num s1 0).2 0).2 0).2 []).1, (listP eyeP (chgP eyeP) ch0 (eyeP.text (eyeP.num (eyeP.num (eyeP.num s1 0).2 0).2 0).2 []).2 [] 64).1, [], 0, 0, 0⟩, (listP eyeP (chgP eyeP) ch0 (eyeP.text (eyeP.num (eyeP.num (eyeP.num s1 0).2 0).2 0).2 []).2 [] 64).2) := by unfold reqP reqK reqS reqA reqQ; rw [hu']; rfl
    rw [e]
    have hl := tk_list (chgP eyeP) ch0 cdc_chg 64 (eyeP.text (eyeP.num (eyeP.num (eyeP.num s1 0).2 0).2 0).2 []).2 (cdc_nl cdc_text _ (cdc_nl cdc_num _ (cdc_nl cdc_num _ (cdc_nl cdc_num _ hnl))))
    have l1 : (listP eyeP (chgP eyeP) ch0 (eyeP.text (eyeP.num (eyeP.num (eyeP.num s1 0).2 0).2 0).2 []).2 [] 64).2 = (tkL chgR 64 (eyeP.text (eyeP.num (eyeP.num (eyeP.num s1 0).2 0).2 0).2 []).2).2 := hl.1
    have l2 : (tkL chgR 64 (eyeP.text (eyeP.num (eyeP.num (eyeP.num s1 0).2 0).2 0).2 []).2).2.2 = 0 → (listP eyeP (chgP eyeP) ch0 (eyeP.text (eyeP.num (eyeP.num (eyeP.num s1 0).2 0).2 0).2 []).2 [] 64).1 = (tkL chgR 64 (eyeP.text (eyeP.num (eyeP.num (eyeP.num s1 0).2 0).2 0).2 []).2).1 := hl.2
    have c := dtake_2 B p w s s1 (eyeP.num s1 0).2 (eyeP.num (eyeP.num s1 0).2 0).2 (eyeP.num (eyeP.num (eyeP.num s1 0).2 0).2 0).2 (eyeP.text (eyeP.num (eyeP.num (eyeP.num s1 0).2 0).2 0).2 []).2 (tkL chgR 64 (eyeP.text (eyeP.num (eyeP.num (eyeP.num s1 0).2 0).2 0).2 []).2).2 (eyeP.num s1 0).1 (eyeP.num (eyeP.num s1 0).2 0).1 (eyeP.num (eyeP.num (eyeP.num s1 0).2 0).2 0).1 (eyeP.text (eyeP.num (eyeP.num (eyeP.num s1 0).2 0).2 0).2 []).1 (tkL chgR 64 (eyeP.text (eyeP.num (eyeP.num (eyeP.num s1 0).2 0).2 0).2 []).2).1 e1 hs0 rfl rfl rfl rfl rfl hA
    refine c.mono (fun r w' hr => ?_)
    obtain ⟨v, h3, h4, h5, h6⟩ := hr
    generalize (listP eyeP (chgP eyeP) ch0 (eyeP.text (eyeP.num (eyeP.num (eyeP.num s1 0).2 0).2 0).2 []).2 [] 64) = P1 at *
    generalize (tkL chgR 64 (eyeP.text (eyeP.num (eyeP.num (eyeP.num s1 0).2 0).2 0).2 []).2) = P2 at *
    rw [l1]
    by_cases hz2 : P2.2.2 = 0
    · rw [l2 hz2]
      exact ⟨v, h3, h4, h5, h6⟩
    · rw [if_neg hz2] at h3 h4
      exact ⟨v, by rw [if_neg hz2]; exact h3, by rw [if_neg hz2]; exact h4, h5, h6⟩
  by_cases h4 : n = 4
  · rw [h4] at e1 hu'
    have e : reqP eyeP s rq0 = (⟨4, [], (eyeP.num s1 0).1, (eyeP.num (eyeP.num s1 0).2 0).1, 0, [], [], (eyeP.text (eyeP.num (eyeP.num s1 0).2 0).2 []).1, 0, 0, 0⟩, (eyeP.text (eyeP.num (eyeP.num s1 0).2 0).2 []).2) := by unfold reqP reqK reqS reqA reqQ; rw [hu']; rfl
    rw [e]
    exact dtake_4 B p w s s1 _ _ _ _ _ _ e1 hs0 rfl rfl rfl hA
  by_cases h5 : n = 5
  · rw [h5] at e1 hu'
    have e : reqP eyeP s rq0 = (⟨5, [], (eyeP.num s1 0).1, (eyeP.num (eyeP.num s1 0).2 0).1, 0, [], [], [], (eyeP.num (eyeP.num (eyeP.num s1 0).2 0).2 0).1, (eyeP.num (eyeP.num (eyeP.num (eyeP.num s1 0).2 0).2 0).2 0).1, 0⟩, (eyeP.num (eyeP.num (eyeP.num (eyeP.num s1 0).2 0).2 0).2 0).2) := by unfold reqP reqK reqS reqA reqQ; rw [hu']; rfl
    rw [e]
    exact dtake_5 B p w s s1 _ _ _ _ _ _ _ _ e1 hs0 rfl rfl rfl rfl hA
  by_cases h6 : n = 6
  · rw [h6] at e1 hu'
    have e : reqP eyeP s rq0 = (⟨6, [], (eyeP.num s1 0).1, (eyeP.num (eyeP.num s1 0).2 0).1, 0, [], [], [], 0, 0, (eyeP.num (eyeP.num (eyeP.num s1 0).2 0).2 0).1⟩, (eyeP.num (eyeP.num (eyeP.num s1 0).2 0).2 0).2) := by unfold reqP reqK reqS reqA reqQ; rw [hu']; rfl
    rw [e]
    exact dtake_6 B p w s s1 _ _ _ _ _ _ e1 hs0 rfl rfl rfl hA
  by_cases h7 : n = 7
  · rw [h7] at e1 hu'
    have e : reqP eyeP s rq0 = (⟨7, [], (eyeP.num s1 0).1, (eyeP.num (eyeP.num s1 0).2 0).1, 0, [], [], [], 0, 0, (eyeP.num (eyeP.num (eyeP.num s1 0).2 0).2 0).1⟩, (eyeP.num (eyeP.num (eyeP.num s1 0).2 0).2 0).2) := by unfold reqP reqK reqS reqA reqQ; rw [hu']; rfl
    rw [e]
    exact dtake_7 B p w s s1 _ _ _ _ _ _ e1 hs0 rfl rfl rfl hA
  have h3 : n = 3 := by omega
  rw [h3] at e1 hu'
  have e : reqP eyeP s rq0 = (⟨3, [], (eyeP.num s1 0).1, (eyeP.num (eyeP.num s1 0).2 0).1, 0, [], [], [], 0, 0, 0⟩, (eyeP.num (eyeP.num s1 0).2 0).2) := by unfold reqP reqK reqS reqA reqQ; rw [hu']; rfl
  rw [e]
  exact dtake_3 B p w s s1 _ _ _ _ e1 hs0 rfl rfl hA

end Go.Proofs.Ytlgacmmofimlmaa
