/-
  The document's Heard, all of it. (Written by mk/mkdheard.py.)
-/
import Derived.Test.YtlgacmmofimlmaaEnDr5
namespace Go.Proofs.Ytlgacmmofimlmaa
open Go.RowKit

set_option maxHeartbeats 8000000 in
set_option maxRecDepth 100000 in
theorem dheard_big (B p : Nat) (w : World) (s s1 : St) (n : Int) (e1 : eyeP.num s 0 = (n, s1)) (hn : 15 ≤ n) (hA : AtR B p w s) : Calls Try.prog 40 #[.pointer (some ⟨p, 0, none⟩)] w (dheardP B p w vt0 ([], rdRefE s1.2)) := by
  have hlt := hA.lt
  obtain ⟨W, hW⟩ : ∃ W, W = w.alloc (.cells #[.int .i64 0, .int .i64 0, .int .i64 0, .string ⟨#[]⟩, .int .u64 0, .slice none 0 0, .int .i64 0] 43) := ⟨_, rfl⟩
  have HW := hide hW
  have k0 : Kept [] w W := by rw [hW]; exact (Kept.refl _ _).alloc _
  have HR : Hid (Bx W w.heap.size 43 zvt) := by rw [hW]; exact Bx.new w _ zvt
  have hsz : w.heap.size < W.heap.size := HR.out.lt
  have cN := dr_num B p W s (hA.kept k0 (by simp) (by simp))
  rw [e1] at cN
  have CN := hide cN
  have HK0 := hide k0
  have HLc : Hid (([.int .i64 n, .int .i64 0, .int .i64 0, .string ⟨#[]⟩, .int .u64 0, .slice none 0 0, .int .i64 0] : List Value).length = zvt.length) := rfl
  have HOc : Hid (∀ z ∈ ([.int .i64 n, .int .i64 0, .int .i64 0, .string ⟨#[]⟩, .int .u64 0, .slice none 0 0, .int .i64 0] : List Value), z.oneCell' = true) := by intro z hv; simp at hv; rcases hv with rfl | rfl | rfl | rfl | rfl | rfl | rfl <;> rfl
  have HTc : Hid (RowT Try.prog 43 ([.int .i64 n, .int .i64 0, .int .i64 0, .string ⟨#[]⟩, .int .u64 0, .slice none 0 0, .int .i64 0] : List Value).length) := rowT_ver
  clear hW k0 cN hA e1
  go_enter Try.func40, Try.ntmps40
  go_upto_region 1 with fail
  rw [← HW.out]
  go_upto_region 2 with (first | (go_at_call 63; refine CN.out.mono ?_; clear CN; rintro _ wa ⟨rfl, hA1, hk1⟩; have HAa := hide hA1; have HKa := hide hk1; have HZ : Hid (Bx (wa.alloc (.cells #[.int .i64 0, .int .i64 0, .int .i64 0, .string ⟨#[]⟩, .int .u64 0, .slice none 0 0, .int .i64 0] 43)) wa.heap.size 43 zvt) := (Bx.new wa _ zvt); clear hA1 hk1) | ((with_reducible refine wl_store_bx HZ.out HLc.out HOc.out HTc.out ?_ ?_ ?_); rfl; rfl; intro w1 HB1 HKx))
  have hza := HKa.out.size
  have k1 : Kept [] wa w1 := (Kept.refl [] wa).trans (((Kept.refl [wa.heap.size] wa).alloc _).trans HKx.out (by simp)) (by intro i hi; simp at hi; right; omega)
  obtain ⟨bx, hbx⟩ : ∃ bx, bx = wa.heap.size := ⟨_, rfl⟩
  rw [← hbx] at HB1 ⊢
  have hb1 : w.heap.size < bx := by omega
  have HA1 := hide (HAa.out.kept k1 (by simp) (by simp))
  have HR1 := hide ((HR.out.kept HKa.out (by simp; omega)).kept k1 (by simp))
  have HK1 : Hid (Kept [p] w w1) := ((HK0.out.mono (by simp)).trans HKa.out (by simp)).trans k1 (by simp)
  clear k1 HKx HZ hbx HAa HKa HLc HOc
  have hc0 : w1.cell? ⟨bx, 0, none⟩ = some (.int .i64 n) := HB1.out.cell 0 rfl
  have hnd : decide (15 ≤ n) = true := decide_eq_true hn
  have CR := hide (dr_refuse B p w1 s1 HA1.out)
  have HF2 := hide (rdRefE_ne s1.2)
  obtain ⟨s2, hs2⟩ : ∃ s2 : St, s2 = ([], rdRefE s1.2) := ⟨_, rfl⟩
  rw [← hs2] at CR
  have HS2 := hide hs2
  have hF : s2.2 ≠ 0 := by rw [hs2]; exact HF2.out
  clear hs2 HF2
  have n1 : (n == 1) = false := by simp; omega
  have n2 : (n == 2) = false := by simp; omega
  have n3 : (n == 3) = false := by simp; omega
  have n4 : (n == 4) = false := by simp; omega
  have n5 : (n == 5) = false := by simp; omega
  have n6 : (n == 6) = false := by simp; omega
  have n7 : (n == 7) = false := by simp; omega
  have n8 : (n == 8) = false := by simp; omega
  have n9 : (n == 9) = false := by simp; omega
  have n10 : (n == 10) = false := by simp; omega
  have n11 : (n == 11) = false := by simp; omega
  have n12 : (n == 12) = false := by simp; omega
  have n13 : (n == 13) = false := by simp; omega
  have n14 : (n == 14) = false := by simp; omega
  go_upto_region 4 with (go_at_call 64; refine CR.out.mono ?_; clear CR; rintro _ w2 ⟨rfl, hA2, hk2⟩; have HA2 := hide hA2; have HKm := hide hk2; clear hA2 hk2)
  have hc2 : w2.cell? ⟨bx, 0, none⟩ = some (.int .i64 n) := (HB1.out.kept HKm.out (by simp; omega)).cell 0 rfl
  have HR2 := hide (HR1.out.kept HKm.out (by simp; omega))
  have HK2 := hide (HK1.out.trans HKm.out (by simp))
  clear hc0
  have hfe := HA2.out.fail
  have HLz : Hid ((zvt : List Value).length = zvt.length) := rfl
  have HOz : Hid (∀ z ∈ (zvt : List Value), z.oneCell' = true) := by intro z hv; simp [zvt] at hv; rcases hv with rfl | rfl | rfl | rfl | rfl | rfl | rfl <;> rfl
  have HTz : Hid (RowT Try.prog 43 (zvt : List Value).length) := rowT_ver
  have HG2 : Hid (dheardP B p w vt0 ([], rdRefE s1.2) = dheardP B p w vt0 s2) := by show _ = _; rw [HS2.out]
  have HPQ : Hid (dheardP B p w vt0 s2 = fun r w' => ∃ v, r = .returned (.agg (vtL vt0 v).toArray) ∧ KoO w.heap.size w' v vt0.k ∧ AtR B p w' s2 ∧ Kept [p] w w') := by show _ = _; unfold dheardP; simp only [if_neg hF]
  have hfb : (s2.2 != 0) = true := by simpa using hF
  have hfc : (s2.2 == 0) = false := by simpa using hF
  clear hF
  go_wp2_with ((with_reducible refine wl_store_bx HR2.out HLz.out HOz.out HTz.out ?_ ?_ ?_); rfl; rfl; intro wz HBz HKz)
  refine bodyPost_ret (bx_result (by rfl) _ (by rfl) HBz.out HTz.out) rfl ?_
  rw [HG2.out, HPQ.out]
  exact ⟨.slice none 0 0, rfl, KoO.nil _ _, HA2.out.kept HKz.out (by simp; omega) (by simp; omega), HK2.out.trans HKz.out (by simp)⟩

/-- The document's Heard reads what the program's does. -/
theorem dheard_call (B p : Nat) (w : World) (s : St) (hA : AtR B p w s) : Calls Try.prog 40 #[.pointer (some ⟨p, 0, none⟩)] w (dheardP B p w (verP eyeP s vt0).1 (verP eyeP s vt0).2) := by
  have hnn : 0 ≤ (eyeP.num s 0).1 := rdNumE_nonneg hA.oct
  have hnl : Nl (eyeP.num s 0).2 := cdc_nl cdc_num s hA.nl
  have hu : ¬ 14 < (eyeP.num s 0).1 → eyeP.upTo s vt0.c 14 = eyeP.num s 0 := up_num s 14
  have hb : 14 < (eyeP.num s 0).1 → eyeP.upTo s vt0.c 14 = (0, ([], rdRefE (eyeP.num s 0).2.2)) := up_big s 14
  obtain ⟨n, hn⟩ : ∃ n, n = (eyeP.num s 0).1 := ⟨_, rfl⟩
  obtain ⟨s1, hs1⟩ : ∃ s1, s1 = (eyeP.num s 0).2 := ⟨_, rfl⟩
  have e1 : eyeP.num s 0 = (n, s1) := by rw [hn, hs1]
  rw [e1] at hnn hnl hu hb
  simp only at hnn hnl hu hb
  by_cases hbig : 14 < n
  · have e : verP eyeP s vt0 = (vt0, ([], rdRefE s1.2)) := by unfold verP verK verT; rw [hb hbig]; rfl
    rw [e]
    exact dheard_big B p w s s1 n e1 (by omega) hA
  have hu' := hu hbig
  by_cases h1 : n = 1
  · rw [h1] at e1 hu'
    have e : verP eyeP s vt0 = (⟨1, (eyeP.num s1 0).1, 0, [], 0, [], 0⟩, (eyeP.num s1 0).2) := by unfold verP verK verT; rw [hu']; rfl
    rw [e]
    exact dheard_1 B p w s s1 _ _ e1 rfl hA
  by_cases h2 : n = 2
  · rw [h2] at e1 hu'
    have e : verP eyeP s vt0 = (⟨2, 0, (eyeP.num s1 0).1, [], 0, [], 0⟩, (eyeP.num s1 0).2) := by unfold verP verK verT; rw [hu']; rfl
    rw [e]
    exact dheard_2 B p w s s1 _ _ e1 rfl hA
  by_cases h4 : n = 4
  · rw [h4] at e1 hu'
    have e : verP eyeP s vt0 = (⟨4, 0, (eyeP.num s1 0).1, [], 0, [], 0⟩, (eyeP.num s1 0).2) := by unfold verP verK verT; rw [hu']; rfl
    rw [e]
    exact dheard_4 B p w s s1 _ _ e1 rfl hA
  by_cases h8 : n = 8
  · rw [h8] at e1 hu'
    have e : verP eyeP s vt0 = (⟨8, 0, (eyeP.num s1 0).1, [], 0, [], 0⟩, (eyeP.num s1 0).2) := by unfold verP verK verT; rw [hu']; rfl
    rw [e]
    exact dheard_8 B p w s s1 _ _ e1 rfl hA
  by_cases h3 : n = 3
  · rw [h3] at e1 hu'
    have e : verP eyeP s vt0 = (⟨3, 0, (eyeP.num (eyeP.text s1 []).2 0).1, (eyeP.text s1 []).1, 0, [], 0⟩, (eyeP.num (eyeP.text s1 []).2 0).2) := by unfold verP verK verT; rw [hu']; rfl
    rw [e]
    exact dheard_3 B p w s s1 _ _ _ _ e1 rfl rfl hA
  by_cases h9 : n = 9
  · rw [h9] at e1 hu'
    have e : verP eyeP s vt0 = (⟨9, 0, (eyeP.num (eyeP.word (eyeP.text s1 []).2 0).2 0).1, (eyeP.text s1 []).1, (eyeP.word (eyeP.text s1 []).2 0).1, [], 0⟩, (eyeP.num (eyeP.word (eyeP.text s1 []).2 0).2 0).2) := by unfold verP verK verT; rw [hu']; rfl
    rw [e]
    exact dheard_9 B p w s s1 _ _ _ _ _ _ e1 rfl rfl rfl hA
  by_cases h10 : n = 10
  · rw [h10] at e1 hu'
    have e : verP eyeP s vt0 = (⟨10, 0, 0, (eyeP.text s1 []).1, 0, [], 0⟩, (eyeP.text s1 []).2) := by unfold verP verK verT; rw [hu']; rfl
    rw [e]
    exact dheard_10 B p w s s1 _ _ e1 rfl hA
  by_cases h11 : n = 11
  · rw [h11] at e1 hu'
    have e : verP eyeP s vt0 = (⟨11, 0, 0, [], 0, (listP eyeP (comP eyeP) com0 s1 [] 32).1, 0⟩, (listP eyeP (comP eyeP) com0 s1 [] 32).2) := by unfold verP verK verT; rw [hu']; rfl
    rw [e]
    have hl := tk_coms s1 hnl
    have l1 : (listP eyeP (comP eyeP) com0 s1 [] 32).2 = (tkL comD 32 s1).2 := hl.1
    have l2 : (tkL comD 32 s1).2.2 = 0 → (listP eyeP (comP eyeP) com0 s1 [] 32).1 = (tkL comD 32 s1).1 := hl.2
    have c := dheard_11 B p w s s1 (tkL comD 32 s1).2 (tkL comD 32 s1).1 e1 rfl hA
    refine c.mono (fun r w' hr => ?_)
    obtain ⟨v, h3, h4, h5, h6⟩ := hr
    generalize (listP eyeP (comP eyeP) com0 s1 [] 32) = P1 at *
    generalize (tkL comD 32 s1) = P2 at *
    rw [l1]
    by_cases hz2 : P2.2.2 = 0
    · rw [l2 hz2]
      exact ⟨v, h3, h4, h5, h6⟩
    · rw [if_neg hz2] at h3 h4
      exact ⟨v, by rw [if_neg hz2]; exact h3, by rw [if_neg hz2]; exact h4, h5, h6⟩
  by_cases h12 : n = 12
  · rw [h12] at e1 hu'
    have e : verP eyeP s vt0 = (⟨12, 0, 0, [], 0, [], (eyeP.num s1 0).1⟩, (eyeP.num s1 0).2) := by unfold verP verK verT; rw [hu']; rfl
    rw [e]
    exact dheard_12 B p w s s1 _ _ e1 rfl hA
  by_cases h13 : n = 13
  · rw [h13] at e1 hu'
    have e : verP eyeP s vt0 = (⟨13, 0, 0, [], 0, [], (eyeP.num s1 0).1⟩, (eyeP.num s1 0).2) := by unfold verP verK verT; rw [hu']; rfl
    rw [e]
    exact dheard_13 B p w s s1 _ _ e1 rfl hA
  by_cases h14 : n = 14
  · rw [h14] at e1 hu'
    have e : verP eyeP s vt0 = (⟨14, 0, 0, [], 0, [], (eyeP.num s1 0).1⟩, (eyeP.num s1 0).2) := by unfold verP verK verT; rw [hu']; rfl
    rw [e]
    exact dheard_14 B p w s s1 _ _ e1 rfl hA
  by_cases h0 : n = 0
  · rw [h0] at e1 hu'
    have e : verP eyeP s vt0 = (⟨0, 0, 0, [], 0, [], 0⟩, s1) := by unfold verP verK verT; rw [hu']; rfl
    rw [e]
    exact dheard_0 B p w s s1 e1 hA
  by_cases h5 : n = 5
  · rw [h5] at e1 hu'
    have e : verP eyeP s vt0 = (⟨5, 0, 0, [], 0, [], 0⟩, s1) := by unfold verP verK verT; rw [hu']; rfl
    rw [e]
    exact dheard_5 B p w s s1 e1 hA
  by_cases h6 : n = 6
  · rw [h6] at e1 hu'
    have e : verP eyeP s vt0 = (⟨6, 0, 0, [], 0, [], 0⟩, s1) := by unfold verP verK verT; rw [hu']; rfl
    rw [e]
    exact dheard_6 B p w s s1 e1 hA
  have h7 : n = 7 := by omega
  rw [h7] at e1 hu'
  have e : verP eyeP s vt0 = (⟨7, 0, 0, [], 0, [], 0⟩, s1) := by unfold verP verK verT; rw [hu']; rfl
  rw [e]
  exact dheard_7 B p w s s1 e1 hA

end Go.Proofs.Ytlgacmmofimlmaa
