/-
  EntryVerdicts: the walk.
-/
import Derived.Test.YtlgacmmofimlmaaF17
import Derived.Test.YtlgacmmofimlmaaEnDv4
import Derived.Test.YtlgacmmofimlmaaF16
import Derived.Test.YtlgacmmofimlmaaBoxGd
namespace Go.Proofs.Ytlgacmmofimlmaa
open Go.RowKit

theorem oct_com (x : Com) (h : okCom x) : Oct (bK x) ∧ (bK x).length ≤ 17560 := by
  have h1 := oct_two (oct_two (oct_two (oct_num _ h.1) (oct_num _ h.2.1)) (oct_bT _ h.2.2.1)) (oct_chgs _ h.2.2.2)
  exact ⟨h1.1, by have := h1.2; unfold bK; omega⟩

theorem oct_coms (L : List Com) (h : okComs L) : Oct (bKs L) ∧ (bKs L).length ≤ 600000 := by
  have h1 := oct_flat bK 17560 L (fun c hc => oct_com c (h.2 c hc))
  have h0 : goodB (L.length : Int) = true := (good_iff _).2 (by have := h.1; omega)
  have h2 := oct_two (oct_num (L.length : Int) h0) h1
  unfold bKs bL
  rw [if_pos h.1]
  exact ⟨h2.1, by have := h2.2; have := h.1; omega⟩

theorem bV_good {v : Vt} (h : okVer v) : Oct (bV v) ∧ (bV v).length ≤ 1000000 := by
  rw [ok_bytesV h]
  obtain ⟨⟨hk, _⟩, h2⟩ := h
  have h1 := oct_num v.c hk
  have h3 : Oct (bG v.c v) ∧ (bG v.c v).length ≤ 900000 := by
    unfold okG at h2
    unfold bG
    split
    · rename_i n1
      rw [if_pos n1] at h2
      have := oct_num _ h2.1
      exact ⟨this.1, by omega⟩
    rename_i n1
    rw [if_neg n1] at h2
    split
    · rename_i n2
      rw [if_pos n2] at h2
      have := oct_num _ h2.1
      exact ⟨this.1, by omega⟩
    rename_i n2
    rw [if_neg n2] at h2
    split
    · rename_i n3
      rw [if_pos n3] at h2
      have := oct_two (oct_bT _ h2.1.1) (oct_num _ h2.1.2)
      exact ⟨this.1, by have := this.2; omega⟩
    rename_i n3
    rw [if_neg n3] at h2
    split
    · rename_i n9
      rw [if_pos n9] at h2
      have := oct_two (oct_bT _ h2.1.1) (oct_two (⟨hiB_oct 8 v.d, by rw [hiB_length]; exact Nat.le_refl _⟩ : Oct (hiB 8 v.d) ∧ (hiB 8 v.d).length ≤ 8) (oct_num _ h2.1.2.2))
      exact ⟨this.1, by have := this.2; omega⟩
    rename_i n9
    rw [if_neg n9] at h2
    split
    · rename_i n10
      rw [if_pos n10] at h2
      have := oct_bT _ h2.1
      exact ⟨this.1, by omega⟩
    rename_i n10
    rw [if_neg n10] at h2
    split
    · rename_i n11
      rw [if_pos n11] at h2
      have := oct_coms _ h2.1
      exact ⟨this.1, by omega⟩
    rename_i n11
    rw [if_neg n11] at h2
    split
    · rename_i n12
      rw [if_pos n12] at h2
      have := oct_num _ h2.1
      exact ⟨this.1, by omega⟩
    · exact ⟨oct_nil, by simp⟩
  have h4 := oct_two h1 h3
  exact ⟨h4.1, by have := h4.2; omega⟩

theorem may_mv (v : Vt) (h : U64v v) : mayV v = mvB v := by
  have h1 := may_okV v h
  have h2 := mv_ok v h
  cases hm : mayV v <;> cases hc : mvB v
  · rfl
  · rw [hc] at h2; rw [hm] at h1; exact absurd (h1.2 (h2.1 rfl)) (by simp)
  · rw [hc] at h2; rw [hm] at h1; exact absurd (h2.2 (h1.1 rfl)) (by simp)
  · rfl

theorem encV_same (v : Vt) (h : U64v v) : toldS ([], 0) v = encVD v := by
  rw [encV_one, may_mv v h]; rfl

theorem kept_bool {f : FuncId} {a : Array Value} {w : World} {b c : Bool} (h : Calls Try.prog f a w fun e w' => e = .returned (.bool b) ∧ Kept [] w w') (e : b = c) : Calls Try.prog f a w fun e w' => e = .returned (.bool c) ∧ Kept [] w w' := e ▸ h

set_option maxHeartbeats 8000000 in
set_option maxRecDepth 100000 in
theorem ver_walk (w : World) (v : Vt) (u : Value) (hv : KoV w u v.k) (hi : inV v) :
    Calls Try.prog 6 #[vtV v u] w fun r w' => r = .returned (.bool true) ∧ Kept [] w w' := by
  obtain ⟨uo, un, uc, rfl⟩ := hv.one
  obtain ⟨W, hW⟩ : ∃ W, W = w.alloc (.cells #[.int .i64 v.c, .int .i64 v.s, .int .i64 v.r, .string (str v.p), .int .u64 v.d, .slice uo un uc, .int .i64 v.m] 43) := ⟨_, rfl⟩
  have HW := hide hW
  have HK : Hid (Kept [] w W) := by rw [hW]; exact (Kept.refl _ _).alloc _
  have HB : Hid (Bx W w.heap.size 43 (vtL v (.slice uo un uc))) := by rw [hW]; exact Bx.new w _ (vtL v (.slice uo un uc))
  have HT : Hid (RowT Try.prog 43 (vtL v (.slice uo un uc)).length) := rowT_ver
  have HV := hide (hv.kept HK.out)
  have HI := hide hi
  have cA := hide (awake_call W)
  clear hW hv hi
  unfold vtV
  go_enter Try.func6, Try.ntmps6
  go_upto_region 1 with fail
  rw [← HW.out]
  go_upto_region 3 with (go_at_call 9; refine cA.out.mono ?_; rintro _ w1 ⟨rfl, hk1⟩; have HK1 := hide hk1; clear hk1)
  have HB1 := hide (HB.out.kept HK1.out (by simp))
  have cS := hide (smallV_call w1 v _ (HV.out.kept HK1.out))
  unfold vtV at cS
  go_upto_region 5 with (first | ((with_reducible refine wl_load_bx HB1.out HT.out ?_ ?_); rfl) | (go_at_call 22; refine cS.out.mono ?_; clear cS; rintro _ w2 ⟨b2, rfl, hk2⟩; have HK2 := hide hk2; clear hk2; cases b2))
  · go_ret
    exact ⟨rfl, (HK.out.trans HK1.out (by simp)).trans HK2.out (by simp)⟩
  have HV2 := hide ((HV.out.kept HK1.out).kept HK2.out)
  have HBx2 := hide (HB1.out.kept HK2.out (by simp))
  have HK02 := hide ((HK.out.trans HK1.out (by simp)).trans HK2.out (by simp))
  have hu := inV_u HI.out
  have cE : Calls Try.prog 23 #[.agg (vtL v (.slice uo un uc)).toArray] w2 (EncP w2 (toldS ([], 0) v)) := encV_call w2 v (.slice uo un uc) (vtHy_of HV2.out HI.out)
  have cD : ∀ W2, Kept [] w2 W2 → Calls Try.prog 24 #[.agg (vtL v (.slice uo un uc)).toArray] W2 (EncD W2 (encVD v)) := fun W2 k => dEncV_call W2 v (.slice uo un uc) (vtHy_of (HV2.out.kept k) HI.out) hu
  rw [encV_same v hu] at cE
  unfold encVD at cE cD
  by_cases hch : mvB v = true
  · have hok := (mv_ok v hu).1 hch
    have HG := hide (bV_good hok)
    have HDE := hide (decV_enc hok)
    rw [if_pos hch] at cE
    simp only [if_pos hch] at cD
    have HE := hide cE
    have HD := hide cD
    clear cE cD hch hok hu
    generalize bV v = l at HE HD HG HDE
    go_upto_region 7 with (first | ((with_reducible refine wl_load_bx HBx2.out HT.out ?_ ?_); rfl) | ((with_reducible refine wl_load_bx (HBx2.out.kept HK3.out (by simp)) HT.out ?_ ?_); rfl) | (go_at_call 23; refine HE.out.mono ?_; clear HE; rintro _ w3 ⟨a3, c3, rfl, hS3, hb3, hk3⟩; have HK3 := hide hk3; have HS3 := hide hS3; clear hS3 hb3 hk3) | (go_at_call 24; refine (HD.out _ HK3.out).mono ?_; clear HD; rintro _ w4 ⟨a4, n4, c4, rfl, hS4, hb4, hk4⟩; have HK4 := hide (HK3.out.trans hk4 (by simp)); have HS4 := hide hS4; have HS34 := hide (Sl.kept hk4 HS3.out (by simp)); clear hS4 hb4 hk4))
    have cM := hide (kept_bool (same_call w4 a3 a4 _ c3 n4 c4 l l HS34.out HS4.out) (decide_eq_true rfl))
    have hl6 := HG.out.2
    have cV := fun (W2 : World) (k : Kept [] w4 W2) => decVd_call W2 a3 l.length c3 l (Sl.kept k HS34.out (by simp)) (by omega) HG.out.1
    simp only [HDE.out] at cV
    have HCV := hide cV
    clear cV hl6
    go_upto_region 12 with (first | (go_at_call 12; refine cM.out.mono ?_; clear cM; rintro _ w5 ⟨rfl, hk5⟩; have HK5 := hide hk5; clear hk5) | (go_at_call 18; refine (HCV.out _ HK5.out).mono ?_; clear HCV; rintro _ w6 ⟨v6, rfl, hO6, hk6⟩; obtain ⟨qo, qn, qc, rfl⟩ := koO_bare hO6; have HK6 := hide ((HK4.out.trans HK5.out (by simp)).trans hk6 (by simp)); have HO6 := hide hO6; have HZ : Hid (Bx (w6.alloc (.cells #[.int .i64 0, .int .i64 0, .int .i64 0, .string ⟨#[]⟩, .int .u64 0, .slice none 0 0, .int .i64 0] 43)) w6.heap.size 43 zvt) := (Bx.new w6 _ zvt); have HLz : Hid ((vtL v (.slice qo qn qc)).length = zvt.length) := rfl; have HNz := hide (one_vtL v (.slice qo qn qc) (by rfl)); have HTz : Hid (RowT Try.prog 43 (vtL v (.slice qo qn qc)).length) := rowT_ver; clear hO6 hk6) | ((with_reducible refine wl_store_bx HZ.out HLz.out HNz.out HTz.out ?_ ?_ ?_); rfl; rfl; intro w7 HB7 HK7))
    have k67 : Kept [] w6 w7 := ((Kept.refl [] w6).alloc _).trans HK7.out (by simp)
    have HK27 := hide (HK6.out.trans k67 (by simp))
    have HO7 := hide (HO6.out.newer (((Kept.refl [w6.heap.size] w6).alloc _).trans HK7.out (by simp)))
    have HBx7 := hide (HBx2.out.kept HK27.out (by simp))
    have cA1 : Calls Try.prog 21 #[.agg (vtL v (.slice uo un uc)).toArray, .agg (vtL v (.slice qo qn qc)).toArray] w7 fun e w' => e = .returned (.bool true) ∧ Kept [] w7 w' := kept_bool (vtdoc_call w7 v v _ _ (HV2.out.kept HK27.out) HO7.out.ko) (decide_eq_true rfl)
    have cA2 : ∀ W2, Kept [] w7 W2 → Calls Try.prog 25 #[.agg (vtL v (.slice uo un uc)).toArray, .agg (vtL v (.slice qo qn qc)).toArray] W2 fun e w' => e = .returned (.bool true) ∧ Kept [] W2 w' := fun W2 k => kept_bool (alikeP_call W2 v v _ _ ((HV2.out.kept HK27.out).kept k) (HO7.out.kept k).ko) (decide_eq_true rfl)
    have HC1 := hide cA1
    have HC2 := hide cA2
    clear k67 cA1 cA2
    go_wp2_with (first | ((with_reducible refine wl_load_bxg HBx7.out HT.out ?_ ?_ ?_); rfl; rfl) | ((with_reducible refine wl_load_bxg HB7.out HTz.out ?_ ?_ ?_); rfl; rfl) | ((with_reducible refine wl_load_bxg (HBx7.out.kept HK8.out (by simp)) HT.out ?_ ?_ ?_); rfl; rfl) | ((with_reducible refine wl_load_bxg (HB7.out.kept HK8.out (by simp)) HTz.out ?_ ?_ ?_); rfl; rfl) | (go_at_call 21; refine HC1.out.mono ?_; clear HC1; rintro _ w8 ⟨rfl, hk8⟩; have HK8 := hide hk8; clear hk8) | (go_at_call 25; refine (HC2.out _ HK8.out).mono ?_; clear HC2; rintro _ w9 ⟨rfl, hk9⟩; have HK9 := hide hk9; clear hk9))
    go_ret
    exact ⟨rfl, ((HK02.out.trans HK27.out (by simp)).trans HK8.out (by simp)).trans HK9.out (by simp)⟩
  · rw [if_neg hch] at cE
    simp only [if_neg hch] at cD
    have HE := hide cE
    have HD := hide cD
    clear cE cD hch hu
    go_upto_region 7 with (first | ((with_reducible refine wl_load_bx HBx2.out HT.out ?_ ?_); rfl) | ((with_reducible refine wl_load_bx (HBx2.out.kept HK3.out (by simp)) HT.out ?_ ?_); rfl) | (go_at_call 23; refine HE.out.mono ?_; clear HE; rintro _ w3 ⟨a3, c3, rfl, hS3, hb3, hk3⟩; have HK3 := hide hk3; have HS3 := hide hS3; clear hS3 hb3 hk3) | (go_at_call 24; refine (HD.out _ HK3.out).mono ?_; clear HD; rintro _ w4 ⟨a4, n4, c4, rfl, hS4, hb4, hk4⟩; have HK4 := hide (HK3.out.trans hk4 (by simp)); have HS4 := hide hS4; have HS34 := hide (Sl.kept hk4 HS3.out (by simp)); clear hS4 hb4 hk4))
    have cM := hide (kept_bool (same_call w4 a3 a4 _ c3 n4 c4 [] [] HS34.out HS4.out) (decide_eq_true rfl))
    go_wp2_with (go_at_call 12; refine cM.out.mono ?_; clear cM; rintro _ w5 ⟨rfl, hk5⟩; have HK5 := hide hk5; clear hk5)
    go_ret
    exact ⟨rfl, (HK02.out.trans HK4.out (by simp)).trans HK5.out (by simp)⟩

end Go.Proofs.Ytlgacmmofimlmaa
