/-
  EntryEncodes: the walk. (Written by mk/mkeenc.py.)
-/
import Derived.Test.YtlgacmmofimlmaaEnBa0
import Derived.Test.YtlgacmmofimlmaaEnDw2
namespace Go.Proofs.Ytlgacmmofimlmaa
open Go.RowKit

/-- What a contract says, where the answer is known. -/
theorem hide' {f : FuncId} {a : Array Value} {w : World} {b c : Bool} (h : Calls Try.prog f a w fun e w' => e = .returned (.bool b) ∧ Kept [] w w') (e : b = c) : Calls Try.prog f a w fun e w' => e = .returned (.bool c) ∧ Kept [] w w' := e ▸ h

theorem may_chk (r : Rq) (h : U64c r.c) : mayR r = chkB r := by
  have h1 := may_ok r h
  have h2 := chk_ok r h
  cases hm : mayR r <;> cases hc : chkB r
  · rfl
  · rw [hc] at h2; rw [hm] at h1; exact absurd (h1.2 (h2.1 rfl)) (by simp)
  · rw [hc] at h2; rw [hm] at h1; exact absurd (h2.2 (h1.1 rfl)) (by simp)
  · rfl

theorem enc_same (r : Rq) (h : U64c r.c) : putS ([], 0) r = encD r := by
  rw [enc_one, may_chk r h]; rfl

theorem rq_lt {w : World} {x : Rm} (hS : SlC w x.mo x.m x.mc x.r.c) : 0 < x.m → ∀ k ∈ blk x.mo, k < w.heap.size := by
  intro h0 k hk
  obtain ⟨b, o, e, hc⟩ := hS.some h0
  rw [e] at hk
  simp [blk] at hk
  subst hk
  have h1 := (hc 0 (by rw [hS.1]; exact h0)).c0
  unfold World.cell? at h1
  by_cases hlt : k < w.heap.size
  · exact hlt
  · rw [show w.heap[(⟨k, o + 0 * 3, none⟩ : Addr).block]? = none from Array.getElem?_eq_none (by show w.heap.size ≤ k; omega)] at h1
    simp at h1

set_option maxHeartbeats 4000000 in
theorem chkE_call (w : World) (x : Rm) (hx : RqHy [] w x) : Calls Try.prog 15 #[rqV x] w fun r w' => r = .returned (.int .i64 (putS ([], 0) x.r).2) ∧ Kept [] w w' := by
  have k1 := lay1 w 29 (rqC x)
  have HB1 := hide (Bx.new w 29 (rqC x))
  have HT : Hid (RowT Try.prog 29 (rqC x).length) := rowT_req
  have cE := hide (enc_call _ x (hx.on k1 (fun k hk => by cases hk)))
  have HK1 := hide k1
  unfold rqC at HB1 HK1 HT cE
  unfold rqV at cE
  clear k1 hx
  unfold rqV
  go_enter Try.func15, Try.ntmps15
  go_wp2_with ((with_reducible refine wl_load_bx HB1.out HT.out ?_ ?_); rfl)
  refine cE.out.mono ?_
  clear cE
  rintro _ w2 ⟨a, c, rfl, hS, hb, hk⟩
  have HK2 := hide (HK1.out.trans hk (by simp))
  clear hS hb hk
  go_wp2_with fail
  go_ret
  exact ⟨rfl, HK2.out⟩

set_option linter.unusedSimpArgs false in
set_option maxHeartbeats 8000000 in
set_option maxRecDepth 100000 in
theorem enc_walk (w : World) (x : Rm) (hx : RqIn w x) (hu : inR x.r) :
    Calls Try.prog 4 #[rqV x] w fun r w' => r = .returned (.bool true) ∧ Kept [] w w' := by
  obtain ⟨W, hW⟩ : ∃ W, W = w.alloc (.cells #[.int .i64 x.r.k, .string (str x.r.n), .int .i64 x.r.s, .int .i64 x.r.q, .int .i64 x.r.b, .string (str x.r.f), .slice x.mo x.m x.mc, .string (str x.r.p), .int .i64 x.r.fr, .int .i64 x.r.mn, .int .i64 x.r.mb] 29) := ⟨_, rfl⟩
  have HW := hide hW
  have HK : Hid (Kept [] w W) := by rw [hW]; exact (Kept.refl _ _).alloc _
  have HB : Hid (Bx W w.heap.size 29 (rqC x)) := by rw [hW]; exact Bx.new w _ (rqC x)
  have HT : Hid (RowT Try.prog 29 (rqC x).length) := rowT_req
  have HX := hide (hx.kept HK.out)
  have HU := hide (inR_u hu)
  have cA := hide (awake_call W)
  clear hW hx hu
  unfold rqV
  go_enter Try.func4, Try.ntmps4
  go_upto_region 1 with fail
  rw [← HW.out]
  go_upto_region 3 with (go_at_call 9; refine cA.out.mono ?_; rintro _ w1 ⟨rfl, hk1⟩; have HK1 := hide hk1; clear hk1)
  have HB1 := hide (HB.out.kept HK1.out (by simp))
  have cS := hide (small_call w1 x (HX.out.kept HK1.out).1)
  unfold rqV at cS
  go_upto_region 5 with (first | ((with_reducible refine wl_load_bx HB1.out HT.out ?_ ?_); rfl) | (go_at_call 13; refine cS.out.mono ?_; clear cS; rintro _ w2 ⟨b2, rfl, hb2, hk2⟩; have HK2 := hide hk2; have HQ := hide hb2; clear hk2 hb2; cases b2))
  · go_ret
    exact ⟨rfl, (HK.out.trans HK1.out (by simp)).trans HK2.out (by simp)⟩
  have HX2 := hide ((HX.out.kept HK1.out).kept HK2.out)
  have HSm := hide (HQ.out (by simp))
  have HBx2 := hide (HB1.out.kept HK2.out (by simp))
  have HK02 := hide ((HK.out.trans HK1.out (by simp)).trans HK2.out (by simp))
  have cE : Calls Try.prog 10 #[.agg (rqC x).toArray] w2 (EncP w2 (putS ([], 0) x.r)) := enc_call w2 x (rqHy_of HX2.out HSm.out)
  have cD : ∀ W2, Kept [] w2 W2 → Calls Try.prog 14 #[.agg (rqC x).toArray] W2 (EncD W2 (encD x.r)) := fun W2 k => dEnc_call W2 x (HX2.out.kept k).1 (rq_lt (HX2.out.kept k).1) HU.out
  have cCE : ∀ W2, Kept [] w2 W2 → Calls Try.prog 15 #[.agg (rqC x).toArray] W2 fun r w' => r = .returned (.int .i64 (putS ([], 0) x.r).2) ∧ Kept [] W2 w' := fun W2 k => chkE_call W2 x (rqHy_of (HX2.out.kept k) HSm.out)
  have cCD : ∀ W2, Kept [] w2 W2 → Calls Try.prog 16 #[.agg (rqC x).toArray] W2 fun r w' => r = .returned (.int .i64 (errI (chkB x.r))) ∧ Kept [] W2 w' := fun W2 k => chk_call W2 x (HX2.out.kept k).1
  rw [enc_same x.r HU.out] at cE
  simp only [enc_same x.r HU.out] at cCE
  unfold encD at cE cD cCE
  by_cases hch : chkB x.r = true
  · rw [if_pos hch] at cE
    simp only [if_pos hch] at cD cCE
    simp only [hch, errI_true] at cCD
    have HE := hide cE
    have HD := hide cD
    have HCE := hide cCE
    have HCD := hide cCD
    clear cE cD cCE cCD hch
    generalize bR x.r = l at HE HD
    go_upto_region 7 with (first | ((with_reducible refine wl_load_bx HBx2.out HT.out ?_ ?_); rfl) | ((with_reducible refine wl_load_bx (HBx2.out.kept HK3.out (by simp)) HT.out ?_ ?_); rfl) | (go_at_call 10; refine HE.out.mono ?_; clear HE; rintro _ w3 ⟨a3, c3, rfl, hS3, hb3, hk3⟩; have HK3 := hide hk3; have HS3 := hide hS3; clear hS3 hb3 hk3) | (go_at_call 14; refine (HD.out _ HK3.out).mono ?_; clear HD; rintro _ w4 ⟨a4, n4, c4, rfl, hS4, hb4, hk4⟩; have HK4 := hide (HK3.out.trans hk4 (by simp)); have HS4 := hide hS4; have HS34 := hide (Sl.kept hk4 HS3.out (by simp)); clear hS4 hb4 hk4))
    have HY0 := hide (HK4.out.trans (Kept.refl [] _).drew (by simp))
    refine wp_region_held_drew (S := fun w9 => Bx w9 w.heap.size 29 (rqC x)) (by kernel_rfl) (HBx2.out.kept HY0.out (by simp)) (fun hHeld => ?_)
    refine wpAnyH_take (i := 0) (v := ?_) rfl (by kernel_rfl) (by kernel_rfl) (by kernel_rfl) (fun _ _ _ h => h) (Or.inl ⟨by rfl, ?_⟩) hHeld ?_
    rotate_left
    · intro w9 hSw; go_simp; (try with_reducible rfl)
    try simp only [List.getElem_toArray, List.getElem_cons_succ, List.getElem_cons_zero, Act.put, List.setIfInBounds_toArray, List.set_cons_zero, List.set_cons_succ]
    refine wpAnyH_take (i := 1) (v := ?_) rfl (by kernel_rfl) (by kernel_rfl) (by kernel_rfl) (fun _ _ _ h => h) (Or.inl ⟨by rfl, ?_⟩) hHeld ?_
    rotate_left
    · intro w9 hSw; go_simp; (try with_reducible rfl)
    try simp only [List.getElem_toArray, List.getElem_cons_succ, List.getElem_cons_zero, Act.put, List.setIfInBounds_toArray, List.set_cons_zero, List.set_cons_succ]
    refine wpAnyH_take (i := 2) (v := ?_) rfl (by kernel_rfl) (by kernel_rfl) (by kernel_rfl) (fun _ _ _ h => h) (Or.inl ⟨by rfl, ?_⟩) hHeld ?_
    rotate_left
    · intro w9 hSw; go_simp; (try with_reducible rfl)
    try simp only [List.getElem_toArray, List.getElem_cons_succ, List.getElem_cons_zero, Act.put, List.setIfInBounds_toArray, List.set_cons_zero, List.set_cons_succ]
    refine wpAnyH_take (i := 3) (v := ?_) rfl (by kernel_rfl) (by kernel_rfl) (by kernel_rfl) (fun _ _ _ h => h) (Or.inl ⟨by rfl, ?_⟩) hHeld ?_
    rotate_left
    · intro w9 hSw; go_simp; (try with_reducible rfl)
    try simp only [List.getElem_toArray, List.getElem_cons_succ, List.getElem_cons_zero, Act.put, List.setIfInBounds_toArray, List.set_cons_zero, List.set_cons_succ]
    refine wpAnyH_take (i := 4) (v := ?_) rfl (by kernel_rfl) (by kernel_rfl) (by kernel_rfl) (fun _ _ _ h => h) (Or.inl ⟨by rfl, ?_⟩) hHeld ?_
    rotate_left
    · intro w9 hSw; go_simp; (try with_reducible rfl)
    try simp only [List.getElem_toArray, List.getElem_cons_succ, List.getElem_cons_zero, Act.put, List.setIfInBounds_toArray, List.set_cons_zero, List.set_cons_succ]
    refine wpAnyH_take (i := 5) (v := ?_) rfl (by kernel_rfl) (by kernel_rfl) (by kernel_rfl) (fun _ _ _ h => h) (Or.inl ⟨by rfl, ?_⟩) hHeld ?_
    rotate_left
    · intro w9 hSw; go_simp; (try with_reducible rfl)
    try simp only [List.getElem_toArray, List.getElem_cons_succ, List.getElem_cons_zero, Act.put, List.setIfInBounds_toArray, List.set_cons_zero, List.set_cons_succ]
    refine wpAnyH_ready (rs := [6]) (by kernel_rfl) (by simp) (AllReadyH.cons rfl (fun K0 hK0 => ?_) AllReadyH.nil)
    go_simp
    refine (hide' (same_call _ a3 a4 _ c3 n4 c4 _ _ (Sl.kept (Kept.refl [] _).drew HS34.out (by simp)) (Sl.kept (Kept.refl [] _).drew HS4.out (by simp))) (decide_eq_true rfl)).mono ?_
    rintro _ y1 ⟨rfl, hk1⟩
    have HY1 := hide (HY0.out.trans hk1 (by simp))
    clear hk1
    go_wp2_with fail
    refine hK0.out _ _ (HBx2.out.kept HY1.out (by simp)) (fun hHeld => ?_)
    clear hK0 K0
    try simp only [List.getElem_toArray, List.getElem_cons_succ, List.getElem_cons_zero, Act.put, List.setIfInBounds_toArray, List.set_cons_zero, List.set_cons_succ]
    refine wpAnyH_take (i := 7) (v := ?_) rfl (by kernel_rfl) (by kernel_rfl) (by kernel_rfl) (fun _ _ _ h => h) (Or.inl ⟨by rfl, ?_⟩) hHeld ?_
    rotate_left
    · intro w9 hSw; go_simp; (try with_reducible rfl)
    try simp only [List.getElem_toArray, List.getElem_cons_succ, List.getElem_cons_zero, Act.put, List.setIfInBounds_toArray, List.set_cons_zero, List.set_cons_succ]
    refine wpAnyH_take (i := 8) (v := ?_) rfl (by kernel_rfl) (by kernel_rfl) (by kernel_rfl) (fun _ _ _ h => h) (Or.inl ⟨by rfl, ?_⟩) hHeld ?_
    rotate_left
    · intro w9 hSw; go_simp; (try with_reducible rfl)
    try simp only [List.getElem_toArray, List.getElem_cons_succ, List.getElem_cons_zero, Act.put, List.setIfInBounds_toArray, List.set_cons_zero, List.set_cons_succ]
    refine wpAnyH_take (i := 9) (v := .agg (rqC x).toArray) rfl (by kernel_rfl) (by kernel_rfl) (by kernel_rfl) (fun _ _ _ h => h) (yieldsIf_load_mid (by rfl) _ _ rfl w.heap.size 0 rfl (rqC x) _ (fun w9 hSw => hSw.range) Try.underlying29 rfl size_rqP) hHeld ?_
    try simp only [List.getElem_toArray, List.getElem_cons_succ, List.getElem_cons_zero, Act.put, List.setIfInBounds_toArray, List.set_cons_zero, List.set_cons_succ]
    refine wpAnyH_take (i := 11) (v := .agg (rqC x).toArray) rfl (by kernel_rfl) (by kernel_rfl) (by kernel_rfl) (fun _ _ _ h => h) (yieldsIf_load_mid (by rfl) _ _ rfl w.heap.size 0 rfl (rqC x) _ (fun w9 hSw => hSw.range) Try.underlying29 rfl size_rqP) hHeld ?_
    try simp only [List.getElem_toArray, List.getElem_cons_succ, List.getElem_cons_zero, Act.put, List.setIfInBounds_toArray, List.set_cons_zero, List.set_cons_succ]
    refine wpAnyH_ready (rs := [10]) (by kernel_rfl) (by simp) (AllReadyH.cons rfl (fun K0 hK0 => ?_) AllReadyH.nil)
    go_simp
    refine (HCE.out _ HY1.out).mono ?_
    rintro _ y2 ⟨rfl, hk2⟩
    have HY2 := hide (HY1.out.trans hk2 (by simp))
    clear hk2
    go_wp2_with fail
    refine hK0.out _ _ (HBx2.out.kept HY2.out (by simp)) (fun hHeld => ?_)
    clear hK0 K0
    try simp only [List.getElem_toArray, List.getElem_cons_succ, List.getElem_cons_zero, Act.put, List.setIfInBounds_toArray, List.set_cons_zero, List.set_cons_succ]
    refine wpAnyH_ready (rs := [12]) (by kernel_rfl) (by simp) (AllReadyH.cons rfl (fun K0 hK0 => ?_) AllReadyH.nil)
    go_simp
    refine (HCD.out _ HY2.out).mono ?_
    rintro _ y3 ⟨rfl, hk3⟩
    have HY3 := hide (HY2.out.trans hk3 (by simp))
    clear hk3
    go_wp2_with fail
    refine hK0.out _ _ (HBx2.out.kept HY3.out (by simp)) (fun hHeld => ?_)
    clear hK0 K0
    try simp only [List.getElem_toArray, List.getElem_cons_succ, List.getElem_cons_zero, Act.put, List.setIfInBounds_toArray, List.set_cons_zero, List.set_cons_succ]
    refine wpAnyH_take (i := 13) (v := ?_) rfl (by kernel_rfl) (by kernel_rfl) (by kernel_rfl) (fun _ _ _ h => h) (Or.inl ⟨by rfl, ?_⟩) hHeld ?_
    rotate_left
    · intro w9 hSw; go_simp; (try with_reducible rfl)
    try simp only [List.getElem_toArray, List.getElem_cons_succ, List.getElem_cons_zero, Act.put, List.setIfInBounds_toArray, List.set_cons_zero, List.set_cons_succ]
    refine wpAnyH_take (i := 14) (v := ?_) rfl (by kernel_rfl) (by kernel_rfl) (by kernel_rfl) (fun _ _ _ h => h) (Or.inl ⟨by rfl, ?_⟩) hHeld ?_
    rotate_left
    · intro w9 hSw; go_simp; (try with_reducible rfl)
    try simp only [List.getElem_toArray, List.getElem_cons_succ, List.getElem_cons_zero, Act.put, List.setIfInBounds_toArray, List.set_cons_zero, List.set_cons_succ]
    refine wpAnyH_take (i := 15) (v := ?_) rfl (by kernel_rfl) (by kernel_rfl) (by kernel_rfl) (fun _ _ _ h => h) (Or.inl ⟨by rfl, ?_⟩) hHeld ?_
    rotate_left
    · intro w9 hSw; go_simp; (try with_reducible rfl)
    try simp only [List.getElem_toArray, List.getElem_cons_succ, List.getElem_cons_zero, Act.put, List.setIfInBounds_toArray, List.set_cons_zero, List.set_cons_succ]
    try simp only [List.getElem_toArray, List.getElem_cons_succ, List.getElem_cons_zero, Act.put, List.setIfInBounds_toArray, List.set_cons_zero, List.set_cons_succ]
    refine wpAnyH_done (by kernel_rfl) ?_ _
    clear hHeld
    go_wp2_with fail
    go_ret
    exact ⟨rfl, HK02.out.trans HY3.out (by simp)⟩
  · rw [if_neg hch] at cE
    simp only [if_neg hch] at cD cCE
    rw [Bool.not_eq_true] at hch
    simp only [hch, errI_false] at cCD
    have HE := hide cE
    have HD := hide cD
    have HCE := hide cCE
    have HCD := hide cCD
    clear cE cD cCE cCD hch
    go_upto_region 7 with (first | ((with_reducible refine wl_load_bx HBx2.out HT.out ?_ ?_); rfl) | ((with_reducible refine wl_load_bx (HBx2.out.kept HK3.out (by simp)) HT.out ?_ ?_); rfl) | (go_at_call 10; refine HE.out.mono ?_; clear HE; rintro _ w3 ⟨a3, c3, rfl, hS3, hb3, hk3⟩; have HK3 := hide hk3; have HS3 := hide hS3; clear hS3 hb3 hk3) | (go_at_call 14; refine (HD.out _ HK3.out).mono ?_; clear HD; rintro _ w4 ⟨a4, n4, c4, rfl, hS4, hb4, hk4⟩; have HK4 := hide (HK3.out.trans hk4 (by simp)); have HS4 := hide hS4; have HS34 := hide (Sl.kept hk4 HS3.out (by simp)); clear hS4 hb4 hk4))
    have HY0 := hide (HK4.out.trans (Kept.refl [] _).drew (by simp))
    refine wp_region_held_drew (S := fun w9 => Bx w9 w.heap.size 29 (rqC x)) (by kernel_rfl) (HBx2.out.kept HY0.out (by simp)) (fun hHeld => ?_)
    refine wpAnyH_take (i := 0) (v := ?_) rfl (by kernel_rfl) (by kernel_rfl) (by kernel_rfl) (fun _ _ _ h => h) (Or.inl ⟨by rfl, ?_⟩) hHeld ?_
    rotate_left
    · intro w9 hSw; go_simp; (try with_reducible rfl)
    try simp only [List.getElem_toArray, List.getElem_cons_succ, List.getElem_cons_zero, Act.put, List.setIfInBounds_toArray, List.set_cons_zero, List.set_cons_succ]
    refine wpAnyH_take (i := 1) (v := ?_) rfl (by kernel_rfl) (by kernel_rfl) (by kernel_rfl) (fun _ _ _ h => h) (Or.inl ⟨by rfl, ?_⟩) hHeld ?_
    rotate_left
    · intro w9 hSw; go_simp; (try with_reducible rfl)
    try simp only [List.getElem_toArray, List.getElem_cons_succ, List.getElem_cons_zero, Act.put, List.setIfInBounds_toArray, List.set_cons_zero, List.set_cons_succ]
    refine wpAnyH_take (i := 2) (v := ?_) rfl (by kernel_rfl) (by kernel_rfl) (by kernel_rfl) (fun _ _ _ h => h) (Or.inl ⟨by rfl, ?_⟩) hHeld ?_
    rotate_left
    · intro w9 hSw; go_simp; (try with_reducible rfl)
    try simp only [List.getElem_toArray, List.getElem_cons_succ, List.getElem_cons_zero, Act.put, List.setIfInBounds_toArray, List.set_cons_zero, List.set_cons_succ]
    refine wpAnyH_take (i := 3) (v := ?_) rfl (by kernel_rfl) (by kernel_rfl) (by kernel_rfl) (fun _ _ _ h => h) (Or.inl ⟨by rfl, ?_⟩) hHeld ?_
    rotate_left
    · intro w9 hSw; go_simp; (try with_reducible rfl)
    try simp only [List.getElem_toArray, List.getElem_cons_succ, List.getElem_cons_zero, Act.put, List.setIfInBounds_toArray, List.set_cons_zero, List.set_cons_succ]
    refine wpAnyH_take (i := 4) (v := ?_) rfl (by kernel_rfl) (by kernel_rfl) (by kernel_rfl) (fun _ _ _ h => h) (Or.inl ⟨by rfl, ?_⟩) hHeld ?_
    rotate_left
    · intro w9 hSw; go_simp; (try with_reducible rfl)
    try simp only [List.getElem_toArray, List.getElem_cons_succ, List.getElem_cons_zero, Act.put, List.setIfInBounds_toArray, List.set_cons_zero, List.set_cons_succ]
    refine wpAnyH_take (i := 5) (v := ?_) rfl (by kernel_rfl) (by kernel_rfl) (by kernel_rfl) (fun _ _ _ h => h) (Or.inl ⟨by rfl, ?_⟩) hHeld ?_
    rotate_left
    · intro w9 hSw; go_simp; (try with_reducible rfl)
    try simp only [List.getElem_toArray, List.getElem_cons_succ, List.getElem_cons_zero, Act.put, List.setIfInBounds_toArray, List.set_cons_zero, List.set_cons_succ]
    refine wpAnyH_ready (rs := [6]) (by kernel_rfl) (by simp) (AllReadyH.cons rfl (fun K0 hK0 => ?_) AllReadyH.nil)
    go_simp
    refine (hide' (same_call _ a3 a4 _ c3 n4 c4 _ _ (Sl.kept (Kept.refl [] _).drew HS34.out (by simp)) (Sl.kept (Kept.refl [] _).drew HS4.out (by simp))) (decide_eq_true rfl)).mono ?_
    rintro _ y1 ⟨rfl, hk1⟩
    have HY1 := hide (HY0.out.trans hk1 (by simp))
    clear hk1
    go_wp2_with fail
    refine hK0.out _ _ (HBx2.out.kept HY1.out (by simp)) (fun hHeld => ?_)
    clear hK0 K0
    try simp only [List.getElem_toArray, List.getElem_cons_succ, List.getElem_cons_zero, Act.put, List.setIfInBounds_toArray, List.set_cons_zero, List.set_cons_succ]
    refine wpAnyH_take (i := 7) (v := ?_) rfl (by kernel_rfl) (by kernel_rfl) (by kernel_rfl) (fun _ _ _ h => h) (Or.inl ⟨by rfl, ?_⟩) hHeld ?_
    rotate_left
    · intro w9 hSw; go_simp; (try with_reducible rfl)
    try simp only [List.getElem_toArray, List.getElem_cons_succ, List.getElem_cons_zero, Act.put, List.setIfInBounds_toArray, List.set_cons_zero, List.set_cons_succ]
    refine wpAnyH_take (i := 8) (v := ?_) rfl (by kernel_rfl) (by kernel_rfl) (by kernel_rfl) (fun _ _ _ h => h) (Or.inl ⟨by rfl, ?_⟩) hHeld ?_
    rotate_left
    · intro w9 hSw; go_simp; (try with_reducible rfl)
    try simp only [List.getElem_toArray, List.getElem_cons_succ, List.getElem_cons_zero, Act.put, List.setIfInBounds_toArray, List.set_cons_zero, List.set_cons_succ]
    refine wpAnyH_take (i := 9) (v := .agg (rqC x).toArray) rfl (by kernel_rfl) (by kernel_rfl) (by kernel_rfl) (fun _ _ _ h => h) (yieldsIf_load_mid (by rfl) _ _ rfl w.heap.size 0 rfl (rqC x) _ (fun w9 hSw => hSw.range) Try.underlying29 rfl size_rqP) hHeld ?_
    try simp only [List.getElem_toArray, List.getElem_cons_succ, List.getElem_cons_zero, Act.put, List.setIfInBounds_toArray, List.set_cons_zero, List.set_cons_succ]
    refine wpAnyH_take (i := 11) (v := .agg (rqC x).toArray) rfl (by kernel_rfl) (by kernel_rfl) (by kernel_rfl) (fun _ _ _ h => h) (yieldsIf_load_mid (by rfl) _ _ rfl w.heap.size 0 rfl (rqC x) _ (fun w9 hSw => hSw.range) Try.underlying29 rfl size_rqP) hHeld ?_
    try simp only [List.getElem_toArray, List.getElem_cons_succ, List.getElem_cons_zero, Act.put, List.setIfInBounds_toArray, List.set_cons_zero, List.set_cons_succ]
    refine wpAnyH_ready (rs := [10]) (by kernel_rfl) (by simp) (AllReadyH.cons rfl (fun K0 hK0 => ?_) AllReadyH.nil)
    go_simp
    refine (HCE.out _ HY1.out).mono ?_
    rintro _ y2 ⟨rfl, hk2⟩
    have HY2 := hide (HY1.out.trans hk2 (by simp))
    clear hk2
    go_wp2_with fail
    refine hK0.out _ _ (HBx2.out.kept HY2.out (by simp)) (fun hHeld => ?_)
    clear hK0 K0
    try simp only [List.getElem_toArray, List.getElem_cons_succ, List.getElem_cons_zero, Act.put, List.setIfInBounds_toArray, List.set_cons_zero, List.set_cons_succ]
    refine wpAnyH_ready (rs := [12]) (by kernel_rfl) (by simp) (AllReadyH.cons rfl (fun K0 hK0 => ?_) AllReadyH.nil)
    go_simp
    refine (HCD.out _ HY2.out).mono ?_
    rintro _ y3 ⟨rfl, hk3⟩
    have HY3 := hide (HY2.out.trans hk3 (by simp))
    clear hk3
    go_wp2_with fail
    refine hK0.out _ _ (HBx2.out.kept HY3.out (by simp)) (fun hHeld => ?_)
    clear hK0 K0
    try simp only [List.getElem_toArray, List.getElem_cons_succ, List.getElem_cons_zero, Act.put, List.setIfInBounds_toArray, List.set_cons_zero, List.set_cons_succ]
    refine wpAnyH_take (i := 13) (v := ?_) rfl (by kernel_rfl) (by kernel_rfl) (by kernel_rfl) (fun _ _ _ h => h) (Or.inl ⟨by rfl, ?_⟩) hHeld ?_
    rotate_left
    · intro w9 hSw; go_simp; (try with_reducible rfl)
    try simp only [List.getElem_toArray, List.getElem_cons_succ, List.getElem_cons_zero, Act.put, List.setIfInBounds_toArray, List.set_cons_zero, List.set_cons_succ]
    refine wpAnyH_take (i := 14) (v := ?_) rfl (by kernel_rfl) (by kernel_rfl) (by kernel_rfl) (fun _ _ _ h => h) (Or.inl ⟨by rfl, ?_⟩) hHeld ?_
    rotate_left
    · intro w9 hSw; go_simp; (try with_reducible rfl)
    try simp only [List.getElem_toArray, List.getElem_cons_succ, List.getElem_cons_zero, Act.put, List.setIfInBounds_toArray, List.set_cons_zero, List.set_cons_succ]
    refine wpAnyH_take (i := 15) (v := ?_) rfl (by kernel_rfl) (by kernel_rfl) (by kernel_rfl) (fun _ _ _ h => h) (Or.inl ⟨by rfl, ?_⟩) hHeld ?_
    rotate_left
    · intro w9 hSw; go_simp; (try with_reducible rfl)
    try simp only [List.getElem_toArray, List.getElem_cons_succ, List.getElem_cons_zero, Act.put, List.setIfInBounds_toArray, List.set_cons_zero, List.set_cons_succ]
    try simp only [List.getElem_toArray, List.getElem_cons_succ, List.getElem_cons_zero, Act.put, List.setIfInBounds_toArray, List.set_cons_zero, List.set_cons_succ]
    refine wpAnyH_done (by kernel_rfl) ?_ _
    clear hHeld
    go_wp2_with fail
    go_ret
    exact ⟨rfl, HK02.out.trans HY3.out (by simp)⟩

end Go.Proofs.Ytlgacmmofimlmaa
