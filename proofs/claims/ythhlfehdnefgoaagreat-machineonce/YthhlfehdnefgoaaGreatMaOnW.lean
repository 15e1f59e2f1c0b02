/-
  MachineOnce: the walk.
-/
import Derived.Test.YthhlfehdnefgoaaGreatMaLoop
import Derived.Test.YthhlfehdnefgoaaGreatMtSame
namespace Go.Proofs.YthhlfehdnefgoaaGreat
open Go.RowKit

set_option maxHeartbeats 16000000 in
set_option maxRecDepth 100000 in
theorem monce_walk (W : World) (ao : Option Addr) (n c : Nat) (D : List Rm) (hD : SlR W ao n c D) (x : Rm) (hx : RqIn W x) :
    Calls Tryz.prog 5 #[.slice ao n c, rqV x] W fun e w' => e = .returned (.bool true) ∧ Kept [] W w' := by
  obtain ⟨W1, hW1⟩ : ∃ W1, W1 = W.alloc (.cells (rqC x).toArray 32) := ⟨_, rfl⟩
  have hK1 : Kept [] W W1 := by rw [hW1]; exact (Kept.refl _ _).alloc _
  have HQ1 : Hid (RqB W1 W.heap.size x) := by rw [hW1]; exact heap_alloc_new W _
  have cW := awakeM_call W1
  have hc := hD.2.1
  have hmx := hD.2.2.1
  unfold maxLen at hmx
  have HD := hide (hD.kept hK1)
  have HL := hide hD.1
  have HX := hide (hx.kept hK1)
  have HK1 := hide hK1
  unfold rqC at hW1
  unfold rqV
  clear hD hx hK1
  go_enter Tryz.func5, Tryz.ntmps5
  go_upto_region 1 with fail
  rw [← hW1]
  clear hW1
  go_wp2_with fail
  refine cW.mono ?_
  rintro _ w1 ⟨rfl, hK1⟩
  have HK1w := hide (HK1.out.trans hK1 (by simp))
  have HDw := hide (HD.out.kept hK1)
  have HQw := hide (HQ1.out.kept hK1)
  have HXw := hide (HX.out.kept hK1)
  have cR := roomR_call w1 ao n c D HDw.out 100
  rw [show ((100 : Nat) : Int) = 100 from rfl] at cR
  clear cW hK1
  by_cases hr : RoomR 100 D
  · rw [roomR_ok hr] at cR
    have HR := hide hr
    obtain ⟨w2, hw2⟩ : ∃ w2, w2 = w1.alloc (.cells (rqC x).toArray 32) := ⟨_, rfl⟩
    have hK2 : Kept [] w1 w2 := by rw [hw2]; exact (Kept.refl _ _).alloc _
    have cR2 : Calls Tryz.prog 15 #[.slice (some ⟨w1.heap.size, 0, none⟩) 1 1, .int .i64 1] w2 fun r w' => r = .returned (.bool (roomR 1 [x])) ∧ w' = w2 := by
      rw [hw2]; exact roomR_call _ _ 1 1 [x] (SlR.lit w1 x HXw.out) 1
    obtain ⟨q0, q1, q2, q3, q4, q5, q6, q7, q8, q9, q10⟩ := HQw.out.cells
    have HD2 := hide (HDw.out.kept hK2)
    have HQ2 := hide (HQw.out.kept hK2)
    have HX2 := hide (HXw.out.kept hK2)
    have HK2 := hide (HK1w.out.trans hK2 (by simp))
    unfold rqC at hw2
    clear hr hK2
    go_upto_region 3 with fail
    cases hr2 : roomR 1 [x] with
    | false =>
      rw [hr2] at cR2
      clear hr2
      go_wp2_with (first
        | (go_at_call 15; refine cR.mono ?_; clear cR; rintro _ W0 ⟨rfl, hW0⟩; obtain rfl := hW0.symm)
        | (go_at_call 15; rw [← hw2]; clear hw2; refine cR2.mono ?_; clear cR2; rintro _ W0 ⟨rfl, hW0⟩; obtain rfl := hW0.symm))
      go_ret
      exact ⟨rfl, HK2.out⟩
    | true =>
      have HSm := hide (roomR_one hr2)
      rw [hr2] at cR2
      have cF := lv_fresh w2
      clear hr2
      go_upto_region 5 with (first
        | (go_at_call 15; refine cR.mono ?_; clear cR; rintro _ W0 ⟨rfl, hW0⟩; obtain rfl := hW0.symm)
        | (go_at_call 15; rw [← hw2]; clear hw2; refine cR2.mono ?_; clear cR2; rintro _ W0 ⟨rfl, hW0⟩; obtain rfl := hW0.symm))
      clear q0 q1 q2 q3 q4 q5 q6 q7 q8 q9 q10
      go_wp2_with fail
      refine cF.mono ?_
      rintro _ w3 ⟨b, p, rfl, hLv⟩
      have HLv := hide hLv
      have HK2' := HK2
      clear hLv cF
      go_wp2_with fail
      go_loopw [6] (fun iv wr => LmI w2 b p (newM [0, 1, 2]) D iv wr) (fun iv _ => n - (intOf iv).toNat)
      case atStart => exact ⟨0, rfl, Nat.zero_le _, HLv⟩
      case round =>
        obtain ⟨i, rfl, hi, HLr⟩ := hrel
        have hil : i ≤ n := by rw [← HL.out]; exact hi
        by_cases hlt : i < n
        · have hlt' : (i : Int) < n := by omega
          have hic : i ≤ c := by omega
          have hiD : i < D.length := by rw [HL.out]; exact hlt
          obtain ⟨g, o, he, hat⟩ := HD2.out.2.2.2.1 i hiD
          subst he
          obtain ⟨c0, c1, c2, c3, c4, c5, c6, c7, c8, c9, c10⟩ := hat.kept HLr.out.keeps (by simp)
          have cA := lv_apply HLr.out (apF_take apF_new hi (by have := HR.out.1; omega)) (by have := HR.out.1; omega) D[i] ⟨(HD2.out.2.2.2.2 _ (List.getElem_mem hiD)).kept HLr.out.keeps, HR.out.2 _ (List.getElem_mem hiD)⟩
          have HT := hide (apAll_take (m := newM [0, 1, 2]) hiD)
          generalize apV 2 (apAll (newM [0, 1, 2]) (D.take i)) D[i].r = vv at cA
          generalize D[i] = y at *
          clear hat
          go_wp2_with fail
          refine cA.mono ?_
          rintro _ w4 ⟨a4, n4, c4', rfl, _, HL4, _⟩
          rw [← HT.out] at HL4
          clear cA c0 c1 c2 c3 c4 c5 c6 c7 c8 c9 c10
          go_wp2_with fail
          go_roundw
          case rel => exact ⟨i + 1, by go_num, by omega, HL4⟩
          case measure => simp [intOf]; omega
        · have hlt' : ¬ (i : Int) < n := by omega
          have hin : i = n := by omega
          have HF := hide (apF_take apF_new hi (by have := HR.out.1; omega))
          have HN : Hid (i ≤ 100) := by have := HR.out.1; show _ ≤ _; omega
          generalize apAll (newM [0, 1, 2]) (D.take i) = m at *
          have HQr := hide (HQ2.out.kept HLr.out.keeps)
          obtain ⟨q0, q1, q2, q3, q4, q5, q6, q7, q8, q9, q10⟩ := HQr.out.cells
          have HXr : Hid (RqOk wr x) := ⟨HX2.out.kept HLr.out.keeps, HSm.out⟩
          have HKr := hide (HK2.out.trans HLr.out.keeps (by simp))
          subst hin
          by_cases hk0 : x.r.k = 0
          · have hb0 : (x.r.k == 0) = true := by simpa using hk0
            clear hk0
            go_wp2_with fail
            go_ret
            exact ⟨rfl, HKr.out⟩
          · have hb0 : (x.r.k == 0) = false := by simpa using hk0
            by_cases hk1 : x.r.k = 1
            · have hb1 : (x.r.k == 1) = true := by simpa using hk1
              clear hk0 hk1
              go_wp2_with fail
              go_ret
              exact ⟨rfl, HKr.out⟩
            · have hb1 : (x.r.k == 1) = false := by simpa using hk1
              obtain ⟨F, hLF⟩ := HLr.out
              have hg := HF.out.g
              have hE := HF.out.e
              have hA := HF.out.a
              have hn := HN.out
              have cA := apply_call hLF (by omega) (by omega) x HXr.out
              obtain ⟨o1, o2, o3⟩ := once (al := 2) HF.out.ok x.r hk0 hk1 (by omega)
              have HO1 := hide o1
              have HO2 := hide o2
              have HO3 := hide o3
              have HF1 := hide (HF.out.step (by omega) x.r)
              have HF2 := hide (HF1.out.step (by omega) x.r)
              unfold rqV at cA
              generalize apV 2 m x.r = vv at *
              generalize apM 2 3 m x.r = m1 at *
              clear hk0 hk1 hLF hg hE hA o1 o2 o3
              go_wp2_with fail
              refine cA.mono ?_
              rintro _ w4 ⟨a4, n4, c4, rfl, hO4, F4, hL4, hF4, hs4, hu4⟩
              obtain ⟨w5, hw5⟩ : ∃ w5, w5 = w4.alloc (.cells (vdL vv (.slice a4 n4 c4)).toArray 28) := ⟨_, rfl⟩
              have hK5 : Kept [] w4 w5 := by rw [hw5]; exact (Kept.refl _ _).alloc _
              have HB5 : Hid (VdB w5 w4.heap.size vv (.slice a4 n4 c4)) := by rw [hw5]; exact vd_new _ _ _
              have HO5 := hide (hO4.kept hK5)
              have HL5 := hide (hL4.kept hK5)
              have HU5 := hide hu4
              have HQ5 := hide ((HQr.out.fr hF4).kept hK5)
              have HX5 : Hid (RqOk w5 x) := ⟨HX2.out.kept (hL4.keeps.trans hK5 (by simp)), HSm.out⟩
              have cH := mHead_call HL5.out
              have cU := fun w' (hk : Kept [] w5 w') => mUnion_call (HL5.out.kept hk) (by have := HF1.out.e; omega)
              unfold vtV
              unfold vdL at hw5
              clear cA hO4 hL4 hF4 hs4 hu4 hK5 q0 q1 q2 q3 q4 q5 q6 q7 q8 q9 q10
              generalize hgl : m1.g.cs.length = gl at cH
              have HGl := hide hgl
              clear hgl
              go_upto_region 15 with fail
              rw [← hw5]
              clear hw5
              go_wp2_with fail
              refine cH.mono ?_
              rintro _ W0 ⟨rfl, hW0⟩
              obtain rfl := hW0.symm
              go_wp2_with fail
              refine (cU _ (Kept.refl _ _)).mono ?_
              rintro _ w6 ⟨v6, rfl, hr6, hK6⟩
              obtain ⟨a6, c6, rfl, hs6⟩ := hr6.sl
              have hsc := hs6.2.1
              have hsm := hs6.2.2.1
              unfold maxLen at hsm
              have hul := told_len (uniB m1.e)
              obtain ⟨q0, q1, q2, q3, q4, q5, q6, q7, q8, q9, q10⟩ := (HQ5.out.kept hK6).cells
              have HL6 := hide (HL5.out.kept hK6)
              have HB6 := hide (HB5.out.kept hK6)
              have HO6 := hide (HO5.out.kept hK6)
              have cA := apply_call HL6.out (by have := HF1.out.g; omega) (by have := HF1.out.e; omega) x (HX5.out.kept hK6)
              rw [HO1.out] at cA
              unfold rqV at cA
              clear cH cU hr6 hs6 hK6
              have HT3 := HO3
              generalize apM 2 3 m1 x.r = m2 at *
              generalize (told (uniB m1.e)).length = ul at *
              go_wp2_with fail
              refine cA.mono ?_
              rintro _ w7 ⟨a7, n7, c7, rfl, hO7, F7, hL7, hF7, hs7, hu7⟩
              obtain ⟨w8, hw8⟩ : ∃ w8, w8 = w7.alloc (.cells (vdL vv (.slice a7 n7 c7)).toArray 28) := ⟨_, rfl⟩
              have hK8 : Kept [] w7 w8 := by rw [hw8]; exact (Kept.refl _ _).alloc _
              have HB8 := hide ((HB6.out.fr hF7).kept hK8)
              have HC8 : Hid (VdB w8 w7.heap.size vv (.slice a7 n7 c7)) := by rw [hw8]; exact vd_new _ _ _
              have HO8 := hide ((HO6.out.frU hF7 HU5.out).kept hK8)
              have HP8 := hide (hO7.kept hK8)
              have HL8 := hide (hL7.kept hK8)
              obtain ⟨s0, s1, s2, s3, s4, s5, s6⟩ := HB8.out.cells
              obtain ⟨t0, t1, t2, t3, t4, t5, t6⟩ := HC8.out.cells
              have cK := alikeT_call w8 vv _ _ HO8.out.ko HP8.out.ko
              have cH := fun w' (hk : Kept [] w8 w') => mHead_call (HL8.out.kept hk)
              have cU := fun w' (hk : Kept [] w8 w') => mUnion_call (HL8.out.kept hk) (by have := HF2.out.e; omega)
              have hgl : (m2.g.cs.length : Int) = gl := by rw [← HGl.out, HO2.out]
              rw [hgl] at cH
              clear hgl
              have HKe : Hid (Kept [] W w8) := HK2.out.trans HL8.out.keeps (by simp)
              unfold vtV at cK ⊢
              unfold vdL at hw8
              clear cA hO7 hL7 hF7 hs7 hu7 hK8 q0 q1 q2 q3 q4 q5 q6 q7 q8 q9 q10
              go_upto_region 18 with fail
              rw [← hw8]
              clear hw8
              go_wp2_with (first
                | (go_at_call 17; refine cK.mono ?_; clear cK; rintro _ w9 ⟨rfl, hK9⟩; have HK9 := hide hK9; clear hK9 s0 s1 s2 s3 s4 s5 s6 t0 t1 t2 t3 t4 t5 t6)
                | (go_at_call 21; refine (cH _ HK9.out).mono ?_; clear cH; rintro _ W0 ⟨rfl, hW0⟩; obtain rfl := hW0.symm)
                | (go_at_call 22; refine (cU _ HK9.out).mono ?_; clear cU; rintro _ wA ⟨vA, rfl, hrA, hKA⟩; obtain ⟨aA, cA, rfl, hsA⟩ := hrA.sl; have hleT : ((told (uniB m2.e)).length : Int) ≤ ul := (by have := HT3.out; omega); have HKA := hide hKA; clear hrA hsA hKA))
              go_ret
              exact ⟨rfl, (HKe.out.trans HK9.out (by simp)).trans HKA.out (by simp)⟩
  · have hrf := roomR_no hr
    rw [hrf] at cR
    clear hr hrf
    go_wp2_with (go_at_call 15; refine cR.mono ?_; clear cR; rintro _ W0 ⟨rfl, hW0⟩; obtain rfl := hW0.symm)
    go_ret
    exact ⟨rfl, HK1w.out⟩

end Go.Proofs.YthhlfehdnefgoaaGreat
