/-
  EntryAmong: the walk. (Written by mk/mkeam.py.)
-/
import Derived.Test.YtlgacmmofimlmabEnAm0
import Derived.Test.YtlgacmmofimlmabF2
namespace Go.Proofs.Ytlgacmmofimlmab
open Go.RowKit

set_option linter.unusedSimpArgs false in
set_option maxHeartbeats 16000000 in
set_option maxRecDepth 100000 in
theorem among_walk (w : World) (ao : Option Addr) (ln lc : Nat) (DL : List Rm) (hDD : SlR w ao ln lc DL ∧ ∀ x ∈ DL, inR x.r) (v : Vt) (u : Value) (hv : KoV w u v.k) (hi : inV v) (n : Int) :
    Calls Try.prog 3 #[.slice ao ln lc, vtV v u, .int .i64 n] w fun r w' => r = .returned (.bool true) ∧ Kept [] w w' := by
  obtain ⟨uo, un, uc, rfl⟩ := hv.one
  obtain ⟨W, hW⟩ : ∃ W, W = w.alloc (.cells #[.int .i64 v.c, .int .i64 v.s, .int .i64 v.r, .string (str v.p), .int .u64 v.d, .slice uo un uc, .int .i64 v.m] 26) := ⟨_, rfl⟩
  have HW := hide hW
  have HK : Hid (Kept [] w W) := by rw [hW]; exact (Kept.refl _ _).alloc _
  have HB : Hid (Bx W w.heap.size 26 (vtL v (.slice uo un uc))) := by rw [hW]; exact Bx.new w _ (vtL v (.slice uo un uc))
  have HT : Hid (RowT Try.prog 26 (vtL v (.slice uo un uc)).length) := rowT_ver
  have HV := hide (hv.kept HK.out)
  have HD := hide (hDD.1.kept HK.out)
  have HU := hide hDD.2
  have HI := hide hi
  have hln := hDD.1.1
  have hlc := hDD.1.2.1
  have hlm := hDD.1.2.2.1
  unfold maxLen at hlm
  have cA := hide (awake_call W)
  clear hW hv hi hDD
  unfold vtV
  go_enter Try.func3, Try.ntmps3
  go_upto_region 1 with fail
  rw [← HW.out]
  go_upto_region 3 with (go_at_call 5; refine cA.out.mono ?_; rintro _ w1 ⟨rfl, hk1⟩; have HK1 := hide hk1; clear hk1)
  have HB1 := hide (HB.out.kept HK1.out (by simp))
  have cS := hide (smallV_call w1 v _ (HV.out.kept HK1.out))
  unfold vtV at cS
  by_cases h40 : 40 < ln
  · have h40' : (40 : Int) < ln := by omega
    go_wp2_with fail
    go_ret
    exact ⟨rfl, HK.out.trans HK1.out (by simp)⟩
  have h40' : ¬ (40 : Int) < ln := by omega
  go_upto_region 5 with (first | ((with_reducible refine wl_load_bxg HB1.out HT.out ?_ ?_ ?_); rfl; rfl) | (go_at_call 6; refine cS.out.mono ?_; clear cS; rintro _ X ⟨b2, rfl, hk2⟩; have HK2 := hide hk2; clear hk2; cases b2))
  · go_ret
    exact ⟨rfl, (HK.out.trans HK1.out (by simp)).trans HK2.out (by simp)⟩
  have HK0X := hide ((HK.out.trans HK1.out (by simp)).trans HK2.out (by simp))
  have HBX := hide (HB1.out.kept HK2.out (by simp))
  have HVX := hide ((HV.out.kept HK1.out).kept HK2.out)
  have HDX := hide ((HD.out.kept HK1.out).kept HK2.out)
  clear HB HB1 HV HD HK HK1 HK2
  have cW := hide (newWriter_call X)
  go_upto_region 8 with (go_at_call 7; refine cW.out.mono ?_; clear cW; rintro _ w3 ⟨rfl, hW3, hk3⟩; have HW3 : Hid (Wn X.heap.size X ([], 0) 30000 w3) := ⟨[X.heap.size], ⟨none, rfl, hW3, by simp⟩, hk3, by simp⟩; have HK3 := hide hk3; clear hW3 hk3)
  obtain ⟨p, hp⟩ : ∃ p, p = X.heap.size := ⟨_, rfl⟩
  rw [← hp] at HW3 ⊢
  clear hp
  have cM := mv_call w3 v (.slice uo un uc) (HVX.out.kept HK3.out)
  obtain ⟨mb, hmb⟩ : ∃ mb, mb = mvB v := ⟨_, rfl⟩
  rw [← hmb] at cM
  have HMB := hide hmb
  have HCM := hide cM
  have HBX3 := hide (HBX.out.kept HK3.out (by simp))
  unfold vtV at HCM
  obtain ⟨ok0, hok0⟩ : ∃ ok0, ok0 = (goodB n && mb) := ⟨_, rfl⟩
  have HOK0 := hide hok0
  clear cM hmb hok0
  go_cut [8] from 15 (fun s8 wx => AmC w3 ok0 s8 wx)
  case first =>
    by_cases h0 : 0 ≤ n
    rotate_left
    · have HG : Hid (ok0 = false) := by show _ = _; rw [HOK0.out, show goodB n = false from decide_eq_false (by omega)]; rfl
      go_wp2_with fail
      go_meet
      exact ⟨by rw [HG.out], Kept.refl _ _⟩
    have h0' : decide (0 ≤ n) = true := decide_eq_true h0
    by_cases h1 : n ≤ 1099511627776
    rotate_left
    · have HG : Hid (ok0 = false) := by show _ = _; rw [HOK0.out, show goodB n = false from decide_eq_false (by omega)]; rfl
      go_wp2_with fail
      go_meet
      exact ⟨by rw [HG.out], Kept.refl _ _⟩
    have h1' : decide (n ≤ 1099511627776) = true := decide_eq_true h1
    have HG : Hid (ok0 = mb) := by show _ = _; rw [HOK0.out, show goodB n = true from decide_eq_true ⟨h0, h1⟩]; rfl
    go_wp2_with (first | ((with_reducible refine wl_load_bxg HBX3.out HT.out ?_ ?_ ?_); rfl; rfl) | (go_at_call 8; refine HCM.out.mono ?_; clear HCM; rintro _ w4 ⟨rfl, hk4⟩; have HK4 := hide hk4; clear hk4))
    go_meet
    exact ⟨by rw [HG.out], HK4⟩
  case rest =>
    obtain ⟨rfl, HKc⟩ := hcut
    obtain ⟨w4, hw4⟩ : ∃ w4, w4 = wc := ⟨_, rfl⟩
    subst hw4
    have HW4 := hide (wn_kept HW3.out HKc.out)
    obtain ⟨L, hL⟩ : ∃ L, L = DL.map Rm.r := ⟨_, rfl⟩
    have HLL : Hid (L.length = ln) := by show L.length = ln; rw [hL, List.length_map, hln]
    have HUL : Hid (∀ r ∈ L, U64c r.c) := fun r hr => by
      rw [hL] at hr
      obtain ⟨x, hx, rfl⟩ := List.mem_map.1 hr
      exact inR_u (HU.out x hx)
    have HLD : Hid (L = DL.map Rm.r) := hL
    have HXA : Hid (∀ (i : Nat) (hi : i < DL.length), ∃ h : i < L.length, L[i] = DL[i].r) := fun i hi => by
      refine ⟨by rw [hL]; simpa using hi, ?_⟩
      simp only [hL, List.getElem_map]
    have HLZ := hide hln
    have HTQ : Hid (∀ y : Rm, RowT Try.prog 34 (rqC y).length) := fun _ => rowT_req
    clear hL HCM HBX3 HK3 HKc HW3 hln
    go_wp2_with fail
    go_loopw [8, 9] (fun bv iv wr => AmI p X L ok0 ln 30000 bv iv wr) (fun _ iv _ => ln - (intOf iv).toNat)
    case atStart => exact ⟨0, ok0, rfl, rfl, Nat.zero_le _, by show _ = _; simp, HW4⟩
    case round =>
      obtain ⟨i, b, rfl, rfl, hi, HBb, HWi⟩ := hrel
      by_cases hlt : i < ln
      · have hlt' : (i : Int) < ln := by omega
        have hic : i ≤ lc := by omega
        have hiD : i < DL.length := by rw [HLZ.out]; exact hlt
        obtain ⟨gb, go, rfl, hat⟩ := HDX.out.2.2.2.1 i hiD
        have hin := HDX.out.2.2.2.2 _ (List.getElem_mem hiD)
        obtain ⟨hiL, hyL⟩ := HXA.out i hiD
        have hstn := stA_next L i hiL
        have halln := all_next L i hiL
        rw [hyL] at hstn halln
        have hux := HUL.out L[i] (List.getElem_mem hiL)
        rw [hyL] at hux
        generalize DL[i] = y at *
        have HAT : Hid (∀ W2, Kept [] X W2 → W2.rangeAt gb (go + i * 11) (rqC y)) := fun W2 k => rq_range (hat.kept k (by simp))
        have HIN := hide hin
        have HST := hide hstn
        have HAL := hide halln
        have HKi : Hid (Kept [] X wr) := by obtain ⟨_, _, h, _⟩ := HWi.out; exact h
        have HTy := hide (HTQ.out y)
        have HXi := hide (HAT.out wr HKi.out)
        have cSm : Calls Try.prog 9 #[.agg (rqC y).toArray] wr (SmP wr (SmQ y.r)) := small_call wr y (hin.kept HKi.out).1
        have HSm := hide cSm
        clear hat hin hstn halln hyL hux cSm
        go_upto_region 14 with (first | ((with_reducible refine wl_load_at HXi.out HTy.out ?_ ?_); rfl) | (go_at_call 9; refine HSm.out.mono ?_; clear HSm; rintro _ w5 ⟨b5, rfl, hb5, hk5⟩; have HK5 := hide hk5; have HQ5 := hide hb5; clear hk5 hb5; cases b5))
        · go_ret
          exact ⟨rfl, (HK0X.out.trans HKi.out (by simp)).trans HK5.out (by simp)⟩
        have HW5 := hide (wn_less (m' := 30000 - 200 * (i + 1) + 200) (wn_kept HWi.out HK5.out) (by omega))
        have HSQ := hide (HQ5.out (by simp))
        have HKX5 := hide (HKi.out.trans HK5.out (by simp))
        have HX5 := hide (HAT.out w5 HKX5.out)
        have cP : Calls Try.prog 10 #[.pointer (some ⟨p, 0, none⟩), .agg (rqC y).toArray] w5 fun r w' => r = .returned (.tuple #[]) ∧ Wn p X (stA L (i + 1)) (30000 - 200 * (i + 1)) w' := by
          rw [← HST.out]
          exact wn_step HW5.out (fun O hO hk hA => put_call p w5 O (stA L i) (30000 - 200 * (i + 1)) y ((rqHy_of HIN.out HSQ.out).on hk (fun k hk' => .inr (hO k hk'))) hA)
        have HP := hide cP
        clear cP HQ5
        go_upto_region 15 with (first | ((with_reducible refine wl_load_at HX5.out HTy.out ?_ ?_); rfl) | (go_at_call 10; refine HP.out.mono ?_; clear HP; rintro _ w6 ⟨rfl, hW6⟩; have HW6 := hide hW6; clear hW6))
        cases b
        · have HBn : Hid (false = (ok0 && (L.take (i + 1)).all chkB)) := by show _ = _; rw [HAL.out, ← Bool.and_assoc, ← HBb.out]; rfl
          go_wp2_with fail
          go_roundw
          case rel => exact ⟨i + 1, false, rfl, by go_num, by omega, HBn, HW6⟩
          case measure => simp [intOf]; omega
        · have HK6 : Hid (Kept [] X w6) := by obtain ⟨_, _, h, _⟩ := HW6.out; exact h
          have HX6 := hide (HAT.out w6 HK6.out)
          have cC : Calls Try.prog 11 #[.agg (rqC y).toArray] w6 fun e w' => e = .returned (.int .i64 (errI (chkB y.r))) ∧ Kept [] w6 w' := chk_call w6 y (HIN.out.kept HK6.out).1
          cases hch : chkB y.r
          · have HBn : Hid (false = (ok0 && (L.take (i + 1)).all chkB)) := by show _ = _; rw [HAL.out, hch]; simp
            rw [hch, show errI false = 1 from rfl] at cC
            have HC := hide cC
            clear cC hch
            go_wp2_with (first | ((with_reducible refine wl_load_atg HX6.out HTy.out ?_ ?_ ?_); rfl; rfl) | (go_at_call 11; refine HC.out.mono ?_; clear HC; rintro _ w7 ⟨rfl, hk7⟩; have HW7 := hide (wn_kept HW6.out hk7); clear hk7))
            go_roundw
            case rel => exact ⟨i + 1, false, rfl, by go_num, by omega, HBn, HW7⟩
            case measure => simp [intOf]; omega
          · have HBn : Hid (true = (ok0 && (L.take (i + 1)).all chkB)) := by show _ = _; rw [HAL.out, hch, ← Bool.and_assoc, ← HBb.out]; rfl
            rw [hch, show errI true = 0 from rfl] at cC
            have HC := hide cC
            clear cC hch
            go_wp2_with (first | ((with_reducible refine wl_load_atg HX6.out HTy.out ?_ ?_ ?_); rfl; rfl) | (go_at_call 11; refine HC.out.mono ?_; clear HC; rintro _ w7 ⟨rfl, hk7⟩; have HW7 := hide (wn_kept HW6.out hk7); clear hk7))
            go_roundw
            case rel => exact ⟨i + 1, true, rfl, by go_num, by omega, HBn, HW7⟩
            case measure => simp [intOf]; omega
      · have hlt' : ¬ (i : Int) < ln := by omega
        have hiN : i = ln := by omega
        subst hiN
        have HBF : Hid (b = (goodB n && mb && L.all chkB)) := by
          show _ = _
          rw [HBb.out, HOK0.out, List.take_of_length_le (by rw [HLL.out]; exact Nat.le_refl _)]
        have HWF := hide (wn_less (m' := 22000 - 200 * i + 0 + 7000) HWi.out (by omega))
        have HSF : Hid (stA L i = stepP ([], 0) (L.all chkB) (L.flatMap bR)) := by
          show stA L i = _
          unfold stA
          rw [List.take_of_length_le (by rw [HLL.out]; exact Nat.le_refl _), all_same L HUL.out]
        have cT : Calls Try.prog 12 #[.pointer (some ⟨p, 0, none⟩), .agg (vtL v (.slice uo un uc)).toArray] wr fun r w' => r = .returned (.tuple #[]) ∧ Wn p X (stepP ([], 0) (L.all chkB && mb) (L.flatMap bR ++ bV v)) (22000 - 200 * i) w' := by
          have h := wn_step HWF.out (fun O hO hk hA => told_call p wr O (stA L i) (22000 - 200 * i + 0) v (.slice uo un uc) ((vtHy_of HVX.out HI.out).on hk (fun k hk' => .inr (hO k hk'))) hA)
          rw [told_may, HSF.out, stepP_trans, may_mv v (inV_u HI.out), ← HMB.out] at h
          exact h
        have HT2 := hide cT
        have HKi : Hid (Kept [] X wr) := by obtain ⟨_, _, h, _⟩ := HWi.out; exact h
        have HBr := hide (HBX.out.kept HKi.out (by simp))
        clear cT
        go_upto_region 17 with (first | ((with_reducible refine wl_load_bx HBr.out HT.out ?_ ?_); rfl) | (go_at_call 12; refine HT2.out.mono ?_; clear HT2; rintro _ w5 ⟨rfl, hW5⟩; have HW5 := hide hW5; clear hW5))
        have cN : Calls Try.prog 13 #[.pointer (some ⟨p, 0, none⟩), .int .i64 n] w5 fun r w' => r = .returned (.tuple #[]) ∧ Wn p X (stepP ([], 0) (L.all chkB && mb && goodB n) (L.flatMap bR ++ bV v ++ encNum n)) 10 w' := by
          have h := wn_step (wn_less (m' := 11) HW5.out (by omega)) (s' := wrNum (stepP ([], 0) (L.all chkB && mb) (L.flatMap bR ++ bV v)).2 (stepP ([], 0) (L.all chkB && mb) (L.flatMap bR ++ bV v)).1 n) (m' := 10) (fun O hO hk hA => by
            obtain ⟨g, rfl, hw, hl⟩ := hA
            refine (wnum_call w5 p g _ _ n hw (by omega)).mono (fun r w' hr => ⟨hr.1, pen_went (Kept.refl [] _) hr ?_⟩)
            have := wrNum_len (stepP ([], 0) (L.all chkB && mb) (L.flatMap bR ++ bV v)).2 (stepP ([], 0) (L.all chkB && mb) (L.flatMap bR ++ bV v)).1 n
            omega)
          have e := congrArg Prod.snd (pen_num (stepP ([], 0) (L.all chkB && mb) (L.flatMap bR ++ bV v)) n)
          rw [stepP_trans] at e
          have e' : wrNum (stepP ([], 0) (L.all chkB && mb) (L.flatMap bR ++ bV v)).2 (stepP ([], 0) (L.all chkB && mb) (L.flatMap bR ++ bV v)).1 n = stepP ([], 0) (L.all chkB && mb && goodB n) (L.flatMap bR ++ bV v ++ encNum n) := e
          rw [e'] at h
          exact h
        have HN := hide cN
        clear cN
        go_upto_region 18 with (go_at_call 13; refine HN.out.mono ?_; clear HN; rintro _ w6 ⟨rfl, hW6⟩; have HW6 := hide hW6; clear hW6)
        have HBF2 : Hid (b = (L.all chkB && mb && goodB n)) := by show _ = _; rw [HBF.out]; cases goodB n <;> cases mb <;> cases L.all chkB <;> rfl
        have HALL : Hid (b = true → (L.all chkB = true ∧ mb = true) ∧ goodB n = true) := fun h => by rw [HBF2.out] at h; simpa using h
        have hWx := HW6.out
        rw [← HBF2.out] at hWx
        obtain ⟨O6, ⟨g6, e6, hw6, hl6⟩, hk6, hO6⟩ := hWx
        have HK6 := hide hk6
        cases b
        · have e7 : stepP ([], 0) false (L.flatMap bR ++ bV v ++ encNum n) = ([], 1) := rfl
          rw [e7] at hw6
          have HDn := hide (done_call w6 p g6 [] 1 hw6 (by simp))
          clear hw6 hl6 e6 hk6 hO6 e7
          go_wp2_with (go_at_call 14; refine HDn.out.mono ?_; clear HDn; rintro _ w7 ⟨a7, c7, rfl, hS7, hb7, hk7⟩; have HK7 := hide hk7; clear hS7 hb7 hk7)
          go_ret
          exact ⟨rfl, (HK0X.out.trans HK6.out (by simp)).trans HK7.out (by simp)⟩
        · obtain ⟨⟨hall, hmb2⟩, hgn⟩ := HALL.out rfl
          have e7 : stepP ([], 0) true (L.flatMap bR ++ bV v ++ encNum n) = (L.flatMap bR ++ (bV v ++ encNum n), 0) := by unfold stepP; simp
          rw [e7] at hw6 hl6
          have HOKR : Hid (∀ r ∈ L, okReq r) := fun r hr => (chk_ok r (HUL.out r hr)).1 (List.all_eq_true.1 hall r hr)
          have hokv : okVer v := (mv_ok v (inV_u HI.out)).1 (by rw [← HMB.out]; exact hmb2)
          have HOKV := hide hokv
          have HGN := hide hgn
          have HOct : Hid (Oct (L.flatMap bR ++ (bV v ++ encNum n))) := by
            have h1 := oct_flat bR 20000 L (fun r hr => bR_good (HOKR.out r hr))
            exact h1.1.append ((bV_good hokv).1.append (oct_num n hgn).1)
          have HDn := hide (done_call w6 p g6 _ 0 hw6 (by omega))
          have hl7 : (L.flatMap bR ++ (bV v ++ encNum n)).length ≤ 1000000000 := by simp only at hl6; omega
          obtain ⟨bb, hbb⟩ : ∃ bb, bb = L.flatMap bR ++ (bV v ++ encNum n) := ⟨_, rfl⟩
          rw [← hbb] at HDn HOct hl7
          have HBB := hide hbb
          clear hw6 hl6 e6 hk6 hO6 e7 hall hmb2 hgn hokv hbb HALL HBF HBF2
          go_upto_region 21 with (go_at_call 14; refine HDn.out.mono ?_; clear HDn; rintro _ w7 ⟨a7, c7, rfl, hS7, hb7, hk7⟩; have HK7 := hide (HK6.out.trans hk7 (by simp)); have HS7 := hide hS7; clear hS7 hb7 hk7)
          have HNR := hide (newReader_call w7 a7 bb.length c7 bb HS7.out (by omega) HOct.out)
          go_upto_region 22 with (go_at_call 15; refine HNR.out.mono ?_; clear HNR; rintro _ w8 ⟨p2, F2, rfl, hp2, hF2, hF3, hR8, hk8⟩; have HR8 : Hid (Rn p2 F2 X ((L.drop 0).flatMap bR ++ (bV v ++ encNum n), 0) w8) := (⟨⟨rfl, by rw [List.drop_zero, ← HBB.out]; exact hR8, hF3⟩, HK7.out.trans hk8 (by simp), fun k hk => by rcases List.mem_cons.1 hk with h | h; (rw [h]; exact Nat.le_trans HK7.out.size hp2); exact Nat.le_trans HK7.out.size (hF2 k h)⟩); clear hp2 hF2 hF3 hR8 hk8)
          obtain ⟨t, ht⟩ : ∃ t, t = bV v ++ encNum n := ⟨_, rfl⟩
          rw [← ht] at HR8
          have HTT := hide ht
          clear ht hl7
          go_wp2_with fail
          go_loopw [13] (fun iv wr => ArI p2 F2 X L t i iv wr) (fun iv _ => i - (intOf iv).toNat)
          case atStart => exact ⟨0, rfl, Nat.zero_le _, HR8⟩
          case round =>
            obtain ⟨j, rfl, hj, HRj⟩ := hrel
            by_cases hjlt : j < i
            · have hjlt' : (j : Int) < i := by omega
              have hjc : j ≤ lc := by omega
              have hjD : j < DL.length := by rw [HLZ.out]; exact hjlt
              obtain ⟨gb, go, rfl, hat⟩ := HDX.out.2.2.2.1 j hjD
              have hin := HDX.out.2.2.2.2 _ (List.getElem_mem hjD)
              obtain ⟨hjL, hyL⟩ := HXA.out j hjD
              have hdn := drop_next L j hjL
              have hoky := HOKR.out L[j] (List.getElem_mem hjL)
              rw [hyL] at hdn hoky
              generalize DL[j] = y at *
              have HAT : Hid (∀ W2, Kept [] X W2 → W2.rangeAt gb (go + j * 11) (rqC y)) := fun W2 k => rq_range (hat.kept k (by simp))
              have HIN := hide hin
              have hfw := cdcR.fwd y.r ((L.drop (j + 1)).flatMap bR ++ t) hoky
              have hRj := HRj.out
              rw [hdn, List.append_assoc] at hRj
              have HRj2 := hide hRj
              have hTk : takeR (bR y.r ++ ((L.drop (j + 1)).flatMap bR ++ t), 0) = y.r ∧ (reqP eyeP (bR y.r ++ ((L.drop (j + 1)).flatMap bR ++ t), 0) rq0).2 = ((L.drop (j + 1)).flatMap bR ++ t, 0) := by
                have h : reqP eyeP (bR y.r ++ ((L.drop (j + 1)).flatMap bR ++ t), 0) rq0 = (y.r, ((L.drop (j + 1)).flatMap bR ++ t, 0)) := hfw
                unfold takeR
                rw [h]
                exact ⟨rfl, rfl⟩
              have cT : ∀ W2, Kept [] wr W2 → Calls Try.prog 17 #[.pointer (some ⟨p2, 0, none⟩)] W2 (WentR (AtE p2 F2) W2 (p2 :: F2) ((L.drop (j + 1)).flatMap bR ++ t, 0) 0 y.r) := fun W2 k => by
                have h := take_callE p2 F2 W2 (p2 :: F2) (bR y.r ++ ((L.drop (j + 1)).flatMap bR ++ t), 0) 0 (rn_kept hRj k).1
                rw [hTk.1, hTk.2] at h
                exact h
              have HCT := hide cT
              have HKj := hide hRj.2.1
              have HXj := hide (HAT.out wr HKj.out)
              have HNew := hide hRj.2.2
              clear hat hin hyL hdn hoky hfw hRj hTk cT
              go_upto_region 25 with fail
              refine wp_region_held_drew (S := fun w9 => w9.rangeAt gb (go + j * 11) (rqC y)) (by kernel_rfl) (HAT.out _ (HKj.out.trans (Kept.refl [] _).drew (by simp))) (fun hHeld => ?_)
              refine wpAnyH_take (i := 0) (v := ?_) rfl (by kernel_rfl) (by kernel_rfl) (by kernel_rfl) (fun _ _ _ h => h) (Or.inl ⟨by rfl, ?_⟩) hHeld ?_
              rotate_left
              · intro w9 hSw; go_simp; (try with_reducible rfl)
              try simp only [List.getElem_toArray, List.getElem_cons_succ, List.getElem_cons_zero, Act.put, List.setIfInBounds_toArray, List.set_cons_zero, List.set_cons_succ]
              refine wpAnyH_take (i := 2) (v := ?_) rfl (by kernel_rfl) (by kernel_rfl) (by kernel_rfl) (fun _ _ _ h => h) (Or.inl ⟨by rfl, ?_⟩) hHeld ?_
              rotate_left
              · intro w9 hSw; go_simp; (try with_reducible rfl)
              try simp only [List.getElem_toArray, List.getElem_cons_succ, List.getElem_cons_zero, Act.put, List.setIfInBounds_toArray, List.set_cons_zero, List.set_cons_succ]
              refine wpAnyH_take (i := 3) (v := ?_) rfl (by kernel_rfl) (by kernel_rfl) (by kernel_rfl) (fun _ _ _ h => h) (Or.inl ⟨by rfl, ?_⟩) hHeld ?_
              rotate_left
              · intro w9 hSw; go_simp; (try with_reducible rfl)
              try simp only [List.getElem_toArray, List.getElem_cons_succ, List.getElem_cons_zero, Act.put, List.setIfInBounds_toArray, List.set_cons_zero, List.set_cons_succ]
              refine wpAnyH_take (i := 4) (v := ?_) rfl (by kernel_rfl) (by kernel_rfl) (by kernel_rfl) (fun _ _ _ h => h) (Or.inl ⟨by rfl, ?_⟩) hHeld ?_
              rotate_left
              · intro w9 hSw; go_simp; (try with_reducible rfl)
              try simp only [List.getElem_toArray, List.getElem_cons_succ, List.getElem_cons_zero, Act.put, List.setIfInBounds_toArray, List.set_cons_zero, List.set_cons_succ]
              refine wpAnyH_take (i := 5) (v := .agg (rqC y).toArray) rfl (by kernel_rfl) (by kernel_rfl) (by kernel_rfl) (fun _ _ _ h => h) (yieldsIf_load_mid (by rfl) _ _ rfl gb (go + j * 11) rfl (rqC y) _ (fun w9 hSw => hSw) Try.underlying34 rfl size_rqP) hHeld ?_
              try simp only [List.getElem_toArray, List.getElem_cons_succ, List.getElem_cons_zero, Act.put, List.setIfInBounds_toArray, List.set_cons_zero, List.set_cons_succ]
              refine wpAnyH_ready (rs := [1]) (by kernel_rfl) (by simp) (AllReadyH.cons rfl (fun K0 hK0 => ?_) AllReadyH.nil)
              go_simp
              refine (HCT.out _ (Kept.refl [] _).drew).mono ?_
              rintro _ w9 ⟨v9, rfl, hO9, O9, hA9, hk9, hn9, hq9⟩
              obtain ⟨vo, vn, vc, rfl⟩ := own_bare hO9
              have k9 : Kept [] X w9 := (HKj.out.trans (Kept.refl [] _).drew (by simp)).trans hk9 (fun k hk => .inr (HNew.out k hk))
              have HR9 : Hid (Rn p2 F2 X ((L.drop (j + 1)).flatMap bR ++ t, 0) w9) := by
                obtain ⟨e9, h9, hF9⟩ := hA9
                exact ⟨⟨rfl, h9, hF9⟩, k9, HNew.out⟩
              have HK9 := hide k9
              have HO9 := hide hO9
              clear hO9 hA9 hk9 hn9 hq9 k9
              go_wp2_with fail
              refine hK0.out _ _ (HAT.out _ HK9.out) (fun hHeld => ?_)
              clear hK0 K0
              try simp only [List.getElem_toArray, List.getElem_cons_succ, List.getElem_cons_zero, Act.put, List.setIfInBounds_toArray, List.set_cons_zero, List.set_cons_succ]
              refine wpAnyH_ready (rs := [6]) (by kernel_rfl) (by simp) (AllReadyH.cons rfl (fun K0 hK0 => ?_) AllReadyH.nil)
              go_simp
              have hsl : SlC w9 vo vn vc y.r.c := by
                obtain ⟨a1, m1, d1, e1, s1, _⟩ := HO9.out.chV
                cases e1
                exact s1
              have cS : Calls Try.prog 16 #[.agg (rqL y.r (.slice vo vn vc)).toArray, .agg (rqC y).toArray] w9 fun e w' => e = .returned (.bool true) ∧ Kept [] w9 w' := kept_boolA (rqdoc_call w9 y.r y.r _ _ _ _ _ _ hsl (HIN.out.kept HK9.out).1) (decide_eq_true rfl)
              refine cS.mono ?_
              clear cS hsl
              rintro _ wA ⟨rfl, hkA⟩
              have HRA := hide (rn_kept HR9.out hkA)
              have HKA := hide (HK9.out.trans hkA (by simp))
              clear hkA
              go_wp2_with fail
              refine hK0.out _ _ (HAT.out _ HKA.out) (fun hHeld => ?_)
              clear hK0 K0
              try simp only [List.getElem_toArray, List.getElem_cons_succ, List.getElem_cons_zero, Act.put, List.setIfInBounds_toArray, List.set_cons_zero, List.set_cons_succ]
              refine wpAnyH_take (i := 7) (v := ?_) rfl (by kernel_rfl) (by kernel_rfl) (by kernel_rfl) (fun _ _ _ h => h) (Or.inl ⟨by rfl, ?_⟩) hHeld ?_
              rotate_left
              · intro w9 hSw; go_simp; (try with_reducible rfl)
              try simp only [List.getElem_toArray, List.getElem_cons_succ, List.getElem_cons_zero, Act.put, List.setIfInBounds_toArray, List.set_cons_zero, List.set_cons_succ]
              try simp only [List.getElem_toArray, List.getElem_cons_succ, List.getElem_cons_zero, Act.put, List.setIfInBounds_toArray, List.set_cons_zero, List.set_cons_succ]
              refine wpAnyH_done (by kernel_rfl) ?_ _
              clear hHeld
              go_wp2_with fail
              go_roundw
              case rel => exact ⟨j + 1, by go_num, by omega, HRA⟩
              case measure => simp [intOf]; omega
            · have hjlt' : ¬ (j : Int) < i := by omega
              have hRj := HRj.out
              rw [List.drop_eq_nil_of_le (by rw [HLL.out]; omega), List.flatMap_nil, List.nil_append, HTT.out] at hRj
              have hfw := cdcV.fwd v (encNum n) HOKV.out
              have hH : heardV (bV v ++ encNum n, 0) = v ∧ (verP eyeP (bV v ++ encNum n, 0) vt0).2 = (encNum n, 0) := by
                have h : verP eyeP (bV v ++ encNum n, 0) vt0 = (v, (encNum n, 0)) := hfw
                unfold heardV
                rw [h]
                exact ⟨rfl, rfl⟩
              have cH : Calls Try.prog 18 #[.pointer (some ⟨p2, 0, none⟩)] wr (WentV (AtE p2 F2) wr (p2 :: F2) (encNum n, 0) 0 v) := by
                have h := heard_callE p2 F2 wr (p2 :: F2) (bV v ++ encNum n, 0) 0 hRj.1
                rw [hH.1, hH.2] at h
                exact h
              have HCH := hide cH
              have HKj := hide hRj.2.1
              have HNew := hide hRj.2.2
              clear hRj hfw hH cH
              go_upto_region 28 with (first | (go_at_call 18; refine HCH.out.mono ?_; clear HCH; rintro _ w9 ⟨v9, rfl, hO9, O9, hA9, hk9, hn9, hq9⟩; obtain ⟨vo, vn, vc, rfl⟩ := koO_bare hO9; have HO9 := hide hO9; have HR9 : Hid (Rd w9 p2 F2 (encNum n) 0 ∧ (∀ k ∈ F2, k < w9.heap.size)) := hA9.2; have HK9 : Hid (Kept [] X w9) := (HKj.out.trans hk9 (fun k hk => .inr (HNew.out k hk))); have HZ : Hid (Bx (w9.alloc (.cells #[.int .i64 0, .int .i64 0, .int .i64 0, .string ⟨#[]⟩, .int .u64 0, .slice none 0 0, .int .i64 0] 26)) w9.heap.size 26 zvt) := (Bx.new w9 _ zvt); have HLz : Hid ((vtL v (.slice vo vn vc)).length = zvt.length) := rfl; have HNz := hide (one_vtL v (.slice vo vn vc) (by rfl)); have HTz : Hid (RowT Try.prog 26 (vtL v (.slice vo vn vc)).length) := rowT_ver; clear hO9 hA9 hk9 hn9 hq9) | ((with_reducible refine wl_store_bx HZ.out HLz.out HNz.out HTz.out ?_ ?_ ?_); rfl; rfl; intro wA HBA HKs))
              have kA : Kept [] w9 wA := (Kept.refl [] w9).trans (((Kept.refl [w9.heap.size] w9).alloc _).trans HKs.out (by simp)) (by intro q hq; simp at hq; right; omega)
              have HKA := hide (HK9.out.trans kA (by simp))
              have HOA := hide (HO9.out.newer (((Kept.refl [w9.heap.size] w9).alloc _).trans HKs.out (by simp)))
              have HRA := hide (Rd.kept kA HR9.out.1 (by simp) (by simp))
              have HBv := hide (HBX.out.kept HKA.out (by simp))
              have hpX := HNew.out p2 (by simp)
              have cL : Calls Try.prog 19 #[.agg (vtL v (.slice vo vn vc)).toArray, .agg (vtL v (.slice uo un uc)).toArray] wA fun e w' => e = .returned (.bool true) ∧ Kept [] wA w' := kept_boolA (vtdoc_call wA v v _ _ HOA.out.ko (HVX.out.kept HKA.out)) (decide_eq_true rfl)
              have hnum : rdNumE 0 (encNum n) = (0, n, []) := by have h := rdNumE_enc n [] HGN.out; rw [List.append_nil] at h; exact h
              have cN : ∀ W2, Kept [] wA W2 → Calls Try.prog 20 #[.pointer (some ⟨p2, 0, none⟩)] W2 fun r w' => r = .returned (.int .i64 n) ∧ Rd w' p2 F2 [] 0 ∧ Kept [p2] W2 w' := fun W2 k => by
                have h := num_call W2 p2 F2 (encNum n) 0 (Rd.kept k HRA.out (by simp) (by simp))
                rw [hnum] at h
                exact h
              have HCL := hide cL
              have HCN := hide cN
              clear kA HKs HZ HLz HNz cL cN hnum
              go_wp2_with (first | ((with_reducible refine wl_load_bxg HBA.out HTz.out ?_ ?_ ?_); rfl; rfl) | ((with_reducible refine wl_load_bxg HBv.out HT.out ?_ ?_ ?_); rfl; rfl) | (go_at_call 19; refine HCL.out.mono ?_; clear HCL; rintro _ wB ⟨rfl, hkB⟩; have HKB := hide hkB; clear hkB) | (go_at_call 20; refine (HCN.out _ HKB.out).mono ?_; clear HCN; rintro _ wC ⟨rfl, hRC, hkC⟩; have HRC := hide hRC; have HKC := hide hkC; clear hRC hkC) | (go_at_call 21; refine (end_call wC p2 F2 [] 0 HRC.out).mono ?_; rintro _ W0 ⟨rfl, hW0⟩; obtain rfl := hW0.symm))
              go_ret
              exact ⟨rfl, ((HK0X.out.trans HKA.out (by simp)).trans HKB.out (by simp)).trans HKC.out (by intro q hq; simp at hq; subst hq; right; have := HK0X.out.size; omega)⟩

end Go.Proofs.Ytlgacmmofimlmab
