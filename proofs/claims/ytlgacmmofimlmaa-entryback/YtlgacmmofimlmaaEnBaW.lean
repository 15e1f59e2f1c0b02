/-
  EntryBack: the walk.
-/
import Derived.Test.YtlgacmmofimlmaaEnBa0
import Derived.Test.YtlgacmmofimlmaaBoxGd
namespace Go.Proofs.Ytlgacmmofimlmaa
open Go.RowKit

theorem enc_may {r : Rq} (h : mayR r = true) : putS ([], 0) r = (bR r, 0) := by rw [enc_one, if_pos h]
theorem enc_mayn {r : Rq} (h : ¬ mayR r = true) : putS ([], 0) r = ([], 1) := by rw [enc_one, if_neg h]


set_option maxHeartbeats 8000000 in
set_option maxRecDepth 100000 in
theorem back_walk (w : World) (x : Rm) (hx : RqIn w x) (hu : inR x.r) (ao : Option Addr) (n c : Nat) (l : List Int) (hS : Sl w ao n c l) (ho : Oct l) :
    Calls Try.prog 7 #[rqV x, .slice ao n c] w fun r w' => r = .returned (.bool true) ∧ Kept [] w w' := by
  obtain ⟨W, hW⟩ : ∃ W, W = w.alloc (.cells #[.int .i64 x.r.k, .string (str x.r.n), .int .i64 x.r.s, .int .i64 x.r.q, .int .i64 x.r.b, .string (str x.r.f), .slice x.mo x.m x.mc, .string (str x.r.p), .int .i64 x.r.fr, .int .i64 x.r.mn, .int .i64 x.r.mb] 29) := ⟨_, rfl⟩
  have HW := hide hW
  have HK : Hid (Kept [] w W) := by rw [hW]; exact (Kept.refl _ _).alloc _
  have HB : Hid (Bx W w.heap.size 29 (rqC x)) := by rw [hW]; exact Bx.new w _ (rqC x)
  have HT : Hid (RowT Try.prog 29 (rqC x).length) := rowT_req
  have HX := hide (hx.kept HK.out)
  have HS := hide (Sl.kept HK.out hS (by simp))
  have HO := hide ho
  have HU := hide hu
  have hnm := hS.2.2.1
  have hnc := hS.2.1
  unfold maxLen at hnm
  have cA := hide (awake_call W)
  clear hW hx hS ho hu
  unfold rqV
  go_enter Try.func7, Try.ntmps7
  go_upto_region 1 with fail
  rw [← HW.out]
  go_upto_region 3 with (go_at_call 9; refine cA.out.mono ?_; rintro _ w1 ⟨rfl, hk1⟩; have HK1 := hide hk1; clear hk1)
  have HB1 := hide (HB.out.kept HK1.out (by simp))
  have HX1 := hide (HX.out.kept HK1.out)
  have HS1 := hide (Sl.kept HK1.out HS.out (by simp))
  have cS := hide (small_call w1 x HX1.out.1)
  unfold rqV at cS
  by_cases hn : 20000 < n
  · have hn' : (20000 : Int) < n := by omega
    go_wp2_with (first | ((with_reducible refine wl_load_bx HB1.out HT.out ?_ ?_); rfl) | (go_at_call 13; refine cS.out.mono ?_; clear cS; rintro _ w2 ⟨b2, rfl, hb2, hk2⟩; have HK2 := hide hk2; clear hk2; cases b2))
    all_goals (go_ret; exact ⟨rfl, (HK.out.trans HK1.out (by simp)).trans HK2.out (by simp)⟩)
  have hn' : ¬ (20000 : Int) < n := by omega
  go_upto_region 5 with (first | ((with_reducible refine wl_load_bx HB1.out HT.out ?_ ?_); rfl) | (go_at_call 13; refine cS.out.mono ?_; clear cS; rintro _ w2 ⟨b2, rfl, hb2, hk2⟩; have HK2 := hide hk2; have HB2 := hide hb2; clear hk2 hb2; cases b2))
  · go_ret
    exact ⟨rfl, (HK.out.trans HK1.out (by simp)).trans HK2.out (by simp)⟩
  have HX2 := hide (HX1.out.kept HK2.out)
  have HS2 := hide (Sl.kept HK2.out HS1.out (by simp))
  have HBx2 := hide (HB1.out.kept HK2.out (by simp))
  have HK02 := hide ((HK.out.trans HK1.out (by simp)).trans HK2.out (by simp))
  have cE := enc_call w2 x (rqHy_of HX2.out (HB2.out (by simp)))
  unfold rqV at cE
  by_cases hm : mayR x.r = true
  · have hok := (may_ok x.r (inR_u HU.out)).1 hm
    have HG := hide (bR_good hok)
    have HDE := hide (dec_enc hok)
    rw [enc_may hm] at cE
    have HE := hide cE
    clear cE hm hok
    obtain ⟨m, hm⟩ : ∃ m, m = bR x.r := ⟨_, rfl⟩
    rw [← hm] at HE HG HDE
    clear hm
    go_upto_region 8 with (first | ((with_reducible refine wl_load_bx HBx2.out HT.out ?_ ?_); rfl) | (go_at_call 10; refine HE.out.mono ?_; clear HE; rintro _ w3 ⟨a3, c3, rfl, hS3, hb3, hk3⟩; have HK3 := hide hk3; have HS3 := hide hS3; have hm4 := HG.out.2; have cD := hide (dec_call w3 a3 m.length c3 m hS3 (by omega) HG.out.1); rw [HDE.out] at cD; clear hS3 hb3 hk3 hm4) | (go_at_call 11; refine cD.out.mono ?_; clear cD; rintro _ w4 ⟨v4, rfl, hO4, hk4⟩; obtain ⟨uo, un, uc, rfl⟩ := own_bare hO4; have HK4 := hide hk4; have HO4 := hide hO4; have HB4 : Hid (Bx (w4.alloc (.cells #[.int .i64 0, .string ⟨#[]⟩, .int .i64 0, .int .i64 0, .int .i64 0, .string ⟨#[]⟩, .slice none 0 0, .string ⟨#[]⟩, .int .i64 0, .int .i64 0, .int .i64 0] 29)) w4.heap.size 29 zrq) := (Bx.new w4 _ zrq); have HL4 : Hid ((rqL x.r (.slice uo un uc)).length = zrq.length) := rfl; have HN4 := hide (one_rqL x.r (.slice uo un uc) (by rfl)); have HT4 : Hid (RowT Try.prog 29 (rqL x.r (.slice uo un uc)).length) := rowT_req; clear hO4 hk4) | ((with_reducible refine wl_store_bx HB4.out HL4.out HN4.out HT4.out ?_ ?_ ?_); rfl; rfl; intro w5 HB5 HK5))
    have k45 : Kept [] w4 w5 := ((Kept.refl [] w4).alloc _).trans HK5.out (by simp)
    have HK25 := hide ((HK3.out.trans HK4.out (by simp)).trans k45 (by simp))
    have HO5 := hide (HO4.out.newer (((Kept.refl [w4.heap.size] w4).alloc _).trans HK5.out (by simp)))
    have HBx5 := hide (HBx2.out.kept HK25.out (by simp))
    have HS5 := hide (Sl.kept HK25.out HS2.out (by simp))
    have HK05 := hide (HK02.out.trans HK25.out (by simp))
    obtain ⟨ao5, n5, c5, e5, hs5, _⟩ := HO5.out.chV
    obtain ⟨rfl, rfl, rfl⟩ : ao5 = uo ∧ n5 = un ∧ c5 = uc := by injection e5 with h1 h2 h3; exact ⟨h1.symm, h2.symm, h3.symm⟩
    have cQ : Calls Try.prog 20 #[.agg (rqL x.r (.slice ao5 n5 c5)).toArray, .agg (rqC x).toArray] w5 fun e w' => e = .returned (.bool (decide (x.r = x.r))) ∧ Kept [] w5 w' := rqdoc_call w5 x.r x.r _ _ _ _ _ _ hs5 (HX2.out.kept HK25.out).1
    rw [decide_eq_true rfl] at cQ
    have HQ := hide cQ
    clear cQ hs5 k45 e5
    go_upto_region 10 with (first | ((with_reducible refine wl_load_bxg HB5.out HT4.out ?_ ?_ ?_); rfl; rfl) | ((with_reducible refine wl_load_bxg HBx5.out HT.out ?_ ?_ ?_); rfl; rfl) | (go_at_call 20; refine HQ.out.mono ?_; clear HQ; rintro _ w6 ⟨rfl, hk6⟩; have HK6 := hide (HK05.out.trans hk6 (by simp)); have HS6 := hide (Sl.kept hk6 HS5.out (by simp)); clear hk6))
    have cD := hide (dec_call w6 ao n c l HS6.out (by omega) HO.out)
    have HDT := hide (fun (q : Rq) (h : decR l = (q, 0)) => dec_told HO.out h)
    generalize decR l = d at cD HDT
    obtain ⟨q, f⟩ := d
    go_upto_region 11 with (first | (go_at_call 11; refine cD.out.mono ?_; clear cD; rintro _ w8 ⟨v8, rfl, hO8, hk8⟩; obtain ⟨vo, vn, vc, rfl⟩ := own_bare hO8; have HK8 := hide hk8; have HO8 := hide hO8; have HB8 : Hid (Bx (w8.alloc (.cells #[.int .i64 0, .string ⟨#[]⟩, .int .i64 0, .int .i64 0, .int .i64 0, .string ⟨#[]⟩, .slice none 0 0, .string ⟨#[]⟩, .int .i64 0, .int .i64 0, .int .i64 0] 29)) w8.heap.size 29 zrq) := (Bx.new w8 _ zrq); have HL8 : Hid ((rqL q (.slice vo vn vc)).length = zrq.length) := rfl; have HN8 := hide (one_rqL q (.slice vo vn vc) (by rfl)); have HT8 : Hid (RowT Try.prog 29 (rqL q (.slice vo vn vc)).length) := rowT_req; clear hO8 hk8) | ((with_reducible refine wl_store_bx HB8.out HL8.out HN8.out HT8.out ?_ ?_ ?_); rfl; rfl; intro w9 HB9 HK9))
    have k89 : Kept [] w8 w9 := ((Kept.refl [] w8).alloc _).trans HK9.out (by simp)
    have HK89 := hide (HK8.out.trans k89 (by simp))
    have HO9 := hide (HO8.out.newer (((Kept.refl [w8.heap.size] w8).alloc _).trans HK9.out (by simp)))
    have HS9 := hide (Sl.kept HK89.out HS6.out (by simp))
    clear k89
    by_cases hf : f = 0
    · subst hf
      obtain ⟨hok, hlb⟩ := HDT.out q rfl
      have hmay := (may_ok q (okReq_u hok)).2 hok
      have cE : Calls Try.prog 10 #[.agg (rqL q (.slice vo vn vc)).toArray] w9 (EncP w9 (putS ([], 0) q)) := enc_call w9 ⟨q, vo, vn, vc⟩ (rqHy_told HO9.out hok)
      rw [enc_may hmay, ← hlb] at cE
      have HE := hide cE
      clear cE hmay hlb hok HDT
      go_wp2_with (first | ((with_reducible refine wl_load_bx HB9.out HT8.out ?_ ?_); rfl) | (go_at_call 10; refine HE.out.mono ?_; clear HE; rintro _ w10 ⟨a10, c10, rfl, hS10, hb10, hk10⟩; have HK10 := hide hk10; have HS10 := hide hS10; have cM := same_call w10 a10 ao l.length c10 n c l l hS10 (Sl.kept hk10 HS9.out (by simp)); rw [decide_eq_true rfl] at cM; have HM := hide cM; clear cM; clear hS10 hb10 hk10) | (go_at_call 12; refine HM.out.mono ?_; clear HM; rintro _ w11 ⟨rfl, hk11⟩; have HK11 := hide hk11; clear hk11))
      go_ret
      exact ⟨rfl, ((HK6.out.trans HK89.out (by simp)).trans HK10.out (by simp)).trans HK11.out (by simp)⟩
    · have hfb : (f != 0) = true := by simp [hf]
      go_wp2_with fail
      go_ret
      exact ⟨rfl, HK6.out.trans HK89.out (by simp)⟩
  · rw [enc_mayn hm] at cE
    have HE := hide cE
    clear cE hm
    go_upto_region 10 with (first | ((with_reducible refine wl_load_bx HBx2.out HT.out ?_ ?_); rfl) | (go_at_call 10; refine HE.out.mono ?_; clear HE; rintro _ w3 ⟨a3, c3, rfl, hS3, hb3, hk3⟩; have HK3 := hide (HK02.out.trans hk3 (by simp)); have HS3 := hide (Sl.kept hk3 HS2.out (by simp)); clear hS3 hb3 hk3))
    have cD := hide (dec_call w3 ao n c l HS3.out (by omega) HO.out)
    have HDT := hide (fun (q : Rq) (h : decR l = (q, 0)) => dec_told HO.out h)
    generalize decR l = d at cD HDT
    obtain ⟨q, f⟩ := d
    go_upto_region 11 with (first | (go_at_call 11; refine cD.out.mono ?_; clear cD; rintro _ w8 ⟨v8, rfl, hO8, hk8⟩; obtain ⟨vo, vn, vc, rfl⟩ := own_bare hO8; have HK8 := hide hk8; have HO8 := hide hO8; have HB8 : Hid (Bx (w8.alloc (.cells #[.int .i64 0, .string ⟨#[]⟩, .int .i64 0, .int .i64 0, .int .i64 0, .string ⟨#[]⟩, .slice none 0 0, .string ⟨#[]⟩, .int .i64 0, .int .i64 0, .int .i64 0] 29)) w8.heap.size 29 zrq) := (Bx.new w8 _ zrq); have HL8 : Hid ((rqL q (.slice vo vn vc)).length = zrq.length) := rfl; have HN8 := hide (one_rqL q (.slice vo vn vc) (by rfl)); have HT8 : Hid (RowT Try.prog 29 (rqL q (.slice vo vn vc)).length) := rowT_req; clear hO8 hk8) | ((with_reducible refine wl_store_bx HB8.out HL8.out HN8.out HT8.out ?_ ?_ ?_); rfl; rfl; intro w9 HB9 HK9))
    have k89 : Kept [] w8 w9 := ((Kept.refl [] w8).alloc _).trans HK9.out (by simp)
    have HK89 := hide (HK8.out.trans k89 (by simp))
    have HO9 := hide (HO8.out.newer (((Kept.refl [w8.heap.size] w8).alloc _).trans HK9.out (by simp)))
    have HS9 := hide (Sl.kept HK89.out HS3.out (by simp))
    clear k89
    by_cases hf : f = 0
    · subst hf
      obtain ⟨hok, hlb⟩ := HDT.out q rfl
      have hmay := (may_ok q (okReq_u hok)).2 hok
      have cE : Calls Try.prog 10 #[.agg (rqL q (.slice vo vn vc)).toArray] w9 (EncP w9 (putS ([], 0) q)) := enc_call w9 ⟨q, vo, vn, vc⟩ (rqHy_told HO9.out hok)
      rw [enc_may hmay, ← hlb] at cE
      have HE := hide cE
      clear cE hmay hlb hok HDT
      go_wp2_with (first | ((with_reducible refine wl_load_bx HB9.out HT8.out ?_ ?_); rfl) | (go_at_call 10; refine HE.out.mono ?_; clear HE; rintro _ w10 ⟨a10, c10, rfl, hS10, hb10, hk10⟩; have HK10 := hide hk10; have HS10 := hide hS10; have cM := same_call w10 a10 ao l.length c10 n c l l hS10 (Sl.kept hk10 HS9.out (by simp)); rw [decide_eq_true rfl] at cM; have HM := hide cM; clear cM; clear hS10 hb10 hk10) | (go_at_call 12; refine HM.out.mono ?_; clear HM; rintro _ w11 ⟨rfl, hk11⟩; have HK11 := hide hk11; clear hk11))
      go_ret
      exact ⟨rfl, ((HK3.out.trans HK89.out (by simp)).trans HK10.out (by simp)).trans HK11.out (by simp)⟩
    · have hfb : (f != 0) = true := by simp [hf]
      go_wp2_with fail
      go_ret
      exact ⟨rfl, HK3.out.trans HK89.out (by simp)⟩

end Go.Proofs.Ytlgacmmofimlmaa
