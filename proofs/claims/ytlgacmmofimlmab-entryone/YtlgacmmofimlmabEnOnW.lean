/-
  EntryOne: the walk. (Written by mk/mkeone.py.)
-/
import Derived.Test.YtlgacmmofimlmabEnOn0
import Derived.Test.YtlgacmmofimlmabBoxGd
import Derived.Test.YtlgacmmofimlmabEnSmV
import Derived.Test.YtlgacmmofimlmabEnSmB
import Derived.Test.YtlgacmmofimlmabF14
import Derived.Test.YtlgacmmofimlmabF2
namespace Go.Proofs.Ytlgacmmofimlmab
open Go.RowKit

/-- Three boxes, one behind the other. -/
theorem three_bx (w : World) (T1 T2 T3 : TypeId) (c1 c2 c3 : List Value) : Kept [] w (((w.alloc (.cells c1.toArray T1)).alloc (.cells c2.toArray T2)).alloc (.cells c3.toArray T3)) ∧
    Bx (((w.alloc (.cells c1.toArray T1)).alloc (.cells c2.toArray T2)).alloc (.cells c3.toArray T3)) w.heap.size T1 c1 ∧ Bx (((w.alloc (.cells c1.toArray T1)).alloc (.cells c2.toArray T2)).alloc (.cells c3.toArray T3)) (w.heap.size + 1) T2 c2 ∧ Bx (((w.alloc (.cells c1.toArray T1)).alloc (.cells c2.toArray T2)).alloc (.cells c3.toArray T3)) (w.heap.size + 2) T3 c3 := by
  have k1 : Kept [] w (w.alloc (.cells c1.toArray T1)) := (Kept.refl _ _).alloc _
  have k2 : Kept [] (w.alloc (.cells c1.toArray T1)) ((w.alloc (.cells c1.toArray T1)).alloc (.cells c2.toArray T2)) := (Kept.refl _ _).alloc _
  have k3 : Kept [] ((w.alloc (.cells c1.toArray T1)).alloc (.cells c2.toArray T2)) (((w.alloc (.cells c1.toArray T1)).alloc (.cells c2.toArray T2)).alloc (.cells c3.toArray T3)) := (Kept.refl _ _).alloc _
  have b1 := ((Bx.new w T1 c1).kept k2 (by simp)).kept k3 (by simp)
  have b2 := (Bx.new (w.alloc (.cells c1.toArray T1)) T2 c2).kept k3 (by simp)
  have b3 := Bx.new ((w.alloc (.cells c1.toArray T1)).alloc (.cells c2.toArray T2)) T3 c3
  rw [show (w.alloc (.cells c1.toArray T1)).heap.size = w.heap.size + 1 by simp] at b2
  rw [show ((w.alloc (.cells c1.toArray T1)).alloc (.cells c2.toArray T2)).heap.size = w.heap.size + 2 by simp] at b3
  exact ⟨(k1.trans k2 (by simp)).trans k3 (by simp), b1, b2, b3⟩

/-- What a contract says, where the answer is known. -/
theorem hide' {f : FuncId} {a : Array Value} {w : World} {b c : Bool} (h : Calls Try.prog f a w fun e w' => e = .returned (.bool b) ∧ Kept [] w w') (e : b = c) : Calls Try.prog f a w fun e w' => e = .returned (.bool c) ∧ Kept [] w w' := e ▸ h

/-- What begins, where the ways meet. -/
def OneC (w4 : World) (b : Bool) (s : Value) (wx : World) : Prop := s = .bool b ∧ Hid (Kept [] w4 wx)

set_option linter.unusedSimpArgs false in
set_option maxHeartbeats 16000000 in
set_option maxRecDepth 100000 in
theorem one_walk (w : World) (xa : Rm) (hxa : RqIn w xa) (hua : inR xa.r) (xb : Rm) (hxb : RqIn w xb) (hub : inR xb.r) (v : Vt) (u : Value) (hv : KoV w u v.k) (hi : inV v) :
    Calls Try.prog 4 #[rqV xa, rqV xb, vtV v u] w fun r w' => r = .returned (.bool true) ∧ Kept [] w w' := by
  obtain ⟨uo, un, uc, rfl⟩ := hv.one
  obtain ⟨W, hW⟩ : ∃ W, W = ((w.alloc (.cells #[.int .i64 xa.r.k, .string (str xa.r.n), .int .i64 xa.r.s, .int .i64 xa.r.q, .int .i64 xa.r.b, .string (str xa.r.f), .slice xa.mo xa.m xa.mc, .string (str xa.r.p), .int .i64 xa.r.fr, .int .i64 xa.r.mn, .int .i64 xa.r.mb] 34)).alloc (.cells #[.int .i64 xb.r.k, .string (str xb.r.n), .int .i64 xb.r.s, .int .i64 xb.r.q, .int .i64 xb.r.b, .string (str xb.r.f), .slice xb.mo xb.m xb.mc, .string (str xb.r.p), .int .i64 xb.r.fr, .int .i64 xb.r.mn, .int .i64 xb.r.mb] 34)).alloc (.cells #[.int .i64 v.c, .int .i64 v.s, .int .i64 v.r, .string (str v.p), .int .u64 v.d, .slice uo un uc, .int .i64 v.m] 26) := ⟨_, rfl⟩
  have h3 := three_bx w 34 34 26 (rqC xa) (rqC xb) (vtL v (.slice uo un uc))
  have e3 : ((w.alloc (.cells (rqC xa).toArray 34)).alloc (.cells (rqC xb).toArray 34)).alloc (.cells (vtL v (.slice uo un uc)).toArray 26) = W := hW.symm
  rw [e3] at h3
  obtain ⟨hk, ha, hb, hvv⟩ := h3
  have HW := hide hW
  have HK := hide hk
  have HBa := hide ha
  have HBb := hide hb
  have HBv := hide hvv
  have HTr : Hid (RowT Try.prog 34 (rqC xa).length) := rowT_req
  have HTb : Hid (RowT Try.prog 34 (rqC xb).length) := rowT_req
  have HTv : Hid (RowT Try.prog 26 (vtL v (.slice uo un uc)).length) := rowT_ver
  have HXa := hide (hxa.kept hk)
  have HXb := hide (hxb.kept hk)
  have HV := hide (hv.kept hk)
  have HI := hide hi
  have HUa := hide hua
  have HUb := hide hub
  have cA := hide (awake_call W)
  clear hW hxa hxb hv hua hub hi e3 hk ha hb hvv
  unfold rqV vtV
  go_enter Try.func4, Try.ntmps4
  go_upto_region 1 with fail
  rw [← HW.out]
  go_upto_region 3 with (go_at_call 5; refine cA.out.mono ?_; rintro _ w1 ⟨rfl, hk1⟩; have HK1 := hide hk1; clear hk1)
  have HBa1 := hide (HBa.out.kept HK1.out (by simp))
  have HBb1 := fun (W2 : World) (k : Kept [] w1 W2) => (HBb.out.kept HK1.out (by simp)).kept k (by simp)
  have HBv1 := fun (W2 : World) (k : Kept [] w1 W2) => (HBv.out.kept HK1.out (by simp)).kept k (by simp)
  have cSa := hide (small_call w1 xa (HXa.out.kept HK1.out).1)
  have cSb := hide (fun (W2 : World) (k : Kept [] w1 W2) => small_call W2 xb ((HXb.out.kept HK1.out).kept k).1)
  have cSv := hide (fun (W2 : World) (k : Kept [] w1 W2) => smallV_call W2 v _ ((HV.out.kept HK1.out).kept k))
  have HB2 := hide HBb1
  have HB3 := hide HBv1
  clear HBb1 HBv1
  unfold rqV at cSa cSb
  unfold vtV at cSv
  go_upto_region 5 with (first | ((with_reducible refine wl_load_bx HBa1.out HTr.out ?_ ?_); rfl) | ((with_reducible refine wl_load_bxg (HB2.out _ HK2.out) HTb.out ?_ ?_ ?_); rfl; rfl) | ((with_reducible refine wl_load_bxg (HB3.out _ HK3.out) HTv.out ?_ ?_ ?_); rfl; rfl) | (go_at_call 9; refine cSa.out.mono ?_; clear cSa; rintro _ w2 ⟨b2, rfl, hb2, hk2⟩; have HK2 := hide hk2; have HQa := hide hb2; clear hk2 hb2; cases b2) | (go_at_call 9; refine (cSb.out _ HK2.out).mono ?_; clear cSb; rintro _ w3 ⟨b3, rfl, hb3, hk3⟩; have HK3 := hide (HK2.out.trans hk3 (by simp)); have HQb := hide hb3; clear hk3 hb3; cases b3) | (go_at_call 6; refine (cSv.out _ HK3.out).mono ?_; clear cSv; rintro _ w3b ⟨b4, rfl, hk4⟩; have HK4 := hide (HK3.out.trans hk4 (by simp)); clear hk4; cases b4))
  · go_ret
    exact ⟨rfl, (HK.out.trans HK1.out (by simp)).trans HK2.out (by simp)⟩
  · go_ret
    exact ⟨rfl, (HK.out.trans HK1.out (by simp)).trans HK3.out (by simp)⟩
  · go_ret
    exact ⟨rfl, (HK.out.trans HK1.out (by simp)).trans HK4.out (by simp)⟩
  obtain ⟨w4, hw4⟩ : ∃ w4, w4 = w3b := ⟨_, rfl⟩
  subst hw4
  have HY : Hid (Kept [] W w4) := HK1.out.trans HK4.out (by simp)
  have HBv4 := hide (HB3.out _ HK4.out)
  have HBa4 := hide (HBa1.out.kept HK4.out (by simp))
  have HBb4 := hide (fun (W2 : World) (k : Kept [] w4 W2) => HB2.out W2 (HK4.out.trans k (by simp)))
  have cEa := enc_call w4 xa (rqHy_of (HXa.out.kept HY.out) (HQa.out (by simp)))
  have cEb := fun (W2 : World) (k : Kept [] w4 W2) => enc_call W2 xb (rqHy_of ((HXb.out.kept HY.out).kept k) (HQb.out (by simp)))
  unfold rqV at cEa cEb
  have HK0 := hide (HK.out.trans HY.out (by simp))
  by_cases hma : mayR xa.r = true
  rotate_left
  · rw [enc_maynO hma] at cEa
    have HEa := hide cEa
    have HEb := hide cEb
    clear cEa cEb hma
    generalize putS ([], 0) xb.r = q at HEb
    go_wp2_with (first | ((with_reducible refine wl_load_bx HBa4.out HTr.out ?_ ?_); rfl) | ((with_reducible refine wl_load_bx (HBb4.out _ HK5.out) HTb.out ?_ ?_); rfl) | (go_at_call 22; refine HEa.out.mono ?_; clear HEa; rintro _ w5 ⟨a5, c5, rfl, hS5, hb5, hk5⟩; have HK5 := hide hk5; have HS5 := hide hS5; clear hS5 hb5 hk5) | (go_at_call 22; refine (HEb.out _ HK5.out).mono ?_; clear HEb; rintro _ w6 ⟨a6, c6, rfl, hS6, hb6, hk6⟩; have HK6 := hide (HK5.out.trans hk6 (by simp)); have HS56 := hide (Sl.kept hk6 HS5.out (by simp)); have HS6 := hide hS6; clear hS6 hb6 hk6))
    go_ret
    exact ⟨rfl, HK0.out.trans HK6.out (by simp)⟩
  by_cases hmb : mayR xb.r = true
  rotate_left
  · rw [enc_mayO hma] at cEa
    simp only [enc_maynO hmb] at cEb
    have HEa := hide cEa
    have HEb := hide cEb
    clear cEa cEb hma hmb
    generalize bR xa.r = la at HEa
    go_wp2_with (first | ((with_reducible refine wl_load_bx HBa4.out HTr.out ?_ ?_); rfl) | ((with_reducible refine wl_load_bx (HBb4.out _ HK5.out) HTb.out ?_ ?_); rfl) | (go_at_call 22; refine HEa.out.mono ?_; clear HEa; rintro _ w5 ⟨a5, c5, rfl, hS5, hb5, hk5⟩; have HK5 := hide hk5; have HS5 := hide hS5; clear hS5 hb5 hk5) | (go_at_call 22; refine (HEb.out _ HK5.out).mono ?_; clear HEb; rintro _ w6 ⟨a6, c6, rfl, hS6, hb6, hk6⟩; have HK6 := hide (HK5.out.trans hk6 (by simp)); have HS56 := hide (Sl.kept hk6 HS5.out (by simp)); have HS6 := hide hS6; clear hS6 hb6 hk6))
    go_ret
    exact ⟨rfl, HK0.out.trans HK6.out (by simp)⟩
  have hoa := (may_ok xa.r (inR_u HUa.out)).1 hma
  have hob := (may_ok xb.r (inR_u HUb.out)).1 hmb
  have hla := (bR_good hoa).2
  have hlb := (bR_good hob).2
  have HBG := hide (begins_iff hoa hob)
  rw [enc_mayO hma] at cEa
  simp only [enc_mayO hmb] at cEb
  have HEa := hide cEa
  have HEb := hide cEb
  clear cEa cEb hma hmb hoa hob
  generalize bR xa.r = la at HEa HBG hla
  generalize bR xb.r = lb at HEb HBG hlb
  obtain ⟨bs, hbs⟩ : ∃ bs, bs = decide (xa.r = xb.r) := ⟨_, rfl⟩
  have HBS := hide hbs.symm
  clear hbs
  go_upto_region 9 with (first | ((with_reducible refine wl_load_bx HBa4.out HTr.out ?_ ?_); rfl) | ((with_reducible refine wl_load_bx (HBb4.out _ HK5.out) HTb.out ?_ ?_); rfl) | (go_at_call 22; refine HEa.out.mono ?_; clear HEa; rintro _ w5 ⟨a5, c5, rfl, hS5, hb5, hk5⟩; have HK5 := hide hk5; have HS5 := hide hS5; clear hS5 hb5 hk5) | (go_at_call 22; refine (HEb.out _ HK5.out).mono ?_; clear HEb; rintro _ w6 ⟨a6, c6, rfl, hS6, hb6, hk6⟩; have HK6 := hide (HK5.out.trans hk6 (by simp)); have HS56 := hide (Sl.kept hk6 HS5.out (by simp)); have HS6 := hide hS6; clear hS6 hb6 hk6))
  have hc6 := HS6.out.2.1
  have hm6 := HS6.out.2.2.1
  unfold maxLen at hm6
  go_cut [11] from 17 (fun s11 wx => OneC w4 bs s11 wx)
  case first =>
    by_cases hle : la.length ≤ lb.length
    · have hle' : (la.length : Int) ≤ (lb.length : Int) := by omega
      have hle'' : decide ((la.length : Int) ≤ (lb.length : Int)) = true := decide_eq_true hle'
      have hlc : (la.length : Int) ≤ (c6 : Int) := by omega
      have hl0 : (0 : Int) ≤ (la.length : Int) := by omega
      have hmin : ∀ (ts : Array TypeId) (t : TypeId) (W : World), (Builtin.min_ ts t #[.int .i64 (la.length : Int), .int .i64 (lb.length : Int)]).run Try.prog W = .ok (.int .i64 (la.length : Int)) W := fun ts t W => min2 ts t W _ _ hle'
      have cM := same_call w6 a5 a6 la.length c5 la.length c6 la (lb.take la.length) HS56.out (HS6.out.take hle)
      rw [show decide (la = lb.take la.length) = bs from by rw [← HBS.out]; exact decide_eq_decide.2 HBG.out] at cM
      have HM := hide cM
      clear cM
      go_wp2_with (go_at_call 23; refine HM.out.mono ?_; clear HM; rintro _ w7 ⟨rfl, hk7⟩; have HK7 := hide (HK6.out.trans hk7 (by simp)); clear hk7)
      go_meet
      exact ⟨rfl, HK7⟩
    · have hle' : ¬ (la.length : Int) ≤ (lb.length : Int) := by omega
      have hbf : bs = false := by
        rw [← HBS.out]
        exact decide_eq_false (fun h => hle (by have h1 := congrArg List.length (HBG.out.2 h); simp at h1; omega))
      subst hbf
      go_wp2_with fail
      go_meet
      exact ⟨rfl, HK6⟩
  case rest =>
    obtain ⟨rfl, HKc⟩ := hcut
    obtain ⟨w7, hw7⟩ : ∃ w7, w7 = wc := ⟨_, rfl⟩
    subst hw7
    have HY7 : Hid (Kept [] W w7) := HY.out.trans HKc.out (by simp)
    have HBv7 := hide (HBv.out.kept HY7.out (by simp))
    have HZ : Hid (Bx (w7.alloc (.cells #[.int .i64 0, .int .i64 0, .int .i64 0, .string ⟨#[]⟩, .int .u64 0, .slice none 0 0, .int .i64 0] 26)) w7.heap.size 26 zvt) := Bx.new w7 _ zvt
    have HL4 : Hid ((vtL v (.slice uo un uc)).length = zvt.length) := rfl
    have HN4 := hide (one_vtL v (.slice uo un uc) (by rfl))
    go_upto_region 11 with (first | ((with_reducible refine wl_load_bx HBv7.out HTv.out ?_ ?_); rfl) | ((with_reducible refine wl_store_bx HZ.out HL4.out HN4.out HTv.out ?_ ?_ ?_); rfl; rfl; intro w8 HB8 HK8))
    have c0 : w8.cell? ⟨w7.heap.size, 0, none⟩ = some (.int .i64 v.c) := HB8.out.cell 0 rfl
    have f0 : w8.frozen? ⟨w7.heap.size, 0, none⟩ = false := HB8.out.froz 0
    go_upto_region 12 with fail
    obtain ⟨w9, hw9⟩ : ∃ w9, w9 = w8.setCell ⟨w7.heap.size, 0, none⟩ (.int .i64 2) := ⟨_, rfl⟩
    rw [← hw9]
    have hB9 : Bx w9 w7.heap.size 26 (vtL ⟨2, v.s, v.r, v.p, v.d, v.k, v.m⟩ (.slice uo un uc)) := by rw [hw9]; exact HB8.out.set 0 _
    have HK9 : Hid (Kept [w7.heap.size] w8 w9) := by rw [hw9]; exact kept_set w8 w7.heap.size 0 _
    clear hw9 c0 f0
    have c2 : w9.cell? ⟨w7.heap.size, 2, none⟩ = some (.int .i64 v.r) := hB9.cell 2 rfl
    have f2 : w9.frozen? ⟨w7.heap.size, 2, none⟩ = false := hB9.froz 2
    have HB9 := hide hB9
    clear hB9
    go_upto_region 13 with fail
    obtain ⟨v', hv'⟩ : ∃ v' : Vt, v' = ⟨2, v.s, 7, v.p, v.d, v.k, v.m⟩ := ⟨_, rfl⟩
    obtain ⟨wA, hwA⟩ : ∃ wA, wA = w9.setCell ⟨w7.heap.size, 2, none⟩ (.int .i64 7) := ⟨_, rfl⟩
    rw [← hwA]
    have HBw : Hid (Bx wA w7.heap.size 26 (vtL v' (.slice uo un uc))) := by rw [hwA, hv']; exact HB9.out.set 2 _
    have kA : Kept [w7.heap.size] w9 wA := by rw [hwA]; exact kept_set w9 w7.heap.size 2 _
    have HYA : Hid (Kept [] W wA) := HY7.out.trans (((((Kept.refl [w7.heap.size] w7).alloc _).trans HK8.out (by simp)).trans HK9.out (by simp)).trans kA (by simp)) (by intro i hi; simp at hi; subst hi; right; exact HY7.out.size)
    have HI' : Hid (inV v') := by rw [hv']; exact ⟨HI.out.1, HI.out.2.1, HI.out.2.2.1, (show I64 7 from by unfold I64; omega), HI.out.2.2.2.2⟩
    have HVK : Hid (v'.k = v.k) := by rw [hv']; rfl
    have HTw : Hid (RowT Try.prog 26 (vtL v' (.slice uo un uc)).length) := rowT_ver
    have HBvA := hide (HBv.out.kept HYA.out (by simp))
    clear hwA c2 f2 kA hv'
    have cV : Calls Try.prog 24 #[.agg (vtL v (.slice uo un uc)).toArray] wA (EncP wA (toldS ([], 0) v)) := encV_call wA v (.slice uo un uc) (vtHy_of (HV.out.kept HYA.out) HI.out)
    have cW : ∀ W2, Kept [] wA W2 → Calls Try.prog 24 #[.agg (vtL v' (.slice uo un uc)).toArray] W2 (EncP W2 (toldS ([], 0) v')) := fun W2 k => encV_call W2 v' (.slice uo un uc) (vtHy_of (by rw [HVK.out]; exact (HV.out.kept HYA.out).kept k) HI'.out)
    have cS : ∀ W2, Kept [] wA W2 → Calls Try.prog 16 #[.agg (rqC xa).toArray, .agg (rqC xb).toArray] W2 fun e w' => e = .returned (.bool bs) ∧ Kept [] W2 w' := fun W2 k => hide' (rqdoc_call W2 xa.r xb.r xa.mo xb.mo xa.m xb.m xa.mc xb.mc ((HXa.out.kept HYA.out).kept k).1 ((HXb.out.kept HYA.out).kept k).1) HBS.out
    have HCS := hide cS
    clear cS
    by_cases hv1 : mayV v = true
    rotate_left
    · rw [encV_mayn hv1] at cV
      have HCV := hide cV
      have HCW := hide cW
      clear cV cW hv1
      generalize toldS ([], 0) v' = q at HCW
      cases bs
      · go_upto_region 15 with (first | ((with_reducible refine wl_load_bx HBvA.out HTv.out ?_ ?_); rfl) | ((with_reducible refine wl_load_bx (HBw.out.kept HKB.out (by simp)) HTw.out ?_ ?_); rfl) | (go_at_call 24; refine HCV.out.mono ?_; clear HCV; rintro _ wB ⟨aB, cB, rfl, hSB, hbB, hkB⟩; have HKB := hide hkB; have HSB := hide hSB; clear hSB hbB hkB) | (go_at_call 24; refine (HCW.out _ HKB.out).mono ?_; clear HCW; rintro _ wC ⟨aC, cC, rfl, hSC, hbC, hkC⟩; have HKC := hide (HKB.out.trans hkC (by simp)); have HSBC := hide (Sl.kept hkC HSB.out (by simp)); have HSC := hide hSC; clear hSC hbC hkC))
        go_upto_region 17 with (first | ((with_reducible refine wl_load_bx ((HBa.out.kept HYA.out (by simp)).kept HKC.out (by simp)) HTr.out ?_ ?_); rfl) | ((with_reducible refine wl_load_bx ((HBb.out.kept HYA.out (by simp)).kept HKC.out (by simp)) HTb.out ?_ ?_); rfl) | (go_at_call 16; refine (HCS.out _ HKC.out).mono ?_; clear HCS; rintro _ wD ⟨rfl, hkD⟩; have HKD := hide (HKC.out.trans hkD (by simp)); have HSBD := hide (Sl.kept hkD HSBC.out (by simp)); have HSCD := hide (Sl.kept hkD HSC.out (by simp)); clear hkD))
        have HYD := hide (HYA.out.trans HKD.out (by simp))
        have HKD2 := hide (HKD.out.trans (Kept.refl [] _).drew (by simp))
        refine wp_region_held_drew (S := fun w9 => Bx w9 (w.heap.size + 2) 26 (vtL v (.slice uo un uc)) ∧ Bx w9 w7.heap.size 26 (vtL v' (.slice uo un uc))) (by kernel_rfl) ⟨HBvA.out.kept HKD2.out (by simp), HBw.out.kept HKD2.out (by simp)⟩ (fun hHeld => ?_)
        refine wpAnyH_take (i := 0) (v := ?_) rfl (by kernel_rfl) (by kernel_rfl) (by kernel_rfl) (fun _ _ _ h => h) (Or.inl ⟨by rfl, ?_⟩) hHeld ?_
        rotate_left
        · intro w9 hSw; go_simp; (try with_reducible rfl)
        try simp only [List.getElem_toArray, List.getElem_cons_succ, List.getElem_cons_zero, Act.put, List.setIfInBounds_toArray, List.set_cons_zero, List.set_cons_succ]
        refine wpAnyH_take (i := 1) (v := ?_) rfl (by kernel_rfl) (by kernel_rfl) (by kernel_rfl) (fun _ _ _ h => h) (Or.inl ⟨by rfl, ?_⟩) hHeld ?_
        rotate_left
        · intro w9 hSw; go_simp; (try with_reducible rfl)
        try simp only [List.getElem_toArray, List.getElem_cons_succ, List.getElem_cons_zero, Act.put, List.setIfInBounds_toArray, List.set_cons_zero, List.set_cons_succ]
        refine wpAnyH_take (i := 2) (v := ?_) rfl (by kernel_rfl) (by kernel_rfl) (by kernel_rfl) (fun _ _ _ h => h) (Or.inl ⟨by rfl, ?_⟩) hHeld ?_
        rotate_left
        · intro w9 hSw; go_simp; (try with_reducible rfl)
        try simp only [List.getElem_toArray, List.getElem_cons_succ, List.getElem_cons_zero, Act.put, List.setIfInBounds_toArray, List.set_cons_zero, List.set_cons_succ]
        refine wpAnyH_take (i := 3) (v := undef) rfl (by kernel_rfl) (by kernel_rfl) (by kernel_rfl) (fun _ _ _ h => h) (Or.inr ⟨by rfl, rfl⟩) hHeld ?_
        try simp only [List.getElem_toArray, List.getElem_cons_succ, List.getElem_cons_zero, Act.put, List.setIfInBounds_toArray, List.set_cons_zero, List.set_cons_succ]
        refine wpAnyH_take (i := 4) (v := undef) rfl (by kernel_rfl) (by kernel_rfl) (by kernel_rfl) (fun _ _ _ h => h) (Or.inr ⟨by rfl, rfl⟩) hHeld ?_
        try simp only [List.getElem_toArray, List.getElem_cons_succ, List.getElem_cons_zero, Act.put, List.setIfInBounds_toArray, List.set_cons_zero, List.set_cons_succ]
        refine wpAnyH_take (i := 5) (v := ?_) rfl (by kernel_rfl) (by kernel_rfl) (by kernel_rfl) (fun _ _ _ h => h) (Or.inl ⟨by rfl, ?_⟩) hHeld ?_
        rotate_left
        · intro w9 hSw; go_simp; (try with_reducible rfl)
        try simp only [List.getElem_toArray, List.getElem_cons_succ, List.getElem_cons_zero, Act.put, List.setIfInBounds_toArray, List.set_cons_zero, List.set_cons_succ]
        refine wpAnyH_take (i := 6) (v := ?_) rfl (by kernel_rfl) (by kernel_rfl) (by kernel_rfl) (fun _ _ _ h => h) (Or.inl ⟨by rfl, ?_⟩) hHeld ?_
        rotate_left
        · intro w9 hSw; go_simp; (try with_reducible rfl)
        try simp only [List.getElem_toArray, List.getElem_cons_succ, List.getElem_cons_zero, Act.put, List.setIfInBounds_toArray, List.set_cons_zero, List.set_cons_succ]
        refine wpAnyH_take (i := 7) (v := undef) rfl (by kernel_rfl) (by kernel_rfl) (by kernel_rfl) (fun _ _ _ h => h) (Or.inr ⟨by rfl, rfl⟩) hHeld ?_
        try simp only [List.getElem_toArray, List.getElem_cons_succ, List.getElem_cons_zero, Act.put, List.setIfInBounds_toArray, List.set_cons_zero, List.set_cons_succ]
        refine wpAnyH_take (i := 8) (v := undef) rfl (by kernel_rfl) (by kernel_rfl) (by kernel_rfl) (fun _ _ _ h => h) (Or.inr ⟨by rfl, rfl⟩) hHeld ?_
        try simp only [List.getElem_toArray, List.getElem_cons_succ, List.getElem_cons_zero, Act.put, List.setIfInBounds_toArray, List.set_cons_zero, List.set_cons_succ]
        refine wpAnyH_take (i := 9) (v := undef) rfl (by kernel_rfl) (by kernel_rfl) (by kernel_rfl) (fun _ _ _ h => h) (Or.inr ⟨by rfl, rfl⟩) hHeld ?_
        try simp only [List.getElem_toArray, List.getElem_cons_succ, List.getElem_cons_zero, Act.put, List.setIfInBounds_toArray, List.set_cons_zero, List.set_cons_succ]
        refine wpAnyH_take (i := 10) (v := undef) rfl (by kernel_rfl) (by kernel_rfl) (by kernel_rfl) (fun _ _ _ h => h) (Or.inr ⟨by rfl, rfl⟩) hHeld ?_
        try simp only [List.getElem_toArray, List.getElem_cons_succ, List.getElem_cons_zero, Act.put, List.setIfInBounds_toArray, List.set_cons_zero, List.set_cons_succ]
        refine wpAnyH_take (i := 11) (v := undef) rfl (by kernel_rfl) (by kernel_rfl) (by kernel_rfl) (fun _ _ _ h => h) (Or.inr ⟨by rfl, rfl⟩) hHeld ?_
        try simp only [List.getElem_toArray, List.getElem_cons_succ, List.getElem_cons_zero, Act.put, List.setIfInBounds_toArray, List.set_cons_zero, List.set_cons_succ]
        refine wpAnyH_take (i := 12) (v := undef) rfl (by kernel_rfl) (by kernel_rfl) (by kernel_rfl) (fun _ _ _ h => h) (Or.inr ⟨by rfl, rfl⟩) hHeld ?_
        try simp only [List.getElem_toArray, List.getElem_cons_succ, List.getElem_cons_zero, Act.put, List.setIfInBounds_toArray, List.set_cons_zero, List.set_cons_succ]
        refine wpAnyH_take (i := 13) (v := undef) rfl (by kernel_rfl) (by kernel_rfl) (by kernel_rfl) (fun _ _ _ h => h) (Or.inr ⟨by rfl, rfl⟩) hHeld ?_
        try simp only [List.getElem_toArray, List.getElem_cons_succ, List.getElem_cons_zero, Act.put, List.setIfInBounds_toArray, List.set_cons_zero, List.set_cons_succ]
        refine wpAnyH_take (i := 14) (v := ?_) rfl (by kernel_rfl) (by kernel_rfl) (by kernel_rfl) (fun _ _ _ h => h) (Or.inl ⟨by rfl, ?_⟩) hHeld ?_
        rotate_left
        · intro w9 hSw; go_simp; (try with_reducible rfl)
        try simp only [List.getElem_toArray, List.getElem_cons_succ, List.getElem_cons_zero, Act.put, List.setIfInBounds_toArray, List.set_cons_zero, List.set_cons_succ]
        refine wpAnyH_take (i := 15) (v := ?_) rfl (by kernel_rfl) (by kernel_rfl) (by kernel_rfl) (fun _ _ _ h => h) (Or.inl ⟨by rfl, ?_⟩) hHeld ?_
        rotate_left
        · intro w9 hSw; go_simp; (try with_reducible rfl)
        try simp only [List.getElem_toArray, List.getElem_cons_succ, List.getElem_cons_zero, Act.put, List.setIfInBounds_toArray, List.set_cons_zero, List.set_cons_succ]
        try simp only [List.getElem_toArray, List.getElem_cons_succ, List.getElem_cons_zero, Act.put, List.setIfInBounds_toArray, List.set_cons_zero, List.set_cons_succ]
        refine wpAnyH_done (by kernel_rfl) ?_ _
        clear hHeld
        go_wp2_with fail
        go_ret
        exact ⟨rfl, HK.out.trans (HYA.out.trans HKD2.out (by simp)) (by simp)⟩
      · go_upto_region 15 with (first | ((with_reducible refine wl_load_bx HBvA.out HTv.out ?_ ?_); rfl) | ((with_reducible refine wl_load_bx (HBw.out.kept HKB.out (by simp)) HTw.out ?_ ?_); rfl) | (go_at_call 24; refine HCV.out.mono ?_; clear HCV; rintro _ wB ⟨aB, cB, rfl, hSB, hbB, hkB⟩; have HKB := hide hkB; have HSB := hide hSB; clear hSB hbB hkB) | (go_at_call 24; refine (HCW.out _ HKB.out).mono ?_; clear HCW; rintro _ wC ⟨aC, cC, rfl, hSC, hbC, hkC⟩; have HKC := hide (HKB.out.trans hkC (by simp)); have HSBC := hide (Sl.kept hkC HSB.out (by simp)); have HSC := hide hSC; clear hSC hbC hkC))
        go_upto_region 17 with (first | ((with_reducible refine wl_load_bx ((HBa.out.kept HYA.out (by simp)).kept HKC.out (by simp)) HTr.out ?_ ?_); rfl) | ((with_reducible refine wl_load_bx ((HBb.out.kept HYA.out (by simp)).kept HKC.out (by simp)) HTb.out ?_ ?_); rfl) | (go_at_call 16; refine (HCS.out _ HKC.out).mono ?_; clear HCS; rintro _ wD ⟨rfl, hkD⟩; have HKD := hide (HKC.out.trans hkD (by simp)); have HSBD := hide (Sl.kept hkD HSBC.out (by simp)); have HSCD := hide (Sl.kept hkD HSC.out (by simp)); clear hkD))
        have HYD := hide (HYA.out.trans HKD.out (by simp))
        have HKD2 := hide (HKD.out.trans (Kept.refl [] _).drew (by simp))
        refine wp_region_held_drew (S := fun w9 => Bx w9 (w.heap.size + 2) 26 (vtL v (.slice uo un uc)) ∧ Bx w9 w7.heap.size 26 (vtL v' (.slice uo un uc))) (by kernel_rfl) ⟨HBvA.out.kept HKD2.out (by simp), HBw.out.kept HKD2.out (by simp)⟩ (fun hHeld => ?_)
        refine wpAnyH_take (i := 0) (v := ?_) rfl (by kernel_rfl) (by kernel_rfl) (by kernel_rfl) (fun _ _ _ h => h) (Or.inl ⟨by rfl, ?_⟩) hHeld ?_
        rotate_left
        · intro w9 hSw; go_simp; (try with_reducible rfl)
        try simp only [List.getElem_toArray, List.getElem_cons_succ, List.getElem_cons_zero, Act.put, List.setIfInBounds_toArray, List.set_cons_zero, List.set_cons_succ]
        refine wpAnyH_take (i := 1) (v := ?_) rfl (by kernel_rfl) (by kernel_rfl) (by kernel_rfl) (fun _ _ _ h => h) (Or.inl ⟨by rfl, ?_⟩) hHeld ?_
        rotate_left
        · intro w9 hSw; go_simp; (try with_reducible rfl)
        try simp only [List.getElem_toArray, List.getElem_cons_succ, List.getElem_cons_zero, Act.put, List.setIfInBounds_toArray, List.set_cons_zero, List.set_cons_succ]
        refine wpAnyH_take (i := 2) (v := ?_) rfl (by kernel_rfl) (by kernel_rfl) (by kernel_rfl) (fun _ _ _ h => h) (Or.inl ⟨by rfl, ?_⟩) hHeld ?_
        rotate_left
        · intro w9 hSw; go_simp; (try with_reducible rfl)
        try simp only [List.getElem_toArray, List.getElem_cons_succ, List.getElem_cons_zero, Act.put, List.setIfInBounds_toArray, List.set_cons_zero, List.set_cons_succ]
        refine wpAnyH_take (i := 3) (v := undef) rfl (by kernel_rfl) (by kernel_rfl) (by kernel_rfl) (fun _ _ _ h => h) (Or.inr ⟨by rfl, rfl⟩) hHeld ?_
        try simp only [List.getElem_toArray, List.getElem_cons_succ, List.getElem_cons_zero, Act.put, List.setIfInBounds_toArray, List.set_cons_zero, List.set_cons_succ]
        refine wpAnyH_take (i := 4) (v := undef) rfl (by kernel_rfl) (by kernel_rfl) (by kernel_rfl) (fun _ _ _ h => h) (Or.inr ⟨by rfl, rfl⟩) hHeld ?_
        try simp only [List.getElem_toArray, List.getElem_cons_succ, List.getElem_cons_zero, Act.put, List.setIfInBounds_toArray, List.set_cons_zero, List.set_cons_succ]
        refine wpAnyH_take (i := 5) (v := ?_) rfl (by kernel_rfl) (by kernel_rfl) (by kernel_rfl) (fun _ _ _ h => h) (Or.inl ⟨by rfl, ?_⟩) hHeld ?_
        rotate_left
        · intro w9 hSw; go_simp; (try with_reducible rfl)
        try simp only [List.getElem_toArray, List.getElem_cons_succ, List.getElem_cons_zero, Act.put, List.setIfInBounds_toArray, List.set_cons_zero, List.set_cons_succ]
        refine wpAnyH_take (i := 6) (v := ?_) rfl (by kernel_rfl) (by kernel_rfl) (by kernel_rfl) (fun _ _ _ h => h) (Or.inl ⟨by rfl, ?_⟩) hHeld ?_
        rotate_left
        · intro w9 hSw; go_simp; (try with_reducible rfl)
        try simp only [List.getElem_toArray, List.getElem_cons_succ, List.getElem_cons_zero, Act.put, List.setIfInBounds_toArray, List.set_cons_zero, List.set_cons_succ]
        refine wpAnyH_take (i := 7) (v := undef) rfl (by kernel_rfl) (by kernel_rfl) (by kernel_rfl) (fun _ _ _ h => h) (Or.inr ⟨by rfl, rfl⟩) hHeld ?_
        try simp only [List.getElem_toArray, List.getElem_cons_succ, List.getElem_cons_zero, Act.put, List.setIfInBounds_toArray, List.set_cons_zero, List.set_cons_succ]
        refine wpAnyH_take (i := 8) (v := undef) rfl (by kernel_rfl) (by kernel_rfl) (by kernel_rfl) (fun _ _ _ h => h) (Or.inr ⟨by rfl, rfl⟩) hHeld ?_
        try simp only [List.getElem_toArray, List.getElem_cons_succ, List.getElem_cons_zero, Act.put, List.setIfInBounds_toArray, List.set_cons_zero, List.set_cons_succ]
        refine wpAnyH_take (i := 9) (v := undef) rfl (by kernel_rfl) (by kernel_rfl) (by kernel_rfl) (fun _ _ _ h => h) (Or.inr ⟨by rfl, rfl⟩) hHeld ?_
        try simp only [List.getElem_toArray, List.getElem_cons_succ, List.getElem_cons_zero, Act.put, List.setIfInBounds_toArray, List.set_cons_zero, List.set_cons_succ]
        refine wpAnyH_take (i := 10) (v := undef) rfl (by kernel_rfl) (by kernel_rfl) (by kernel_rfl) (fun _ _ _ h => h) (Or.inr ⟨by rfl, rfl⟩) hHeld ?_
        try simp only [List.getElem_toArray, List.getElem_cons_succ, List.getElem_cons_zero, Act.put, List.setIfInBounds_toArray, List.set_cons_zero, List.set_cons_succ]
        refine wpAnyH_take (i := 11) (v := undef) rfl (by kernel_rfl) (by kernel_rfl) (by kernel_rfl) (fun _ _ _ h => h) (Or.inr ⟨by rfl, rfl⟩) hHeld ?_
        try simp only [List.getElem_toArray, List.getElem_cons_succ, List.getElem_cons_zero, Act.put, List.setIfInBounds_toArray, List.set_cons_zero, List.set_cons_succ]
        refine wpAnyH_take (i := 12) (v := undef) rfl (by kernel_rfl) (by kernel_rfl) (by kernel_rfl) (fun _ _ _ h => h) (Or.inr ⟨by rfl, rfl⟩) hHeld ?_
        try simp only [List.getElem_toArray, List.getElem_cons_succ, List.getElem_cons_zero, Act.put, List.setIfInBounds_toArray, List.set_cons_zero, List.set_cons_succ]
        refine wpAnyH_take (i := 13) (v := undef) rfl (by kernel_rfl) (by kernel_rfl) (by kernel_rfl) (fun _ _ _ h => h) (Or.inr ⟨by rfl, rfl⟩) hHeld ?_
        try simp only [List.getElem_toArray, List.getElem_cons_succ, List.getElem_cons_zero, Act.put, List.setIfInBounds_toArray, List.set_cons_zero, List.set_cons_succ]
        refine wpAnyH_take (i := 14) (v := ?_) rfl (by kernel_rfl) (by kernel_rfl) (by kernel_rfl) (fun _ _ _ h => h) (Or.inl ⟨by rfl, ?_⟩) hHeld ?_
        rotate_left
        · intro w9 hSw; go_simp; (try with_reducible rfl)
        try simp only [List.getElem_toArray, List.getElem_cons_succ, List.getElem_cons_zero, Act.put, List.setIfInBounds_toArray, List.set_cons_zero, List.set_cons_succ]
        refine wpAnyH_take (i := 15) (v := ?_) rfl (by kernel_rfl) (by kernel_rfl) (by kernel_rfl) (fun _ _ _ h => h) (Or.inl ⟨by rfl, ?_⟩) hHeld ?_
        rotate_left
        · intro w9 hSw; go_simp; (try with_reducible rfl)
        try simp only [List.getElem_toArray, List.getElem_cons_succ, List.getElem_cons_zero, Act.put, List.setIfInBounds_toArray, List.set_cons_zero, List.set_cons_succ]
        try simp only [List.getElem_toArray, List.getElem_cons_succ, List.getElem_cons_zero, Act.put, List.setIfInBounds_toArray, List.set_cons_zero, List.set_cons_succ]
        refine wpAnyH_done (by kernel_rfl) ?_ _
        clear hHeld
        go_wp2_with fail
        go_ret
        exact ⟨rfl, HK.out.trans (HYA.out.trans HKD2.out (by simp)) (by simp)⟩
    by_cases hv2 : mayV v' = true
    rotate_left
    · rw [encV_may hv1] at cV
      simp only [encV_mayn hv2] at cW
      have HCV := hide cV
      have HCW := hide cW
      clear cV cW hv1 hv2
      generalize bV v = lv at HCV
      cases bs
      · go_upto_region 15 with (first | ((with_reducible refine wl_load_bx HBvA.out HTv.out ?_ ?_); rfl) | ((with_reducible refine wl_load_bx (HBw.out.kept HKB.out (by simp)) HTw.out ?_ ?_); rfl) | (go_at_call 24; refine HCV.out.mono ?_; clear HCV; rintro _ wB ⟨aB, cB, rfl, hSB, hbB, hkB⟩; have HKB := hide hkB; have HSB := hide hSB; clear hSB hbB hkB) | (go_at_call 24; refine (HCW.out _ HKB.out).mono ?_; clear HCW; rintro _ wC ⟨aC, cC, rfl, hSC, hbC, hkC⟩; have HKC := hide (HKB.out.trans hkC (by simp)); have HSBC := hide (Sl.kept hkC HSB.out (by simp)); have HSC := hide hSC; clear hSC hbC hkC))
        go_upto_region 17 with (first | ((with_reducible refine wl_load_bx ((HBa.out.kept HYA.out (by simp)).kept HKC.out (by simp)) HTr.out ?_ ?_); rfl) | ((with_reducible refine wl_load_bx ((HBb.out.kept HYA.out (by simp)).kept HKC.out (by simp)) HTb.out ?_ ?_); rfl) | (go_at_call 16; refine (HCS.out _ HKC.out).mono ?_; clear HCS; rintro _ wD ⟨rfl, hkD⟩; have HKD := hide (HKC.out.trans hkD (by simp)); have HSBD := hide (Sl.kept hkD HSBC.out (by simp)); have HSCD := hide (Sl.kept hkD HSC.out (by simp)); clear hkD))
        have HYD := hide (HYA.out.trans HKD.out (by simp))
        have HKD2 := hide (HKD.out.trans (Kept.refl [] _).drew (by simp))
        refine wp_region_held_drew (S := fun w9 => Bx w9 (w.heap.size + 2) 26 (vtL v (.slice uo un uc)) ∧ Bx w9 w7.heap.size 26 (vtL v' (.slice uo un uc))) (by kernel_rfl) ⟨HBvA.out.kept HKD2.out (by simp), HBw.out.kept HKD2.out (by simp)⟩ (fun hHeld => ?_)
        refine wpAnyH_take (i := 0) (v := ?_) rfl (by kernel_rfl) (by kernel_rfl) (by kernel_rfl) (fun _ _ _ h => h) (Or.inl ⟨by rfl, ?_⟩) hHeld ?_
        rotate_left
        · intro w9 hSw; go_simp; (try with_reducible rfl)
        try simp only [List.getElem_toArray, List.getElem_cons_succ, List.getElem_cons_zero, Act.put, List.setIfInBounds_toArray, List.set_cons_zero, List.set_cons_succ]
        refine wpAnyH_take (i := 1) (v := ?_) rfl (by kernel_rfl) (by kernel_rfl) (by kernel_rfl) (fun _ _ _ h => h) (Or.inl ⟨by rfl, ?_⟩) hHeld ?_
        rotate_left
        · intro w9 hSw; go_simp; (try with_reducible rfl)
        try simp only [List.getElem_toArray, List.getElem_cons_succ, List.getElem_cons_zero, Act.put, List.setIfInBounds_toArray, List.set_cons_zero, List.set_cons_succ]
        refine wpAnyH_take (i := 2) (v := ?_) rfl (by kernel_rfl) (by kernel_rfl) (by kernel_rfl) (fun _ _ _ h => h) (Or.inl ⟨by rfl, ?_⟩) hHeld ?_
        rotate_left
        · intro w9 hSw; go_simp; (try with_reducible rfl)
        try simp only [List.getElem_toArray, List.getElem_cons_succ, List.getElem_cons_zero, Act.put, List.setIfInBounds_toArray, List.set_cons_zero, List.set_cons_succ]
        refine wpAnyH_take (i := 3) (v := ?_) rfl (by kernel_rfl) (by kernel_rfl) (by kernel_rfl) (fun _ _ _ h => h) (Or.inl ⟨by rfl, ?_⟩) hHeld ?_
        rotate_left
        · intro w9 hSw; go_simp; (try with_reducible rfl)
        try simp only [List.getElem_toArray, List.getElem_cons_succ, List.getElem_cons_zero, Act.put, List.setIfInBounds_toArray, List.set_cons_zero, List.set_cons_succ]
        refine wpAnyH_take (i := 4) (v := ?_) rfl (by kernel_rfl) (by kernel_rfl) (by kernel_rfl) (fun _ _ _ h => h) (Or.inl ⟨by rfl, ?_⟩) hHeld ?_
        rotate_left
        · intro w9 hSw; go_simp; (try with_reducible rfl)
        try simp only [List.getElem_toArray, List.getElem_cons_succ, List.getElem_cons_zero, Act.put, List.setIfInBounds_toArray, List.set_cons_zero, List.set_cons_succ]
        refine wpAnyH_take (i := 5) (v := ?_) rfl (by kernel_rfl) (by kernel_rfl) (by kernel_rfl) (fun _ _ _ h => h) (Or.inl ⟨by rfl, ?_⟩) hHeld ?_
        rotate_left
        · intro w9 hSw; go_simp; (try with_reducible rfl)
        try simp only [List.getElem_toArray, List.getElem_cons_succ, List.getElem_cons_zero, Act.put, List.setIfInBounds_toArray, List.set_cons_zero, List.set_cons_succ]
        refine wpAnyH_take (i := 6) (v := ?_) rfl (by kernel_rfl) (by kernel_rfl) (by kernel_rfl) (fun _ _ _ h => h) (Or.inl ⟨by rfl, ?_⟩) hHeld ?_
        rotate_left
        · intro w9 hSw; go_simp; (try with_reducible rfl)
        try simp only [List.getElem_toArray, List.getElem_cons_succ, List.getElem_cons_zero, Act.put, List.setIfInBounds_toArray, List.set_cons_zero, List.set_cons_succ]
        refine wpAnyH_take (i := 7) (v := undef) rfl (by kernel_rfl) (by kernel_rfl) (by kernel_rfl) (fun _ _ _ h => h) (Or.inr ⟨by rfl, rfl⟩) hHeld ?_
        try simp only [List.getElem_toArray, List.getElem_cons_succ, List.getElem_cons_zero, Act.put, List.setIfInBounds_toArray, List.set_cons_zero, List.set_cons_succ]
        refine wpAnyH_take (i := 8) (v := undef) rfl (by kernel_rfl) (by kernel_rfl) (by kernel_rfl) (fun _ _ _ h => h) (Or.inr ⟨by rfl, rfl⟩) hHeld ?_
        try simp only [List.getElem_toArray, List.getElem_cons_succ, List.getElem_cons_zero, Act.put, List.setIfInBounds_toArray, List.set_cons_zero, List.set_cons_succ]
        refine wpAnyH_take (i := 9) (v := undef) rfl (by kernel_rfl) (by kernel_rfl) (by kernel_rfl) (fun _ _ _ h => h) (Or.inr ⟨by rfl, rfl⟩) hHeld ?_
        try simp only [List.getElem_toArray, List.getElem_cons_succ, List.getElem_cons_zero, Act.put, List.setIfInBounds_toArray, List.set_cons_zero, List.set_cons_succ]
        refine wpAnyH_take (i := 10) (v := undef) rfl (by kernel_rfl) (by kernel_rfl) (by kernel_rfl) (fun _ _ _ h => h) (Or.inr ⟨by rfl, rfl⟩) hHeld ?_
        try simp only [List.getElem_toArray, List.getElem_cons_succ, List.getElem_cons_zero, Act.put, List.setIfInBounds_toArray, List.set_cons_zero, List.set_cons_succ]
        refine wpAnyH_take (i := 11) (v := undef) rfl (by kernel_rfl) (by kernel_rfl) (by kernel_rfl) (fun _ _ _ h => h) (Or.inr ⟨by rfl, rfl⟩) hHeld ?_
        try simp only [List.getElem_toArray, List.getElem_cons_succ, List.getElem_cons_zero, Act.put, List.setIfInBounds_toArray, List.set_cons_zero, List.set_cons_succ]
        refine wpAnyH_take (i := 12) (v := undef) rfl (by kernel_rfl) (by kernel_rfl) (by kernel_rfl) (fun _ _ _ h => h) (Or.inr ⟨by rfl, rfl⟩) hHeld ?_
        try simp only [List.getElem_toArray, List.getElem_cons_succ, List.getElem_cons_zero, Act.put, List.setIfInBounds_toArray, List.set_cons_zero, List.set_cons_succ]
        refine wpAnyH_take (i := 13) (v := undef) rfl (by kernel_rfl) (by kernel_rfl) (by kernel_rfl) (fun _ _ _ h => h) (Or.inr ⟨by rfl, rfl⟩) hHeld ?_
        try simp only [List.getElem_toArray, List.getElem_cons_succ, List.getElem_cons_zero, Act.put, List.setIfInBounds_toArray, List.set_cons_zero, List.set_cons_succ]
        refine wpAnyH_take (i := 14) (v := ?_) rfl (by kernel_rfl) (by kernel_rfl) (by kernel_rfl) (fun _ _ _ h => h) (Or.inl ⟨by rfl, ?_⟩) hHeld ?_
        rotate_left
        · intro w9 hSw; go_simp; (try with_reducible rfl)
        try simp only [List.getElem_toArray, List.getElem_cons_succ, List.getElem_cons_zero, Act.put, List.setIfInBounds_toArray, List.set_cons_zero, List.set_cons_succ]
        refine wpAnyH_take (i := 15) (v := ?_) rfl (by kernel_rfl) (by kernel_rfl) (by kernel_rfl) (fun _ _ _ h => h) (Or.inl ⟨by rfl, ?_⟩) hHeld ?_
        rotate_left
        · intro w9 hSw; go_simp; (try with_reducible rfl)
        try simp only [List.getElem_toArray, List.getElem_cons_succ, List.getElem_cons_zero, Act.put, List.setIfInBounds_toArray, List.set_cons_zero, List.set_cons_succ]
        try simp only [List.getElem_toArray, List.getElem_cons_succ, List.getElem_cons_zero, Act.put, List.setIfInBounds_toArray, List.set_cons_zero, List.set_cons_succ]
        refine wpAnyH_done (by kernel_rfl) ?_ _
        clear hHeld
        go_wp2_with fail
        go_ret
        exact ⟨rfl, HK.out.trans (HYA.out.trans HKD2.out (by simp)) (by simp)⟩
      · go_upto_region 15 with (first | ((with_reducible refine wl_load_bx HBvA.out HTv.out ?_ ?_); rfl) | ((with_reducible refine wl_load_bx (HBw.out.kept HKB.out (by simp)) HTw.out ?_ ?_); rfl) | (go_at_call 24; refine HCV.out.mono ?_; clear HCV; rintro _ wB ⟨aB, cB, rfl, hSB, hbB, hkB⟩; have HKB := hide hkB; have HSB := hide hSB; clear hSB hbB hkB) | (go_at_call 24; refine (HCW.out _ HKB.out).mono ?_; clear HCW; rintro _ wC ⟨aC, cC, rfl, hSC, hbC, hkC⟩; have HKC := hide (HKB.out.trans hkC (by simp)); have HSBC := hide (Sl.kept hkC HSB.out (by simp)); have HSC := hide hSC; clear hSC hbC hkC))
        go_upto_region 17 with (first | ((with_reducible refine wl_load_bx ((HBa.out.kept HYA.out (by simp)).kept HKC.out (by simp)) HTr.out ?_ ?_); rfl) | ((with_reducible refine wl_load_bx ((HBb.out.kept HYA.out (by simp)).kept HKC.out (by simp)) HTb.out ?_ ?_); rfl) | (go_at_call 16; refine (HCS.out _ HKC.out).mono ?_; clear HCS; rintro _ wD ⟨rfl, hkD⟩; have HKD := hide (HKC.out.trans hkD (by simp)); have HSBD := hide (Sl.kept hkD HSBC.out (by simp)); have HSCD := hide (Sl.kept hkD HSC.out (by simp)); clear hkD))
        have HYD := hide (HYA.out.trans HKD.out (by simp))
        have HKD2 := hide (HKD.out.trans (Kept.refl [] _).drew (by simp))
        refine wp_region_held_drew (S := fun w9 => Bx w9 (w.heap.size + 2) 26 (vtL v (.slice uo un uc)) ∧ Bx w9 w7.heap.size 26 (vtL v' (.slice uo un uc))) (by kernel_rfl) ⟨HBvA.out.kept HKD2.out (by simp), HBw.out.kept HKD2.out (by simp)⟩ (fun hHeld => ?_)
        refine wpAnyH_take (i := 0) (v := ?_) rfl (by kernel_rfl) (by kernel_rfl) (by kernel_rfl) (fun _ _ _ h => h) (Or.inl ⟨by rfl, ?_⟩) hHeld ?_
        rotate_left
        · intro w9 hSw; go_simp; (try with_reducible rfl)
        try simp only [List.getElem_toArray, List.getElem_cons_succ, List.getElem_cons_zero, Act.put, List.setIfInBounds_toArray, List.set_cons_zero, List.set_cons_succ]
        refine wpAnyH_take (i := 1) (v := ?_) rfl (by kernel_rfl) (by kernel_rfl) (by kernel_rfl) (fun _ _ _ h => h) (Or.inl ⟨by rfl, ?_⟩) hHeld ?_
        rotate_left
        · intro w9 hSw; go_simp; (try with_reducible rfl)
        try simp only [List.getElem_toArray, List.getElem_cons_succ, List.getElem_cons_zero, Act.put, List.setIfInBounds_toArray, List.set_cons_zero, List.set_cons_succ]
        refine wpAnyH_take (i := 2) (v := ?_) rfl (by kernel_rfl) (by kernel_rfl) (by kernel_rfl) (fun _ _ _ h => h) (Or.inl ⟨by rfl, ?_⟩) hHeld ?_
        rotate_left
        · intro w9 hSw; go_simp; (try with_reducible rfl)
        try simp only [List.getElem_toArray, List.getElem_cons_succ, List.getElem_cons_zero, Act.put, List.setIfInBounds_toArray, List.set_cons_zero, List.set_cons_succ]
        refine wpAnyH_take (i := 3) (v := ?_) rfl (by kernel_rfl) (by kernel_rfl) (by kernel_rfl) (fun _ _ _ h => h) (Or.inl ⟨by rfl, ?_⟩) hHeld ?_
        rotate_left
        · intro w9 hSw; go_simp; (try with_reducible rfl)
        try simp only [List.getElem_toArray, List.getElem_cons_succ, List.getElem_cons_zero, Act.put, List.setIfInBounds_toArray, List.set_cons_zero, List.set_cons_succ]
        refine wpAnyH_take (i := 4) (v := ?_) rfl (by kernel_rfl) (by kernel_rfl) (by kernel_rfl) (fun _ _ _ h => h) (Or.inl ⟨by rfl, ?_⟩) hHeld ?_
        rotate_left
        · intro w9 hSw; go_simp; (try with_reducible rfl)
        try simp only [List.getElem_toArray, List.getElem_cons_succ, List.getElem_cons_zero, Act.put, List.setIfInBounds_toArray, List.set_cons_zero, List.set_cons_succ]
        refine wpAnyH_take (i := 5) (v := ?_) rfl (by kernel_rfl) (by kernel_rfl) (by kernel_rfl) (fun _ _ _ h => h) (Or.inl ⟨by rfl, ?_⟩) hHeld ?_
        rotate_left
        · intro w9 hSw; go_simp; (try with_reducible rfl)
        try simp only [List.getElem_toArray, List.getElem_cons_succ, List.getElem_cons_zero, Act.put, List.setIfInBounds_toArray, List.set_cons_zero, List.set_cons_succ]
        refine wpAnyH_take (i := 6) (v := ?_) rfl (by kernel_rfl) (by kernel_rfl) (by kernel_rfl) (fun _ _ _ h => h) (Or.inl ⟨by rfl, ?_⟩) hHeld ?_
        rotate_left
        · intro w9 hSw; go_simp; (try with_reducible rfl)
        try simp only [List.getElem_toArray, List.getElem_cons_succ, List.getElem_cons_zero, Act.put, List.setIfInBounds_toArray, List.set_cons_zero, List.set_cons_succ]
        refine wpAnyH_take (i := 7) (v := undef) rfl (by kernel_rfl) (by kernel_rfl) (by kernel_rfl) (fun _ _ _ h => h) (Or.inr ⟨by rfl, rfl⟩) hHeld ?_
        try simp only [List.getElem_toArray, List.getElem_cons_succ, List.getElem_cons_zero, Act.put, List.setIfInBounds_toArray, List.set_cons_zero, List.set_cons_succ]
        refine wpAnyH_take (i := 8) (v := undef) rfl (by kernel_rfl) (by kernel_rfl) (by kernel_rfl) (fun _ _ _ h => h) (Or.inr ⟨by rfl, rfl⟩) hHeld ?_
        try simp only [List.getElem_toArray, List.getElem_cons_succ, List.getElem_cons_zero, Act.put, List.setIfInBounds_toArray, List.set_cons_zero, List.set_cons_succ]
        refine wpAnyH_take (i := 9) (v := undef) rfl (by kernel_rfl) (by kernel_rfl) (by kernel_rfl) (fun _ _ _ h => h) (Or.inr ⟨by rfl, rfl⟩) hHeld ?_
        try simp only [List.getElem_toArray, List.getElem_cons_succ, List.getElem_cons_zero, Act.put, List.setIfInBounds_toArray, List.set_cons_zero, List.set_cons_succ]
        refine wpAnyH_take (i := 10) (v := undef) rfl (by kernel_rfl) (by kernel_rfl) (by kernel_rfl) (fun _ _ _ h => h) (Or.inr ⟨by rfl, rfl⟩) hHeld ?_
        try simp only [List.getElem_toArray, List.getElem_cons_succ, List.getElem_cons_zero, Act.put, List.setIfInBounds_toArray, List.set_cons_zero, List.set_cons_succ]
        refine wpAnyH_take (i := 11) (v := undef) rfl (by kernel_rfl) (by kernel_rfl) (by kernel_rfl) (fun _ _ _ h => h) (Or.inr ⟨by rfl, rfl⟩) hHeld ?_
        try simp only [List.getElem_toArray, List.getElem_cons_succ, List.getElem_cons_zero, Act.put, List.setIfInBounds_toArray, List.set_cons_zero, List.set_cons_succ]
        refine wpAnyH_take (i := 12) (v := undef) rfl (by kernel_rfl) (by kernel_rfl) (by kernel_rfl) (fun _ _ _ h => h) (Or.inr ⟨by rfl, rfl⟩) hHeld ?_
        try simp only [List.getElem_toArray, List.getElem_cons_succ, List.getElem_cons_zero, Act.put, List.setIfInBounds_toArray, List.set_cons_zero, List.set_cons_succ]
        refine wpAnyH_take (i := 13) (v := undef) rfl (by kernel_rfl) (by kernel_rfl) (by kernel_rfl) (fun _ _ _ h => h) (Or.inr ⟨by rfl, rfl⟩) hHeld ?_
        try simp only [List.getElem_toArray, List.getElem_cons_succ, List.getElem_cons_zero, Act.put, List.setIfInBounds_toArray, List.set_cons_zero, List.set_cons_succ]
        refine wpAnyH_take (i := 14) (v := ?_) rfl (by kernel_rfl) (by kernel_rfl) (by kernel_rfl) (fun _ _ _ h => h) (Or.inl ⟨by rfl, ?_⟩) hHeld ?_
        rotate_left
        · intro w9 hSw; go_simp; (try with_reducible rfl)
        try simp only [List.getElem_toArray, List.getElem_cons_succ, List.getElem_cons_zero, Act.put, List.setIfInBounds_toArray, List.set_cons_zero, List.set_cons_succ]
        refine wpAnyH_take (i := 15) (v := ?_) rfl (by kernel_rfl) (by kernel_rfl) (by kernel_rfl) (fun _ _ _ h => h) (Or.inl ⟨by rfl, ?_⟩) hHeld ?_
        rotate_left
        · intro w9 hSw; go_simp; (try with_reducible rfl)
        try simp only [List.getElem_toArray, List.getElem_cons_succ, List.getElem_cons_zero, Act.put, List.setIfInBounds_toArray, List.set_cons_zero, List.set_cons_succ]
        try simp only [List.getElem_toArray, List.getElem_cons_succ, List.getElem_cons_zero, Act.put, List.setIfInBounds_toArray, List.set_cons_zero, List.set_cons_succ]
        refine wpAnyH_done (by kernel_rfl) ?_ _
        clear hHeld
        go_wp2_with fail
        go_ret
        exact ⟨rfl, HK.out.trans (HYA.out.trans HKD2.out (by simp)) (by simp)⟩
    have ho1 := (may_okV v (inV_u HI.out)).1 hv1
    have ho2 := (may_okV v' (inV_u HI'.out)).1 hv2
    rw [encV_may hv1] at cV
    simp only [encV_may hv2] at cW
    have HCV := hide cV
    have HCW := hide cW
    have HVB := hide (bytes_iff ho1 ho2)
    clear cV cW hv1 hv2 ho1 ho2
    generalize bV v = lv at HCV HVB
    generalize bV v' = lw at HCW HVB
    obtain ⟨bv, hbv⟩ : ∃ bv, bv = decide (v = v') := ⟨_, rfl⟩
    have HB0 := hide hbv.symm
    have HB1 : Hid (decide (lv = lw) = bv) := by show _ = _; rw [hbv]; exact decide_eq_decide.2 HVB.out
    clear hbv
    cases bs
    · go_upto_region 15 with (first | ((with_reducible refine wl_load_bx HBvA.out HTv.out ?_ ?_); rfl) | ((with_reducible refine wl_load_bx (HBw.out.kept HKB.out (by simp)) HTw.out ?_ ?_); rfl) | (go_at_call 24; refine HCV.out.mono ?_; clear HCV; rintro _ wB ⟨aB, cB, rfl, hSB, hbB, hkB⟩; have HKB := hide hkB; have HSB := hide hSB; clear hSB hbB hkB) | (go_at_call 24; refine (HCW.out _ HKB.out).mono ?_; clear HCW; rintro _ wC ⟨aC, cC, rfl, hSC, hbC, hkC⟩; have HKC := hide (HKB.out.trans hkC (by simp)); have HSBC := hide (Sl.kept hkC HSB.out (by simp)); have HSC := hide hSC; clear hSC hbC hkC))
      go_upto_region 17 with (first | ((with_reducible refine wl_load_bx ((HBa.out.kept HYA.out (by simp)).kept HKC.out (by simp)) HTr.out ?_ ?_); rfl) | ((with_reducible refine wl_load_bx ((HBb.out.kept HYA.out (by simp)).kept HKC.out (by simp)) HTb.out ?_ ?_); rfl) | (go_at_call 16; refine (HCS.out _ HKC.out).mono ?_; clear HCS; rintro _ wD ⟨rfl, hkD⟩; have HKD := hide (HKC.out.trans hkD (by simp)); have HSBD := hide (Sl.kept hkD HSBC.out (by simp)); have HSCD := hide (Sl.kept hkD HSC.out (by simp)); clear hkD))
      have HYD := hide (HYA.out.trans HKD.out (by simp))
      have HKD2 := hide (HKD.out.trans (Kept.refl [] _).drew (by simp))
      refine wp_region_held_drew (S := fun w9 => Bx w9 (w.heap.size + 2) 26 (vtL v (.slice uo un uc)) ∧ Bx w9 w7.heap.size 26 (vtL v' (.slice uo un uc))) (by kernel_rfl) ⟨HBvA.out.kept HKD2.out (by simp), HBw.out.kept HKD2.out (by simp)⟩ (fun hHeld => ?_)
      refine wpAnyH_take (i := 0) (v := ?_) rfl (by kernel_rfl) (by kernel_rfl) (by kernel_rfl) (fun _ _ _ h => h) (Or.inl ⟨by rfl, ?_⟩) hHeld ?_
      rotate_left
      · intro w9 hSw; go_simp; (try with_reducible rfl)
      try simp only [List.getElem_toArray, List.getElem_cons_succ, List.getElem_cons_zero, Act.put, List.setIfInBounds_toArray, List.set_cons_zero, List.set_cons_succ]
      refine wpAnyH_take (i := 1) (v := ?_) rfl (by kernel_rfl) (by kernel_rfl) (by kernel_rfl) (fun _ _ _ h => h) (Or.inl ⟨by rfl, ?_⟩) hHeld ?_
      rotate_left
      · intro w9 hSw; go_simp; (try with_reducible rfl)
      try simp only [List.getElem_toArray, List.getElem_cons_succ, List.getElem_cons_zero, Act.put, List.setIfInBounds_toArray, List.set_cons_zero, List.set_cons_succ]
      refine wpAnyH_take (i := 2) (v := ?_) rfl (by kernel_rfl) (by kernel_rfl) (by kernel_rfl) (fun _ _ _ h => h) (Or.inl ⟨by rfl, ?_⟩) hHeld ?_
      rotate_left
      · intro w9 hSw; go_simp; (try with_reducible rfl)
      try simp only [List.getElem_toArray, List.getElem_cons_succ, List.getElem_cons_zero, Act.put, List.setIfInBounds_toArray, List.set_cons_zero, List.set_cons_succ]
      refine wpAnyH_take (i := 3) (v := ?_) rfl (by kernel_rfl) (by kernel_rfl) (by kernel_rfl) (fun _ _ _ h => h) (Or.inl ⟨by rfl, ?_⟩) hHeld ?_
      rotate_left
      · intro w9 hSw; go_simp; (try with_reducible rfl)
      try simp only [List.getElem_toArray, List.getElem_cons_succ, List.getElem_cons_zero, Act.put, List.setIfInBounds_toArray, List.set_cons_zero, List.set_cons_succ]
      refine wpAnyH_take (i := 4) (v := ?_) rfl (by kernel_rfl) (by kernel_rfl) (by kernel_rfl) (fun _ _ _ h => h) (Or.inl ⟨by rfl, ?_⟩) hHeld ?_
      rotate_left
      · intro w9 hSw; go_simp; (try with_reducible rfl)
      try simp only [List.getElem_toArray, List.getElem_cons_succ, List.getElem_cons_zero, Act.put, List.setIfInBounds_toArray, List.set_cons_zero, List.set_cons_succ]
      refine wpAnyH_take (i := 5) (v := ?_) rfl (by kernel_rfl) (by kernel_rfl) (by kernel_rfl) (fun _ _ _ h => h) (Or.inl ⟨by rfl, ?_⟩) hHeld ?_
      rotate_left
      · intro w9 hSw; go_simp; (try with_reducible rfl)
      try simp only [List.getElem_toArray, List.getElem_cons_succ, List.getElem_cons_zero, Act.put, List.setIfInBounds_toArray, List.set_cons_zero, List.set_cons_succ]
      refine wpAnyH_take (i := 6) (v := ?_) rfl (by kernel_rfl) (by kernel_rfl) (by kernel_rfl) (fun _ _ _ h => h) (Or.inl ⟨by rfl, ?_⟩) hHeld ?_
      rotate_left
      · intro w9 hSw; go_simp; (try with_reducible rfl)
      try simp only [List.getElem_toArray, List.getElem_cons_succ, List.getElem_cons_zero, Act.put, List.setIfInBounds_toArray, List.set_cons_zero, List.set_cons_succ]
      refine wpAnyH_take (i := 7) (v := ?_) rfl (by kernel_rfl) (by kernel_rfl) (by kernel_rfl) (fun _ _ _ h => h) (Or.inl ⟨by rfl, ?_⟩) hHeld ?_
      rotate_left
      · intro w9 hSw; go_simp; (try with_reducible rfl)
      try simp only [List.getElem_toArray, List.getElem_cons_succ, List.getElem_cons_zero, Act.put, List.setIfInBounds_toArray, List.set_cons_zero, List.set_cons_succ]
      refine wpAnyH_take (i := 8) (v := ?_) rfl (by kernel_rfl) (by kernel_rfl) (by kernel_rfl) (fun _ _ _ h => h) (Or.inl ⟨by rfl, ?_⟩) hHeld ?_
      rotate_left
      · intro w9 hSw; go_simp; (try with_reducible rfl)
      try simp only [List.getElem_toArray, List.getElem_cons_succ, List.getElem_cons_zero, Act.put, List.setIfInBounds_toArray, List.set_cons_zero, List.set_cons_succ]
      refine wpAnyH_take (i := 10) (v := .agg (vtL v (.slice uo un uc)).toArray) rfl (by kernel_rfl) (by kernel_rfl) (by kernel_rfl) (fun _ _ _ h => h) (yieldsIf_load_mid (by rfl) _ _ rfl (w.heap.size + 2) 0 rfl (vtL v (.slice uo un uc)) _ (fun w9 hSw => hSw.1.range) Try.underlying26 rfl size_vtP) hHeld ?_
      try simp only [List.getElem_toArray, List.getElem_cons_succ, List.getElem_cons_zero, Act.put, List.setIfInBounds_toArray, List.set_cons_zero, List.set_cons_succ]
      refine wpAnyH_take (i := 11) (v := .agg (vtL v' (.slice uo un uc)).toArray) rfl (by kernel_rfl) (by kernel_rfl) (by kernel_rfl) (fun _ _ _ h => h) (yieldsIf_load_mid (by rfl) _ _ rfl w7.heap.size 0 rfl (vtL v' (.slice uo un uc)) _ (fun w9 hSw => hSw.2.range) Try.underlying26 rfl size_vtP) hHeld ?_
      try simp only [List.getElem_toArray, List.getElem_cons_succ, List.getElem_cons_zero, Act.put, List.setIfInBounds_toArray, List.set_cons_zero, List.set_cons_succ]
      refine wpAnyH_ready (rs := [9]) (by kernel_rfl) (by simp) (AllReadyH.cons rfl (fun K0 hK0 => ?_) AllReadyH.nil)
      go_simp
      refine (hide' (same_call _ aB aC lv.length cB lw.length cC lv lw (Sl.kept (Kept.refl [] _).drew HSBD.out (by simp)) (Sl.kept (Kept.refl [] _).drew HSCD.out (by simp))) HB1.out).mono ?_
      rintro _ wE ⟨rfl, hkE⟩
      have HKE := hide (HKD2.out.trans hkE (by simp))
      clear hkE
      go_wp2_with fail
      refine hK0.out _ _ ⟨HBvA.out.kept HKE.out (by simp), HBw.out.kept HKE.out (by simp)⟩ (fun hHeld => ?_)
      clear hK0 K0
      try simp only [List.getElem_toArray, List.getElem_cons_succ, List.getElem_cons_zero, Act.put, List.setIfInBounds_toArray, List.set_cons_zero, List.set_cons_succ]
      refine wpAnyH_ready (rs := [12]) (by kernel_rfl) (by simp) (AllReadyH.cons rfl (fun K0 hK0 => ?_) AllReadyH.nil)
      go_simp
      refine (hide' (vtdoc_call _ v v' _ _ ((HV.out.kept HYA.out).kept HKE.out) (by rw [HVK.out]; exact (HV.out.kept HYA.out).kept HKE.out)) HB0.out).mono ?_
      rintro _ wF ⟨rfl, hkF⟩
      have HKF := hide (HKE.out.trans hkF (by simp))
      clear hkF
      go_wp2_with fail
      refine hK0.out _ _ ⟨HBvA.out.kept HKF.out (by simp), HBw.out.kept HKF.out (by simp)⟩ (fun hHeld => ?_)
      clear hK0 K0
      try simp only [List.getElem_toArray, List.getElem_cons_succ, List.getElem_cons_zero, Act.put, List.setIfInBounds_toArray, List.set_cons_zero, List.set_cons_succ]
      cases bv
      · refine wpAnyH_take (i := 13) (v := ?_) rfl (by kernel_rfl) (by kernel_rfl) (by kernel_rfl) (fun _ _ _ h => h) (Or.inl ⟨by rfl, ?_⟩) hHeld ?_
        rotate_left
        · intro w9 hSw; go_simp; (try with_reducible rfl)
        try simp only [List.getElem_toArray, List.getElem_cons_succ, List.getElem_cons_zero, Act.put, List.setIfInBounds_toArray, List.set_cons_zero, List.set_cons_succ]
        refine wpAnyH_take (i := 14) (v := ?_) rfl (by kernel_rfl) (by kernel_rfl) (by kernel_rfl) (fun _ _ _ h => h) (Or.inl ⟨by rfl, ?_⟩) hHeld ?_
        rotate_left
        · intro w9 hSw; go_simp; (try with_reducible rfl)
        try simp only [List.getElem_toArray, List.getElem_cons_succ, List.getElem_cons_zero, Act.put, List.setIfInBounds_toArray, List.set_cons_zero, List.set_cons_succ]
        refine wpAnyH_take (i := 15) (v := ?_) rfl (by kernel_rfl) (by kernel_rfl) (by kernel_rfl) (fun _ _ _ h => h) (Or.inl ⟨by rfl, ?_⟩) hHeld ?_
        rotate_left
        · intro w9 hSw; go_simp; (try with_reducible rfl)
        try simp only [List.getElem_toArray, List.getElem_cons_succ, List.getElem_cons_zero, Act.put, List.setIfInBounds_toArray, List.set_cons_zero, List.set_cons_succ]
        try simp only [List.getElem_toArray, List.getElem_cons_succ, List.getElem_cons_zero, Act.put, List.setIfInBounds_toArray, List.set_cons_zero, List.set_cons_succ]
        refine wpAnyH_done (by kernel_rfl) ?_ _
        clear hHeld
        go_wp2_with fail
        go_ret
        exact ⟨rfl, HK.out.trans (HYA.out.trans HKF.out (by simp)) (by simp)⟩
      · refine wpAnyH_take (i := 13) (v := ?_) rfl (by kernel_rfl) (by kernel_rfl) (by kernel_rfl) (fun _ _ _ h => h) (Or.inl ⟨by rfl, ?_⟩) hHeld ?_
        rotate_left
        · intro w9 hSw; go_simp; (try with_reducible rfl)
        try simp only [List.getElem_toArray, List.getElem_cons_succ, List.getElem_cons_zero, Act.put, List.setIfInBounds_toArray, List.set_cons_zero, List.set_cons_succ]
        refine wpAnyH_take (i := 14) (v := ?_) rfl (by kernel_rfl) (by kernel_rfl) (by kernel_rfl) (fun _ _ _ h => h) (Or.inl ⟨by rfl, ?_⟩) hHeld ?_
        rotate_left
        · intro w9 hSw; go_simp; (try with_reducible rfl)
        try simp only [List.getElem_toArray, List.getElem_cons_succ, List.getElem_cons_zero, Act.put, List.setIfInBounds_toArray, List.set_cons_zero, List.set_cons_succ]
        refine wpAnyH_take (i := 15) (v := ?_) rfl (by kernel_rfl) (by kernel_rfl) (by kernel_rfl) (fun _ _ _ h => h) (Or.inl ⟨by rfl, ?_⟩) hHeld ?_
        rotate_left
        · intro w9 hSw; go_simp; (try with_reducible rfl)
        try simp only [List.getElem_toArray, List.getElem_cons_succ, List.getElem_cons_zero, Act.put, List.setIfInBounds_toArray, List.set_cons_zero, List.set_cons_succ]
        try simp only [List.getElem_toArray, List.getElem_cons_succ, List.getElem_cons_zero, Act.put, List.setIfInBounds_toArray, List.set_cons_zero, List.set_cons_succ]
        refine wpAnyH_done (by kernel_rfl) ?_ _
        clear hHeld
        go_wp2_with fail
        go_ret
        exact ⟨rfl, HK.out.trans (HYA.out.trans HKF.out (by simp)) (by simp)⟩
    · go_upto_region 15 with (first | ((with_reducible refine wl_load_bx HBvA.out HTv.out ?_ ?_); rfl) | ((with_reducible refine wl_load_bx (HBw.out.kept HKB.out (by simp)) HTw.out ?_ ?_); rfl) | (go_at_call 24; refine HCV.out.mono ?_; clear HCV; rintro _ wB ⟨aB, cB, rfl, hSB, hbB, hkB⟩; have HKB := hide hkB; have HSB := hide hSB; clear hSB hbB hkB) | (go_at_call 24; refine (HCW.out _ HKB.out).mono ?_; clear HCW; rintro _ wC ⟨aC, cC, rfl, hSC, hbC, hkC⟩; have HKC := hide (HKB.out.trans hkC (by simp)); have HSBC := hide (Sl.kept hkC HSB.out (by simp)); have HSC := hide hSC; clear hSC hbC hkC))
      go_upto_region 17 with (first | ((with_reducible refine wl_load_bx ((HBa.out.kept HYA.out (by simp)).kept HKC.out (by simp)) HTr.out ?_ ?_); rfl) | ((with_reducible refine wl_load_bx ((HBb.out.kept HYA.out (by simp)).kept HKC.out (by simp)) HTb.out ?_ ?_); rfl) | (go_at_call 16; refine (HCS.out _ HKC.out).mono ?_; clear HCS; rintro _ wD ⟨rfl, hkD⟩; have HKD := hide (HKC.out.trans hkD (by simp)); have HSBD := hide (Sl.kept hkD HSBC.out (by simp)); have HSCD := hide (Sl.kept hkD HSC.out (by simp)); clear hkD))
      have HYD := hide (HYA.out.trans HKD.out (by simp))
      have HKD2 := hide (HKD.out.trans (Kept.refl [] _).drew (by simp))
      refine wp_region_held_drew (S := fun w9 => Bx w9 (w.heap.size + 2) 26 (vtL v (.slice uo un uc)) ∧ Bx w9 w7.heap.size 26 (vtL v' (.slice uo un uc))) (by kernel_rfl) ⟨HBvA.out.kept HKD2.out (by simp), HBw.out.kept HKD2.out (by simp)⟩ (fun hHeld => ?_)
      refine wpAnyH_take (i := 0) (v := ?_) rfl (by kernel_rfl) (by kernel_rfl) (by kernel_rfl) (fun _ _ _ h => h) (Or.inl ⟨by rfl, ?_⟩) hHeld ?_
      rotate_left
      · intro w9 hSw; go_simp; (try with_reducible rfl)
      try simp only [List.getElem_toArray, List.getElem_cons_succ, List.getElem_cons_zero, Act.put, List.setIfInBounds_toArray, List.set_cons_zero, List.set_cons_succ]
      refine wpAnyH_take (i := 1) (v := ?_) rfl (by kernel_rfl) (by kernel_rfl) (by kernel_rfl) (fun _ _ _ h => h) (Or.inl ⟨by rfl, ?_⟩) hHeld ?_
      rotate_left
      · intro w9 hSw; go_simp; (try with_reducible rfl)
      try simp only [List.getElem_toArray, List.getElem_cons_succ, List.getElem_cons_zero, Act.put, List.setIfInBounds_toArray, List.set_cons_zero, List.set_cons_succ]
      refine wpAnyH_take (i := 2) (v := ?_) rfl (by kernel_rfl) (by kernel_rfl) (by kernel_rfl) (fun _ _ _ h => h) (Or.inl ⟨by rfl, ?_⟩) hHeld ?_
      rotate_left
      · intro w9 hSw; go_simp; (try with_reducible rfl)
      try simp only [List.getElem_toArray, List.getElem_cons_succ, List.getElem_cons_zero, Act.put, List.setIfInBounds_toArray, List.set_cons_zero, List.set_cons_succ]
      refine wpAnyH_take (i := 3) (v := ?_) rfl (by kernel_rfl) (by kernel_rfl) (by kernel_rfl) (fun _ _ _ h => h) (Or.inl ⟨by rfl, ?_⟩) hHeld ?_
      rotate_left
      · intro w9 hSw; go_simp; (try with_reducible rfl)
      try simp only [List.getElem_toArray, List.getElem_cons_succ, List.getElem_cons_zero, Act.put, List.setIfInBounds_toArray, List.set_cons_zero, List.set_cons_succ]
      refine wpAnyH_take (i := 4) (v := ?_) rfl (by kernel_rfl) (by kernel_rfl) (by kernel_rfl) (fun _ _ _ h => h) (Or.inl ⟨by rfl, ?_⟩) hHeld ?_
      rotate_left
      · intro w9 hSw; go_simp; (try with_reducible rfl)
      try simp only [List.getElem_toArray, List.getElem_cons_succ, List.getElem_cons_zero, Act.put, List.setIfInBounds_toArray, List.set_cons_zero, List.set_cons_succ]
      refine wpAnyH_take (i := 5) (v := ?_) rfl (by kernel_rfl) (by kernel_rfl) (by kernel_rfl) (fun _ _ _ h => h) (Or.inl ⟨by rfl, ?_⟩) hHeld ?_
      rotate_left
      · intro w9 hSw; go_simp; (try with_reducible rfl)
      try simp only [List.getElem_toArray, List.getElem_cons_succ, List.getElem_cons_zero, Act.put, List.setIfInBounds_toArray, List.set_cons_zero, List.set_cons_succ]
      refine wpAnyH_take (i := 6) (v := ?_) rfl (by kernel_rfl) (by kernel_rfl) (by kernel_rfl) (fun _ _ _ h => h) (Or.inl ⟨by rfl, ?_⟩) hHeld ?_
      rotate_left
      · intro w9 hSw; go_simp; (try with_reducible rfl)
      try simp only [List.getElem_toArray, List.getElem_cons_succ, List.getElem_cons_zero, Act.put, List.setIfInBounds_toArray, List.set_cons_zero, List.set_cons_succ]
      refine wpAnyH_take (i := 7) (v := ?_) rfl (by kernel_rfl) (by kernel_rfl) (by kernel_rfl) (fun _ _ _ h => h) (Or.inl ⟨by rfl, ?_⟩) hHeld ?_
      rotate_left
      · intro w9 hSw; go_simp; (try with_reducible rfl)
      try simp only [List.getElem_toArray, List.getElem_cons_succ, List.getElem_cons_zero, Act.put, List.setIfInBounds_toArray, List.set_cons_zero, List.set_cons_succ]
      refine wpAnyH_take (i := 8) (v := ?_) rfl (by kernel_rfl) (by kernel_rfl) (by kernel_rfl) (fun _ _ _ h => h) (Or.inl ⟨by rfl, ?_⟩) hHeld ?_
      rotate_left
      · intro w9 hSw; go_simp; (try with_reducible rfl)
      try simp only [List.getElem_toArray, List.getElem_cons_succ, List.getElem_cons_zero, Act.put, List.setIfInBounds_toArray, List.set_cons_zero, List.set_cons_succ]
      refine wpAnyH_take (i := 10) (v := .agg (vtL v (.slice uo un uc)).toArray) rfl (by kernel_rfl) (by kernel_rfl) (by kernel_rfl) (fun _ _ _ h => h) (yieldsIf_load_mid (by rfl) _ _ rfl (w.heap.size + 2) 0 rfl (vtL v (.slice uo un uc)) _ (fun w9 hSw => hSw.1.range) Try.underlying26 rfl size_vtP) hHeld ?_
      try simp only [List.getElem_toArray, List.getElem_cons_succ, List.getElem_cons_zero, Act.put, List.setIfInBounds_toArray, List.set_cons_zero, List.set_cons_succ]
      refine wpAnyH_take (i := 11) (v := .agg (vtL v' (.slice uo un uc)).toArray) rfl (by kernel_rfl) (by kernel_rfl) (by kernel_rfl) (fun _ _ _ h => h) (yieldsIf_load_mid (by rfl) _ _ rfl w7.heap.size 0 rfl (vtL v' (.slice uo un uc)) _ (fun w9 hSw => hSw.2.range) Try.underlying26 rfl size_vtP) hHeld ?_
      try simp only [List.getElem_toArray, List.getElem_cons_succ, List.getElem_cons_zero, Act.put, List.setIfInBounds_toArray, List.set_cons_zero, List.set_cons_succ]
      refine wpAnyH_ready (rs := [9]) (by kernel_rfl) (by simp) (AllReadyH.cons rfl (fun K0 hK0 => ?_) AllReadyH.nil)
      go_simp
      refine (hide' (same_call _ aB aC lv.length cB lw.length cC lv lw (Sl.kept (Kept.refl [] _).drew HSBD.out (by simp)) (Sl.kept (Kept.refl [] _).drew HSCD.out (by simp))) HB1.out).mono ?_
      rintro _ wE ⟨rfl, hkE⟩
      have HKE := hide (HKD2.out.trans hkE (by simp))
      clear hkE
      go_wp2_with fail
      refine hK0.out _ _ ⟨HBvA.out.kept HKE.out (by simp), HBw.out.kept HKE.out (by simp)⟩ (fun hHeld => ?_)
      clear hK0 K0
      try simp only [List.getElem_toArray, List.getElem_cons_succ, List.getElem_cons_zero, Act.put, List.setIfInBounds_toArray, List.set_cons_zero, List.set_cons_succ]
      refine wpAnyH_ready (rs := [12]) (by kernel_rfl) (by simp) (AllReadyH.cons rfl (fun K0 hK0 => ?_) AllReadyH.nil)
      go_simp
      refine (hide' (vtdoc_call _ v v' _ _ ((HV.out.kept HYA.out).kept HKE.out) (by rw [HVK.out]; exact (HV.out.kept HYA.out).kept HKE.out)) HB0.out).mono ?_
      rintro _ wF ⟨rfl, hkF⟩
      have HKF := hide (HKE.out.trans hkF (by simp))
      clear hkF
      go_wp2_with fail
      refine hK0.out _ _ ⟨HBvA.out.kept HKF.out (by simp), HBw.out.kept HKF.out (by simp)⟩ (fun hHeld => ?_)
      clear hK0 K0
      try simp only [List.getElem_toArray, List.getElem_cons_succ, List.getElem_cons_zero, Act.put, List.setIfInBounds_toArray, List.set_cons_zero, List.set_cons_succ]
      cases bv
      · refine wpAnyH_take (i := 13) (v := ?_) rfl (by kernel_rfl) (by kernel_rfl) (by kernel_rfl) (fun _ _ _ h => h) (Or.inl ⟨by rfl, ?_⟩) hHeld ?_
        rotate_left
        · intro w9 hSw; go_simp; (try with_reducible rfl)
        try simp only [List.getElem_toArray, List.getElem_cons_succ, List.getElem_cons_zero, Act.put, List.setIfInBounds_toArray, List.set_cons_zero, List.set_cons_succ]
        refine wpAnyH_take (i := 14) (v := ?_) rfl (by kernel_rfl) (by kernel_rfl) (by kernel_rfl) (fun _ _ _ h => h) (Or.inl ⟨by rfl, ?_⟩) hHeld ?_
        rotate_left
        · intro w9 hSw; go_simp; (try with_reducible rfl)
        try simp only [List.getElem_toArray, List.getElem_cons_succ, List.getElem_cons_zero, Act.put, List.setIfInBounds_toArray, List.set_cons_zero, List.set_cons_succ]
        refine wpAnyH_take (i := 15) (v := ?_) rfl (by kernel_rfl) (by kernel_rfl) (by kernel_rfl) (fun _ _ _ h => h) (Or.inl ⟨by rfl, ?_⟩) hHeld ?_
        rotate_left
        · intro w9 hSw; go_simp; (try with_reducible rfl)
        try simp only [List.getElem_toArray, List.getElem_cons_succ, List.getElem_cons_zero, Act.put, List.setIfInBounds_toArray, List.set_cons_zero, List.set_cons_succ]
        try simp only [List.getElem_toArray, List.getElem_cons_succ, List.getElem_cons_zero, Act.put, List.setIfInBounds_toArray, List.set_cons_zero, List.set_cons_succ]
        refine wpAnyH_done (by kernel_rfl) ?_ _
        clear hHeld
        go_wp2_with fail
        go_ret
        exact ⟨rfl, HK.out.trans (HYA.out.trans HKF.out (by simp)) (by simp)⟩
      · refine wpAnyH_take (i := 13) (v := ?_) rfl (by kernel_rfl) (by kernel_rfl) (by kernel_rfl) (fun _ _ _ h => h) (Or.inl ⟨by rfl, ?_⟩) hHeld ?_
        rotate_left
        · intro w9 hSw; go_simp; (try with_reducible rfl)
        try simp only [List.getElem_toArray, List.getElem_cons_succ, List.getElem_cons_zero, Act.put, List.setIfInBounds_toArray, List.set_cons_zero, List.set_cons_succ]
        refine wpAnyH_take (i := 14) (v := ?_) rfl (by kernel_rfl) (by kernel_rfl) (by kernel_rfl) (fun _ _ _ h => h) (Or.inl ⟨by rfl, ?_⟩) hHeld ?_
        rotate_left
        · intro w9 hSw; go_simp; (try with_reducible rfl)
        try simp only [List.getElem_toArray, List.getElem_cons_succ, List.getElem_cons_zero, Act.put, List.setIfInBounds_toArray, List.set_cons_zero, List.set_cons_succ]
        refine wpAnyH_take (i := 15) (v := ?_) rfl (by kernel_rfl) (by kernel_rfl) (by kernel_rfl) (fun _ _ _ h => h) (Or.inl ⟨by rfl, ?_⟩) hHeld ?_
        rotate_left
        · intro w9 hSw; go_simp; (try with_reducible rfl)
        try simp only [List.getElem_toArray, List.getElem_cons_succ, List.getElem_cons_zero, Act.put, List.setIfInBounds_toArray, List.set_cons_zero, List.set_cons_succ]
        try simp only [List.getElem_toArray, List.getElem_cons_succ, List.getElem_cons_zero, Act.put, List.setIfInBounds_toArray, List.set_cons_zero, List.set_cons_succ]
        refine wpAnyH_done (by kernel_rfl) ?_ _
        clear hHeld
        go_wp2_with fail
        go_ret
        exact ⟨rfl, HK.out.trans (HYA.out.trans HKF.out (by simp)) (by simp)⟩

end Go.Proofs.Ytlgacmmofimlmab
