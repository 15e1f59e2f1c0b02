/-
  EntrySame: the walk. (Written by mk/mkesame.py.)
-/
import Derived.Test.YtlgacmmofimlmaaEnBa0
import Derived.Test.YtlgacmmofimlmaaBoxGd
import Derived.Test.YtlgacmmofimlmaaEnSmV
import Derived.Test.YtlgacmmofimlmaaEnSmB
import Derived.Test.YtlgacmmofimlmaaF2
namespace Go.Proofs.Ytlgacmmofimlmaa
open Go.RowKit

/-- Three boxes, one behind the other. -/
theorem three_bx (w : World) (T1 T2 T3 : TypeId) (c1 c2 c3 : List Value) : Kept [] w (((w.alloc (.cells c1.toArray T1)).alloc (.cells c2.toArray T2)).alloc (.cells c3.toArray T3)) ∧
    Bx (((w.alloc (.cells c1.toArray T1)).alloc (.cells c2.toArray T2)).alloc (.cells c3.toArray T3)) w.heap.size T1 c1 ∧ Bx (((w.alloc (.cells c1.toArray T1)).alloc (.cells c2.toArray T2)).alloc (.cells c3.toArray T3)) (w.heap.size + 1) T2 c2 ∧ Bx (((w.alloc (.cells c1.toArray T1)).alloc (.cells c2.toArray T2)).alloc (.cells c3.toArray T3)) (w.heap.size + 2) T3 c3 := by
  have k1 : Kept [] w (w.alloc (.cells c1.toArray T1)) := (Kept.refl _ _).alloc _
  have k2 : Kept [] (w.alloc (.cells c1.toArray T1)) ((w.alloc (.cells c1.toArray T1)).alloc (.cells c2.toArray T2)) := (Kept.refl _ _).alloc _
  have k3 : Kept [] ((w.alloc (.cells c1.toArray T1)).alloc (.cells c2.toArray T2)) (((w.alloc (.cells c1.toArray T1)).alloc (.cells c2.toArray T2)).alloc (.cells c3.toArray T3)) := (Kept.refl _ _).alloc _
  have b1 := ((Bx.new w T1 c1).kept k2 (by simp)).kept k3 (by simp)
  have b2 := (Bx.new (w.alloc (.cells c1.toArray T1)) T2 c2).kept k3 (by simp)
  have b3 := Bx.new ((w.alloc (.cells c1.toArray T1)).alloc (.cells c2.toArray T2)) T3 c3
  rw [show (w.alloc (.cells c1.toArray T1)).heap.size = w.heap.size + 1 by simp] at b2
  rw [show ((w.alloc (.cells c1.toArray T1)).alloc (.cells c2.toArray T2)).heap.size = w.heap.size + 2 by simp] at b3
  exact ⟨(k1.trans k2 (by simp)).trans k3 (by simp), b1, b2, b3⟩

theorem wrap_ne (r : Int) : r ≠ wrap64 (r + 1) := by
  unfold wrap64
  omega

/-- What a contract says, where the answer is known. -/
theorem hide' {f : FuncId} {a : Array Value} {w : World} {b c : Bool} (h : Calls Try.prog f a w fun e w' => e = .returned (.bool b) ∧ Kept [] w w') (e : b = c) : Calls Try.prog f a w fun e w' => e = .returned (.bool c) ∧ Kept [] w w' := e ▸ h

set_option linter.unusedSimpArgs false in
set_option maxHeartbeats 16000000 in
set_option maxRecDepth 100000 in
theorem same_walk (w : World) (xa : Rm) (hxa : RqIn w xa) (_ : inR xa.r) (xb : Rm) (hxb : RqIn w xb) (_ : inR xb.r) (v : Vt) (u : Value) (hv : KoV w u v.k) (_ : inV v) :
    Calls Try.prog 8 #[rqV xa, rqV xb, vtV v u] w fun r w' => r = .returned (.bool true) ∧ Kept [] w w' := by
  obtain ⟨uo, un, uc, rfl⟩ := hv.one
  obtain ⟨W, hW⟩ : ∃ W, W = ((w.alloc (.cells #[.int .i64 xa.r.k, .string (str xa.r.n), .int .i64 xa.r.s, .int .i64 xa.r.q, .int .i64 xa.r.b, .string (str xa.r.f), .slice xa.mo xa.m xa.mc, .string (str xa.r.p), .int .i64 xa.r.fr, .int .i64 xa.r.mn, .int .i64 xa.r.mb] 29)).alloc (.cells #[.int .i64 xb.r.k, .string (str xb.r.n), .int .i64 xb.r.s, .int .i64 xb.r.q, .int .i64 xb.r.b, .string (str xb.r.f), .slice xb.mo xb.m xb.mc, .string (str xb.r.p), .int .i64 xb.r.fr, .int .i64 xb.r.mn, .int .i64 xb.r.mb] 29)).alloc (.cells #[.int .i64 v.c, .int .i64 v.s, .int .i64 v.r, .string (str v.p), .int .u64 v.d, .slice uo un uc, .int .i64 v.m] 43) := ⟨_, rfl⟩
  have h3 := three_bx w 29 29 43 (rqC xa) (rqC xb) (vtL v (.slice uo un uc))
  have e3 : ((w.alloc (.cells (rqC xa).toArray 29)).alloc (.cells (rqC xb).toArray 29)).alloc (.cells (vtL v (.slice uo un uc)).toArray 43) = W := hW.symm
  rw [e3] at h3
  obtain ⟨hk, ha, hb, hvv⟩ := h3
  have HW := hide hW
  have HK := hide hk
  have HBa := hide ha
  have HBb := hide hb
  have HBv := hide hvv
  have HTr : Hid (RowT Try.prog 29 (rqC xa).length) := rowT_req
  have HTb : Hid (RowT Try.prog 29 (rqC xb).length) := rowT_req
  have HTv : Hid (RowT Try.prog 43 (vtL v (.slice uo un uc)).length) := rowT_ver
  have HXa := hide (hxa.kept hk)
  have HXb := hide (hxb.kept hk)
  have HV := hide (hv.kept hk)
  have cA := hide (awake_call W)
  clear hW hxa hxb hv e3 hk ha hb hvv
  unfold rqV vtV
  go_enter Try.func8, Try.ntmps8
  go_upto_region 1 with fail
  rw [← HW.out]
  go_upto_region 3 with (go_at_call 9; refine cA.out.mono ?_; rintro _ w1 ⟨rfl, hk1⟩; have HK1 := hide hk1; clear hk1)
  have HBa1 := hide (HBa.out.kept HK1.out (by simp))
  have HBb1 := fun (W2 : World) (k : Kept [] w1 W2) => (HBb.out.kept HK1.out (by simp)).kept k (by simp)
  have HBv1 := fun (W2 : World) (k : Kept [] w1 W2) => (HBv.out.kept HK1.out (by simp)).kept k (by simp)
  have cSa := hide (small_call w1 xa (HXa.out.kept HK1.out).1)
  have cSb := hide (fun (W2 : World) (k : Kept [] w1 W2) => small_call W2 xb ((HXb.out.kept HK1.out).kept k).1)
  have cSv := hide (fun (W2 : World) (k : Kept [] w1 W2) => smallV_call W2 v _ ((HV.out.kept HK1.out).kept k))
  have HB2 := hide HBb1
  have HB3 := hide HBv1
  clear HBb1 HBv1
  unfold rqV at cSa cSb
  unfold vtV at cSv
  go_upto_region 5 with (first | ((with_reducible refine wl_load_bx HBa1.out HTr.out ?_ ?_); rfl) | ((with_reducible refine wl_load_bxg (HB2.out _ HK2.out) HTb.out ?_ ?_ ?_); rfl; rfl) | ((with_reducible refine wl_load_bxg (HB3.out _ HK3.out) HTv.out ?_ ?_ ?_); rfl; rfl) | (go_at_call 13; refine cSa.out.mono ?_; clear cSa; rintro _ w2 ⟨b2, rfl, hb2, hk2⟩; have HK2 := hide hk2; clear hk2 hb2; cases b2) | (go_at_call 13; refine (cSb.out _ HK2.out).mono ?_; clear cSb; rintro _ w3 ⟨b3, rfl, hb3, hk3⟩; have HK3 := hide (HK2.out.trans hk3 (by simp)); clear hk3 hb3; cases b3) | (go_at_call 22; refine (cSv.out _ HK3.out).mono ?_; clear cSv; rintro _ w3b ⟨b4, rfl, hk4⟩; have HK4 := hide (HK3.out.trans hk4 (by simp)); clear hk4; cases b4))
  · go_ret
    exact ⟨rfl, (HK.out.trans HK1.out (by simp)).trans HK2.out (by simp)⟩
  · go_ret
    exact ⟨rfl, (HK.out.trans HK1.out (by simp)).trans HK3.out (by simp)⟩
  · go_ret
    exact ⟨rfl, (HK.out.trans HK1.out (by simp)).trans HK4.out (by simp)⟩
  obtain ⟨w4, hw4⟩ : ∃ w4, w4 = w3b := ⟨_, rfl⟩
  subst hw4
  have HY : Hid (Kept [] W w4) := HK1.out.trans HK4.out (by simp)
  have HBv4 := hide (HB3.out _ HK4.out)
  have HZ : Hid (Bx (w4.alloc (.cells #[.int .i64 0, .int .i64 0, .int .i64 0, .string ⟨#[]⟩, .int .u64 0, .slice none 0 0, .int .i64 0] 43)) w4.heap.size 43 zvt) := Bx.new w4 _ zvt
  have HL4 : Hid ((vtL v (.slice uo un uc)).length = zvt.length) := rfl
  have HN4 := hide (one_vtL v (.slice uo un uc) (by rfl))
  go_upto_region 6 with (first | ((with_reducible refine wl_load_bx HBv4.out HTv.out ?_ ?_); rfl) | ((with_reducible refine wl_store_bx HZ.out HL4.out HN4.out HTv.out ?_ ?_ ?_); rfl; rfl; intro w5 HB5 HK5))
  have c2 : w5.cell? ⟨w4.heap.size, 2, none⟩ = some (.int .i64 v.r) := HB5.out.cell 2 rfl
  have f2 : w5.frozen? ⟨w4.heap.size, 2, none⟩ = false := HB5.out.froz 2
  go_upto_region 7 with fail
  obtain ⟨v', hv'⟩ : ∃ v' : Vt, v' = ⟨v.c, v.s, wrap64 (v.r + 1), v.p, v.d, v.k, v.m⟩ := ⟨_, rfl⟩
  have HNE : Hid (v ≠ v') := fun h => wrap_ne v.r (by have := congrArg Vt.r h; rw [hv'] at this; exact this)
  have HVK : Hid (v'.k = v.k) := by rw [hv']; rfl
  have hBw : Bx (w5.setCell ⟨w4.heap.size, 2, none⟩ (.int .i64 (wrap64 (v.r + 1)))) w4.heap.size 43 (vtL v' (.slice uo un uc)) := by rw [hv']; exact HB5.out.set 2 _
  have hY6 : Kept [] W (w5.setCell ⟨w4.heap.size, 2, none⟩ (.int .i64 (wrap64 (v.r + 1)))) := HY.out.trans ((((Kept.refl [w4.heap.size] w4).alloc _).trans HK5.out (by simp)).trans (kept_set w5 w4.heap.size 2 _) (by simp)) (by intro i hi; simp at hi; subst hi; right; exact HY.out.size)
  clear c2 f2 hv'
  generalize w5.setCell ⟨w4.heap.size, 2, none⟩ (.int .i64 (wrap64 (v.r + 1))) = w6 at *
  have HY0 := hide (hY6.trans (Kept.refl [] _).drew (by simp))
  have HBw := hide hBw
  have hk6 : ∀ w9, Kept [] W w9 → Kept [] w6 w9 → Bx w9 w.heap.size 29 (rqC xa) ∧ Bx w9 (w.heap.size + 1) 29 (rqC xb) ∧ Bx w9 (w.heap.size + 2) 43 (vtL v (.slice uo un uc)) ∧ Bx w9 w4.heap.size 43 (vtL v' (.slice uo un uc)) := fun w9 k k6 => ⟨HBa.out.kept k (by simp), HBb.out.kept k (by simp), HBv.out.kept k (by simp), hBw.kept k6 (by simp)⟩
  have S6 := hide hk6
  have HK6 := hide hY6
  clear hBw hY6 hk6
  have SS : Hid (∀ w9, Kept [] W w9 → Kept [] w6 w9 → Bx w9 w.heap.size 29 (rqC xa) ∧ Bx w9 (w.heap.size + 1) 29 (rqC xb) ∧ Bx w9 (w.heap.size + 2) 43 (vtL v (.slice uo un uc)) ∧ Bx w9 w4.heap.size 43 (vtL v' (.slice uo un uc))) := S6
  have HS0 : Hid (Kept [] w6 w6.drew) := (Kept.refl [] _).drew
  obtain ⟨bs, hbs⟩ : ∃ bs, bs = decide (xa.r = xb.r) := ⟨_, rfl⟩
  have HBS := hide hbs.symm
  clear hbs
  refine wp_region_held_drew (S := fun w9 => Bx w9 w.heap.size 29 (rqC xa) ∧ Bx w9 (w.heap.size + 1) 29 (rqC xb) ∧ Bx w9 (w.heap.size + 2) 43 (vtL v (.slice uo un uc)) ∧ Bx w9 w4.heap.size 43 (vtL v' (.slice uo un uc))) (by kernel_rfl) (SS.out _ HY0.out HS0.out) (fun hHeld => ?_)
  refine wpAnyH_take (i := 0) (v := .agg (rqC xa).toArray) rfl (by kernel_rfl) (by kernel_rfl) (by kernel_rfl) (fun _ _ _ h => h) (yieldsIf_load_mid (by rfl) _ _ rfl w.heap.size 0 rfl (rqC xa) _ (fun w9 hSw => hSw.1.range) Try.underlying29 rfl size_rqP) hHeld ?_
  try simp only [List.getElem_toArray, List.getElem_cons_succ, List.getElem_cons_zero, Act.put, List.setIfInBounds_toArray, List.set_cons_zero, List.set_cons_succ]
  refine wpAnyH_take (i := 1) (v := .agg (rqC xb).toArray) rfl (by kernel_rfl) (by kernel_rfl) (by kernel_rfl) (fun _ _ _ h => h) (yieldsIf_load_mid (by rfl) _ _ rfl (w.heap.size + 1) 0 rfl (rqC xb) _ (fun w9 hSw => hSw.2.1.range) Try.underlying29 rfl size_rqP) hHeld ?_
  try simp only [List.getElem_toArray, List.getElem_cons_succ, List.getElem_cons_zero, Act.put, List.setIfInBounds_toArray, List.set_cons_zero, List.set_cons_succ]
  refine wpAnyH_take (i := 3) (v := .agg (rqC xa).toArray) rfl (by kernel_rfl) (by kernel_rfl) (by kernel_rfl) (fun _ _ _ h => h) (yieldsIf_load_mid (by rfl) _ _ rfl w.heap.size 0 rfl (rqC xa) _ (fun w9 hSw => hSw.1.range) Try.underlying29 rfl size_rqP) hHeld ?_
  try simp only [List.getElem_toArray, List.getElem_cons_succ, List.getElem_cons_zero, Act.put, List.setIfInBounds_toArray, List.set_cons_zero, List.set_cons_succ]
  refine wpAnyH_take (i := 4) (v := .agg (rqC xb).toArray) rfl (by kernel_rfl) (by kernel_rfl) (by kernel_rfl) (fun _ _ _ h => h) (yieldsIf_load_mid (by rfl) _ _ rfl (w.heap.size + 1) 0 rfl (rqC xb) _ (fun w9 hSw => hSw.2.1.range) Try.underlying29 rfl size_rqP) hHeld ?_
  try simp only [List.getElem_toArray, List.getElem_cons_succ, List.getElem_cons_zero, Act.put, List.setIfInBounds_toArray, List.set_cons_zero, List.set_cons_succ]
  refine wpAnyH_ready (rs := [2]) (by kernel_rfl) (by simp) (AllReadyH.cons rfl (fun K0 hK0 => ?_) AllReadyH.nil)
  go_simp
  refine (hide' (rqsame_call _ xa.r xb.r xa.mo xb.mo xa.m xb.m xa.mc xb.mc (HXa.out.kept HY0.out).1 (HXb.out.kept HY0.out).1) HBS.out).mono ?_
  rintro _ y1 ⟨rfl, hk1⟩
  have HY1 := hide (HY0.out.trans hk1 (by simp))
  have HS1 := hide (HS0.out.trans hk1 (by simp))
  clear hk1
  go_wp2_with fail
  refine hK0.out _ _ (SS.out _ HY1.out HS1.out) (fun hHeld => ?_)
  clear hK0 K0
  try simp only [List.getElem_toArray, List.getElem_cons_succ, List.getElem_cons_zero, Act.put, List.setIfInBounds_toArray, List.set_cons_zero, List.set_cons_succ]
  refine wpAnyH_ready (rs := [5]) (by kernel_rfl) (by simp) (AllReadyH.cons rfl (fun K0 hK0 => ?_) AllReadyH.nil)
  go_simp
  refine (hide' (rqdoc_call _ xa.r xb.r xa.mo xb.mo xa.m xb.m xa.mc xb.mc (HXa.out.kept HY1.out).1 (HXb.out.kept HY1.out).1) HBS.out).mono ?_
  rintro _ y2 ⟨rfl, hk2⟩
  have HY2 := hide (HY1.out.trans hk2 (by simp))
  have HS2 := hide (HS1.out.trans hk2 (by simp))
  clear hk2
  go_wp2_with fail
  refine hK0.out _ _ (SS.out _ HY2.out HS2.out) (fun hHeld => ?_)
  clear hK0 K0
  try simp only [List.getElem_toArray, List.getElem_cons_succ, List.getElem_cons_zero, Act.put, List.setIfInBounds_toArray, List.set_cons_zero, List.set_cons_succ]
  cases bs
  · refine wpAnyH_take (i := 6) (v := ?_) rfl (by kernel_rfl) (by kernel_rfl) (by kernel_rfl) (fun _ _ _ h => h) (Or.inl ⟨by rfl, ?_⟩) hHeld ?_
    rotate_left
    · intro w9 hSw; go_simp; (try with_reducible rfl)
    try simp only [List.getElem_toArray, List.getElem_cons_succ, List.getElem_cons_zero, Act.put, List.setIfInBounds_toArray, List.set_cons_zero, List.set_cons_succ]
    refine wpAnyH_take (i := 7) (v := ?_) rfl (by kernel_rfl) (by kernel_rfl) (by kernel_rfl) (fun _ _ _ h => h) (Or.inl ⟨by rfl, ?_⟩) hHeld ?_
    rotate_left
    · intro w9 hSw; go_simp; (try with_reducible rfl)
    try simp only [List.getElem_toArray, List.getElem_cons_succ, List.getElem_cons_zero, Act.put, List.setIfInBounds_toArray, List.set_cons_zero, List.set_cons_succ]
    refine wpAnyH_take (i := 8) (v := .agg (rqC xa).toArray) rfl (by kernel_rfl) (by kernel_rfl) (by kernel_rfl) (fun _ _ _ h => h) (yieldsIf_load_mid (by rfl) _ _ rfl w.heap.size 0 rfl (rqC xa) _ (fun w9 hSw => hSw.1.range) Try.underlying29 rfl size_rqP) hHeld ?_
    try simp only [List.getElem_toArray, List.getElem_cons_succ, List.getElem_cons_zero, Act.put, List.setIfInBounds_toArray, List.set_cons_zero, List.set_cons_succ]
    refine wpAnyH_take (i := 9) (v := .agg (rqC xa).toArray) rfl (by kernel_rfl) (by kernel_rfl) (by kernel_rfl) (fun _ _ _ h => h) (yieldsIf_load_mid (by rfl) _ _ rfl w.heap.size 0 rfl (rqC xa) _ (fun w9 hSw => hSw.1.range) Try.underlying29 rfl size_rqP) hHeld ?_
    try simp only [List.getElem_toArray, List.getElem_cons_succ, List.getElem_cons_zero, Act.put, List.setIfInBounds_toArray, List.set_cons_zero, List.set_cons_succ]
    refine wpAnyH_ready (rs := [10]) (by kernel_rfl) (by simp) (AllReadyH.cons rfl (fun K0 hK0 => ?_) AllReadyH.nil)
    go_simp
    refine (hide' (rqsame_call _ xa.r xa.r xa.mo xa.mo xa.m xa.m xa.mc xa.mc (HXa.out.kept HY2.out).1 (HXa.out.kept HY2.out).1) (decide_eq_true rfl)).mono ?_
    rintro _ y3 ⟨rfl, hk3⟩
    have HY3 := hide (HY2.out.trans hk3 (by simp))
    have HS3 := hide (HS2.out.trans hk3 (by simp))
    clear hk3
    go_wp2_with fail
    refine hK0.out _ _ (SS.out _ HY3.out HS3.out) (fun hHeld => ?_)
    clear hK0 K0
    try simp only [List.getElem_toArray, List.getElem_cons_succ, List.getElem_cons_zero, Act.put, List.setIfInBounds_toArray, List.set_cons_zero, List.set_cons_succ]
    refine wpAnyH_take (i := 11) (v := ?_) rfl (by kernel_rfl) (by kernel_rfl) (by kernel_rfl) (fun _ _ _ h => h) (Or.inl ⟨by rfl, ?_⟩) hHeld ?_
    rotate_left
    · intro w9 hSw; go_simp; (try with_reducible rfl)
    try simp only [List.getElem_toArray, List.getElem_cons_succ, List.getElem_cons_zero, Act.put, List.setIfInBounds_toArray, List.set_cons_zero, List.set_cons_succ]
    refine wpAnyH_take (i := 12) (v := ?_) rfl (by kernel_rfl) (by kernel_rfl) (by kernel_rfl) (fun _ _ _ h => h) (Or.inl ⟨by rfl, ?_⟩) hHeld ?_
    rotate_left
    · intro w9 hSw; go_simp; (try with_reducible rfl)
    try simp only [List.getElem_toArray, List.getElem_cons_succ, List.getElem_cons_zero, Act.put, List.setIfInBounds_toArray, List.set_cons_zero, List.set_cons_succ]
    refine wpAnyH_take (i := 13) (v := .agg (vtL v (.slice uo un uc)).toArray) rfl (by kernel_rfl) (by kernel_rfl) (by kernel_rfl) (fun _ _ _ h => h) (yieldsIf_load_mid (by rfl) _ _ rfl (w.heap.size + 2) 0 rfl (vtL v (.slice uo un uc)) _ (fun w9 hSw => hSw.2.2.1.range) Try.underlying43 rfl size_vtP) hHeld ?_
    try simp only [List.getElem_toArray, List.getElem_cons_succ, List.getElem_cons_zero, Act.put, List.setIfInBounds_toArray, List.set_cons_zero, List.set_cons_succ]
    refine wpAnyH_take (i := 14) (v := .agg (vtL v (.slice uo un uc)).toArray) rfl (by kernel_rfl) (by kernel_rfl) (by kernel_rfl) (fun _ _ _ h => h) (yieldsIf_load_mid (by rfl) _ _ rfl (w.heap.size + 2) 0 rfl (vtL v (.slice uo un uc)) _ (fun w9 hSw => hSw.2.2.1.range) Try.underlying43 rfl size_vtP) hHeld ?_
    try simp only [List.getElem_toArray, List.getElem_cons_succ, List.getElem_cons_zero, Act.put, List.setIfInBounds_toArray, List.set_cons_zero, List.set_cons_succ]
    refine wpAnyH_ready (rs := [15]) (by kernel_rfl) (by simp) (AllReadyH.cons rfl (fun K0 hK0 => ?_) AllReadyH.nil)
    go_simp
    refine (hide' (alikeP_call _ v v _ _ (HV.out.kept HY3.out) (HV.out.kept HY3.out)) (decide_eq_true rfl)).mono ?_
    rintro _ y4 ⟨rfl, hk4⟩
    have HY4 := hide (HY3.out.trans hk4 (by simp))
    have HS4 := hide (HS3.out.trans hk4 (by simp))
    clear hk4
    go_wp2_with fail
    refine hK0.out _ _ (SS.out _ HY4.out HS4.out) (fun hHeld => ?_)
    clear hK0 K0
    try simp only [List.getElem_toArray, List.getElem_cons_succ, List.getElem_cons_zero, Act.put, List.setIfInBounds_toArray, List.set_cons_zero, List.set_cons_succ]
    refine wpAnyH_take (i := 16) (v := ?_) rfl (by kernel_rfl) (by kernel_rfl) (by kernel_rfl) (fun _ _ _ h => h) (Or.inl ⟨by rfl, ?_⟩) hHeld ?_
    rotate_left
    · intro w9 hSw; go_simp; (try with_reducible rfl)
    try simp only [List.getElem_toArray, List.getElem_cons_succ, List.getElem_cons_zero, Act.put, List.setIfInBounds_toArray, List.set_cons_zero, List.set_cons_succ]
    refine wpAnyH_take (i := 17) (v := ?_) rfl (by kernel_rfl) (by kernel_rfl) (by kernel_rfl) (fun _ _ _ h => h) (Or.inl ⟨by rfl, ?_⟩) hHeld ?_
    rotate_left
    · intro w9 hSw; go_simp; (try with_reducible rfl)
    try simp only [List.getElem_toArray, List.getElem_cons_succ, List.getElem_cons_zero, Act.put, List.setIfInBounds_toArray, List.set_cons_zero, List.set_cons_succ]
    refine wpAnyH_take (i := 18) (v := .agg (vtL v (.slice uo un uc)).toArray) rfl (by kernel_rfl) (by kernel_rfl) (by kernel_rfl) (fun _ _ _ h => h) (yieldsIf_load_mid (by rfl) _ _ rfl (w.heap.size + 2) 0 rfl (vtL v (.slice uo un uc)) _ (fun w9 hSw => hSw.2.2.1.range) Try.underlying43 rfl size_vtP) hHeld ?_
    try simp only [List.getElem_toArray, List.getElem_cons_succ, List.getElem_cons_zero, Act.put, List.setIfInBounds_toArray, List.set_cons_zero, List.set_cons_succ]
    refine wpAnyH_take (i := 19) (v := .agg (vtL v' (.slice uo un uc)).toArray) rfl (by kernel_rfl) (by kernel_rfl) (by kernel_rfl) (fun _ _ _ h => h) (yieldsIf_load_mid (by rfl) _ _ rfl w4.heap.size 0 rfl (vtL v' (.slice uo un uc)) _ (fun w9 hSw => hSw.2.2.2.range) Try.underlying43 rfl size_vtP) hHeld ?_
    try simp only [List.getElem_toArray, List.getElem_cons_succ, List.getElem_cons_zero, Act.put, List.setIfInBounds_toArray, List.set_cons_zero, List.set_cons_succ]
    refine wpAnyH_ready (rs := [20]) (by kernel_rfl) (by simp) (AllReadyH.cons rfl (fun K0 hK0 => ?_) AllReadyH.nil)
    go_simp
    refine (hide' (alikeP_call _ v v' _ _ (HV.out.kept HY4.out) (by rw [HVK.out]; exact (HV.out.kept HY4.out))) (decide_eq_false HNE.out)).mono ?_
    rintro _ y5 ⟨rfl, hk5⟩
    have HY5 := hide (HY4.out.trans hk5 (by simp))
    have HS5 := hide (HS4.out.trans hk5 (by simp))
    clear hk5
    go_wp2_with fail
    refine hK0.out _ _ (SS.out _ HY5.out HS5.out) (fun hHeld => ?_)
    clear hK0 K0
    try simp only [List.getElem_toArray, List.getElem_cons_succ, List.getElem_cons_zero, Act.put, List.setIfInBounds_toArray, List.set_cons_zero, List.set_cons_succ]
    refine wpAnyH_take (i := 21) (v := ?_) rfl (by kernel_rfl) (by kernel_rfl) (by kernel_rfl) (fun _ _ _ h => h) (Or.inl ⟨by rfl, ?_⟩) hHeld ?_
    rotate_left
    · intro w9 hSw; go_simp; (try with_reducible rfl)
    try simp only [List.getElem_toArray, List.getElem_cons_succ, List.getElem_cons_zero, Act.put, List.setIfInBounds_toArray, List.set_cons_zero, List.set_cons_succ]
    refine wpAnyH_take (i := 22) (v := ?_) rfl (by kernel_rfl) (by kernel_rfl) (by kernel_rfl) (fun _ _ _ h => h) (Or.inl ⟨by rfl, ?_⟩) hHeld ?_
    rotate_left
    · intro w9 hSw; go_simp; (try with_reducible rfl)
    try simp only [List.getElem_toArray, List.getElem_cons_succ, List.getElem_cons_zero, Act.put, List.setIfInBounds_toArray, List.set_cons_zero, List.set_cons_succ]
    refine wpAnyH_take (i := 23) (v := ?_) rfl (by kernel_rfl) (by kernel_rfl) (by kernel_rfl) (fun _ _ _ h => h) (Or.inl ⟨by rfl, ?_⟩) hHeld ?_
    rotate_left
    · intro w9 hSw; go_simp; (try with_reducible rfl)
    try simp only [List.getElem_toArray, List.getElem_cons_succ, List.getElem_cons_zero, Act.put, List.setIfInBounds_toArray, List.set_cons_zero, List.set_cons_succ]
    try simp only [List.getElem_toArray, List.getElem_cons_succ, List.getElem_cons_zero, Act.put, List.setIfInBounds_toArray, List.set_cons_zero, List.set_cons_succ]
    refine wpAnyH_done (by kernel_rfl) ?_ _
    clear hHeld
    go_wp2_with fail
    go_ret
    exact ⟨rfl, HK.out.trans HY5.out (by simp)⟩
  · refine wpAnyH_take (i := 6) (v := ?_) rfl (by kernel_rfl) (by kernel_rfl) (by kernel_rfl) (fun _ _ _ h => h) (Or.inl ⟨by rfl, ?_⟩) hHeld ?_
    rotate_left
    · intro w9 hSw; go_simp; (try with_reducible rfl)
    try simp only [List.getElem_toArray, List.getElem_cons_succ, List.getElem_cons_zero, Act.put, List.setIfInBounds_toArray, List.set_cons_zero, List.set_cons_succ]
    refine wpAnyH_take (i := 7) (v := ?_) rfl (by kernel_rfl) (by kernel_rfl) (by kernel_rfl) (fun _ _ _ h => h) (Or.inl ⟨by rfl, ?_⟩) hHeld ?_
    rotate_left
    · intro w9 hSw; go_simp; (try with_reducible rfl)
    try simp only [List.getElem_toArray, List.getElem_cons_succ, List.getElem_cons_zero, Act.put, List.setIfInBounds_toArray, List.set_cons_zero, List.set_cons_succ]
    refine wpAnyH_take (i := 8) (v := .agg (rqC xa).toArray) rfl (by kernel_rfl) (by kernel_rfl) (by kernel_rfl) (fun _ _ _ h => h) (yieldsIf_load_mid (by rfl) _ _ rfl w.heap.size 0 rfl (rqC xa) _ (fun w9 hSw => hSw.1.range) Try.underlying29 rfl size_rqP) hHeld ?_
    try simp only [List.getElem_toArray, List.getElem_cons_succ, List.getElem_cons_zero, Act.put, List.setIfInBounds_toArray, List.set_cons_zero, List.set_cons_succ]
    refine wpAnyH_take (i := 9) (v := .agg (rqC xa).toArray) rfl (by kernel_rfl) (by kernel_rfl) (by kernel_rfl) (fun _ _ _ h => h) (yieldsIf_load_mid (by rfl) _ _ rfl w.heap.size 0 rfl (rqC xa) _ (fun w9 hSw => hSw.1.range) Try.underlying29 rfl size_rqP) hHeld ?_
    try simp only [List.getElem_toArray, List.getElem_cons_succ, List.getElem_cons_zero, Act.put, List.setIfInBounds_toArray, List.set_cons_zero, List.set_cons_succ]
    refine wpAnyH_ready (rs := [10]) (by kernel_rfl) (by simp) (AllReadyH.cons rfl (fun K0 hK0 => ?_) AllReadyH.nil)
    go_simp
    refine (hide' (rqsame_call _ xa.r xa.r xa.mo xa.mo xa.m xa.m xa.mc xa.mc (HXa.out.kept HY2.out).1 (HXa.out.kept HY2.out).1) (decide_eq_true rfl)).mono ?_
    rintro _ y3 ⟨rfl, hk3⟩
    have HY3 := hide (HY2.out.trans hk3 (by simp))
    have HS3 := hide (HS2.out.trans hk3 (by simp))
    clear hk3
    go_wp2_with fail
    refine hK0.out _ _ (SS.out _ HY3.out HS3.out) (fun hHeld => ?_)
    clear hK0 K0
    try simp only [List.getElem_toArray, List.getElem_cons_succ, List.getElem_cons_zero, Act.put, List.setIfInBounds_toArray, List.set_cons_zero, List.set_cons_succ]
    refine wpAnyH_take (i := 11) (v := ?_) rfl (by kernel_rfl) (by kernel_rfl) (by kernel_rfl) (fun _ _ _ h => h) (Or.inl ⟨by rfl, ?_⟩) hHeld ?_
    rotate_left
    · intro w9 hSw; go_simp; (try with_reducible rfl)
    try simp only [List.getElem_toArray, List.getElem_cons_succ, List.getElem_cons_zero, Act.put, List.setIfInBounds_toArray, List.set_cons_zero, List.set_cons_succ]
    refine wpAnyH_take (i := 12) (v := ?_) rfl (by kernel_rfl) (by kernel_rfl) (by kernel_rfl) (fun _ _ _ h => h) (Or.inl ⟨by rfl, ?_⟩) hHeld ?_
    rotate_left
    · intro w9 hSw; go_simp; (try with_reducible rfl)
    try simp only [List.getElem_toArray, List.getElem_cons_succ, List.getElem_cons_zero, Act.put, List.setIfInBounds_toArray, List.set_cons_zero, List.set_cons_succ]
    refine wpAnyH_take (i := 13) (v := .agg (vtL v (.slice uo un uc)).toArray) rfl (by kernel_rfl) (by kernel_rfl) (by kernel_rfl) (fun _ _ _ h => h) (yieldsIf_load_mid (by rfl) _ _ rfl (w.heap.size + 2) 0 rfl (vtL v (.slice uo un uc)) _ (fun w9 hSw => hSw.2.2.1.range) Try.underlying43 rfl size_vtP) hHeld ?_
    try simp only [List.getElem_toArray, List.getElem_cons_succ, List.getElem_cons_zero, Act.put, List.setIfInBounds_toArray, List.set_cons_zero, List.set_cons_succ]
    refine wpAnyH_take (i := 14) (v := .agg (vtL v (.slice uo un uc)).toArray) rfl (by kernel_rfl) (by kernel_rfl) (by kernel_rfl) (fun _ _ _ h => h) (yieldsIf_load_mid (by rfl) _ _ rfl (w.heap.size + 2) 0 rfl (vtL v (.slice uo un uc)) _ (fun w9 hSw => hSw.2.2.1.range) Try.underlying43 rfl size_vtP) hHeld ?_
    try simp only [List.getElem_toArray, List.getElem_cons_succ, List.getElem_cons_zero, Act.put, List.setIfInBounds_toArray, List.set_cons_zero, List.set_cons_succ]
    refine wpAnyH_ready (rs := [15]) (by kernel_rfl) (by simp) (AllReadyH.cons rfl (fun K0 hK0 => ?_) AllReadyH.nil)
    go_simp
    refine (hide' (alikeP_call _ v v _ _ (HV.out.kept HY3.out) (HV.out.kept HY3.out)) (decide_eq_true rfl)).mono ?_
    rintro _ y4 ⟨rfl, hk4⟩
    have HY4 := hide (HY3.out.trans hk4 (by simp))
    have HS4 := hide (HS3.out.trans hk4 (by simp))
    clear hk4
    go_wp2_with fail
    refine hK0.out _ _ (SS.out _ HY4.out HS4.out) (fun hHeld => ?_)
    clear hK0 K0
    try simp only [List.getElem_toArray, List.getElem_cons_succ, List.getElem_cons_zero, Act.put, List.setIfInBounds_toArray, List.set_cons_zero, List.set_cons_succ]
    refine wpAnyH_take (i := 16) (v := ?_) rfl (by kernel_rfl) (by kernel_rfl) (by kernel_rfl) (fun _ _ _ h => h) (Or.inl ⟨by rfl, ?_⟩) hHeld ?_
    rotate_left
    · intro w9 hSw; go_simp; (try with_reducible rfl)
    try simp only [List.getElem_toArray, List.getElem_cons_succ, List.getElem_cons_zero, Act.put, List.setIfInBounds_toArray, List.set_cons_zero, List.set_cons_succ]
    refine wpAnyH_take (i := 17) (v := ?_) rfl (by kernel_rfl) (by kernel_rfl) (by kernel_rfl) (fun _ _ _ h => h) (Or.inl ⟨by rfl, ?_⟩) hHeld ?_
    rotate_left
    · intro w9 hSw; go_simp; (try with_reducible rfl)
    try simp only [List.getElem_toArray, List.getElem_cons_succ, List.getElem_cons_zero, Act.put, List.setIfInBounds_toArray, List.set_cons_zero, List.set_cons_succ]
    refine wpAnyH_take (i := 18) (v := .agg (vtL v (.slice uo un uc)).toArray) rfl (by kernel_rfl) (by kernel_rfl) (by kernel_rfl) (fun _ _ _ h => h) (yieldsIf_load_mid (by rfl) _ _ rfl (w.heap.size + 2) 0 rfl (vtL v (.slice uo un uc)) _ (fun w9 hSw => hSw.2.2.1.range) Try.underlying43 rfl size_vtP) hHeld ?_
    try simp only [List.getElem_toArray, List.getElem_cons_succ, List.getElem_cons_zero, Act.put, List.setIfInBounds_toArray, List.set_cons_zero, List.set_cons_succ]
    refine wpAnyH_take (i := 19) (v := .agg (vtL v' (.slice uo un uc)).toArray) rfl (by kernel_rfl) (by kernel_rfl) (by kernel_rfl) (fun _ _ _ h => h) (yieldsIf_load_mid (by rfl) _ _ rfl w4.heap.size 0 rfl (vtL v' (.slice uo un uc)) _ (fun w9 hSw => hSw.2.2.2.range) Try.underlying43 rfl size_vtP) hHeld ?_
    try simp only [List.getElem_toArray, List.getElem_cons_succ, List.getElem_cons_zero, Act.put, List.setIfInBounds_toArray, List.set_cons_zero, List.set_cons_succ]
    refine wpAnyH_ready (rs := [20]) (by kernel_rfl) (by simp) (AllReadyH.cons rfl (fun K0 hK0 => ?_) AllReadyH.nil)
    go_simp
    refine (hide' (alikeP_call _ v v' _ _ (HV.out.kept HY4.out) (by rw [HVK.out]; exact (HV.out.kept HY4.out))) (decide_eq_false HNE.out)).mono ?_
    rintro _ y5 ⟨rfl, hk5⟩
    have HY5 := hide (HY4.out.trans hk5 (by simp))
    have HS5 := hide (HS4.out.trans hk5 (by simp))
    clear hk5
    go_wp2_with fail
    refine hK0.out _ _ (SS.out _ HY5.out HS5.out) (fun hHeld => ?_)
    clear hK0 K0
    try simp only [List.getElem_toArray, List.getElem_cons_succ, List.getElem_cons_zero, Act.put, List.setIfInBounds_toArray, List.set_cons_zero, List.set_cons_succ]
    refine wpAnyH_take (i := 21) (v := ?_) rfl (by kernel_rfl) (by kernel_rfl) (by kernel_rfl) (fun _ _ _ h => h) (Or.inl ⟨by rfl, ?_⟩) hHeld ?_
    rotate_left
    · intro w9 hSw; go_simp; (try with_reducible rfl)
    try simp only [List.getElem_toArray, List.getElem_cons_succ, List.getElem_cons_zero, Act.put, List.setIfInBounds_toArray, List.set_cons_zero, List.set_cons_succ]
    refine wpAnyH_take (i := 22) (v := ?_) rfl (by kernel_rfl) (by kernel_rfl) (by kernel_rfl) (fun _ _ _ h => h) (Or.inl ⟨by rfl, ?_⟩) hHeld ?_
    rotate_left
    · intro w9 hSw; go_simp; (try with_reducible rfl)
    try simp only [List.getElem_toArray, List.getElem_cons_succ, List.getElem_cons_zero, Act.put, List.setIfInBounds_toArray, List.set_cons_zero, List.set_cons_succ]
    refine wpAnyH_take (i := 23) (v := ?_) rfl (by kernel_rfl) (by kernel_rfl) (by kernel_rfl) (fun _ _ _ h => h) (Or.inl ⟨by rfl, ?_⟩) hHeld ?_
    rotate_left
    · intro w9 hSw; go_simp; (try with_reducible rfl)
    try simp only [List.getElem_toArray, List.getElem_cons_succ, List.getElem_cons_zero, Act.put, List.setIfInBounds_toArray, List.set_cons_zero, List.set_cons_succ]
    try simp only [List.getElem_toArray, List.getElem_cons_succ, List.getElem_cons_zero, Act.put, List.setIfInBounds_toArray, List.set_cons_zero, List.set_cons_succ]
    refine wpAnyH_done (by kernel_rfl) ?_ _
    clear hHeld
    go_wp2_with fail
    go_ret
    exact ⟨rfl, HK.out.trans HY5.out (by simp)⟩

end Go.Proofs.Ytlgacmmofimlmaa
