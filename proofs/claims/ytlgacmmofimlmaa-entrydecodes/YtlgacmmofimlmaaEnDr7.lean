/-
  The document's Decode, DecodeVerdict. (Written by mk/mkddec.py.)
-/
import Derived.Test.YtlgacmmofimlmaaEnDr6
import Derived.Test.YtlgacmmofimlmaaF12
namespace Go.Proofs.Ytlgacmmofimlmaa
open Go.RowKit

theorem atR_new (w : World) (ao : Option Addr) (n c : Nat) (l : List Int) (hS : Sl w ao n c l) (hn : n ≤ 1000000000) (ho : Oct l) : AtR w.heap.size w.heap.size (w.alloc (.cells #[.slice ao n c, .int .i64 0] 71)) (l, 0) := by
  have hl := hS.1
  subst hl
  exact ⟨⟨ao, c, heap_alloc_new w _, Sl.kept ((Kept.refl [] w).alloc _) hS (by simp), fun h k hk => hS.lt h k hk, Nat.le_refl _, ho, fun h => absurd rfl h⟩, hn⟩

set_option maxHeartbeats 4000000 in
theorem dDec_call (w : World) (ao : Option Addr) (n c : Nat) (l : List Int) (hS : Sl w ao n c l) (hn : n ≤ 1000000000) (ho : Oct l) :
    Calls Try.prog 17 #[.slice ao n c] w (DecR w (decR l)) := by
  obtain ⟨W, hW⟩ : ∃ W, W = w.alloc (.cells #[.int .i64 0, .string ⟨#[]⟩, .int .i64 0, .int .i64 0, .int .i64 0, .string ⟨#[]⟩, .slice none 0 0, .string ⟨#[]⟩, .int .i64 0, .int .i64 0, .int .i64 0] 29) := ⟨_, rfl⟩
  have k0 : Kept [] w W := by rw [hW]; exact (Kept.refl _ _).alloc _
  have HW := hide hW
  have HR : Hid (Bx W w.heap.size 29 zrq) := by rw [hW]; exact Bx.new w _ zrq
  have hlt := HR.out.lt
  have k1 : Kept [] W (W.alloc (.cells #[.slice ao n c, .int .i64 0] 71)) := (Kept.refl _ _).alloc _
  have hA1 := atR_new W ao n c l (Sl.kept k0 hS (by simp)) hn ho
  have cT := hide (dtake_call W.heap.size W.heap.size _ (l, 0) hA1)
  have HK1 := hide (k0.trans k1 (by simp))
  have HR1 := hide (HR.out.kept k1 (by simp))
  have HTK : Hid (takeR (l, 0) = if (reqP eyeP (l, 0) rq0).2.2 = 0 then (reqP eyeP (l, 0) rq0).1 else rq0) := rfl
  have HD : Hid (decR l = if endE (reqP eyeP (l, 0) rq0).2 = 0 then (takeR (l, 0), 0) else (rq0, endE (reqP eyeP (l, 0) rq0).2)) := rfl
  generalize decR l = res at HD ⊢
  generalize takeR (l, 0) = tk at HTK HD
  generalize reqP eyeP (l, 0) rq0 = pp at cT HTK HD
  obtain ⟨q, st⟩ := pp
  simp only at cT HTK HD
  clear hW k0 k1 hA1 hS hn ho
  go_enter Try.func17, Try.ntmps17
  go_upto_region 1 with fail
  rw [← HW.out]
  go_wp2_with fail
  refine cT.out.mono ?_
  clear cT
  rintro _ w2 ⟨v2, rfl, hO2, hA2, hk2⟩
  obtain ⟨vo, vn, vc, rfl⟩ := own_bare hO2
  rw [← HTK.out] at hO2 ⊢
  have hs1 : w.heap.size < (W.alloc (.cells #[.slice ao n c, .int .i64 0] 71)).heap.size := by simp; omega
  have HA2 := hide hA2
  have HK2 : Hid (Kept [] w w2) := HK1.out.trans hk2 (by intro i hi; simp at hi; right; omega)
  have HR2 := hide (HR1.out.kept hk2 (by simp; omega))
  have HO2 : Hid (OwnC (w.heap.size + 1) w2 (.slice vo vn vc) tk.c) := hO2.mono (by omega)
  have HZ : Hid (Bx (w2.alloc (.cells #[.int .i64 0, .string ⟨#[]⟩, .int .i64 0, .int .i64 0, .int .i64 0, .string ⟨#[]⟩, .slice none 0 0, .string ⟨#[]⟩, .int .i64 0, .int .i64 0, .int .i64 0] 29)) w2.heap.size 29 zrq) := Bx.new w2 _ zrq
  have HL : Hid ((rqL tk (.slice vo vn vc)).length = zrq.length) := rfl
  have HN := hide (one_rqL tk (.slice vo vn vc) (by rfl))
  have HT : Hid (RowT Try.prog 29 (rqL tk (.slice vo vn vc)).length) := rowT_req
  clear hO2 hA2 hk2 hs1
  go_upto_region 3 with ((with_reducible refine wl_store_bx HZ.out HL.out HN.out HT.out ?_ ?_ ?_); rfl; rfl; intro w3 HB3 HK3)
  have k3 : Kept [] w2 w3 := (Kept.refl [] w2).trans (((Kept.refl [w2.heap.size] w2).alloc _).trans HK3.out (by simp)) (by intro i hi; simp at hi; right; omega)
  have HA3 := hide (HA2.out.kept k3 (by simp) (by simp))
  have HR3 := hide (HR2.out.kept k3 (by simp))
  have HK03 := hide (HK2.out.trans k3 (by simp))
  have HO3 := hide (HO2.out.newer (((Kept.refl [w2.heap.size] w2).alloc _).trans HK3.out (by simp)))
  have cE := dr_end W.heap.size W.heap.size w3 st HA3.out
  have HCE := hide cE
  clear k3 HK3 cE
  generalize endE st = e at HCE HD
  by_cases hee : e = 0
  · subst hee
    have HQ : Hid (res = (tk, 0)) := by show _ = _; rw [HD.out, if_pos rfl]
    go_wp2_with (first | (go_at_call 37; refine HCE.out.mono ?_; clear HCE; rintro _ W0 ⟨rfl, hW0⟩; obtain rfl := hW0.symm) | ((with_reducible refine wl_load_bx HB3.out HT.out ?_ ?_); rfl) | ((with_reducible refine wl_store_bx HR3.out HL.out HN.out HT.out ?_ ?_ ?_); rfl; rfl; intro wz HBz HKz))
    refine bodyPost_ret (bx_result2 (by rfl) _ (by rfl) HBz.out HT.out) rfl ?_
    rw [HQ.out]
    exact ⟨_, rfl, (show OwnC _ _ _ _ from HKz.out.ownsRow HO3.out (fun k hk hm => by have := (World.ownsRow.lt HO3.out k hk).1; simp at hm; omega)).mono (by omega), HK03.out.trans HKz.out (by simp)⟩
  · have HQ : Hid (res = (rq0, e)) := by show _ = _; rw [HD.out, if_neg hee]
    have heb : (e != 0) = true := by simp [hee]
    have HOy := hide (one_rqL rq0 (.slice none 0 0) (by rfl))
    have HTy : Hid (RowT Try.prog 29 (rqL rq0 (.slice none 0 0)).length) := rowT_req
    have HLy : Hid ((rqL rq0 (.slice none 0 0)).length = zrq.length) := rfl
    clear hee
    go_wp2_with (first | (go_at_call 37; refine HCE.out.mono ?_; clear HCE; rintro _ W0 ⟨rfl, hW0⟩; obtain rfl := hW0.symm) | ((with_reducible refine wl_store_bx HR3.out HLy.out HOy.out HTy.out ?_ ?_ ?_); rfl; rfl; intro wz HBz HKz))
    refine bodyPost_ret (bx_result2 (by rfl) _ (by rfl) HBz.out HTy.out) rfl ?_
    rw [HQ.out]
    exact ⟨_, rfl, OwnC.nil _ _, HK03.out.trans HKz.out (by simp)⟩

set_option maxHeartbeats 4000000 in
theorem dDecV_call (w : World) (ao : Option Addr) (n c : Nat) (l : List Int) (hS : Sl w ao n c l) (hn : n ≤ 1000000000) (ho : Oct l) :
    Calls Try.prog 19 #[.slice ao n c] w (DecV w (decV l)) := by
  obtain ⟨W, hW⟩ : ∃ W, W = w.alloc (.cells #[.int .i64 0, .int .i64 0, .int .i64 0, .string ⟨#[]⟩, .int .u64 0, .slice none 0 0, .int .i64 0] 43) := ⟨_, rfl⟩
  have k0 : Kept [] w W := by rw [hW]; exact (Kept.refl _ _).alloc _
  have HW := hide hW
  have HR : Hid (Bx W w.heap.size 43 zvt) := by rw [hW]; exact Bx.new w _ zvt
  have hlt := HR.out.lt
  have k1 : Kept [] W (W.alloc (.cells #[.slice ao n c, .int .i64 0] 71)) := (Kept.refl _ _).alloc _
  have hA1 := atR_new W ao n c l (Sl.kept k0 hS (by simp)) hn ho
  have cT := hide (dheard_call W.heap.size W.heap.size _ (l, 0) hA1)
  have HK1 := hide (k0.trans k1 (by simp))
  have HR1 := hide (HR.out.kept k1 (by simp))
  have HTK : Hid (heardV (l, 0) = if (verP eyeP (l, 0) vt0).2.2 = 0 then (verP eyeP (l, 0) vt0).1 else vt0) := rfl
  have HD : Hid (decV l = if endE (verP eyeP (l, 0) vt0).2 = 0 then (heardV (l, 0), 0) else (vt0, endE (verP eyeP (l, 0) vt0).2)) := rfl
  generalize decV l = res at HD ⊢
  generalize heardV (l, 0) = tk at HTK HD
  generalize verP eyeP (l, 0) vt0 = pp at cT HTK HD
  obtain ⟨q, st⟩ := pp
  simp only at cT HTK HD
  clear hW k0 k1 hA1 hS hn ho
  go_enter Try.func19, Try.ntmps19
  go_upto_region 1 with fail
  rw [← HW.out]
  go_wp2_with fail
  refine cT.out.mono ?_
  clear cT
  rintro _ w2 ⟨v2, rfl, hO2, hA2, hk2⟩
  obtain ⟨vo, vn, vc, rfl⟩ := koO_bare hO2
  rw [← HTK.out] at hO2 ⊢
  have hs1 : w.heap.size < (W.alloc (.cells #[.slice ao n c, .int .i64 0] 71)).heap.size := by simp; omega
  have HA2 := hide hA2
  have HK2 : Hid (Kept [] w w2) := HK1.out.trans hk2 (by intro i hi; simp at hi; right; omega)
  have HR2 := hide (HR1.out.kept hk2 (by simp; omega))
  have HO2 : Hid (KoO (w.heap.size + 1) w2 (.slice vo vn vc) tk.k) := hO2.mono (by omega)
  have HZ : Hid (Bx (w2.alloc (.cells #[.int .i64 0, .int .i64 0, .int .i64 0, .string ⟨#[]⟩, .int .u64 0, .slice none 0 0, .int .i64 0] 43)) w2.heap.size 43 zvt) := Bx.new w2 _ zvt
  have HL : Hid ((vtL tk (.slice vo vn vc)).length = zvt.length) := rfl
  have HN := hide (one_vtL tk (.slice vo vn vc) (by rfl))
  have HT : Hid (RowT Try.prog 43 (vtL tk (.slice vo vn vc)).length) := rowT_ver
  clear hO2 hA2 hk2 hs1
  go_upto_region 3 with ((with_reducible refine wl_store_bx HZ.out HL.out HN.out HT.out ?_ ?_ ?_); rfl; rfl; intro w3 HB3 HK3)
  have k3 : Kept [] w2 w3 := (Kept.refl [] w2).trans (((Kept.refl [w2.heap.size] w2).alloc _).trans HK3.out (by simp)) (by intro i hi; simp at hi; right; omega)
  have HA3 := hide (HA2.out.kept k3 (by simp) (by simp))
  have HR3 := hide (HR2.out.kept k3 (by simp))
  have HK03 := hide (HK2.out.trans k3 (by simp))
  have HO3 := hide (HO2.out.newer (((Kept.refl [w2.heap.size] w2).alloc _).trans HK3.out (by simp)))
  have cE := dr_end W.heap.size W.heap.size w3 st HA3.out
  have HCE := hide cE
  clear k3 HK3 cE
  generalize endE st = e at HCE HD
  by_cases hee : e = 0
  · subst hee
    have HQ : Hid (res = (tk, 0)) := by show _ = _; rw [HD.out, if_pos rfl]
    go_wp2_with (first | (go_at_call 37; refine HCE.out.mono ?_; clear HCE; rintro _ W0 ⟨rfl, hW0⟩; obtain rfl := hW0.symm) | ((with_reducible refine wl_load_bx HB3.out HT.out ?_ ?_); rfl) | ((with_reducible refine wl_store_bx HR3.out HL.out HN.out HT.out ?_ ?_ ?_); rfl; rfl; intro wz HBz HKz))
    refine bodyPost_ret (bx_result2 (by rfl) _ (by rfl) HBz.out HT.out) rfl ?_
    rw [HQ.out]
    exact ⟨_, rfl, (HO3.out.off HKz.out (by simp)).mono (by omega), HK03.out.trans HKz.out (by simp)⟩
  · have HQ : Hid (res = (vt0, e)) := by show _ = _; rw [HD.out, if_neg hee]
    have heb : (e != 0) = true := by simp [hee]
    have HOy := hide (one_vtL vt0 (.slice none 0 0) (by rfl))
    have HTy : Hid (RowT Try.prog 43 (vtL vt0 (.slice none 0 0)).length) := rowT_ver
    have HLy : Hid ((vtL vt0 (.slice none 0 0)).length = zvt.length) := rfl
    clear hee
    go_wp2_with (first | (go_at_call 37; refine HCE.out.mono ?_; clear HCE; rintro _ W0 ⟨rfl, hW0⟩; obtain rfl := hW0.symm) | ((with_reducible refine wl_store_bx HR3.out HLy.out HOy.out HTy.out ?_ ?_ ?_); rfl; rfl; intro wz HBz HKz))
    refine bodyPost_ret (bx_result2 (by rfl) _ (by rfl) HBz.out HTy.out) rfl ?_
    rw [HQ.out]
    exact ⟨_, rfl, KoO.nil _ _, HK03.out.trans HKz.out (by simp)⟩

end Go.Proofs.Ytlgacmmofimlmaa
