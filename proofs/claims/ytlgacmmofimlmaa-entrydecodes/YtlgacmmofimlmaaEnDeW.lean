/-
  EntryDecodes: the walk. (Written by mk/mkedec.py.)
-/
import Derived.Test.YtlgacmmofimlmaaEnDr7
import Derived.Test.YtlgacmmofimlmaaF17
import Derived.Test.YtlgacmmofimlmaaBoxGd
import Derived.Test.YtlgacmmofimlmaaF14
namespace Go.Proofs.Ytlgacmmofimlmaa
open Go.RowKit

theorem kept_boolD {f : FuncId} {a : Array Value} {w : World} {b c : Bool} (h : Calls Try.prog f a w fun e w' => e = .returned (.bool b) ∧ Kept [] w w') (e : b = c) : Calls Try.prog f a w fun e w' => e = .returned (.bool c) ∧ Kept [] w w' := e ▸ h

set_option maxHeartbeats 8000000 in
set_option maxRecDepth 100000 in
theorem dec_walk (w : World) (ao : Option Addr) (n c : Nat) (l : List Int) (hS : Sl w ao n c l) (ho : Oct l) :
    Calls Try.prog 5 #[.slice ao n c] w fun r w' => r = .returned (.bool true) ∧ Kept [] w w' := by
  have HO := hide ho
  have HS := hide hS
  have hnm := hS.2.2.1
  have hnc := hS.2.1
  unfold maxLen at hnm
  have cA := hide (awake_call w)
  clear hS ho
  go_enter Try.func5, Try.ntmps5
  go_upto_region 3 with (go_at_call 9; refine cA.out.mono ?_; rintro _ w1 ⟨rfl, hk1⟩; have HK1 := hide hk1; clear hk1)
  have HS1 := hide (Sl.kept HK1.out HS.out (by simp))
  by_cases hn : 20000 < n
  · have hn' : (20000 : Int) < n := by omega
    go_wp2_with fail
    go_ret
    exact ⟨rfl, HK1.out⟩
  have hn' : ¬ (20000 : Int) < n := by omega
  have cR := fun (W2 : World) (k : Kept [] w1 W2) => dec_call W2 ao n c l (Sl.kept k HS1.out (by simp)) (by omega) HO.out
  have cQ := fun (W2 : World) (k : Kept [] w1 W2) => dDec_call W2 ao n c l (Sl.kept k HS1.out (by simp)) (by omega) HO.out
  have cV := fun (W2 : World) (k : Kept [] w1 W2) => decVd_call W2 ao n c l (Sl.kept k HS1.out (by simp)) (by omega) HO.out
  have cW := fun (W2 : World) (k : Kept [] w1 W2) => dDecV_call W2 ao n c l (Sl.kept k HS1.out (by simp)) (by omega) HO.out
  generalize decR l = dr at cR cQ
  generalize decV l = dv at cV cW
  obtain ⟨q, e⟩ := dr
  obtain ⟨v, f⟩ := dv
  have CR := hide cR
  have CQ := hide cQ
  have CV := hide cV
  have CW := hide cW
  have HY1 : Hid (Kept [] w1 w1) := Kept.refl _ _
  clear cR cQ cV cW
  go_upto_region 6 with (first | (go_at_call 11; refine (CR.out _ HY1.out).mono ?_; clear CR; rintro _ w2 ⟨v2, rfl, hO, hk⟩; obtain ⟨o2, n2, c2, rfl⟩ := own_bare hO; have HO2 := hide hO; have HK2 := hide hk; have HZ : Hid (Bx (w2.alloc (.cells #[.int .i64 0, .string ⟨#[]⟩, .int .i64 0, .int .i64 0, .int .i64 0, .string ⟨#[]⟩, .slice none 0 0, .string ⟨#[]⟩, .int .i64 0, .int .i64 0, .int .i64 0] 29)) w2.heap.size 29 zrq) := (Bx.new w2 _ zrq); have HLz : Hid ((rqL q (.slice o2 n2 c2)).length = zrq.length) := rfl; have HNz := hide (one_rqL q (.slice o2 n2 c2) (by rfl)); have HT2 : Hid (RowT Try.prog 29 (rqL q (.slice o2 n2 c2)).length) := rowT_req; clear hO hk) | ((with_reducible refine wl_store_bx HZ.out HLz.out HNz.out HT2.out ?_ ?_ ?_); rfl; rfl; intro w3 HB3 HKs))
  have k3 : Kept [] w2 w3 := ((Kept.refl [] w2).alloc _).trans HKs.out (by simp)
  have HY3 := hide (HY1.out.trans (HK2.out.trans k3 (by simp)) (by simp))
  have HP3 := hide (HO2.out.newer (((Kept.refl [w2.heap.size] w2).alloc _).trans HKs.out (by simp)))
  have HD3 := hide (HK2.out.trans k3 (by simp))
  clear HZ HLz HNz HKs k3 HO2 HK2
  go_upto_region 7 with (first | (go_at_call 17; refine (CQ.out _ HY3.out).mono ?_; clear CQ; rintro _ w4 ⟨v4, rfl, hO, hk⟩; obtain ⟨o4, n4, c4, rfl⟩ := own_bare hO; have HO4 := hide hO; have HK4 := hide hk; have HZ : Hid (Bx (w4.alloc (.cells #[.int .i64 0, .string ⟨#[]⟩, .int .i64 0, .int .i64 0, .int .i64 0, .string ⟨#[]⟩, .slice none 0 0, .string ⟨#[]⟩, .int .i64 0, .int .i64 0, .int .i64 0] 29)) w4.heap.size 29 zrq) := (Bx.new w4 _ zrq); have HLz : Hid ((rqL q (.slice o4 n4 c4)).length = zrq.length) := rfl; have HNz := hide (one_rqL q (.slice o4 n4 c4) (by rfl)); have HT4 : Hid (RowT Try.prog 29 (rqL q (.slice o4 n4 c4)).length) := rowT_req; clear hO hk) | ((with_reducible refine wl_store_bx HZ.out HLz.out HNz.out HT4.out ?_ ?_ ?_); rfl; rfl; intro w5 HB5 HKs))
  have k5 : Kept [] w4 w5 := ((Kept.refl [] w4).alloc _).trans HKs.out (by simp)
  have HY5 := hide (HY3.out.trans (HK4.out.trans k5 (by simp)) (by simp))
  have HP5 := hide (HO4.out.newer (((Kept.refl [w4.heap.size] w4).alloc _).trans HKs.out (by simp)))
  have HD5 := hide (HK4.out.trans k5 (by simp))
  clear HZ HLz HNz HKs k5 HO4 HK4
  go_upto_region 8 with (first | (go_at_call 18; refine (CV.out _ HY5.out).mono ?_; clear CV; rintro _ w6 ⟨v6, rfl, hO, hk⟩; obtain ⟨o6, n6, c6, rfl⟩ := koO_bare hO; have HO6 := hide hO; have HK6 := hide hk; have HZ : Hid (Bx (w6.alloc (.cells #[.int .i64 0, .int .i64 0, .int .i64 0, .string ⟨#[]⟩, .int .u64 0, .slice none 0 0, .int .i64 0] 43)) w6.heap.size 43 zvt) := (Bx.new w6 _ zvt); have HLz : Hid ((vtL v (.slice o6 n6 c6)).length = zvt.length) := rfl; have HNz := hide (one_vtL v (.slice o6 n6 c6) (by rfl)); have HT6 : Hid (RowT Try.prog 43 (vtL v (.slice o6 n6 c6)).length) := rowT_ver; clear hO hk) | ((with_reducible refine wl_store_bx HZ.out HLz.out HNz.out HT6.out ?_ ?_ ?_); rfl; rfl; intro w7 HB7 HKs))
  have k7 : Kept [] w6 w7 := ((Kept.refl [] w6).alloc _).trans HKs.out (by simp)
  have HY7 := hide (HY5.out.trans (HK6.out.trans k7 (by simp)) (by simp))
  have HP7 := hide (HO6.out.newer (((Kept.refl [w6.heap.size] w6).alloc _).trans HKs.out (by simp)))
  have HD7 := hide (HK6.out.trans k7 (by simp))
  clear HZ HLz HNz HKs k7 HO6 HK6
  go_upto_region 9 with (first | (go_at_call 19; refine (CW.out _ HY7.out).mono ?_; clear CW; rintro _ w8 ⟨v8, rfl, hO, hk⟩; obtain ⟨o8, n8, c8, rfl⟩ := koO_bare hO; have HO8 := hide hO; have HK8 := hide hk; have HZ : Hid (Bx (w8.alloc (.cells #[.int .i64 0, .int .i64 0, .int .i64 0, .string ⟨#[]⟩, .int .u64 0, .slice none 0 0, .int .i64 0] 43)) w8.heap.size 43 zvt) := (Bx.new w8 _ zvt); have HLz : Hid ((vtL v (.slice o8 n8 c8)).length = zvt.length) := rfl; have HNz := hide (one_vtL v (.slice o8 n8 c8) (by rfl)); have HT8 : Hid (RowT Try.prog 43 (vtL v (.slice o8 n8 c8)).length) := rowT_ver; clear hO hk) | ((with_reducible refine wl_store_bx HZ.out HLz.out HNz.out HT8.out ?_ ?_ ?_); rfl; rfl; intro w9 HB9 HKs))
  have k9 : Kept [] w8 w9 := ((Kept.refl [] w8).alloc _).trans HKs.out (by simp)
  have HY9 := hide (HY7.out.trans (HK8.out.trans k9 (by simp)) (by simp))
  have HP9 := hide (HO8.out.newer (((Kept.refl [w8.heap.size] w8).alloc _).trans HKs.out (by simp)))
  have HD9 := hide (HK8.out.trans k9 (by simp))
  clear HZ HLz HNz HKs k9 HO8 HK8
  have HK39 := hide ((HD5.out.trans HD7.out (by simp)).trans HD9.out (by simp))
  have HK59 := hide (HD7.out.trans HD9.out (by simp))
  have B1 := hide (HB3.out.kept HK39.out (by simp))
  have B2 := hide (HB5.out.kept HK59.out (by simp))
  have B3 := hide (HB7.out.kept HD9.out (by simp))
  obtain ⟨a1, m1, d1, e1, s1, _⟩ := (HP3.out).chV
  obtain ⟨rfl, rfl, rfl⟩ : a1 = o2 ∧ m1 = n2 ∧ d1 = c2 := by injection e1 with h1 h2 h3; exact ⟨h1.symm, h2.symm, h3.symm⟩
  obtain ⟨a2, m2, d2, e2, s2, _⟩ := (HP5.out).chV
  obtain ⟨rfl, rfl, rfl⟩ : a2 = o4 ∧ m2 = n4 ∧ d2 = c4 := by injection e2 with h1 h2 h3; exact ⟨h1.symm, h2.symm, h3.symm⟩
  have cS : Calls Try.prog 20 #[.agg (rqL q (.slice a1 m1 d1)).toArray, .agg (rqL q (.slice a2 m2 d2)).toArray] w9 fun e w' => e = .returned (.bool true) ∧ Kept [] w9 w' := kept_boolD (rqdoc_call w9 q q _ _ _ _ _ _ (s1.kept HK39.out (by simp)) (s2.kept HK59.out (by simp))) (decide_eq_true rfl)
  have cL : ∀ W2, Kept [] w9 W2 → Calls Try.prog 21 #[.agg (vtL v (.slice o6 n6 c6)).toArray, .agg (vtL v (.slice o8 n8 c8)).toArray] W2 fun e w' => e = .returned (.bool true) ∧ Kept [] W2 w' := fun W2 k => kept_boolD (vtdoc_call W2 v v _ _ ((HP7.out.ko.kept HD9.out).kept k) (HP9.out.ko.kept k)) (decide_eq_true rfl)
  have HCS := hide cS
  have HCL := hide cL
  have he : (e == e) = true := by simp
  have hf : (f == f) = true := by simp
  clear cS cL e1 e2 s1 s2
  go_wp2_with (first | ((with_reducible refine wl_load_bxg B1.out HT2.out ?_ ?_ ?_); rfl; rfl) | ((with_reducible refine wl_load_bxg B2.out HT4.out ?_ ?_ ?_); rfl; rfl) | ((with_reducible refine wl_load_bxg (B3.out.kept HKA.out (by simp)) HT6.out ?_ ?_ ?_); rfl; rfl) | ((with_reducible refine wl_load_bxg (HB9.out.kept HKA.out (by simp)) HT8.out ?_ ?_ ?_); rfl; rfl) | (go_at_call 20; refine HCS.out.mono ?_; clear HCS; rintro _ wA ⟨rfl, hkA⟩; have HKA := hide hkA; clear hkA) | (go_at_call 21; refine (HCL.out _ HKA.out).mono ?_; clear HCL; rintro _ wB ⟨rfl, hkB⟩; have HKB := hide hkB; clear hkB))
  go_ret
  exact ⟨rfl, ((HK1.out.trans HY9.out (by simp)).trans HKA.out (by simp)).trans HKB.out (by simp)⟩

end Go.Proofs.Ytlgacmmofimlmaa
