/-
  EntryKnown: the walk.
-/
import Derived.Test.YtlgacmmofimlmaaEnAwk
namespace Go.Proofs.Ytlgacmmofimlmaa
open Go.RowKit

def rqHead : Rq := ⟨3, [], 1, 2, 0, [], [], [], 0, 0, 0⟩
def rqBadH : Rq := ⟨3, [], 0, 0, 0, [], [], [97], 0, 0, 0⟩

theorem enc_noop : putS ([], 0) rq0 = ([0], 0) := by decide +kernel
theorem enc_head : putS ([], 0) rqHead = ([3, 1, 2], 0) := by decide +kernel
theorem enc_badh : putS ([], 0) rqBadH = ([], 1) := by decide +kernel
theorem dec_none : decR [] = (rq0, 2) := by decide +kernel
theorem dec_eight : decR [8] = (rq0, 4) := by decide +kernel

set_option maxHeartbeats 8000000 in
theorem known_walk (w : World) : Calls Try.prog 3 #[] w fun r w' => r = .returned (.bool true) ∧ Kept [] w w' := by
  have cA := hide (awake_call w)
  go_enter Try.func3, Try.ntmps3
  go_wp2_with fail
  refine cA.out.mono ?_
  clear cA
  rintro _ w1 ⟨rfl, hk1⟩
  have HK1 := hide hk1
  clear hk1
  have cE := hide (enc_call w1 ⟨rq0, none, 0, 0⟩ (rqHy_lit w1 rq0 rfl (by simp [rq0]) (by simp [rq0]) (by simp [rq0])))
  rw [show (⟨rq0, none, 0, 0⟩ : Rm).r = rq0 from rfl, enc_noop] at cE
  go_wp2_with fail
  refine cE.out.mono ?_
  clear cE
  rintro _ w2 ⟨a2, c2, rfl, hS2, hb2, hk2⟩
  have HS2 := hide hS2
  have HK2 := hide (HK1.out.trans hk2 (by simp))
  clear hS2 hb2 hk2
  have cE := hide (enc_call w2 ⟨rqHead, none, 0, 0⟩ (rqHy_lit w2 rqHead rfl (by simp [rqHead]) (by simp [rqHead]) (by simp [rqHead])))
  rw [show (⟨rqHead, none, 0, 0⟩ : Rm).r = rqHead from rfl, enc_head] at cE
  go_wp2_with fail
  refine cE.out.mono ?_
  clear cE
  rintro _ w3 ⟨a3, c3, rfl, hS3, hb3, hk3⟩
  have HS3 := hide hS3
  have HS2' := hide (Sl.kept hk3 HS2.out (by simp))
  have HK3 := hide (HK2.out.trans hk3 (by simp))
  clear hS3 hb3 hk3
  go_wp2_with fail
  have cD := dec_call w3 none 0 0 [] (Sl.nil w3) (by omega) (by intro x hx; simp at hx)
  rw [dec_none] at cD
  refine cD.mono ?_
  clear cD
  rintro _ w4 ⟨v, rfl, hO, hk4⟩
  obtain ⟨vo, vn, vc, rfl⟩ := own_bare hO
  have HB4 : Hid (Bx (w4.alloc (.cells #[.int .i64 0, .string ⟨#[]⟩, .int .i64 0, .int .i64 0, .int .i64 0, .string ⟨#[]⟩, .slice none 0 0, .string ⟨#[]⟩, .int .i64 0, .int .i64 0, .int .i64 0] 29)) w4.heap.size 29 zrq) := Bx.new w4 _ zrq
  have HL : Hid ((rqL rq0 (.slice vo vn vc)).length = zrq.length) := rfl
  have HO := hide (one_rqL rq0 (.slice vo vn vc) (by rfl))
  have HT : Hid (RowT Try.prog 29 (rqL rq0 (.slice vo vn vc)).length) := rowT_req
  have HK4 := hide hk4
  clear hO hk4
  go_upto_region 6 with ((with_reducible refine wl_store_bx HB4.out HL.out HO.out HT.out ?_ ?_ ?_); rfl; rfl; intro w5 HB5 HK5)
  have k5 : Kept [] w3 w5 := HK4.out.trans (((Kept.refl [] w4).alloc _).trans HK5.out (by simp)) (by simp)
  have HS25 := hide (Sl.kept k5 HS2'.out (by simp))
  have HS35 := hide (Sl.kept k5 HS3.out (by simp))
  have HK5' := hide (HK3.out.trans k5 (by simp))
  clear k5
  go_wp2_with fail
  have cD := dec_call _ (some ⟨w5.heap.size, 0, none⟩) 1 1 [8] (Sl.lit (w := w5) (vs := #[.int .u8 8]) (t := 5) (mk := (0, 0)) rfl rfl (by decide)) (by omega) (by intro x hx; simp at hx; omega)
  rw [dec_eight] at cD
  refine cD.mono ?_
  clear cD
  rintro _ w6 ⟨v6, rfl, hO6, hk6⟩
  obtain ⟨vo6, vn6, vc6, rfl⟩ := own_bare hO6
  have HB6 : Hid (Bx (w6.alloc (.cells #[.int .i64 0, .string ⟨#[]⟩, .int .i64 0, .int .i64 0, .int .i64 0, .string ⟨#[]⟩, .slice none 0 0, .string ⟨#[]⟩, .int .i64 0, .int .i64 0, .int .i64 0] 29)) w6.heap.size 29 zrq) := Bx.new w6 _ zrq
  have HL6 : Hid ((rqL rq0 (.slice vo6 vn6 vc6)).length = zrq.length) := rfl
  have HO6 := hide (one_rqL rq0 (.slice vo6 vn6 vc6) (by rfl))
  have HT6 : Hid (RowT Try.prog 29 (rqL rq0 (.slice vo6 vn6 vc6)).length) := rowT_req
  have k56 : Kept [] w5 w6 := ((Kept.refl [] w5).alloc _).trans hk6 (by simp)
  have HK56 := hide k56
  clear hO6 hk6 k56
  go_upto_region 7 with ((with_reducible refine wl_store_bx HB6.out HL6.out HO6.out HT6.out ?_ ?_ ?_); rfl; rfl; intro w7 HB7 HK7)
  have k7 : Kept [] w5 w7 := HK56.out.trans (((Kept.refl [] w6).alloc _).trans HK7.out (by simp)) (by simp)
  have HS27 := hide (Sl.kept k7 HS25.out (by simp))
  have HS37 := hide (Sl.kept k7 HS35.out (by simp))
  have HK7' := hide (HK5'.out.trans k7 (by simp))
  clear k7
  have cE := hide (enc_call w7 ⟨rqBadH, none, 0, 0⟩ (rqHy_lit w7 rqBadH rfl (by simp [rqBadH]) (by simp [rqBadH]) (by simp [rqBadH])))
  rw [show (⟨rqBadH, none, 0, 0⟩ : Rm).r = rqBadH from rfl, enc_badh] at cE
  go_wp2_with fail
  refine cE.out.mono ?_
  clear cE
  rintro _ w8 ⟨a8, c8, rfl, hS8, hb8, hk8⟩
  have HS28 := hide (Sl.kept hk8 HS27.out (by simp))
  have HS38 := hide (Sl.kept hk8 HS37.out (by simp))
  have HK8 := hide (HK7'.out.trans hk8 (by simp))
  clear hS8 hb8 hk8
  go_wp2_with fail
  refine (same_call _ a2 (some ⟨w8.heap.size, 0, none⟩) 1 c2 1 1 [0] [0] (Sl.kept ((Kept.refl [] w8).alloc _) HS28.out (by simp)) (Sl.lit rfl rfl (by decide))).mono ?_
  rw [decide_eq_true rfl]
  rintro _ w9 ⟨rfl, hk9⟩
  have k9 : Kept [] w8 w9 := ((Kept.refl [] w8).alloc _).trans hk9 (by simp)
  have HS39 := hide (Sl.kept k9 HS38.out (by simp))
  have HK9 := hide (HK8.out.trans k9 (by simp))
  clear hk9 k9
  go_wp2_with fail
  refine (same_call _ a3 (some ⟨w9.heap.size, 0, none⟩) 3 c3 3 3 [3, 1, 2] [3, 1, 2] (Sl.kept ((Kept.refl [] w9).alloc _) HS39.out (by simp)) (Sl.lit rfl rfl (by decide))).mono ?_
  rw [decide_eq_true rfl]
  rintro _ w10 ⟨rfl, hk10⟩
  have HK10 := hide (HK9.out.trans (((Kept.refl [] w9).alloc _).trans hk10 (by simp)) (by simp))
  clear hk10
  go_wp2_with fail
  go_ret
  exact ⟨rfl, HK10.out⟩

end Go.Proofs.Ytlgacmmofimlmaa
