/-
  awake: a request is written and read.
-/
import Derived.Test.YtlgacmmofimlmabF13
namespace Go.Proofs.Ytlgacmmofimlmab
open Go.RowKit

theorem rqHy_lit (w : World) (r : Rq) (hc : r.c = []) (hn : r.n.length ≤ 1000) (hf : r.f.length ≤ 1000) (hp : r.p.length ≤ 1000) : RqHy [] w ⟨r, none, 0, 0⟩ := by
  refine ⟨?_, fun _ => rfl, fun h => by simp at h, by show r.n.length ≤ _; omega, by show r.f.length ≤ _; omega, by show r.p.length ≤ _; omega, by show ∀ y ∈ r.c, _; rw [hc]; simp⟩
  show SlC w none 0 0 r.c
  rw [hc]
  exact ⟨rfl, Nat.le_refl _, Nat.zero_le _, fun i hi => by simp at hi⟩

def rqOpen : Rq := ⟨1, [99], 0, 0, 0, [], [], [], 0, 0, 0⟩

theorem enc_open : putS ([], 0) rqOpen = ([1, 1, 99], 0) := by decide +kernel
theorem dec_open : decR [1, 1, 99] = (rqOpen, 0) := by decide +kernel

set_option maxHeartbeats 4000000 in
theorem awake_call (w : World) : Calls Try.prog 5 #[] w fun r w' => r = .returned (.bool true) ∧ Kept [] w w' := by
  have cE := enc_call w ⟨rqOpen, none, 0, 0⟩ (rqHy_lit w rqOpen rfl (by simp [rqOpen]) (by simp [rqOpen]) (by simp [rqOpen]))
  rw [show (⟨rqOpen, none, 0, 0⟩ : Rm).r = rqOpen from rfl, enc_open] at cE
  have HE := hide cE
  clear cE
  go_enter Try.func5, Try.ntmps5
  go_wp2_with fail
  refine HE.out.mono ?_
  rintro _ w1 ⟨a, c, rfl, hS, hb, hk⟩
  have HS := hide hS
  have HK1 := hide hk
  clear hS hb hk
  go_wp2_with fail
  have cD := dec_call w1 a 3 c [1, 1, 99] HS.out (by omega) (by intro x hx; simp at hx; omega)
  rw [dec_open] at cD
  refine cD.mono ?_
  clear cD
  rintro _ w2 ⟨v, rfl, hO, hk2⟩
  obtain ⟨vo, vn, vc, rfl⟩ := own_bare hO
  have HB2 : Hid (Bx (w2.alloc (.cells #[.int .i64 0, .string ⟨#[]⟩, .int .i64 0, .int .i64 0, .int .i64 0, .string ⟨#[]⟩, .slice none 0 0, .string ⟨#[]⟩, .int .i64 0, .int .i64 0, .int .i64 0] 34)) w2.heap.size 34 zrq) := Bx.new w2 _ zrq
  have HL : Hid ((rqL rqOpen (.slice vo vn vc)).length = zrq.length) := rfl
  have HO := hide (one_rqL rqOpen (.slice vo vn vc) (by rfl))
  have HT : Hid (RowT Try.prog 34 (rqL rqOpen (.slice vo vn vc)).length) := rowT_req
  have HK2 := hide (HK1.out.trans hk2 (by simp))
  have HS2 := hide (Sl.kept hk2 HS.out (by simp))
  clear hO hk2
  go_upto_region 3 with ((with_reducible refine wl_store_bx HB2.out HL.out HO.out HT.out ?_ ?_ ?_); rfl; rfl; intro w3 HB3 HK3)
  have k3 : Kept [] w2 w3 := ((Kept.refl [] w2).alloc _).trans HK3.out (by simp)
  have HK3' := hide (HK2.out.trans k3 (by simp))
  have HS3 := hide (Sl.kept k3 HS2.out (by simp))
  have hlt := HB3.out.lt
  clear k3
  go_wp2_with fail
  refine (same_call _ a (some ⟨w3.heap.size, 0, none⟩) 3 c 3 3 [1, 1, 99] [1, 1, 99] (Sl.kept ((Kept.refl [] w3).alloc _) HS3.out (by simp)) (Sl.lit rfl rfl (by decide))).mono ?_
  rw [decide_eq_true rfl]
  rintro _ w4 ⟨rfl, hk4⟩
  have k4 : Kept [] w3 w4 := ((Kept.refl [] w3).alloc _).trans hk4 (by simp)
  have HB4 := HB3.out.kept k4 (by simp)
  have b0 : w4.cell? ⟨w2.heap.size, 0, none⟩ = some (.int .i64 1) := HB4.cell 0 rfl
  have b1 : w4.cell? ⟨w2.heap.size, 1, none⟩ = some (.string ⟨#[99]⟩) := HB4.cell 1 rfl
  have HK4 := hide (HK3'.out.trans k4 (by simp))
  clear k4 HB4 hk4
  go_wp2_with fail
  go_ret
  exact ⟨rfl, HK4.out⟩

end Go.Proofs.Ytlgacmmofimlmab
