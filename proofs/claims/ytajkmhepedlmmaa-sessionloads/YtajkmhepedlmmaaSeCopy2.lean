/-
  Copies in memory of their own: copyVerdict, copySession, copyAll of sessions.
-/
import Derived.Test.YtajkmhepedlmmaaSeCopy
import Derived.Deep.Cut
namespace Go.Proofs.Ytajkmhepedlmmaa
open Go.RowKit

set_option maxHeartbeats 4000000 in
set_option maxRecDepth 100000 in
theorem copyVerdict_call (w : World) (v : Vt) (u : Value) (hu : KoV w u v.k) (hv : okV v) :
    Calls Try.prog 36 #[vtV v u] w fun e w' => ∃ u', e = .returned (vtV v u') ∧ KoO w.heap.size w' u' v.k ∧ Kept [] w w' := by
  obtain ⟨ao, n, c, K, rfl, hS, hcom, _⟩ := hu
  have hnl : n ≤ 2513169434843 := by have h1 := hv.2.1; rw [← hcom] at h1; have h2 := hS.1; simp at h1; omega
  obtain ⟨W1, hW1⟩ : ∃ W1, W1 = (w.alloc (.cells #[.int .i64 v.c, .int .i64 v.s, .int .i64 v.r, .string (str v.p), .int .u64 v.d, .slice ao n c, .int .i64 v.m] 31)).alloc (.cells #[.int .i64 0, .int .i64 0, .int .i64 0, .string ⟨#[]⟩, .int .u64 0, .slice none 0 0, .int .i64 0] 31) := ⟨_, rfl⟩
  have hK0 : Kept [] w W1 := by rw [hW1]; exact ((Kept.refl _ _).alloc _).alloc _
  have hL := lay2 w #[.int .i64 v.c, .int .i64 v.s, .int .i64 v.r, .string (str v.p), .int .u64 v.d, .slice ao n c, .int .i64 v.m] #[.int .i64 0, .int .i64 0, .int .i64 0, .string ⟨#[]⟩, .int .u64 0, .slice none 0 0, .int .i64 0] 31
  rw [← hW1] at hL
  have HL := hide hL
  have HK0 := hide hK0
  have cC := strClone_call v.p W1 (by have := hv.1; omega)
  have cD := fun W (hk : Kept [] w W) => copyCommits_call W ao n c K v.k (hS.kept hk) hcom hnl hv.2.2
  unfold vtV
  clear hv hL hK0 hS hcom hnl
  go_enter Try.func36, Try.ntmps36
  go_wp2_with fail
  rw [← hW1]
  clear hW1
  refine cC.mono ?_
  rintro _ w2 ⟨rfl, hK2⟩
  have HA : Hid (w2.heap[w.heap.size]? = some (.cells #[.int .i64 v.c, .int .i64 v.s, .int .i64 v.r, .string (str v.p), .int .u64 v.d, .slice ao n c, .int .i64 v.m] 31 (0, 0))) := hK2.at HL.out.1 (by simp)
  have HB : Hid (w2.heap[w.heap.size + 1]? = some (.cells #[.int .i64 0, .int .i64 0, .int .i64 0, .string ⟨#[]⟩, .int .u64 0, .slice none 0 0, .int .i64 0] 31 (0, 0))) := hK2.at HL.out.2 (by simp)
  obtain ⟨w3, hw3⟩ : ∃ w3, w3 = w2.setCell ⟨w.heap.size, 3, none⟩ (.string (str v.p)) := ⟨_, rfl⟩
  have HA3 : Hid (w3.heap[w.heap.size]? = some (.cells #[.int .i64 v.c, .int .i64 v.s, .int .i64 v.r, .string (str v.p), .int .u64 v.d, .slice ao n c, .int .i64 v.m] 31 (0, 0))) := by show _ = _; rw [hw3]; exact heap_setCell_same _ _ 3 _ _ _ HA.out
  have HB3 : Hid (w3.heap[w.heap.size + 1]? = some (.cells #[.int .i64 0, .int .i64 0, .int .i64 0, .string ⟨#[]⟩, .int .u64 0, .slice none 0 0, .int .i64 0] 31 (0, 0))) := by show _ = _; rw [hw3]; exact ((Kept.refl [w.heap.size] w2).setCell (by simp) _).at HB.out (by simp)
  have HK3 : Hid (Kept [] w w3) := by
    show Kept _ _ _
    rw [hw3]
    exact (HK0.out.trans hK2 (by simp)).setCell (.inr (Nat.le_refl _)) _
  have a3 := cell_inC (k := 3) HA.out rfl
  have f3 := froz3 HA.out 3
  have a5 : w3.cell? ⟨w.heap.size, 5, none⟩ = some (.slice ao n c) := cell_inC HA3.out rfl
  rw [hw3] at a5
  clear hK2
  go_wp2_with fail
  rw [← hw3]
  clear hw3
  refine (cD _ HK3.out).mono ?_
  rintro _ w4 ⟨v', rfl, hO, hK4⟩
  obtain ⟨a', n', c', rfl⟩ := hO.ko.one
  have hA4 := hK4.at HA3.out (by simp)
  have hB4 := hK4.at HB3.out (by simp)
  have q0 := cell_inC (k := 0) hA4 rfl
  have q1 := cell_inC (k := 1) hA4 rfl
  have q2 := cell_inC (k := 2) hA4 rfl
  have q3 := cell_inC (k := 3) hA4 rfl
  have q4 := cell_inC (k := 4) hA4 rfl
  have q5 := cell_inC (k := 5) hA4 rfl
  have q6 := cell_inC (k := 6) hA4 rfl
  have r0 := cell_inC (k := 0) hB4 rfl
  have r1 := cell_inC (k := 1) hB4 rfl
  have r2 := cell_inC (k := 2) hB4 rfl
  have r3 := cell_inC (k := 3) hB4 rfl
  have r4 := cell_inC (k := 4) hB4 rfl
  have r5 := cell_inC (k := 5) hB4 rfl
  have r6 := cell_inC (k := 6) hB4 rfl
  have fa5 := froz3 hA4 5
  have fb0 := froz3 hB4 0
  have fb1 := froz3 hB4 1
  have fb2 := froz3 hB4 2
  have fb3 := froz3 hB4 3
  have fb4 := froz3 hB4 4
  have fb5 := froz3 hB4 5
  have fb6 := froz3 hB4 6
  have HB4 := hide hB4
  have HA4 := hide hA4
  have HO := hide hO
  have HK4 := hide hK4
  clear hO hK4 hA4 hB4 a3 a5 f3 cC cD
  go_wp2_with fail
  have HKe : Hid (Kept [w.heap.size, w.heap.size + 1] w4 (setA7 (w4.setCell ⟨w.heap.size, 5, none⟩ (.slice a' n' c')) (w.heap.size + 1) (.int .i64 v.c) (.int .i64 v.s) (.int .i64 v.r) (.string (str v.p)) (.int .u64 v.d) (.slice a' n' c') (.int .i64 v.m))) := setA7_kept ((Kept.refl _ w4).setCell (by simp) _) (by simp) _ _ _ _ _ _ _
  refine bodyPost_ret (vt_res (by rfl) _ (by rfl) (setA7_at (((Kept.refl [w.heap.size] w4).setCell (by simp) _).at HB4.out (by simp)) rfl _ _ _ _ _ _ _) rfl) rfl ?_
  exact ⟨_, rfl, (HO.out.mono HK3.out.size).keep HKe.out (typed2 HA4.out HB4.out) (by decide) (by decide), (HK3.out.trans HK4.out (by simp)).trans HKe.out (fun k hk => .inr (by simp at hk; omega))⟩

set_option maxHeartbeats 8000000 in
set_option maxRecDepth 100000 in
theorem copySession_call (w : World) (x : Se) (u : Value) (hu : KoV w u x.v.k) (hx : okS x) :
    Calls Try.prog 40 #[seV x u] w fun e w' => ∃ u', e = .returned (seV x u') ∧ KoO w.heap.size w' u' x.v.k ∧ Kept [] w w' := by
  obtain ⟨ao, n, c, rfl⟩ := hu.one
  obtain ⟨W1, hW1⟩ : ∃ W1, W1 = (w.alloc (.cells #[.int .i64 x.i, .int .i64 x.q, .string (str x.n), .int .i64 x.v.c, .int .i64 x.v.s, .int .i64 x.v.r, .string (str x.v.p), .int .u64 x.v.d, .slice ao n c, .int .i64 x.v.m] 44)).alloc (.cells #[.int .i64 0, .int .i64 0, .string ⟨#[]⟩, .int .i64 0, .int .i64 0, .int .i64 0, .string ⟨#[]⟩, .int .u64 0, .slice none 0 0, .int .i64 0] 44) := ⟨_, rfl⟩
  have hK0 : Kept [] w W1 := by rw [hW1]; exact ((Kept.refl _ _).alloc _).alloc _
  have hL := lay2 w #[.int .i64 x.i, .int .i64 x.q, .string (str x.n), .int .i64 x.v.c, .int .i64 x.v.s, .int .i64 x.v.r, .string (str x.v.p), .int .u64 x.v.d, .slice ao n c, .int .i64 x.v.m] #[.int .i64 0, .int .i64 0, .string ⟨#[]⟩, .int .i64 0, .int .i64 0, .int .i64 0, .string ⟨#[]⟩, .int .u64 0, .slice none 0 0, .int .i64 0] 44
  rw [← hW1] at hL
  have HL := hide hL
  have HK0 := hide hK0
  have cC := strClone_call x.n W1 (by have := hx.1; omega)
  have cD := fun W (hk : Kept [] w W) => copyVerdict_call W x.v (.slice ao n c) (hu.kept hk) hx.2
  unfold vtV at cD
  unfold seV
  clear hx hL hK0 hu
  go_enter Try.func40, Try.ntmps40
  go_wp2_with fail
  rw [← hW1]
  clear hW1
  refine cC.mono ?_
  rintro _ w2 ⟨rfl, hK2⟩
  have HA : Hid (w2.heap[w.heap.size]? = some (.cells #[.int .i64 x.i, .int .i64 x.q, .string (str x.n), .int .i64 x.v.c, .int .i64 x.v.s, .int .i64 x.v.r, .string (str x.v.p), .int .u64 x.v.d, .slice ao n c, .int .i64 x.v.m] 44 (0, 0))) := hK2.at HL.out.1 (by simp)
  have HB : Hid (w2.heap[w.heap.size + 1]? = some (.cells #[.int .i64 0, .int .i64 0, .string ⟨#[]⟩, .int .i64 0, .int .i64 0, .int .i64 0, .string ⟨#[]⟩, .int .u64 0, .slice none 0 0, .int .i64 0] 44 (0, 0))) := hK2.at HL.out.2 (by simp)
  obtain ⟨w3, hw3⟩ : ∃ w3, w3 = w2.setCell ⟨w.heap.size, 2, none⟩ (.string (str x.n)) := ⟨_, rfl⟩
  have HA3 : Hid (w3.heap[w.heap.size]? = some (.cells #[.int .i64 x.i, .int .i64 x.q, .string (str x.n), .int .i64 x.v.c, .int .i64 x.v.s, .int .i64 x.v.r, .string (str x.v.p), .int .u64 x.v.d, .slice ao n c, .int .i64 x.v.m] 44 (0, 0))) := by show _ = _; rw [hw3]; exact heap_setCell_same _ _ 2 _ _ _ HA.out
  have HB3 : Hid (w3.heap[w.heap.size + 1]? = some (.cells #[.int .i64 0, .int .i64 0, .string ⟨#[]⟩, .int .i64 0, .int .i64 0, .int .i64 0, .string ⟨#[]⟩, .int .u64 0, .slice none 0 0, .int .i64 0] 44 (0, 0))) := by show _ = _; rw [hw3]; exact ((Kept.refl [w.heap.size] w2).setCell (by simp) _).at HB.out (by simp)
  have HK3 : Hid (Kept [] w w3) := by
    show Kept _ _ _
    rw [hw3]
    exact (HK0.out.trans hK2 (by simp)).setCell (.inr (Nat.le_refl _)) _
  have a2 := cell_inC (k := 2) HA.out rfl
  have f2 := froz3 HA.out 2
  have p3 : w3.cell? ⟨w.heap.size, 3, none⟩ = some (.int .i64 x.v.c) := cell_inC HA3.out rfl
  have p4 : w3.cell? ⟨w.heap.size, 4, none⟩ = some (.int .i64 x.v.s) := cell_inC HA3.out rfl
  have p5 : w3.cell? ⟨w.heap.size, 5, none⟩ = some (.int .i64 x.v.r) := cell_inC HA3.out rfl
  have p6 : w3.cell? ⟨w.heap.size, 6, none⟩ = some (.string (str x.v.p)) := cell_inC HA3.out rfl
  have p7 : w3.cell? ⟨w.heap.size, 7, none⟩ = some (.int .u64 x.v.d) := cell_inC HA3.out rfl
  have p8 : w3.cell? ⟨w.heap.size, 8, none⟩ = some (.slice ao n c) := cell_inC HA3.out rfl
  have p9 : w3.cell? ⟨w.heap.size, 9, none⟩ = some (.int .i64 x.v.m) := cell_inC HA3.out rfl
  rw [hw3] at p3 p4 p5 p6 p7 p8 p9
  clear hK2
  go_wp2_with fail
  rw [← hw3]
  clear hw3
  refine (cD _ HK3.out).mono ?_
  rintro _ w4 ⟨v', rfl, hO, hK4⟩
  obtain ⟨a', n', c', rfl⟩ := hO.ko.one
  have hA4 := hK4.at HA3.out (by simp)
  have hB4 := hK4.at HB3.out (by simp)
  have q3 := cell_inC (k := 3) hA4 rfl
  have q4 := cell_inC (k := 4) hA4 rfl
  have q5 := cell_inC (k := 5) hA4 rfl
  have q6 := cell_inC (k := 6) hA4 rfl
  have q7 := cell_inC (k := 7) hA4 rfl
  have q8 := cell_inC (k := 8) hA4 rfl
  have q9 := cell_inC (k := 9) hA4 rfl
  have fa3 := froz3 hA4 3
  have fa4 := froz3 hA4 4
  have fa5 := froz3 hA4 5
  have fa6 := froz3 hA4 6
  have fa7 := froz3 hA4 7
  have fa8 := froz3 hA4 8
  have fa9 := froz3 hA4 9
  have HB4 := hide hB4
  have HA4 := hide hA4
  have HO := hide hO
  have HK4 := hide hK4
  clear hO hK4 hA4 hB4 a2 f2 p3 p4 p5 p6 p7 p8 p9 cC cD
  go_upto_region 3 with fail
  obtain ⟨w5, hw5⟩ : ∃ w5, w5 = ((((((w4.setCell ⟨w.heap.size, 3, none⟩ (.int .i64 x.v.c)).setCell ⟨w.heap.size, 4, none⟩ (.int .i64 x.v.s)).setCell ⟨w.heap.size, 5, none⟩ (.int .i64 x.v.r)).setCell ⟨w.heap.size, 6, none⟩ (.string (str x.v.p))).setCell ⟨w.heap.size, 7, none⟩ (.int .u64 x.v.d)).setCell ⟨w.heap.size, 8, none⟩ (.slice a' n' c')).setCell ⟨w.heap.size, 9, none⟩ (.int .i64 x.v.m) := ⟨_, rfl⟩
  rw [← hw5]
  have hA5 : w5.heap[w.heap.size]? = some (.cells #[.int .i64 x.i, .int .i64 x.q, .string (str x.n), .int .i64 x.v.c, .int .i64 x.v.s, .int .i64 x.v.r, .string (str x.v.p), .int .u64 x.v.d, .slice a' n' c', .int .i64 x.v.m] 44 (0, 0)) := by rw [hw5]; exact setB7_at HA4.out _ _ _ _ _ _ _
  have hK5 : Kept [w.heap.size] w4 w5 := by rw [hw5]; exact setB7_kept (Kept.refl _ w4) (by simp) _ _ _ _ _ _ _
  have hB5 := hK5.at HB4.out (by simp)
  clear q3 fa3
  clear q4 fa4
  clear q5 fa5
  clear q6 fa6
  clear q7 fa7
  clear q8 fa8
  clear q9 fa9
  have q0 := cell_inC (k := 0) hA5 rfl
  have q1 := cell_inC (k := 1) hA5 rfl
  have q2 := cell_inC (k := 2) hA5 rfl
  have q3 := cell_inC (k := 3) hA5 rfl
  have q4 := cell_inC (k := 4) hA5 rfl
  have q5 := cell_inC (k := 5) hA5 rfl
  have q6 := cell_inC (k := 6) hA5 rfl
  have q7 := cell_inC (k := 7) hA5 rfl
  have q8 := cell_inC (k := 8) hA5 rfl
  have q9 := cell_inC (k := 9) hA5 rfl
  have r0 := cell_inC (k := 0) hB5 rfl
  have r1 := cell_inC (k := 1) hB5 rfl
  have r2 := cell_inC (k := 2) hB5 rfl
  have r3 := cell_inC (k := 3) hB5 rfl
  have r4 := cell_inC (k := 4) hB5 rfl
  have r5 := cell_inC (k := 5) hB5 rfl
  have r6 := cell_inC (k := 6) hB5 rfl
  have r7 := cell_inC (k := 7) hB5 rfl
  have r8 := cell_inC (k := 8) hB5 rfl
  have r9 := cell_inC (k := 9) hB5 rfl
  have fb0 := froz3 hB5 0
  have fb1 := froz3 hB5 1
  have fb2 := froz3 hB5 2
  have fb3 := froz3 hB5 3
  have fb4 := froz3 hB5 4
  have fb5 := froz3 hB5 5
  have fb6 := froz3 hB5 6
  have fb7 := froz3 hB5 7
  have fb8 := froz3 hB5 8
  have fb9 := froz3 hB5 9
  have HA5 := hide hA5
  have HB5 := hide hB5
  have HK5 := hide hK5
  clear hw5 hA5 hB5 hK5
  go_wp2_with fail
  have HKe : Hid (Kept [w.heap.size, w.heap.size + 1] w4 (setA10 w5 (w.heap.size + 1) (.int .i64 x.i) (.int .i64 x.q) (.string (str x.n)) (.int .i64 x.v.c) (.int .i64 x.v.s) (.int .i64 x.v.r) (.string (str x.v.p)) (.int .u64 x.v.d) (.slice a' n' c') (.int .i64 x.v.m))) := setA10_kept (HK5.out.mono (by simp)) (by simp) _ _ _ _ _ _ _ _ _ _
  refine bodyPost_ret (se_res (by rfl) _ (by rfl) (setA10_at HB5.out rfl _ _ _ _ _ _ _ _ _ _) rfl) rfl ?_
  exact ⟨_, rfl, (HO.out.mono HK3.out.size).keep HKe.out (typed2 HA4.out HB4.out) (by decide) (by decide), (HK3.out.trans HK4.out (by simp)).trans HKe.out (fun k hk => .inr (by simp at hk; omega))⟩

end Go.Proofs.Ytajkmhepedlmmaa
