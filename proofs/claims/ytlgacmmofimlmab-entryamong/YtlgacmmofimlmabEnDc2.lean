/-
  The document's own: a request with the fields of its Kind alone. (Written by mk/mkown.py.)
-/
import Derived.Test.YtlgacmmofimlmabEnDc1
import Derived.Test.YtlgacmmofimlmabF7
namespace Go.Proofs.Ytlgacmmofimlmab
open Go.RowKit

theorem Kept.drop0 {S : List Nat} {a w : World} (h : Kept S a w) (hS : ∀ i ∈ S, a.heap.size ≤ i) : Kept [] a w := (Kept.refl [] a).trans h (fun i hi => .inr (hS i hi))

/-- What own answers. -/
def OwnP (w : World) (x : Rm) (q : Rq) (e : Ending) (w' : World) : Prop := ∃ u, e = .returned (.agg (rqL q u).toArray) ∧ (u = .slice x.mo x.m x.mc ∧ q.c = x.r.c ∨ u = .slice none 0 0 ∧ q.c = []) ∧ Kept [] w w'

set_option maxHeartbeats 8000000 in
set_option maxRecDepth 100000 in
theorem own_0 (w : World) (x : Rm) (hk : x.r.k = 0) : Calls Try.prog 33 #[rqV x] w (OwnP w x rq0) := by
  unfold rqV
  rw [hk]
  clear hk
  obtain ⟨W, hW⟩ : ∃ W, W = (w.alloc (.cells #[.int .i64 0, .string (str x.r.n), .int .i64 x.r.s, .int .i64 x.r.q, .int .i64 x.r.b, .string (str x.r.f), .slice x.mo x.m x.mc, .string (str x.r.p), .int .i64 x.r.fr, .int .i64 x.r.mn, .int .i64 x.r.mb] 34)).alloc (.cells #[.int .i64 0, .string ⟨#[]⟩, .int .i64 0, .int .i64 0, .int .i64 0, .string ⟨#[]⟩, .slice none 0 0, .string ⟨#[]⟩, .int .i64 0, .int .i64 0, .int .i64 0] 34) := ⟨_, rfl⟩
  have k1 : Kept [] w (w.alloc (.cells #[.int .i64 0, .string (str x.r.n), .int .i64 x.r.s, .int .i64 x.r.q, .int .i64 x.r.b, .string (str x.r.f), .slice x.mo x.m x.mc, .string (str x.r.p), .int .i64 x.r.fr, .int .i64 x.r.mn, .int .i64 x.r.mb] 34)) := (Kept.refl _ _).alloc _
  have k2 : Kept [] (w.alloc (.cells #[.int .i64 0, .string (str x.r.n), .int .i64 x.r.s, .int .i64 x.r.q, .int .i64 x.r.b, .string (str x.r.f), .slice x.mo x.m x.mc, .string (str x.r.p), .int .i64 x.r.fr, .int .i64 x.r.mn, .int .i64 x.r.mb] 34)) W := by rw [hW]; exact (Kept.refl _ _).alloc _
  have hB : Bx W w.heap.size 34 [.int .i64 0, .string (str x.r.n), .int .i64 x.r.s, .int .i64 x.r.q, .int .i64 x.r.b, .string (str x.r.f), .slice x.mo x.m x.mc, .string (str x.r.p), .int .i64 x.r.fr, .int .i64 x.r.mn, .int .i64 x.r.mb] := (Bx.new w _ [.int .i64 0, .string (str x.r.n), .int .i64 x.r.s, .int .i64 x.r.q, .int .i64 x.r.b, .string (str x.r.f), .slice x.mo x.m x.mc, .string (str x.r.p), .int .i64 x.r.fr, .int .i64 x.r.mn, .int .i64 x.r.mb]).kept k2 (by simp)
  have HR : Hid (Bx W (w.heap.size + 1) 34 zrq) := by
    rw [hW]
    have h := Bx.new (w.alloc (.cells #[.int .i64 0, .string (str x.r.n), .int .i64 x.r.s, .int .i64 x.r.q, .int .i64 x.r.b, .string (str x.r.f), .slice x.mo x.m x.mc, .string (str x.r.p), .int .i64 x.r.fr, .int .i64 x.r.mn, .int .i64 x.r.mb] 34)) 34 zrq
    rw [show (w.alloc (.cells #[.int .i64 0, .string (str x.r.n), .int .i64 x.r.s, .int .i64 x.r.q, .int .i64 x.r.b, .string (str x.r.f), .slice x.mo x.m x.mc, .string (str x.r.p), .int .i64 x.r.fr, .int .i64 x.r.mn, .int .i64 x.r.mb] 34)).heap.size = w.heap.size + 1 by simp] at h
    exact h
  have HSz : Hid (W.heap.size = w.heap.size + 2) := by rw [hW]; show _ = _; simp
  have HB := hide hB
  have HK := hide (k1.trans k2 (by simp))
  have HW := hide hW
  have c0 : W.cell? ⟨w.heap.size, 0, none⟩ = some (.int .i64 0) := hB.cell 0 rfl
  have c1 : W.cell? ⟨w.heap.size, 1, none⟩ = some (.string (str x.r.n)) := hB.cell 1 rfl
  have c2 : W.cell? ⟨w.heap.size, 2, none⟩ = some (.int .i64 x.r.s) := hB.cell 2 rfl
  have c3 : W.cell? ⟨w.heap.size, 3, none⟩ = some (.int .i64 x.r.q) := hB.cell 3 rfl
  have c4 : W.cell? ⟨w.heap.size, 4, none⟩ = some (.int .i64 x.r.b) := hB.cell 4 rfl
  have c5 : W.cell? ⟨w.heap.size, 5, none⟩ = some (.string (str x.r.f)) := hB.cell 5 rfl
  have c6 : W.cell? ⟨w.heap.size, 6, none⟩ = some (.slice x.mo x.m x.mc) := hB.cell 6 rfl
  have c7 : W.cell? ⟨w.heap.size, 7, none⟩ = some (.string (str x.r.p)) := hB.cell 7 rfl
  have c8 : W.cell? ⟨w.heap.size, 8, none⟩ = some (.int .i64 x.r.fr) := hB.cell 8 rfl
  have c9 : W.cell? ⟨w.heap.size, 9, none⟩ = some (.int .i64 x.r.mn) := hB.cell 9 rfl
  have c10 : W.cell? ⟨w.heap.size, 10, none⟩ = some (.int .i64 x.r.mb) := hB.cell 10 rfl
  have HX : Hid (Bx (W.alloc (.cells #[.int .i64 0, .string ⟨#[]⟩, .int .i64 0, .int .i64 0, .int .i64 0, .string ⟨#[]⟩, .slice none 0 0, .string ⟨#[]⟩, .int .i64 0, .int .i64 0, .int .i64 0] 34)) W.heap.size 34 zrq) := Bx.new W _ zrq
  have HL : Hid (([.int .i64 0, .string ⟨#[]⟩, .int .i64 x.r.s, .int .i64 x.r.q, .int .i64 0, .string ⟨#[]⟩, .slice none 0 0, .string ⟨#[]⟩, .int .i64 0, .int .i64 0, .int .i64 0] : List Value).length = zrq.length) := rfl
  have HO : Hid (∀ v ∈ ([.int .i64 0, .string ⟨#[]⟩, .int .i64 x.r.s, .int .i64 x.r.q, .int .i64 0, .string ⟨#[]⟩, .slice none 0 0, .string ⟨#[]⟩, .int .i64 0, .int .i64 0, .int .i64 0] : List Value), v.oneCell' = true) := by intro v hv; simp at hv; rcases hv with rfl | rfl | rfl | rfl | rfl | rfl | rfl | rfl | rfl | rfl | rfl <;> rfl
  have HT : Hid (RowT Try.prog 34 ([.int .i64 0, .string ⟨#[]⟩, .int .i64 x.r.s, .int .i64 x.r.q, .int .i64 0, .string ⟨#[]⟩, .slice none 0 0, .string ⟨#[]⟩, .int .i64 0, .int .i64 0, .int .i64 0] : List Value).length) := rowT_req
  clear hB hW k1 k2
  go_enter Try.func33, Try.ntmps33
  go_upto_region 1 with fail
  rw [← HW.out]
  go_upto_region 2 with ((with_reducible refine wl_store_bx HX.out HL.out HO.out HT.out ?_ ?_ ?_); rfl; rfl; intro w1 HB1 HK1)
  have k1 : Kept [] W w1 := (((Kept.refl [W.heap.size] W).alloc _).trans HK1.out (by simp)).drop0 (by intro i hi; simp at hi; omega)
  have HR1 := hide (HR.out.kept k1 (by simp))
  have hB1 := HB.out.kept k1 (by simp)
  have HKw1 := hide (HK.out.trans k1 (by simp))
  have hs1 := HB1.out.lt
  clear HK1 HX HW c0 c1 c2 c3 c4 c5 c6 c7 c8 c9 c10
  have c0 : w1.cell? ⟨w.heap.size, 0, none⟩ = some (.int .i64 0) := hB1.cell 0 rfl
  have c1 : w1.cell? ⟨w.heap.size, 1, none⟩ = some (.string (str x.r.n)) := hB1.cell 1 rfl
  have c2 : w1.cell? ⟨w.heap.size, 2, none⟩ = some (.int .i64 x.r.s) := hB1.cell 2 rfl
  have c3 : w1.cell? ⟨w.heap.size, 3, none⟩ = some (.int .i64 x.r.q) := hB1.cell 3 rfl
  have c4 : w1.cell? ⟨w.heap.size, 4, none⟩ = some (.int .i64 x.r.b) := hB1.cell 4 rfl
  have c5 : w1.cell? ⟨w.heap.size, 5, none⟩ = some (.string (str x.r.f)) := hB1.cell 5 rfl
  have c6 : w1.cell? ⟨w.heap.size, 6, none⟩ = some (.slice x.mo x.m x.mc) := hB1.cell 6 rfl
  have c7 : w1.cell? ⟨w.heap.size, 7, none⟩ = some (.string (str x.r.p)) := hB1.cell 7 rfl
  have c8 : w1.cell? ⟨w.heap.size, 8, none⟩ = some (.int .i64 x.r.fr) := hB1.cell 8 rfl
  have c9 : w1.cell? ⟨w.heap.size, 9, none⟩ = some (.int .i64 x.r.mn) := hB1.cell 9 rfl
  have c10 : w1.cell? ⟨w.heap.size, 10, none⟩ = some (.int .i64 x.r.mb) := hB1.cell 10 rfl
  clear k1 hB1
  have HLz : Hid (([.int .i64 0, .string ⟨#[]⟩, .int .i64 0, .int .i64 0, .int .i64 0, .string ⟨#[]⟩, .slice none 0 0, .string ⟨#[]⟩, .int .i64 0, .int .i64 0, .int .i64 0] : List Value).length = zrq.length) := rfl
  have HOz : Hid (∀ v ∈ ([.int .i64 0, .string ⟨#[]⟩, .int .i64 0, .int .i64 0, .int .i64 0, .string ⟨#[]⟩, .slice none 0 0, .string ⟨#[]⟩, .int .i64 0, .int .i64 0, .int .i64 0] : List Value), v.oneCell' = true) := by intro v hv; simp at hv; rcases hv with rfl | rfl | rfl | rfl | rfl | rfl | rfl | rfl | rfl | rfl | rfl <;> rfl
  have HTz : Hid (RowT Try.prog 34 ([.int .i64 0, .string ⟨#[]⟩, .int .i64 0, .int .i64 0, .int .i64 0, .string ⟨#[]⟩, .slice none 0 0, .string ⟨#[]⟩, .int .i64 0, .int .i64 0, .int .i64 0] : List Value).length) := rowT_req
  go_wp2_with ((with_reducible refine wl_store_bx HR1.out HLz.out HOz.out HTz.out ?_ ?_ ?_); rfl; rfl; intro wz HBz HKz)
  have KZ : Kept [] w wz := HKw1.out.trans HKz.out (by simp)
  refine bodyPost_ret (bx_result (by rfl) _ (by rfl) HBz.out HTz.out) rfl ?_
  exact ⟨.slice none 0 0, rfl, .inr ⟨rfl, rfl⟩, KZ⟩

set_option maxHeartbeats 8000000 in
set_option maxRecDepth 100000 in
theorem own_1 (w : World) (x : Rm) (hk : x.r.k = 1) : Calls Try.prog 33 #[rqV x] w (OwnP w x ⟨1, x.r.n, 0, 0, 0, [], [], [], 0, 0, 0⟩) := by
  unfold rqV
  rw [hk]
  clear hk
  obtain ⟨W, hW⟩ : ∃ W, W = (w.alloc (.cells #[.int .i64 1, .string (str x.r.n), .int .i64 x.r.s, .int .i64 x.r.q, .int .i64 x.r.b, .string (str x.r.f), .slice x.mo x.m x.mc, .string (str x.r.p), .int .i64 x.r.fr, .int .i64 x.r.mn, .int .i64 x.r.mb] 34)).alloc (.cells #[.int .i64 0, .string ⟨#[]⟩, .int .i64 0, .int .i64 0, .int .i64 0, .string ⟨#[]⟩, .slice none 0 0, .string ⟨#[]⟩, .int .i64 0, .int .i64 0, .int .i64 0] 34) := ⟨_, rfl⟩
  have k1 : Kept [] w (w.alloc (.cells #[.int .i64 1, .string (str x.r.n), .int .i64 x.r.s, .int .i64 x.r.q, .int .i64 x.r.b, .string (str x.r.f), .slice x.mo x.m x.mc, .string (str x.r.p), .int .i64 x.r.fr, .int .i64 x.r.mn, .int .i64 x.r.mb] 34)) := (Kept.refl _ _).alloc _
  have k2 : Kept [] (w.alloc (.cells #[.int .i64 1, .string (str x.r.n), .int .i64 x.r.s, .int .i64 x.r.q, .int .i64 x.r.b, .string (str x.r.f), .slice x.mo x.m x.mc, .string (str x.r.p), .int .i64 x.r.fr, .int .i64 x.r.mn, .int .i64 x.r.mb] 34)) W := by rw [hW]; exact (Kept.refl _ _).alloc _
  have hB : Bx W w.heap.size 34 [.int .i64 1, .string (str x.r.n), .int .i64 x.r.s, .int .i64 x.r.q, .int .i64 x.r.b, .string (str x.r.f), .slice x.mo x.m x.mc, .string (str x.r.p), .int .i64 x.r.fr, .int .i64 x.r.mn, .int .i64 x.r.mb] := (Bx.new w _ [.int .i64 1, .string (str x.r.n), .int .i64 x.r.s, .int .i64 x.r.q, .int .i64 x.r.b, .string (str x.r.f), .slice x.mo x.m x.mc, .string (str x.r.p), .int .i64 x.r.fr, .int .i64 x.r.mn, .int .i64 x.r.mb]).kept k2 (by simp)
  have HR : Hid (Bx W (w.heap.size + 1) 34 zrq) := by
    rw [hW]
    have h := Bx.new (w.alloc (.cells #[.int .i64 1, .string (str x.r.n), .int .i64 x.r.s, .int .i64 x.r.q, .int .i64 x.r.b, .string (str x.r.f), .slice x.mo x.m x.mc, .string (str x.r.p), .int .i64 x.r.fr, .int .i64 x.r.mn, .int .i64 x.r.mb] 34)) 34 zrq
    rw [show (w.alloc (.cells #[.int .i64 1, .string (str x.r.n), .int .i64 x.r.s, .int .i64 x.r.q, .int .i64 x.r.b, .string (str x.r.f), .slice x.mo x.m x.mc, .string (str x.r.p), .int .i64 x.r.fr, .int .i64 x.r.mn, .int .i64 x.r.mb] 34)).heap.size = w.heap.size + 1 by simp] at h
    exact h
  have HSz : Hid (W.heap.size = w.heap.size + 2) := by rw [hW]; show _ = _; simp
  have HB := hide hB
  have HK := hide (k1.trans k2 (by simp))
  have HW := hide hW
  have c0 : W.cell? ⟨w.heap.size, 0, none⟩ = some (.int .i64 1) := hB.cell 0 rfl
  have c1 : W.cell? ⟨w.heap.size, 1, none⟩ = some (.string (str x.r.n)) := hB.cell 1 rfl
  have c2 : W.cell? ⟨w.heap.size, 2, none⟩ = some (.int .i64 x.r.s) := hB.cell 2 rfl
  have c3 : W.cell? ⟨w.heap.size, 3, none⟩ = some (.int .i64 x.r.q) := hB.cell 3 rfl
  have c4 : W.cell? ⟨w.heap.size, 4, none⟩ = some (.int .i64 x.r.b) := hB.cell 4 rfl
  have c5 : W.cell? ⟨w.heap.size, 5, none⟩ = some (.string (str x.r.f)) := hB.cell 5 rfl
  have c6 : W.cell? ⟨w.heap.size, 6, none⟩ = some (.slice x.mo x.m x.mc) := hB.cell 6 rfl
  have c7 : W.cell? ⟨w.heap.size, 7, none⟩ = some (.string (str x.r.p)) := hB.cell 7 rfl
  have c8 : W.cell? ⟨w.heap.size, 8, none⟩ = some (.int .i64 x.r.fr) := hB.cell 8 rfl
  have c9 : W.cell? ⟨w.heap.size, 9, none⟩ = some (.int .i64 x.r.mn) := hB.cell 9 rfl
  have c10 : W.cell? ⟨w.heap.size, 10, none⟩ = some (.int .i64 x.r.mb) := hB.cell 10 rfl
  have HX : Hid (Bx (W.alloc (.cells #[.int .i64 0, .string ⟨#[]⟩, .int .i64 0, .int .i64 0, .int .i64 0, .string ⟨#[]⟩, .slice none 0 0, .string ⟨#[]⟩, .int .i64 0, .int .i64 0, .int .i64 0] 34)) W.heap.size 34 zrq) := Bx.new W _ zrq
  have HL : Hid (([.int .i64 1, .string ⟨#[]⟩, .int .i64 x.r.s, .int .i64 x.r.q, .int .i64 0, .string ⟨#[]⟩, .slice none 0 0, .string ⟨#[]⟩, .int .i64 0, .int .i64 0, .int .i64 0] : List Value).length = zrq.length) := rfl
  have HO : Hid (∀ v ∈ ([.int .i64 1, .string ⟨#[]⟩, .int .i64 x.r.s, .int .i64 x.r.q, .int .i64 0, .string ⟨#[]⟩, .slice none 0 0, .string ⟨#[]⟩, .int .i64 0, .int .i64 0, .int .i64 0] : List Value), v.oneCell' = true) := by intro v hv; simp at hv; rcases hv with rfl | rfl | rfl | rfl | rfl | rfl | rfl | rfl | rfl | rfl | rfl <;> rfl
  have HT : Hid (RowT Try.prog 34 ([.int .i64 1, .string ⟨#[]⟩, .int .i64 x.r.s, .int .i64 x.r.q, .int .i64 0, .string ⟨#[]⟩, .slice none 0 0, .string ⟨#[]⟩, .int .i64 0, .int .i64 0, .int .i64 0] : List Value).length) := rowT_req
  clear hB hW k1 k2
  go_enter Try.func33, Try.ntmps33
  go_upto_region 1 with fail
  rw [← HW.out]
  go_upto_region 2 with ((with_reducible refine wl_store_bx HX.out HL.out HO.out HT.out ?_ ?_ ?_); rfl; rfl; intro w1 HB1 HK1)
  have k1 : Kept [] W w1 := (((Kept.refl [W.heap.size] W).alloc _).trans HK1.out (by simp)).drop0 (by intro i hi; simp at hi; omega)
  have HR1 := hide (HR.out.kept k1 (by simp))
  have hB1 := HB.out.kept k1 (by simp)
  have HKw1 := hide (HK.out.trans k1 (by simp))
  have hs1 := HB1.out.lt
  clear HK1 HX HW c0 c1 c2 c3 c4 c5 c6 c7 c8 c9 c10
  have c0 : w1.cell? ⟨w.heap.size, 0, none⟩ = some (.int .i64 1) := hB1.cell 0 rfl
  have c1 : w1.cell? ⟨w.heap.size, 1, none⟩ = some (.string (str x.r.n)) := hB1.cell 1 rfl
  have c2 : w1.cell? ⟨w.heap.size, 2, none⟩ = some (.int .i64 x.r.s) := hB1.cell 2 rfl
  have c3 : w1.cell? ⟨w.heap.size, 3, none⟩ = some (.int .i64 x.r.q) := hB1.cell 3 rfl
  have c4 : w1.cell? ⟨w.heap.size, 4, none⟩ = some (.int .i64 x.r.b) := hB1.cell 4 rfl
  have c5 : w1.cell? ⟨w.heap.size, 5, none⟩ = some (.string (str x.r.f)) := hB1.cell 5 rfl
  have c6 : w1.cell? ⟨w.heap.size, 6, none⟩ = some (.slice x.mo x.m x.mc) := hB1.cell 6 rfl
  have c7 : w1.cell? ⟨w.heap.size, 7, none⟩ = some (.string (str x.r.p)) := hB1.cell 7 rfl
  have c8 : w1.cell? ⟨w.heap.size, 8, none⟩ = some (.int .i64 x.r.fr) := hB1.cell 8 rfl
  have c9 : w1.cell? ⟨w.heap.size, 9, none⟩ = some (.int .i64 x.r.mn) := hB1.cell 9 rfl
  have c10 : w1.cell? ⟨w.heap.size, 10, none⟩ = some (.int .i64 x.r.mb) := hB1.cell 10 rfl
  clear k1 hB1
  have HLz : Hid (([.int .i64 1, .string (str x.r.n), .int .i64 0, .int .i64 0, .int .i64 0, .string ⟨#[]⟩, .slice none 0 0, .string ⟨#[]⟩, .int .i64 0, .int .i64 0, .int .i64 0] : List Value).length = zrq.length) := rfl
  have HOz : Hid (∀ v ∈ ([.int .i64 1, .string (str x.r.n), .int .i64 0, .int .i64 0, .int .i64 0, .string ⟨#[]⟩, .slice none 0 0, .string ⟨#[]⟩, .int .i64 0, .int .i64 0, .int .i64 0] : List Value), v.oneCell' = true) := by intro v hv; simp at hv; rcases hv with rfl | rfl | rfl | rfl | rfl | rfl | rfl | rfl | rfl | rfl | rfl <;> rfl
  have HTz : Hid (RowT Try.prog 34 ([.int .i64 1, .string (str x.r.n), .int .i64 0, .int .i64 0, .int .i64 0, .string ⟨#[]⟩, .slice none 0 0, .string ⟨#[]⟩, .int .i64 0, .int .i64 0, .int .i64 0] : List Value).length) := rowT_req
  go_wp2_with ((with_reducible refine wl_store_bx HR1.out HLz.out HOz.out HTz.out ?_ ?_ ?_); rfl; rfl; intro wz HBz HKz)
  have KZ : Kept [] w wz := HKw1.out.trans HKz.out (by simp)
  refine bodyPost_ret (bx_result (by rfl) _ (by rfl) HBz.out HTz.out) rfl ?_
  exact ⟨.slice none 0 0, rfl, .inr ⟨rfl, rfl⟩, KZ⟩

set_option maxHeartbeats 8000000 in
set_option maxRecDepth 100000 in
theorem own_2 (w : World) (x : Rm) (hk : x.r.k = 2) : Calls Try.prog 33 #[rqV x] w (OwnP w x ⟨2, [], x.r.s, x.r.q, x.r.b, x.r.f, x.r.c, [], 0, 0, 0⟩) := by
  unfold rqV
  rw [hk]
  clear hk
  obtain ⟨W, hW⟩ : ∃ W, W = (w.alloc (.cells #[.int .i64 2, .string (str x.r.n), .int .i64 x.r.s, .int .i64 x.r.q, .int .i64 x.r.b, .string (str x.r.f), .slice x.mo x.m x.mc, .string (str x.r.p), .int .i64 x.r.fr, .int .i64 x.r.mn, .int .i64 x.r.mb] 34)).alloc (.cells #[.int .i64 0, .string ⟨#[]⟩, .int .i64 0, .int .i64 0, .int .i64 0, .string ⟨#[]⟩, .slice none 0 0, .string ⟨#[]⟩, .int .i64 0, .int .i64 0, .int .i64 0] 34) := ⟨_, rfl⟩
  have k1 : Kept [] w (w.alloc (.cells #[.int .i64 2, .string (str x.r.n), .int .i64 x.r.s, .int .i64 x.r.q, .int .i64 x.r.b, .string (str x.r.f), .slice x.mo x.m x.mc, .string (str x.r.p), .int .i64 x.r.fr, .int .i64 x.r.mn, .int .i64 x.r.mb] 34)) := (Kept.refl _ _).alloc _
  have k2 : Kept [] (w.alloc (.cells #[.int .i64 2, .string (str x.r.n), .int .i64 x.r.s, .int .i64 x.r.q, .int .i64 x.r.b, .string (str x.r.f), .slice x.mo x.m x.mc, .string (str x.r.p), .int .i64 x.r.fr, .int .i64 x.r.mn, .int .i64 x.r.mb] 34)) W := by rw [hW]; exact (Kept.refl _ _).alloc _
  have hB : Bx W w.heap.size 34 [.int .i64 2, .string (str x.r.n), .int .i64 x.r.s, .int .i64 x.r.q, .int .i64 x.r.b, .string (str x.r.f), .slice x.mo x.m x.mc, .string (str x.r.p), .int .i64 x.r.fr, .int .i64 x.r.mn, .int .i64 x.r.mb] := (Bx.new w _ [.int .i64 2, .string (str x.r.n), .int .i64 x.r.s, .int .i64 x.r.q, .int .i64 x.r.b, .string (str x.r.f), .slice x.mo x.m x.mc, .string (str x.r.p), .int .i64 x.r.fr, .int .i64 x.r.mn, .int .i64 x.r.mb]).kept k2 (by simp)
  have HR : Hid (Bx W (w.heap.size + 1) 34 zrq) := by
    rw [hW]
    have h := Bx.new (w.alloc (.cells #[.int .i64 2, .string (str x.r.n), .int .i64 x.r.s, .int .i64 x.r.q, .int .i64 x.r.b, .string (str x.r.f), .slice x.mo x.m x.mc, .string (str x.r.p), .int .i64 x.r.fr, .int .i64 x.r.mn, .int .i64 x.r.mb] 34)) 34 zrq
    rw [show (w.alloc (.cells #[.int .i64 2, .string (str x.r.n), .int .i64 x.r.s, .int .i64 x.r.q, .int .i64 x.r.b, .string (str x.r.f), .slice x.mo x.m x.mc, .string (str x.r.p), .int .i64 x.r.fr, .int .i64 x.r.mn, .int .i64 x.r.mb] 34)).heap.size = w.heap.size + 1 by simp] at h
    exact h
  have HSz : Hid (W.heap.size = w.heap.size + 2) := by rw [hW]; show _ = _; simp
  have HB := hide hB
  have HK := hide (k1.trans k2 (by simp))
  have HW := hide hW
  have c0 : W.cell? ⟨w.heap.size, 0, none⟩ = some (.int .i64 2) := hB.cell 0 rfl
  have c1 : W.cell? ⟨w.heap.size, 1, none⟩ = some (.string (str x.r.n)) := hB.cell 1 rfl
  have c2 : W.cell? ⟨w.heap.size, 2, none⟩ = some (.int .i64 x.r.s) := hB.cell 2 rfl
  have c3 : W.cell? ⟨w.heap.size, 3, none⟩ = some (.int .i64 x.r.q) := hB.cell 3 rfl
  have c4 : W.cell? ⟨w.heap.size, 4, none⟩ = some (.int .i64 x.r.b) := hB.cell 4 rfl
  have c5 : W.cell? ⟨w.heap.size, 5, none⟩ = some (.string (str x.r.f)) := hB.cell 5 rfl
  have c6 : W.cell? ⟨w.heap.size, 6, none⟩ = some (.slice x.mo x.m x.mc) := hB.cell 6 rfl
  have c7 : W.cell? ⟨w.heap.size, 7, none⟩ = some (.string (str x.r.p)) := hB.cell 7 rfl
  have c8 : W.cell? ⟨w.heap.size, 8, none⟩ = some (.int .i64 x.r.fr) := hB.cell 8 rfl
  have c9 : W.cell? ⟨w.heap.size, 9, none⟩ = some (.int .i64 x.r.mn) := hB.cell 9 rfl
  have c10 : W.cell? ⟨w.heap.size, 10, none⟩ = some (.int .i64 x.r.mb) := hB.cell 10 rfl
  have HX : Hid (Bx (W.alloc (.cells #[.int .i64 0, .string ⟨#[]⟩, .int .i64 0, .int .i64 0, .int .i64 0, .string ⟨#[]⟩, .slice none 0 0, .string ⟨#[]⟩, .int .i64 0, .int .i64 0, .int .i64 0] 34)) W.heap.size 34 zrq) := Bx.new W _ zrq
  have HL : Hid (([.int .i64 2, .string ⟨#[]⟩, .int .i64 x.r.s, .int .i64 x.r.q, .int .i64 0, .string ⟨#[]⟩, .slice none 0 0, .string ⟨#[]⟩, .int .i64 0, .int .i64 0, .int .i64 0] : List Value).length = zrq.length) := rfl
  have HO : Hid (∀ v ∈ ([.int .i64 2, .string ⟨#[]⟩, .int .i64 x.r.s, .int .i64 x.r.q, .int .i64 0, .string ⟨#[]⟩, .slice none 0 0, .string ⟨#[]⟩, .int .i64 0, .int .i64 0, .int .i64 0] : List Value), v.oneCell' = true) := by intro v hv; simp at hv; rcases hv with rfl | rfl | rfl | rfl | rfl | rfl | rfl | rfl | rfl | rfl | rfl <;> rfl
  have HT : Hid (RowT Try.prog 34 ([.int .i64 2, .string ⟨#[]⟩, .int .i64 x.r.s, .int .i64 x.r.q, .int .i64 0, .string ⟨#[]⟩, .slice none 0 0, .string ⟨#[]⟩, .int .i64 0, .int .i64 0, .int .i64 0] : List Value).length) := rowT_req
  clear hB hW k1 k2
  go_enter Try.func33, Try.ntmps33
  go_upto_region 1 with fail
  rw [← HW.out]
  go_upto_region 2 with ((with_reducible refine wl_store_bx HX.out HL.out HO.out HT.out ?_ ?_ ?_); rfl; rfl; intro w1 HB1 HK1)
  have k1 : Kept [] W w1 := (((Kept.refl [W.heap.size] W).alloc _).trans HK1.out (by simp)).drop0 (by intro i hi; simp at hi; omega)
  have HR1 := hide (HR.out.kept k1 (by simp))
  have hB1 := HB.out.kept k1 (by simp)
  have HKw1 := hide (HK.out.trans k1 (by simp))
  have hs1 := HB1.out.lt
  clear HK1 HX HW c0 c1 c2 c3 c4 c5 c6 c7 c8 c9 c10
  have c0 : w1.cell? ⟨w.heap.size, 0, none⟩ = some (.int .i64 2) := hB1.cell 0 rfl
  have c1 : w1.cell? ⟨w.heap.size, 1, none⟩ = some (.string (str x.r.n)) := hB1.cell 1 rfl
  have c2 : w1.cell? ⟨w.heap.size, 2, none⟩ = some (.int .i64 x.r.s) := hB1.cell 2 rfl
  have c3 : w1.cell? ⟨w.heap.size, 3, none⟩ = some (.int .i64 x.r.q) := hB1.cell 3 rfl
  have c4 : w1.cell? ⟨w.heap.size, 4, none⟩ = some (.int .i64 x.r.b) := hB1.cell 4 rfl
  have c5 : w1.cell? ⟨w.heap.size, 5, none⟩ = some (.string (str x.r.f)) := hB1.cell 5 rfl
  have c6 : w1.cell? ⟨w.heap.size, 6, none⟩ = some (.slice x.mo x.m x.mc) := hB1.cell 6 rfl
  have c7 : w1.cell? ⟨w.heap.size, 7, none⟩ = some (.string (str x.r.p)) := hB1.cell 7 rfl
  have c8 : w1.cell? ⟨w.heap.size, 8, none⟩ = some (.int .i64 x.r.fr) := hB1.cell 8 rfl
  have c9 : w1.cell? ⟨w.heap.size, 9, none⟩ = some (.int .i64 x.r.mn) := hB1.cell 9 rfl
  have c10 : w1.cell? ⟨w.heap.size, 10, none⟩ = some (.int .i64 x.r.mb) := hB1.cell 10 rfl
  clear k1 hB1
  have HLz : Hid (([.int .i64 2, .string ⟨#[]⟩, .int .i64 x.r.s, .int .i64 x.r.q, .int .i64 x.r.b, .string (str x.r.f), .slice x.mo x.m x.mc, .string ⟨#[]⟩, .int .i64 0, .int .i64 0, .int .i64 0] : List Value).length = zrq.length) := rfl
  have HOz : Hid (∀ v ∈ ([.int .i64 2, .string ⟨#[]⟩, .int .i64 x.r.s, .int .i64 x.r.q, .int .i64 x.r.b, .string (str x.r.f), .slice x.mo x.m x.mc, .string ⟨#[]⟩, .int .i64 0, .int .i64 0, .int .i64 0] : List Value), v.oneCell' = true) := by intro v hv; simp at hv; rcases hv with rfl | rfl | rfl | rfl | rfl | rfl | rfl | rfl | rfl | rfl | rfl <;> rfl
  have HTz : Hid (RowT Try.prog 34 ([.int .i64 2, .string ⟨#[]⟩, .int .i64 x.r.s, .int .i64 x.r.q, .int .i64 x.r.b, .string (str x.r.f), .slice x.mo x.m x.mc, .string ⟨#[]⟩, .int .i64 0, .int .i64 0, .int .i64 0] : List Value).length) := rowT_req
  go_upto_region 8 with fail
  have s4 : w1.cell? ⟨W.heap.size, 4, none⟩ = some (.int .i64 0) := HB1.out.cell 4 rfl
  have f4 : w1.frozen? ⟨W.heap.size, 4, none⟩ = false := HB1.out.froz 4
  go_upto_region 9 with fail
  obtain ⟨w2, hw2⟩ : ∃ w2, w2 = w1.setCell ⟨W.heap.size, 4, none⟩ (.int .i64 x.r.b) := ⟨_, rfl⟩
  rw [← hw2]
  have HB2 : Hid (Bx w2 W.heap.size 34 [.int .i64 2, .string ⟨#[]⟩, .int .i64 x.r.s, .int .i64 x.r.q, .int .i64 x.r.b, .string ⟨#[]⟩, .slice none 0 0, .string ⟨#[]⟩, .int .i64 0, .int .i64 0, .int .i64 0]) := by rw [hw2]; exact HB1.out.set 4 _
  have HK2 : Hid (Kept [W.heap.size] w1 w2) := by rw [hw2]; exact kept_set w1 W.heap.size 4 _
  have HR2 := hide (HR1.out.kept HK2.out (by simp; have := HSz.out; omega))
  have HKw2 := hide (HKw1.out.trans HK2.out (by simp; have := HSz.out; omega))
  clear hw2 s4 f4
  replace c0 := HK2.out.cell c0 (by simp; have := HSz.out; omega)
  replace c1 := HK2.out.cell c1 (by simp; have := HSz.out; omega)
  replace c2 := HK2.out.cell c2 (by simp; have := HSz.out; omega)
  replace c3 := HK2.out.cell c3 (by simp; have := HSz.out; omega)
  replace c4 := HK2.out.cell c4 (by simp; have := HSz.out; omega)
  replace c5 := HK2.out.cell c5 (by simp; have := HSz.out; omega)
  replace c6 := HK2.out.cell c6 (by simp; have := HSz.out; omega)
  replace c7 := HK2.out.cell c7 (by simp; have := HSz.out; omega)
  replace c8 := HK2.out.cell c8 (by simp; have := HSz.out; omega)
  replace c9 := HK2.out.cell c9 (by simp; have := HSz.out; omega)
  replace c10 := HK2.out.cell c10 (by simp; have := HSz.out; omega)
  have s5 : w2.cell? ⟨W.heap.size, 5, none⟩ = some (.string ⟨#[]⟩) := HB2.out.cell 5 rfl
  have f5 : w2.frozen? ⟨W.heap.size, 5, none⟩ = false := HB2.out.froz 5
  go_upto_region 10 with fail
  obtain ⟨w3, hw3⟩ : ∃ w3, w3 = w2.setCell ⟨W.heap.size, 5, none⟩ (.string (str x.r.f)) := ⟨_, rfl⟩
  rw [← hw3]
  have HB3 : Hid (Bx w3 W.heap.size 34 [.int .i64 2, .string ⟨#[]⟩, .int .i64 x.r.s, .int .i64 x.r.q, .int .i64 x.r.b, .string (str x.r.f), .slice none 0 0, .string ⟨#[]⟩, .int .i64 0, .int .i64 0, .int .i64 0]) := by rw [hw3]; exact HB2.out.set 5 _
  have HK3 : Hid (Kept [W.heap.size] w2 w3) := by rw [hw3]; exact kept_set w2 W.heap.size 5 _
  have HR3 := hide (HR2.out.kept HK3.out (by simp; have := HSz.out; omega))
  have HKw3 := hide (HKw2.out.trans HK3.out (by simp; have := HSz.out; omega))
  clear hw3 s5 f5
  replace c0 := HK3.out.cell c0 (by simp; have := HSz.out; omega)
  replace c1 := HK3.out.cell c1 (by simp; have := HSz.out; omega)
  replace c2 := HK3.out.cell c2 (by simp; have := HSz.out; omega)
  replace c3 := HK3.out.cell c3 (by simp; have := HSz.out; omega)
  replace c4 := HK3.out.cell c4 (by simp; have := HSz.out; omega)
  replace c5 := HK3.out.cell c5 (by simp; have := HSz.out; omega)
  replace c6 := HK3.out.cell c6 (by simp; have := HSz.out; omega)
  replace c7 := HK3.out.cell c7 (by simp; have := HSz.out; omega)
  replace c8 := HK3.out.cell c8 (by simp; have := HSz.out; omega)
  replace c9 := HK3.out.cell c9 (by simp; have := HSz.out; omega)
  replace c10 := HK3.out.cell c10 (by simp; have := HSz.out; omega)
  have s6 : w3.cell? ⟨W.heap.size, 6, none⟩ = some (.slice none 0 0) := HB3.out.cell 6 rfl
  have f6 : w3.frozen? ⟨W.heap.size, 6, none⟩ = false := HB3.out.froz 6
  go_upto_region 19 with fail
  obtain ⟨w4, hw4⟩ : ∃ w4, w4 = w3.setCell ⟨W.heap.size, 6, none⟩ (.slice x.mo x.m x.mc) := ⟨_, rfl⟩
  rw [← hw4]
  have HB4 : Hid (Bx w4 W.heap.size 34 [.int .i64 2, .string ⟨#[]⟩, .int .i64 x.r.s, .int .i64 x.r.q, .int .i64 x.r.b, .string (str x.r.f), .slice x.mo x.m x.mc, .string ⟨#[]⟩, .int .i64 0, .int .i64 0, .int .i64 0]) := by rw [hw4]; exact HB3.out.set 6 _
  have HK4 : Hid (Kept [W.heap.size] w3 w4) := by rw [hw4]; exact kept_set w3 W.heap.size 6 _
  have HR4 := hide (HR3.out.kept HK4.out (by simp; have := HSz.out; omega))
  have HKw4 := hide (HKw3.out.trans HK4.out (by simp; have := HSz.out; omega))
  clear hw4 s6 f6
  replace c0 := HK4.out.cell c0 (by simp; have := HSz.out; omega)
  replace c1 := HK4.out.cell c1 (by simp; have := HSz.out; omega)
  replace c2 := HK4.out.cell c2 (by simp; have := HSz.out; omega)
  replace c3 := HK4.out.cell c3 (by simp; have := HSz.out; omega)
  replace c4 := HK4.out.cell c4 (by simp; have := HSz.out; omega)
  replace c5 := HK4.out.cell c5 (by simp; have := HSz.out; omega)
  replace c6 := HK4.out.cell c6 (by simp; have := HSz.out; omega)
  replace c7 := HK4.out.cell c7 (by simp; have := HSz.out; omega)
  replace c8 := HK4.out.cell c8 (by simp; have := HSz.out; omega)
  replace c9 := HK4.out.cell c9 (by simp; have := HSz.out; omega)
  replace c10 := HK4.out.cell c10 (by simp; have := HSz.out; omega)
  go_wp2_with (first | ((with_reducible refine wl_load_bx HB4.out HTz.out ?_ ?_); rfl) | ((with_reducible refine wl_store_bx HR4.out HLz.out HOz.out HTz.out ?_ ?_ ?_); rfl; rfl; intro wz HBz HKz))
  have KZ : Kept [] w wz := HKw4.out.trans HKz.out (by simp)
  refine bodyPost_ret (bx_result (by rfl) _ (by rfl) HBz.out HTz.out) rfl ?_
  exact ⟨.slice x.mo x.m x.mc, rfl, .inl ⟨rfl, rfl⟩, KZ⟩

set_option maxHeartbeats 8000000 in
set_option maxRecDepth 100000 in
theorem own_4 (w : World) (x : Rm) (hk : x.r.k = 4) : Calls Try.prog 33 #[rqV x] w (OwnP w x ⟨4, [], x.r.s, x.r.q, 0, [], [], x.r.p, 0, 0, 0⟩) := by
  unfold rqV
  rw [hk]
  clear hk
  obtain ⟨W, hW⟩ : ∃ W, W = (w.alloc (.cells #[.int .i64 4, .string (str x.r.n), .int .i64 x.r.s, .int .i64 x.r.q, .int .i64 x.r.b, .string (str x.r.f), .slice x.mo x.m x.mc, .string (str x.r.p), .int .i64 x.r.fr, .int .i64 x.r.mn, .int .i64 x.r.mb] 34)).alloc (.cells #[.int .i64 0, .string ⟨#[]⟩, .int .i64 0, .int .i64 0, .int .i64 0, .string ⟨#[]⟩, .slice none 0 0, .string ⟨#[]⟩, .int .i64 0, .int .i64 0, .int .i64 0] 34) := ⟨_, rfl⟩
  have k1 : Kept [] w (w.alloc (.cells #[.int .i64 4, .string (str x.r.n), .int .i64 x.r.s, .int .i64 x.r.q, .int .i64 x.r.b, .string (str x.r.f), .slice x.mo x.m x.mc, .string (str x.r.p), .int .i64 x.r.fr, .int .i64 x.r.mn, .int .i64 x.r.mb] 34)) := (Kept.refl _ _).alloc _
  have k2 : Kept [] (w.alloc (.cells #[.int .i64 4, .string (str x.r.n), .int .i64 x.r.s, .int .i64 x.r.q, .int .i64 x.r.b, .string (str x.r.f), .slice x.mo x.m x.mc, .string (str x.r.p), .int .i64 x.r.fr, .int .i64 x.r.mn, .int .i64 x.r.mb] 34)) W := by rw [hW]; exact (Kept.refl _ _).alloc _
  have hB : Bx W w.heap.size 34 [.int .i64 4, .string (str x.r.n), .int .i64 x.r.s, .int .i64 x.r.q, .int .i64 x.r.b, .string (str x.r.f), .slice x.mo x.m x.mc, .string (str x.r.p), .int .i64 x.r.fr, .int .i64 x.r.mn, .int .i64 x.r.mb] := (Bx.new w _ [.int .i64 4, .string (str x.r.n), .int .i64 x.r.s, .int .i64 x.r.q, .int .i64 x.r.b, .string (str x.r.f), .slice x.mo x.m x.mc, .string (str x.r.p), .int .i64 x.r.fr, .int .i64 x.r.mn, .int .i64 x.r.mb]).kept k2 (by simp)
  have HR : Hid (Bx W (w.heap.size + 1) 34 zrq) := by
    rw [hW]
    have h := Bx.new (w.alloc (.cells #[.int .i64 4, .string (str x.r.n), .int .i64 x.r.s, .int .i64 x.r.q, .int .i64 x.r.b, .string (str x.r.f), .slice x.mo x.m x.mc, .string (str x.r.p), .int .i64 x.r.fr, .int .i64 x.r.mn, .int .i64 x.r.mb] 34)) 34 zrq
    rw [show (w.alloc (.cells #[.int .i64 4, .string (str x.r.n), .int .i64 x.r.s, .int .i64 x.r.q, .int .i64 x.r.b, .string (str x.r.f), .slice x.mo x.m x.mc, .string (str x.r.p), .int .i64 x.r.fr, .int .i64 x.r.mn, .int .i64 x.r.mb] 34)).heap.size = w.heap.size + 1 by simp] at h
    exact h
  have HSz : Hid (W.heap.size = w.heap.size + 2) := by rw [hW]; show _ = _; simp
  have HB := hide hB
  have HK := hide (k1.trans k2 (by simp))
  have HW := hide hW
  have c0 : W.cell? ⟨w.heap.size, 0, none⟩ = some (.int .i64 4) := hB.cell 0 rfl
  have c1 : W.cell? ⟨w.heap.size, 1, none⟩ = some (.string (str x.r.n)) := hB.cell 1 rfl
  have c2 : W.cell? ⟨w.heap.size, 2, none⟩ = some (.int .i64 x.r.s) := hB.cell 2 rfl
  have c3 : W.cell? ⟨w.heap.size, 3, none⟩ = some (.int .i64 x.r.q) := hB.cell 3 rfl
  have c4 : W.cell? ⟨w.heap.size, 4, none⟩ = some (.int .i64 x.r.b) := hB.cell 4 rfl
  have c5 : W.cell? ⟨w.heap.size, 5, none⟩ = some (.string (str x.r.f)) := hB.cell 5 rfl
  have c6 : W.cell? ⟨w.heap.size, 6, none⟩ = some (.slice x.mo x.m x.mc) := hB.cell 6 rfl
  have c7 : W.cell? ⟨w.heap.size, 7, none⟩ = some (.string (str x.r.p)) := hB.cell 7 rfl
  have c8 : W.cell? ⟨w.heap.size, 8, none⟩ = some (.int .i64 x.r.fr) := hB.cell 8 rfl
  have c9 : W.cell? ⟨w.heap.size, 9, none⟩ = some (.int .i64 x.r.mn) := hB.cell 9 rfl
  have c10 : W.cell? ⟨w.heap.size, 10, none⟩ = some (.int .i64 x.r.mb) := hB.cell 10 rfl
  have HX : Hid (Bx (W.alloc (.cells #[.int .i64 0, .string ⟨#[]⟩, .int .i64 0, .int .i64 0, .int .i64 0, .string ⟨#[]⟩, .slice none 0 0, .string ⟨#[]⟩, .int .i64 0, .int .i64 0, .int .i64 0] 34)) W.heap.size 34 zrq) := Bx.new W _ zrq
  have HL : Hid (([.int .i64 4, .string ⟨#[]⟩, .int .i64 x.r.s, .int .i64 x.r.q, .int .i64 0, .string ⟨#[]⟩, .slice none 0 0, .string ⟨#[]⟩, .int .i64 0, .int .i64 0, .int .i64 0] : List Value).length = zrq.length) := rfl
  have HO : Hid (∀ v ∈ ([.int .i64 4, .string ⟨#[]⟩, .int .i64 x.r.s, .int .i64 x.r.q, .int .i64 0, .string ⟨#[]⟩, .slice none 0 0, .string ⟨#[]⟩, .int .i64 0, .int .i64 0, .int .i64 0] : List Value), v.oneCell' = true) := by intro v hv; simp at hv; rcases hv with rfl | rfl | rfl | rfl | rfl | rfl | rfl | rfl | rfl | rfl | rfl <;> rfl
  have HT : Hid (RowT Try.prog 34 ([.int .i64 4, .string ⟨#[]⟩, .int .i64 x.r.s, .int .i64 x.r.q, .int .i64 0, .string ⟨#[]⟩, .slice none 0 0, .string ⟨#[]⟩, .int .i64 0, .int .i64 0, .int .i64 0] : List Value).length) := rowT_req
  clear hB hW k1 k2
  go_enter Try.func33, Try.ntmps33
  go_upto_region 1 with fail
  rw [← HW.out]
  go_upto_region 2 with ((with_reducible refine wl_store_bx HX.out HL.out HO.out HT.out ?_ ?_ ?_); rfl; rfl; intro w1 HB1 HK1)
  have k1 : Kept [] W w1 := (((Kept.refl [W.heap.size] W).alloc _).trans HK1.out (by simp)).drop0 (by intro i hi; simp at hi; omega)
  have HR1 := hide (HR.out.kept k1 (by simp))
  have hB1 := HB.out.kept k1 (by simp)
  have HKw1 := hide (HK.out.trans k1 (by simp))
  have hs1 := HB1.out.lt
  clear HK1 HX HW c0 c1 c2 c3 c4 c5 c6 c7 c8 c9 c10
  have c0 : w1.cell? ⟨w.heap.size, 0, none⟩ = some (.int .i64 4) := hB1.cell 0 rfl
  have c1 : w1.cell? ⟨w.heap.size, 1, none⟩ = some (.string (str x.r.n)) := hB1.cell 1 rfl
  have c2 : w1.cell? ⟨w.heap.size, 2, none⟩ = some (.int .i64 x.r.s) := hB1.cell 2 rfl
  have c3 : w1.cell? ⟨w.heap.size, 3, none⟩ = some (.int .i64 x.r.q) := hB1.cell 3 rfl
  have c4 : w1.cell? ⟨w.heap.size, 4, none⟩ = some (.int .i64 x.r.b) := hB1.cell 4 rfl
  have c5 : w1.cell? ⟨w.heap.size, 5, none⟩ = some (.string (str x.r.f)) := hB1.cell 5 rfl
  have c6 : w1.cell? ⟨w.heap.size, 6, none⟩ = some (.slice x.mo x.m x.mc) := hB1.cell 6 rfl
  have c7 : w1.cell? ⟨w.heap.size, 7, none⟩ = some (.string (str x.r.p)) := hB1.cell 7 rfl
  have c8 : w1.cell? ⟨w.heap.size, 8, none⟩ = some (.int .i64 x.r.fr) := hB1.cell 8 rfl
  have c9 : w1.cell? ⟨w.heap.size, 9, none⟩ = some (.int .i64 x.r.mn) := hB1.cell 9 rfl
  have c10 : w1.cell? ⟨w.heap.size, 10, none⟩ = some (.int .i64 x.r.mb) := hB1.cell 10 rfl
  clear k1 hB1
  have HLz : Hid (([.int .i64 4, .string ⟨#[]⟩, .int .i64 x.r.s, .int .i64 x.r.q, .int .i64 0, .string ⟨#[]⟩, .slice none 0 0, .string (str x.r.p), .int .i64 0, .int .i64 0, .int .i64 0] : List Value).length = zrq.length) := rfl
  have HOz : Hid (∀ v ∈ ([.int .i64 4, .string ⟨#[]⟩, .int .i64 x.r.s, .int .i64 x.r.q, .int .i64 0, .string ⟨#[]⟩, .slice none 0 0, .string (str x.r.p), .int .i64 0, .int .i64 0, .int .i64 0] : List Value), v.oneCell' = true) := by intro v hv; simp at hv; rcases hv with rfl | rfl | rfl | rfl | rfl | rfl | rfl | rfl | rfl | rfl | rfl <;> rfl
  have HTz : Hid (RowT Try.prog 34 ([.int .i64 4, .string ⟨#[]⟩, .int .i64 x.r.s, .int .i64 x.r.q, .int .i64 0, .string ⟨#[]⟩, .slice none 0 0, .string (str x.r.p), .int .i64 0, .int .i64 0, .int .i64 0] : List Value).length) := rowT_req
  go_upto_region 12 with fail
  have s7 : w1.cell? ⟨W.heap.size, 7, none⟩ = some (.string ⟨#[]⟩) := HB1.out.cell 7 rfl
  have f7 : w1.frozen? ⟨W.heap.size, 7, none⟩ = false := HB1.out.froz 7
  go_upto_region 19 with fail
  obtain ⟨w2, hw2⟩ : ∃ w2, w2 = w1.setCell ⟨W.heap.size, 7, none⟩ (.string (str x.r.p)) := ⟨_, rfl⟩
  rw [← hw2]
  have HB2 : Hid (Bx w2 W.heap.size 34 [.int .i64 4, .string ⟨#[]⟩, .int .i64 x.r.s, .int .i64 x.r.q, .int .i64 0, .string ⟨#[]⟩, .slice none 0 0, .string (str x.r.p), .int .i64 0, .int .i64 0, .int .i64 0]) := by rw [hw2]; exact HB1.out.set 7 _
  have HK2 : Hid (Kept [W.heap.size] w1 w2) := by rw [hw2]; exact kept_set w1 W.heap.size 7 _
  have HR2 := hide (HR1.out.kept HK2.out (by simp; have := HSz.out; omega))
  have HKw2 := hide (HKw1.out.trans HK2.out (by simp; have := HSz.out; omega))
  clear hw2 s7 f7
  replace c0 := HK2.out.cell c0 (by simp; have := HSz.out; omega)
  replace c1 := HK2.out.cell c1 (by simp; have := HSz.out; omega)
  replace c2 := HK2.out.cell c2 (by simp; have := HSz.out; omega)
  replace c3 := HK2.out.cell c3 (by simp; have := HSz.out; omega)
  replace c4 := HK2.out.cell c4 (by simp; have := HSz.out; omega)
  replace c5 := HK2.out.cell c5 (by simp; have := HSz.out; omega)
  replace c6 := HK2.out.cell c6 (by simp; have := HSz.out; omega)
  replace c7 := HK2.out.cell c7 (by simp; have := HSz.out; omega)
  replace c8 := HK2.out.cell c8 (by simp; have := HSz.out; omega)
  replace c9 := HK2.out.cell c9 (by simp; have := HSz.out; omega)
  replace c10 := HK2.out.cell c10 (by simp; have := HSz.out; omega)
  go_wp2_with (first | ((with_reducible refine wl_load_bx HB2.out HTz.out ?_ ?_); rfl) | ((with_reducible refine wl_store_bx HR2.out HLz.out HOz.out HTz.out ?_ ?_ ?_); rfl; rfl; intro wz HBz HKz))
  have KZ : Kept [] w wz := HKw2.out.trans HKz.out (by simp)
  refine bodyPost_ret (bx_result (by rfl) _ (by rfl) HBz.out HTz.out) rfl ?_
  exact ⟨.slice none 0 0, rfl, .inr ⟨rfl, rfl⟩, KZ⟩

set_option maxHeartbeats 8000000 in
set_option maxRecDepth 100000 in
theorem own_5 (w : World) (x : Rm) (hk : x.r.k = 5) : Calls Try.prog 33 #[rqV x] w (OwnP w x ⟨5, [], x.r.s, x.r.q, 0, [], [], [], x.r.fr, x.r.mn, 0⟩) := by
  unfold rqV
  rw [hk]
  clear hk
  obtain ⟨W, hW⟩ : ∃ W, W = (w.alloc (.cells #[.int .i64 5, .string (str x.r.n), .int .i64 x.r.s, .int .i64 x.r.q, .int .i64 x.r.b, .string (str x.r.f), .slice x.mo x.m x.mc, .string (str x.r.p), .int .i64 x.r.fr, .int .i64 x.r.mn, .int .i64 x.r.mb] 34)).alloc (.cells #[.int .i64 0, .string ⟨#[]⟩, .int .i64 0, .int .i64 0, .int .i64 0, .string ⟨#[]⟩, .slice none 0 0, .string ⟨#[]⟩, .int .i64 0, .int .i64 0, .int .i64 0] 34) := ⟨_, rfl⟩
  have k1 : Kept [] w (w.alloc (.cells #[.int .i64 5, .string (str x.r.n), .int .i64 x.r.s, .int .i64 x.r.q, .int .i64 x.r.b, .string (str x.r.f), .slice x.mo x.m x.mc, .string (str x.r.p), .int .i64 x.r.fr, .int .i64 x.r.mn, .int .i64 x.r.mb] 34)) := (Kept.refl _ _).alloc _
  have k2 : Kept [] (w.alloc (.cells #[.int .i64 5, .string (str x.r.n), .int .i64 x.r.s, .int .i64 x.r.q, .int .i64 x.r.b, .string (str x.r.f), .slice x.mo x.m x.mc, .string (str x.r.p), .int .i64 x.r.fr, .int .i64 x.r.mn, .int .i64 x.r.mb] 34)) W := by rw [hW]; exact (Kept.refl _ _).alloc _
  have hB : Bx W w.heap.size 34 [.int .i64 5, .string (str x.r.n), .int .i64 x.r.s, .int .i64 x.r.q, .int .i64 x.r.b, .string (str x.r.f), .slice x.mo x.m x.mc, .string (str x.r.p), .int .i64 x.r.fr, .int .i64 x.r.mn, .int .i64 x.r.mb] := (Bx.new w _ [.int .i64 5, .string (str x.r.n), .int .i64 x.r.s, .int .i64 x.r.q, .int .i64 x.r.b, .string (str x.r.f), .slice x.mo x.m x.mc, .string (str x.r.p), .int .i64 x.r.fr, .int .i64 x.r.mn, .int .i64 x.r.mb]).kept k2 (by simp)
  have HR : Hid (Bx W (w.heap.size + 1) 34 zrq) := by
    rw [hW]
    have h := Bx.new (w.alloc (.cells #[.int .i64 5, .string (str x.r.n), .int .i64 x.r.s, .int .i64 x.r.q, .int .i64 x.r.b, .string (str x.r.f), .slice x.mo x.m x.mc, .string (str x.r.p), .int .i64 x.r.fr, .int .i64 x.r.mn, .int .i64 x.r.mb] 34)) 34 zrq
    rw [show (w.alloc (.cells #[.int .i64 5, .string (str x.r.n), .int .i64 x.r.s, .int .i64 x.r.q, .int .i64 x.r.b, .string (str x.r.f), .slice x.mo x.m x.mc, .string (str x.r.p), .int .i64 x.r.fr, .int .i64 x.r.mn, .int .i64 x.r.mb] 34)).heap.size = w.heap.size + 1 by simp] at h
    exact h
  have HSz : Hid (W.heap.size = w.heap.size + 2) := by rw [hW]; show _ = _; simp
  have HB := hide hB
  have HK := hide (k1.trans k2 (by simp))
  have HW := hide hW
  have c0 : W.cell? ⟨w.heap.size, 0, none⟩ = some (.int .i64 5) := hB.cell 0 rfl
  have c1 : W.cell? ⟨w.heap.size, 1, none⟩ = some (.string (str x.r.n)) := hB.cell 1 rfl
  have c2 : W.cell? ⟨w.heap.size, 2, none⟩ = some (.int .i64 x.r.s) := hB.cell 2 rfl
  have c3 : W.cell? ⟨w.heap.size, 3, none⟩ = some (.int .i64 x.r.q) := hB.cell 3 rfl
  have c4 : W.cell? ⟨w.heap.size, 4, none⟩ = some (.int .i64 x.r.b) := hB.cell 4 rfl
  have c5 : W.cell? ⟨w.heap.size, 5, none⟩ = some (.string (str x.r.f)) := hB.cell 5 rfl
  have c6 : W.cell? ⟨w.heap.size, 6, none⟩ = some (.slice x.mo x.m x.mc) := hB.cell 6 rfl
  have c7 : W.cell? ⟨w.heap.size, 7, none⟩ = some (.string (str x.r.p)) := hB.cell 7 rfl
  have c8 : W.cell? ⟨w.heap.size, 8, none⟩ = some (.int .i64 x.r.fr) := hB.cell 8 rfl
  have c9 : W.cell? ⟨w.heap.size, 9, none⟩ = some (.int .i64 x.r.mn) := hB.cell 9 rfl
  have c10 : W.cell? ⟨w.heap.size, 10, none⟩ = some (.int .i64 x.r.mb) := hB.cell 10 rfl
  have HX : Hid (Bx (W.alloc (.cells #[.int .i64 0, .string ⟨#[]⟩, .int .i64 0, .int .i64 0, .int .i64 0, .string ⟨#[]⟩, .slice none 0 0, .string ⟨#[]⟩, .int .i64 0, .int .i64 0, .int .i64 0] 34)) W.heap.size 34 zrq) := Bx.new W _ zrq
  have HL : Hid (([.int .i64 5, .string ⟨#[]⟩, .int .i64 x.r.s, .int .i64 x.r.q, .int .i64 0, .string ⟨#[]⟩, .slice none 0 0, .string ⟨#[]⟩, .int .i64 0, .int .i64 0, .int .i64 0] : List Value).length = zrq.length) := rfl
  have HO : Hid (∀ v ∈ ([.int .i64 5, .string ⟨#[]⟩, .int .i64 x.r.s, .int .i64 x.r.q, .int .i64 0, .string ⟨#[]⟩, .slice none 0 0, .string ⟨#[]⟩, .int .i64 0, .int .i64 0, .int .i64 0] : List Value), v.oneCell' = true) := by intro v hv; simp at hv; rcases hv with rfl | rfl | rfl | rfl | rfl | rfl | rfl | rfl | rfl | rfl | rfl <;> rfl
  have HT : Hid (RowT Try.prog 34 ([.int .i64 5, .string ⟨#[]⟩, .int .i64 x.r.s, .int .i64 x.r.q, .int .i64 0, .string ⟨#[]⟩, .slice none 0 0, .string ⟨#[]⟩, .int .i64 0, .int .i64 0, .int .i64 0] : List Value).length) := rowT_req
  clear hB hW k1 k2
  go_enter Try.func33, Try.ntmps33
  go_upto_region 1 with fail
  rw [← HW.out]
  go_upto_region 2 with ((with_reducible refine wl_store_bx HX.out HL.out HO.out HT.out ?_ ?_ ?_); rfl; rfl; intro w1 HB1 HK1)
  have k1 : Kept [] W w1 := (((Kept.refl [W.heap.size] W).alloc _).trans HK1.out (by simp)).drop0 (by intro i hi; simp at hi; omega)
  have HR1 := hide (HR.out.kept k1 (by simp))
  have hB1 := HB.out.kept k1 (by simp)
  have HKw1 := hide (HK.out.trans k1 (by simp))
  have hs1 := HB1.out.lt
  clear HK1 HX HW c0 c1 c2 c3 c4 c5 c6 c7 c8 c9 c10
  have c0 : w1.cell? ⟨w.heap.size, 0, none⟩ = some (.int .i64 5) := hB1.cell 0 rfl
  have c1 : w1.cell? ⟨w.heap.size, 1, none⟩ = some (.string (str x.r.n)) := hB1.cell 1 rfl
  have c2 : w1.cell? ⟨w.heap.size, 2, none⟩ = some (.int .i64 x.r.s) := hB1.cell 2 rfl
  have c3 : w1.cell? ⟨w.heap.size, 3, none⟩ = some (.int .i64 x.r.q) := hB1.cell 3 rfl
  have c4 : w1.cell? ⟨w.heap.size, 4, none⟩ = some (.int .i64 x.r.b) := hB1.cell 4 rfl
  have c5 : w1.cell? ⟨w.heap.size, 5, none⟩ = some (.string (str x.r.f)) := hB1.cell 5 rfl
  have c6 : w1.cell? ⟨w.heap.size, 6, none⟩ = some (.slice x.mo x.m x.mc) := hB1.cell 6 rfl
  have c7 : w1.cell? ⟨w.heap.size, 7, none⟩ = some (.string (str x.r.p)) := hB1.cell 7 rfl
  have c8 : w1.cell? ⟨w.heap.size, 8, none⟩ = some (.int .i64 x.r.fr) := hB1.cell 8 rfl
  have c9 : w1.cell? ⟨w.heap.size, 9, none⟩ = some (.int .i64 x.r.mn) := hB1.cell 9 rfl
  have c10 : w1.cell? ⟨w.heap.size, 10, none⟩ = some (.int .i64 x.r.mb) := hB1.cell 10 rfl
  clear k1 hB1
  have HLz : Hid (([.int .i64 5, .string ⟨#[]⟩, .int .i64 x.r.s, .int .i64 x.r.q, .int .i64 0, .string ⟨#[]⟩, .slice none 0 0, .string ⟨#[]⟩, .int .i64 x.r.fr, .int .i64 x.r.mn, .int .i64 0] : List Value).length = zrq.length) := rfl
  have HOz : Hid (∀ v ∈ ([.int .i64 5, .string ⟨#[]⟩, .int .i64 x.r.s, .int .i64 x.r.q, .int .i64 0, .string ⟨#[]⟩, .slice none 0 0, .string ⟨#[]⟩, .int .i64 x.r.fr, .int .i64 x.r.mn, .int .i64 0] : List Value), v.oneCell' = true) := by intro v hv; simp at hv; rcases hv with rfl | rfl | rfl | rfl | rfl | rfl | rfl | rfl | rfl | rfl | rfl <;> rfl
  have HTz : Hid (RowT Try.prog 34 ([.int .i64 5, .string ⟨#[]⟩, .int .i64 x.r.s, .int .i64 x.r.q, .int .i64 0, .string ⟨#[]⟩, .slice none 0 0, .string ⟨#[]⟩, .int .i64 x.r.fr, .int .i64 x.r.mn, .int .i64 0] : List Value).length) := rowT_req
  go_upto_region 14 with fail
  have s8 : w1.cell? ⟨W.heap.size, 8, none⟩ = some (.int .i64 0) := HB1.out.cell 8 rfl
  have f8 : w1.frozen? ⟨W.heap.size, 8, none⟩ = false := HB1.out.froz 8
  go_upto_region 15 with fail
  obtain ⟨w2, hw2⟩ : ∃ w2, w2 = w1.setCell ⟨W.heap.size, 8, none⟩ (.int .i64 x.r.fr) := ⟨_, rfl⟩
  rw [← hw2]
  have HB2 : Hid (Bx w2 W.heap.size 34 [.int .i64 5, .string ⟨#[]⟩, .int .i64 x.r.s, .int .i64 x.r.q, .int .i64 0, .string ⟨#[]⟩, .slice none 0 0, .string ⟨#[]⟩, .int .i64 x.r.fr, .int .i64 0, .int .i64 0]) := by rw [hw2]; exact HB1.out.set 8 _
  have HK2 : Hid (Kept [W.heap.size] w1 w2) := by rw [hw2]; exact kept_set w1 W.heap.size 8 _
  have HR2 := hide (HR1.out.kept HK2.out (by simp; have := HSz.out; omega))
  have HKw2 := hide (HKw1.out.trans HK2.out (by simp; have := HSz.out; omega))
  clear hw2 s8 f8
  replace c0 := HK2.out.cell c0 (by simp; have := HSz.out; omega)
  replace c1 := HK2.out.cell c1 (by simp; have := HSz.out; omega)
  replace c2 := HK2.out.cell c2 (by simp; have := HSz.out; omega)
  replace c3 := HK2.out.cell c3 (by simp; have := HSz.out; omega)
  replace c4 := HK2.out.cell c4 (by simp; have := HSz.out; omega)
  replace c5 := HK2.out.cell c5 (by simp; have := HSz.out; omega)
  replace c6 := HK2.out.cell c6 (by simp; have := HSz.out; omega)
  replace c7 := HK2.out.cell c7 (by simp; have := HSz.out; omega)
  replace c8 := HK2.out.cell c8 (by simp; have := HSz.out; omega)
  replace c9 := HK2.out.cell c9 (by simp; have := HSz.out; omega)
  replace c10 := HK2.out.cell c10 (by simp; have := HSz.out; omega)
  have s9 : w2.cell? ⟨W.heap.size, 9, none⟩ = some (.int .i64 0) := HB2.out.cell 9 rfl
  have f9 : w2.frozen? ⟨W.heap.size, 9, none⟩ = false := HB2.out.froz 9
  go_upto_region 19 with fail
  obtain ⟨w3, hw3⟩ : ∃ w3, w3 = w2.setCell ⟨W.heap.size, 9, none⟩ (.int .i64 x.r.mn) := ⟨_, rfl⟩
  rw [← hw3]
  have HB3 : Hid (Bx w3 W.heap.size 34 [.int .i64 5, .string ⟨#[]⟩, .int .i64 x.r.s, .int .i64 x.r.q, .int .i64 0, .string ⟨#[]⟩, .slice none 0 0, .string ⟨#[]⟩, .int .i64 x.r.fr, .int .i64 x.r.mn, .int .i64 0]) := by rw [hw3]; exact HB2.out.set 9 _
  have HK3 : Hid (Kept [W.heap.size] w2 w3) := by rw [hw3]; exact kept_set w2 W.heap.size 9 _
  have HR3 := hide (HR2.out.kept HK3.out (by simp; have := HSz.out; omega))
  have HKw3 := hide (HKw2.out.trans HK3.out (by simp; have := HSz.out; omega))
  clear hw3 s9 f9
  replace c0 := HK3.out.cell c0 (by simp; have := HSz.out; omega)
  replace c1 := HK3.out.cell c1 (by simp; have := HSz.out; omega)
  replace c2 := HK3.out.cell c2 (by simp; have := HSz.out; omega)
  replace c3 := HK3.out.cell c3 (by simp; have := HSz.out; omega)
  replace c4 := HK3.out.cell c4 (by simp; have := HSz.out; omega)
  replace c5 := HK3.out.cell c5 (by simp; have := HSz.out; omega)
  replace c6 := HK3.out.cell c6 (by simp; have := HSz.out; omega)
  replace c7 := HK3.out.cell c7 (by simp; have := HSz.out; omega)
  replace c8 := HK3.out.cell c8 (by simp; have := HSz.out; omega)
  replace c9 := HK3.out.cell c9 (by simp; have := HSz.out; omega)
  replace c10 := HK3.out.cell c10 (by simp; have := HSz.out; omega)
  go_wp2_with (first | ((with_reducible refine wl_load_bx HB3.out HTz.out ?_ ?_); rfl) | ((with_reducible refine wl_store_bx HR3.out HLz.out HOz.out HTz.out ?_ ?_ ?_); rfl; rfl; intro wz HBz HKz))
  have KZ : Kept [] w wz := HKw3.out.trans HKz.out (by simp)
  refine bodyPost_ret (bx_result (by rfl) _ (by rfl) HBz.out HTz.out) rfl ?_
  exact ⟨.slice none 0 0, rfl, .inr ⟨rfl, rfl⟩, KZ⟩

set_option maxHeartbeats 8000000 in
set_option maxRecDepth 100000 in
theorem own_6 (w : World) (x : Rm) (hk : x.r.k = 6) : Calls Try.prog 33 #[rqV x] w (OwnP w x ⟨6, [], x.r.s, x.r.q, 0, [], [], [], 0, 0, x.r.mb⟩) := by
  unfold rqV
  rw [hk]
  clear hk
  obtain ⟨W, hW⟩ : ∃ W, W = (w.alloc (.cells #[.int .i64 6, .string (str x.r.n), .int .i64 x.r.s, .int .i64 x.r.q, .int .i64 x.r.b, .string (str x.r.f), .slice x.mo x.m x.mc, .string (str x.r.p), .int .i64 x.r.fr, .int .i64 x.r.mn, .int .i64 x.r.mb] 34)).alloc (.cells #[.int .i64 0, .string ⟨#[]⟩, .int .i64 0, .int .i64 0, .int .i64 0, .string ⟨#[]⟩, .slice none 0 0, .string ⟨#[]⟩, .int .i64 0, .int .i64 0, .int .i64 0] 34) := ⟨_, rfl⟩
  have k1 : Kept [] w (w.alloc (.cells #[.int .i64 6, .string (str x.r.n), .int .i64 x.r.s, .int .i64 x.r.q, .int .i64 x.r.b, .string (str x.r.f), .slice x.mo x.m x.mc, .string (str x.r.p), .int .i64 x.r.fr, .int .i64 x.r.mn, .int .i64 x.r.mb] 34)) := (Kept.refl _ _).alloc _
  have k2 : Kept [] (w.alloc (.cells #[.int .i64 6, .string (str x.r.n), .int .i64 x.r.s, .int .i64 x.r.q, .int .i64 x.r.b, .string (str x.r.f), .slice x.mo x.m x.mc, .string (str x.r.p), .int .i64 x.r.fr, .int .i64 x.r.mn, .int .i64 x.r.mb] 34)) W := by rw [hW]; exact (Kept.refl _ _).alloc _
  have hB : Bx W w.heap.size 34 [.int .i64 6, .string (str x.r.n), .int .i64 x.r.s, .int .i64 x.r.q, .int .i64 x.r.b, .string (str x.r.f), .slice x.mo x.m x.mc, .string (str x.r.p), .int .i64 x.r.fr, .int .i64 x.r.mn, .int .i64 x.r.mb] := (Bx.new w _ [.int .i64 6, .string (str x.r.n), .int .i64 x.r.s, .int .i64 x.r.q, .int .i64 x.r.b, .string (str x.r.f), .slice x.mo x.m x.mc, .string (str x.r.p), .int .i64 x.r.fr, .int .i64 x.r.mn, .int .i64 x.r.mb]).kept k2 (by simp)
  have HR : Hid (Bx W (w.heap.size + 1) 34 zrq) := by
    rw [hW]
    have h := Bx.new (w.alloc (.cells #[.int .i64 6, .string (str x.r.n), .int .i64 x.r.s, .int .i64 x.r.q, .int .i64 x.r.b, .string (str x.r.f), .slice x.mo x.m x.mc, .string (str x.r.p), .int .i64 x.r.fr, .int .i64 x.r.mn, .int .i64 x.r.mb] 34)) 34 zrq
    rw [show (w.alloc (.cells #[.int .i64 6, .string (str x.r.n), .int .i64 x.r.s, .int .i64 x.r.q, .int .i64 x.r.b, .string (str x.r.f), .slice x.mo x.m x.mc, .string (str x.r.p), .int .i64 x.r.fr, .int .i64 x.r.mn, .int .i64 x.r.mb] 34)).heap.size = w.heap.size + 1 by simp] at h
    exact h
  have HSz : Hid (W.heap.size = w.heap.size + 2) := by rw [hW]; show _ = _; simp
  have HB := hide hB
  have HK := hide (k1.trans k2 (by simp))
  have HW := hide hW
  have c0 : W.cell? ⟨w.heap.size, 0, none⟩ = some (.int .i64 6) := hB.cell 0 rfl
  have c1 : W.cell? ⟨w.heap.size, 1, none⟩ = some (.string (str x.r.n)) := hB.cell 1 rfl
  have c2 : W.cell? ⟨w.heap.size, 2, none⟩ = some (.int .i64 x.r.s) := hB.cell 2 rfl
  have c3 : W.cell? ⟨w.heap.size, 3, none⟩ = some (.int .i64 x.r.q) := hB.cell 3 rfl
  have c4 : W.cell? ⟨w.heap.size, 4, none⟩ = some (.int .i64 x.r.b) := hB.cell 4 rfl
  have c5 : W.cell? ⟨w.heap.size, 5, none⟩ = some (.string (str x.r.f)) := hB.cell 5 rfl
  have c6 : W.cell? ⟨w.heap.size, 6, none⟩ = some (.slice x.mo x.m x.mc) := hB.cell 6 rfl
  have c7 : W.cell? ⟨w.heap.size, 7, none⟩ = some (.string (str x.r.p)) := hB.cell 7 rfl
  have c8 : W.cell? ⟨w.heap.size, 8, none⟩ = some (.int .i64 x.r.fr) := hB.cell 8 rfl
  have c9 : W.cell? ⟨w.heap.size, 9, none⟩ = some (.int .i64 x.r.mn) := hB.cell 9 rfl
  have c10 : W.cell? ⟨w.heap.size, 10, none⟩ = some (.int .i64 x.r.mb) := hB.cell 10 rfl
  have HX : Hid (Bx (W.alloc (.cells #[.int .i64 0, .string ⟨#[]⟩, .int .i64 0, .int .i64 0, .int .i64 0, .string ⟨#[]⟩, .slice none 0 0, .string ⟨#[]⟩, .int .i64 0, .int .i64 0, .int .i64 0] 34)) W.heap.size 34 zrq) := Bx.new W _ zrq
  have HL : Hid (([.int .i64 6, .string ⟨#[]⟩, .int .i64 x.r.s, .int .i64 x.r.q, .int .i64 0, .string ⟨#[]⟩, .slice none 0 0, .string ⟨#[]⟩, .int .i64 0, .int .i64 0, .int .i64 0] : List Value).length = zrq.length) := rfl
  have HO : Hid (∀ v ∈ ([.int .i64 6, .string ⟨#[]⟩, .int .i64 x.r.s, .int .i64 x.r.q, .int .i64 0, .string ⟨#[]⟩, .slice none 0 0, .string ⟨#[]⟩, .int .i64 0, .int .i64 0, .int .i64 0] : List Value), v.oneCell' = true) := by intro v hv; simp at hv; rcases hv with rfl | rfl | rfl | rfl | rfl | rfl | rfl | rfl | rfl | rfl | rfl <;> rfl
  have HT : Hid (RowT Try.prog 34 ([.int .i64 6, .string ⟨#[]⟩, .int .i64 x.r.s, .int .i64 x.r.q, .int .i64 0, .string ⟨#[]⟩, .slice none 0 0, .string ⟨#[]⟩, .int .i64 0, .int .i64 0, .int .i64 0] : List Value).length) := rowT_req
  clear hB hW k1 k2
  go_enter Try.func33, Try.ntmps33
  go_upto_region 1 with fail
  rw [← HW.out]
  go_upto_region 2 with ((with_reducible refine wl_store_bx HX.out HL.out HO.out HT.out ?_ ?_ ?_); rfl; rfl; intro w1 HB1 HK1)
  have k1 : Kept [] W w1 := (((Kept.refl [W.heap.size] W).alloc _).trans HK1.out (by simp)).drop0 (by intro i hi; simp at hi; omega)
  have HR1 := hide (HR.out.kept k1 (by simp))
  have hB1 := HB.out.kept k1 (by simp)
  have HKw1 := hide (HK.out.trans k1 (by simp))
  have hs1 := HB1.out.lt
  clear HK1 HX HW c0 c1 c2 c3 c4 c5 c6 c7 c8 c9 c10
  have c0 : w1.cell? ⟨w.heap.size, 0, none⟩ = some (.int .i64 6) := hB1.cell 0 rfl
  have c1 : w1.cell? ⟨w.heap.size, 1, none⟩ = some (.string (str x.r.n)) := hB1.cell 1 rfl
  have c2 : w1.cell? ⟨w.heap.size, 2, none⟩ = some (.int .i64 x.r.s) := hB1.cell 2 rfl
  have c3 : w1.cell? ⟨w.heap.size, 3, none⟩ = some (.int .i64 x.r.q) := hB1.cell 3 rfl
  have c4 : w1.cell? ⟨w.heap.size, 4, none⟩ = some (.int .i64 x.r.b) := hB1.cell 4 rfl
  have c5 : w1.cell? ⟨w.heap.size, 5, none⟩ = some (.string (str x.r.f)) := hB1.cell 5 rfl
  have c6 : w1.cell? ⟨w.heap.size, 6, none⟩ = some (.slice x.mo x.m x.mc) := hB1.cell 6 rfl
  have c7 : w1.cell? ⟨w.heap.size, 7, none⟩ = some (.string (str x.r.p)) := hB1.cell 7 rfl
  have c8 : w1.cell? ⟨w.heap.size, 8, none⟩ = some (.int .i64 x.r.fr) := hB1.cell 8 rfl
  have c9 : w1.cell? ⟨w.heap.size, 9, none⟩ = some (.int .i64 x.r.mn) := hB1.cell 9 rfl
  have c10 : w1.cell? ⟨w.heap.size, 10, none⟩ = some (.int .i64 x.r.mb) := hB1.cell 10 rfl
  clear k1 hB1
  have HLz : Hid (([.int .i64 6, .string ⟨#[]⟩, .int .i64 x.r.s, .int .i64 x.r.q, .int .i64 0, .string ⟨#[]⟩, .slice none 0 0, .string ⟨#[]⟩, .int .i64 0, .int .i64 0, .int .i64 x.r.mb] : List Value).length = zrq.length) := rfl
  have HOz : Hid (∀ v ∈ ([.int .i64 6, .string ⟨#[]⟩, .int .i64 x.r.s, .int .i64 x.r.q, .int .i64 0, .string ⟨#[]⟩, .slice none 0 0, .string ⟨#[]⟩, .int .i64 0, .int .i64 0, .int .i64 x.r.mb] : List Value), v.oneCell' = true) := by intro v hv; simp at hv; rcases hv with rfl | rfl | rfl | rfl | rfl | rfl | rfl | rfl | rfl | rfl | rfl <;> rfl
  have HTz : Hid (RowT Try.prog 34 ([.int .i64 6, .string ⟨#[]⟩, .int .i64 x.r.s, .int .i64 x.r.q, .int .i64 0, .string ⟨#[]⟩, .slice none 0 0, .string ⟨#[]⟩, .int .i64 0, .int .i64 0, .int .i64 x.r.mb] : List Value).length) := rowT_req
  go_upto_region 18 with fail
  have s10 : w1.cell? ⟨W.heap.size, 10, none⟩ = some (.int .i64 0) := HB1.out.cell 10 rfl
  have f10 : w1.frozen? ⟨W.heap.size, 10, none⟩ = false := HB1.out.froz 10
  go_upto_region 19 with fail
  obtain ⟨w2, hw2⟩ : ∃ w2, w2 = w1.setCell ⟨W.heap.size, 10, none⟩ (.int .i64 x.r.mb) := ⟨_, rfl⟩
  rw [← hw2]
  have HB2 : Hid (Bx w2 W.heap.size 34 [.int .i64 6, .string ⟨#[]⟩, .int .i64 x.r.s, .int .i64 x.r.q, .int .i64 0, .string ⟨#[]⟩, .slice none 0 0, .string ⟨#[]⟩, .int .i64 0, .int .i64 0, .int .i64 x.r.mb]) := by rw [hw2]; exact HB1.out.set 10 _
  have HK2 : Hid (Kept [W.heap.size] w1 w2) := by rw [hw2]; exact kept_set w1 W.heap.size 10 _
  have HR2 := hide (HR1.out.kept HK2.out (by simp; have := HSz.out; omega))
  have HKw2 := hide (HKw1.out.trans HK2.out (by simp; have := HSz.out; omega))
  clear hw2 s10 f10
  replace c0 := HK2.out.cell c0 (by simp; have := HSz.out; omega)
  replace c1 := HK2.out.cell c1 (by simp; have := HSz.out; omega)
  replace c2 := HK2.out.cell c2 (by simp; have := HSz.out; omega)
  replace c3 := HK2.out.cell c3 (by simp; have := HSz.out; omega)
  replace c4 := HK2.out.cell c4 (by simp; have := HSz.out; omega)
  replace c5 := HK2.out.cell c5 (by simp; have := HSz.out; omega)
  replace c6 := HK2.out.cell c6 (by simp; have := HSz.out; omega)
  replace c7 := HK2.out.cell c7 (by simp; have := HSz.out; omega)
  replace c8 := HK2.out.cell c8 (by simp; have := HSz.out; omega)
  replace c9 := HK2.out.cell c9 (by simp; have := HSz.out; omega)
  replace c10 := HK2.out.cell c10 (by simp; have := HSz.out; omega)
  go_wp2_with (first | ((with_reducible refine wl_load_bx HB2.out HTz.out ?_ ?_); rfl) | ((with_reducible refine wl_store_bx HR2.out HLz.out HOz.out HTz.out ?_ ?_ ?_); rfl; rfl; intro wz HBz HKz))
  have KZ : Kept [] w wz := HKw2.out.trans HKz.out (by simp)
  refine bodyPost_ret (bx_result (by rfl) _ (by rfl) HBz.out HTz.out) rfl ?_
  exact ⟨.slice none 0 0, rfl, .inr ⟨rfl, rfl⟩, KZ⟩

set_option maxHeartbeats 8000000 in
set_option maxRecDepth 100000 in
theorem own_7 (w : World) (x : Rm) (hk : x.r.k = 7) : Calls Try.prog 33 #[rqV x] w (OwnP w x ⟨7, [], x.r.s, x.r.q, 0, [], [], [], 0, 0, x.r.mb⟩) := by
  unfold rqV
  rw [hk]
  clear hk
  obtain ⟨W, hW⟩ : ∃ W, W = (w.alloc (.cells #[.int .i64 7, .string (str x.r.n), .int .i64 x.r.s, .int .i64 x.r.q, .int .i64 x.r.b, .string (str x.r.f), .slice x.mo x.m x.mc, .string (str x.r.p), .int .i64 x.r.fr, .int .i64 x.r.mn, .int .i64 x.r.mb] 34)).alloc (.cells #[.int .i64 0, .string ⟨#[]⟩, .int .i64 0, .int .i64 0, .int .i64 0, .string ⟨#[]⟩, .slice none 0 0, .string ⟨#[]⟩, .int .i64 0, .int .i64 0, .int .i64 0] 34) := ⟨_, rfl⟩
  have k1 : Kept [] w (w.alloc (.cells #[.int .i64 7, .string (str x.r.n), .int .i64 x.r.s, .int .i64 x.r.q, .int .i64 x.r.b, .string (str x.r.f), .slice x.mo x.m x.mc, .string (str x.r.p), .int .i64 x.r.fr, .int .i64 x.r.mn, .int .i64 x.r.mb] 34)) := (Kept.refl _ _).alloc _
  have k2 : Kept [] (w.alloc (.cells #[.int .i64 7, .string (str x.r.n), .int .i64 x.r.s, .int .i64 x.r.q, .int .i64 x.r.b, .string (str x.r.f), .slice x.mo x.m x.mc, .string (str x.r.p), .int .i64 x.r.fr, .int .i64 x.r.mn, .int .i64 x.r.mb] 34)) W := by rw [hW]; exact (Kept.refl _ _).alloc _
  have hB : Bx W w.heap.size 34 [.int .i64 7, .string (str x.r.n), .int .i64 x.r.s, .int .i64 x.r.q, .int .i64 x.r.b, .string (str x.r.f), .slice x.mo x.m x.mc, .string (str x.r.p), .int .i64 x.r.fr, .int .i64 x.r.mn, .int .i64 x.r.mb] := (Bx.new w _ [.int .i64 7, .string (str x.r.n), .int .i64 x.r.s, .int .i64 x.r.q, .int .i64 x.r.b, .string (str x.r.f), .slice x.mo x.m x.mc, .string (str x.r.p), .int .i64 x.r.fr, .int .i64 x.r.mn, .int .i64 x.r.mb]).kept k2 (by simp)
  have HR : Hid (Bx W (w.heap.size + 1) 34 zrq) := by
    rw [hW]
    have h := Bx.new (w.alloc (.cells #[.int .i64 7, .string (str x.r.n), .int .i64 x.r.s, .int .i64 x.r.q, .int .i64 x.r.b, .string (str x.r.f), .slice x.mo x.m x.mc, .string (str x.r.p), .int .i64 x.r.fr, .int .i64 x.r.mn, .int .i64 x.r.mb] 34)) 34 zrq
    rw [show (w.alloc (.cells #[.int .i64 7, .string (str x.r.n), .int .i64 x.r.s, .int .i64 x.r.q, .int .i64 x.r.b, .string (str x.r.f), .slice x.mo x.m x.mc, .string (str x.r.p), .int .i64 x.r.fr, .int .i64 x.r.mn, .int .i64 x.r.mb] 34)).heap.size = w.heap.size + 1 by simp] at h
    exact h
  have HSz : Hid (W.heap.size = w.heap.size + 2) := by rw [hW]; show _ = _; simp
  have HB := hide hB
  have HK := hide (k1.trans k2 (by simp))
  have HW := hide hW
  have c0 : W.cell? ⟨w.heap.size, 0, none⟩ = some (.int .i64 7) := hB.cell 0 rfl
  have c1 : W.cell? ⟨w.heap.size, 1, none⟩ = some (.string (str x.r.n)) := hB.cell 1 rfl
  have c2 : W.cell? ⟨w.heap.size, 2, none⟩ = some (.int .i64 x.r.s) := hB.cell 2 rfl
  have c3 : W.cell? ⟨w.heap.size, 3, none⟩ = some (.int .i64 x.r.q) := hB.cell 3 rfl
  have c4 : W.cell? ⟨w.heap.size, 4, none⟩ = some (.int .i64 x.r.b) := hB.cell 4 rfl
  have c5 : W.cell? ⟨w.heap.size, 5, none⟩ = some (.string (str x.r.f)) := hB.cell 5 rfl
  have c6 : W.cell? ⟨w.heap.size, 6, none⟩ = some (.slice x.mo x.m x.mc) := hB.cell 6 rfl
  have c7 : W.cell? ⟨w.heap.size, 7, none⟩ = some (.string (str x.r.p)) := hB.cell 7 rfl
  have c8 : W.cell? ⟨w.heap.size, 8, none⟩ = some (.int .i64 x.r.fr) := hB.cell 8 rfl
  have c9 : W.cell? ⟨w.heap.size, 9, none⟩ = some (.int .i64 x.r.mn) := hB.cell 9 rfl
  have c10 : W.cell? ⟨w.heap.size, 10, none⟩ = some (.int .i64 x.r.mb) := hB.cell 10 rfl
  have HX : Hid (Bx (W.alloc (.cells #[.int .i64 0, .string ⟨#[]⟩, .int .i64 0, .int .i64 0, .int .i64 0, .string ⟨#[]⟩, .slice none 0 0, .string ⟨#[]⟩, .int .i64 0, .int .i64 0, .int .i64 0] 34)) W.heap.size 34 zrq) := Bx.new W _ zrq
  have HL : Hid (([.int .i64 7, .string ⟨#[]⟩, .int .i64 x.r.s, .int .i64 x.r.q, .int .i64 0, .string ⟨#[]⟩, .slice none 0 0, .string ⟨#[]⟩, .int .i64 0, .int .i64 0, .int .i64 0] : List Value).length = zrq.length) := rfl
  have HO : Hid (∀ v ∈ ([.int .i64 7, .string ⟨#[]⟩, .int .i64 x.r.s, .int .i64 x.r.q, .int .i64 0, .string ⟨#[]⟩, .slice none 0 0, .string ⟨#[]⟩, .int .i64 0, .int .i64 0, .int .i64 0] : List Value), v.oneCell' = true) := by intro v hv; simp at hv; rcases hv with rfl | rfl | rfl | rfl | rfl | rfl | rfl | rfl | rfl | rfl | rfl <;> rfl
  have HT : Hid (RowT Try.prog 34 ([.int .i64 7, .string ⟨#[]⟩, .int .i64 x.r.s, .int .i64 x.r.q, .int .i64 0, .string ⟨#[]⟩, .slice none 0 0, .string ⟨#[]⟩, .int .i64 0, .int .i64 0, .int .i64 0] : List Value).length) := rowT_req
  clear hB hW k1 k2
  go_enter Try.func33, Try.ntmps33
  go_upto_region 1 with fail
  rw [← HW.out]
  go_upto_region 2 with ((with_reducible refine wl_store_bx HX.out HL.out HO.out HT.out ?_ ?_ ?_); rfl; rfl; intro w1 HB1 HK1)
  have k1 : Kept [] W w1 := (((Kept.refl [W.heap.size] W).alloc _).trans HK1.out (by simp)).drop0 (by intro i hi; simp at hi; omega)
  have HR1 := hide (HR.out.kept k1 (by simp))
  have hB1 := HB.out.kept k1 (by simp)
  have HKw1 := hide (HK.out.trans k1 (by simp))
  have hs1 := HB1.out.lt
  clear HK1 HX HW c0 c1 c2 c3 c4 c5 c6 c7 c8 c9 c10
  have c0 : w1.cell? ⟨w.heap.size, 0, none⟩ = some (.int .i64 7) := hB1.cell 0 rfl
  have c1 : w1.cell? ⟨w.heap.size, 1, none⟩ = some (.string (str x.r.n)) := hB1.cell 1 rfl
  have c2 : w1.cell? ⟨w.heap.size, 2, none⟩ = some (.int .i64 x.r.s) := hB1.cell 2 rfl
  have c3 : w1.cell? ⟨w.heap.size, 3, none⟩ = some (.int .i64 x.r.q) := hB1.cell 3 rfl
  have c4 : w1.cell? ⟨w.heap.size, 4, none⟩ = some (.int .i64 x.r.b) := hB1.cell 4 rfl
  have c5 : w1.cell? ⟨w.heap.size, 5, none⟩ = some (.string (str x.r.f)) := hB1.cell 5 rfl
  have c6 : w1.cell? ⟨w.heap.size, 6, none⟩ = some (.slice x.mo x.m x.mc) := hB1.cell 6 rfl
  have c7 : w1.cell? ⟨w.heap.size, 7, none⟩ = some (.string (str x.r.p)) := hB1.cell 7 rfl
  have c8 : w1.cell? ⟨w.heap.size, 8, none⟩ = some (.int .i64 x.r.fr) := hB1.cell 8 rfl
  have c9 : w1.cell? ⟨w.heap.size, 9, none⟩ = some (.int .i64 x.r.mn) := hB1.cell 9 rfl
  have c10 : w1.cell? ⟨w.heap.size, 10, none⟩ = some (.int .i64 x.r.mb) := hB1.cell 10 rfl
  clear k1 hB1
  have HLz : Hid (([.int .i64 7, .string ⟨#[]⟩, .int .i64 x.r.s, .int .i64 x.r.q, .int .i64 0, .string ⟨#[]⟩, .slice none 0 0, .string ⟨#[]⟩, .int .i64 0, .int .i64 0, .int .i64 x.r.mb] : List Value).length = zrq.length) := rfl
  have HOz : Hid (∀ v ∈ ([.int .i64 7, .string ⟨#[]⟩, .int .i64 x.r.s, .int .i64 x.r.q, .int .i64 0, .string ⟨#[]⟩, .slice none 0 0, .string ⟨#[]⟩, .int .i64 0, .int .i64 0, .int .i64 x.r.mb] : List Value), v.oneCell' = true) := by intro v hv; simp at hv; rcases hv with rfl | rfl | rfl | rfl | rfl | rfl | rfl | rfl | rfl | rfl | rfl <;> rfl
  have HTz : Hid (RowT Try.prog 34 ([.int .i64 7, .string ⟨#[]⟩, .int .i64 x.r.s, .int .i64 x.r.q, .int .i64 0, .string ⟨#[]⟩, .slice none 0 0, .string ⟨#[]⟩, .int .i64 0, .int .i64 0, .int .i64 x.r.mb] : List Value).length) := rowT_req
  go_upto_region 18 with fail
  have s10 : w1.cell? ⟨W.heap.size, 10, none⟩ = some (.int .i64 0) := HB1.out.cell 10 rfl
  have f10 : w1.frozen? ⟨W.heap.size, 10, none⟩ = false := HB1.out.froz 10
  go_upto_region 19 with fail
  obtain ⟨w2, hw2⟩ : ∃ w2, w2 = w1.setCell ⟨W.heap.size, 10, none⟩ (.int .i64 x.r.mb) := ⟨_, rfl⟩
  rw [← hw2]
  have HB2 : Hid (Bx w2 W.heap.size 34 [.int .i64 7, .string ⟨#[]⟩, .int .i64 x.r.s, .int .i64 x.r.q, .int .i64 0, .string ⟨#[]⟩, .slice none 0 0, .string ⟨#[]⟩, .int .i64 0, .int .i64 0, .int .i64 x.r.mb]) := by rw [hw2]; exact HB1.out.set 10 _
  have HK2 : Hid (Kept [W.heap.size] w1 w2) := by rw [hw2]; exact kept_set w1 W.heap.size 10 _
  have HR2 := hide (HR1.out.kept HK2.out (by simp; have := HSz.out; omega))
  have HKw2 := hide (HKw1.out.trans HK2.out (by simp; have := HSz.out; omega))
  clear hw2 s10 f10
  replace c0 := HK2.out.cell c0 (by simp; have := HSz.out; omega)
  replace c1 := HK2.out.cell c1 (by simp; have := HSz.out; omega)
  replace c2 := HK2.out.cell c2 (by simp; have := HSz.out; omega)
  replace c3 := HK2.out.cell c3 (by simp; have := HSz.out; omega)
  replace c4 := HK2.out.cell c4 (by simp; have := HSz.out; omega)
  replace c5 := HK2.out.cell c5 (by simp; have := HSz.out; omega)
  replace c6 := HK2.out.cell c6 (by simp; have := HSz.out; omega)
  replace c7 := HK2.out.cell c7 (by simp; have := HSz.out; omega)
  replace c8 := HK2.out.cell c8 (by simp; have := HSz.out; omega)
  replace c9 := HK2.out.cell c9 (by simp; have := HSz.out; omega)
  replace c10 := HK2.out.cell c10 (by simp; have := HSz.out; omega)
  go_wp2_with (first | ((with_reducible refine wl_load_bx HB2.out HTz.out ?_ ?_); rfl) | ((with_reducible refine wl_store_bx HR2.out HLz.out HOz.out HTz.out ?_ ?_ ?_); rfl; rfl; intro wz HBz HKz))
  have KZ : Kept [] w wz := HKw2.out.trans HKz.out (by simp)
  refine bodyPost_ret (bx_result (by rfl) _ (by rfl) HBz.out HTz.out) rfl ?_
  exact ⟨.slice none 0 0, rfl, .inr ⟨rfl, rfl⟩, KZ⟩

set_option maxHeartbeats 8000000 in
set_option maxRecDepth 100000 in
theorem own_x (w : World) (x : Rm) (h0 : x.r.k ≠ 0) (h1 : x.r.k ≠ 1) (h2 : x.r.k ≠ 2) (h4 : x.r.k ≠ 4) (h5 : x.r.k ≠ 5) (h6 : x.r.k ≠ 6) (h7 : x.r.k ≠ 7) : Calls Try.prog 33 #[rqV x] w (OwnP w x ⟨x.r.k, [], x.r.s, x.r.q, 0, [], [], [], 0, 0, 0⟩) := by
  have b0 : (x.r.k == 0) = false := by simpa using h0
  have b1 : (x.r.k == 1) = false := by simpa using h1
  have b2 : (x.r.k == 2) = false := by simpa using h2
  have b4 : (x.r.k == 4) = false := by simpa using h4
  have b5 : (x.r.k == 5) = false := by simpa using h5
  have b6 : (x.r.k == 6) = false := by simpa using h6
  have b7 : (x.r.k == 7) = false := by simpa using h7
  clear h0 h1 h2 h4 h5 h6 h7
  unfold rqV
  obtain ⟨W, hW⟩ : ∃ W, W = (w.alloc (.cells #[.int .i64 x.r.k, .string (str x.r.n), .int .i64 x.r.s, .int .i64 x.r.q, .int .i64 x.r.b, .string (str x.r.f), .slice x.mo x.m x.mc, .string (str x.r.p), .int .i64 x.r.fr, .int .i64 x.r.mn, .int .i64 x.r.mb] 34)).alloc (.cells #[.int .i64 0, .string ⟨#[]⟩, .int .i64 0, .int .i64 0, .int .i64 0, .string ⟨#[]⟩, .slice none 0 0, .string ⟨#[]⟩, .int .i64 0, .int .i64 0, .int .i64 0] 34) := ⟨_, rfl⟩
  have k1 : Kept [] w (w.alloc (.cells #[.int .i64 x.r.k, .string (str x.r.n), .int .i64 x.r.s, .int .i64 x.r.q, .int .i64 x.r.b, .string (str x.r.f), .slice x.mo x.m x.mc, .string (str x.r.p), .int .i64 x.r.fr, .int .i64 x.r.mn, .int .i64 x.r.mb] 34)) := (Kept.refl _ _).alloc _
  have k2 : Kept [] (w.alloc (.cells #[.int .i64 x.r.k, .string (str x.r.n), .int .i64 x.r.s, .int .i64 x.r.q, .int .i64 x.r.b, .string (str x.r.f), .slice x.mo x.m x.mc, .string (str x.r.p), .int .i64 x.r.fr, .int .i64 x.r.mn, .int .i64 x.r.mb] 34)) W := by rw [hW]; exact (Kept.refl _ _).alloc _
  have hB : Bx W w.heap.size 34 [.int .i64 x.r.k, .string (str x.r.n), .int .i64 x.r.s, .int .i64 x.r.q, .int .i64 x.r.b, .string (str x.r.f), .slice x.mo x.m x.mc, .string (str x.r.p), .int .i64 x.r.fr, .int .i64 x.r.mn, .int .i64 x.r.mb] := (Bx.new w _ [.int .i64 x.r.k, .string (str x.r.n), .int .i64 x.r.s, .int .i64 x.r.q, .int .i64 x.r.b, .string (str x.r.f), .slice x.mo x.m x.mc, .string (str x.r.p), .int .i64 x.r.fr, .int .i64 x.r.mn, .int .i64 x.r.mb]).kept k2 (by simp)
  have HR : Hid (Bx W (w.heap.size + 1) 34 zrq) := by
    rw [hW]
    have h := Bx.new (w.alloc (.cells #[.int .i64 x.r.k, .string (str x.r.n), .int .i64 x.r.s, .int .i64 x.r.q, .int .i64 x.r.b, .string (str x.r.f), .slice x.mo x.m x.mc, .string (str x.r.p), .int .i64 x.r.fr, .int .i64 x.r.mn, .int .i64 x.r.mb] 34)) 34 zrq
    rw [show (w.alloc (.cells #[.int .i64 x.r.k, .string (str x.r.n), .int .i64 x.r.s, .int .i64 x.r.q, .int .i64 x.r.b, .string (str x.r.f), .slice x.mo x.m x.mc, .string (str x.r.p), .int .i64 x.r.fr, .int .i64 x.r.mn, .int .i64 x.r.mb] 34)).heap.size = w.heap.size + 1 by simp] at h
    exact h
  have HSz : Hid (W.heap.size = w.heap.size + 2) := by rw [hW]; show _ = _; simp
  have HB := hide hB
  have HK := hide (k1.trans k2 (by simp))
  have HW := hide hW
  have c0 : W.cell? ⟨w.heap.size, 0, none⟩ = some (.int .i64 x.r.k) := hB.cell 0 rfl
  have c1 : W.cell? ⟨w.heap.size, 1, none⟩ = some (.string (str x.r.n)) := hB.cell 1 rfl
  have c2 : W.cell? ⟨w.heap.size, 2, none⟩ = some (.int .i64 x.r.s) := hB.cell 2 rfl
  have c3 : W.cell? ⟨w.heap.size, 3, none⟩ = some (.int .i64 x.r.q) := hB.cell 3 rfl
  have c4 : W.cell? ⟨w.heap.size, 4, none⟩ = some (.int .i64 x.r.b) := hB.cell 4 rfl
  have c5 : W.cell? ⟨w.heap.size, 5, none⟩ = some (.string (str x.r.f)) := hB.cell 5 rfl
  have c6 : W.cell? ⟨w.heap.size, 6, none⟩ = some (.slice x.mo x.m x.mc) := hB.cell 6 rfl
  have c7 : W.cell? ⟨w.heap.size, 7, none⟩ = some (.string (str x.r.p)) := hB.cell 7 rfl
  have c8 : W.cell? ⟨w.heap.size, 8, none⟩ = some (.int .i64 x.r.fr) := hB.cell 8 rfl
  have c9 : W.cell? ⟨w.heap.size, 9, none⟩ = some (.int .i64 x.r.mn) := hB.cell 9 rfl
  have c10 : W.cell? ⟨w.heap.size, 10, none⟩ = some (.int .i64 x.r.mb) := hB.cell 10 rfl
  have HX : Hid (Bx (W.alloc (.cells #[.int .i64 0, .string ⟨#[]⟩, .int .i64 0, .int .i64 0, .int .i64 0, .string ⟨#[]⟩, .slice none 0 0, .string ⟨#[]⟩, .int .i64 0, .int .i64 0, .int .i64 0] 34)) W.heap.size 34 zrq) := Bx.new W _ zrq
  have HL : Hid (([.int .i64 x.r.k, .string ⟨#[]⟩, .int .i64 x.r.s, .int .i64 x.r.q, .int .i64 0, .string ⟨#[]⟩, .slice none 0 0, .string ⟨#[]⟩, .int .i64 0, .int .i64 0, .int .i64 0] : List Value).length = zrq.length) := rfl
  have HO : Hid (∀ v ∈ ([.int .i64 x.r.k, .string ⟨#[]⟩, .int .i64 x.r.s, .int .i64 x.r.q, .int .i64 0, .string ⟨#[]⟩, .slice none 0 0, .string ⟨#[]⟩, .int .i64 0, .int .i64 0, .int .i64 0] : List Value), v.oneCell' = true) := by intro v hv; simp at hv; rcases hv with rfl | rfl | rfl | rfl | rfl | rfl | rfl | rfl | rfl | rfl | rfl <;> rfl
  have HT : Hid (RowT Try.prog 34 ([.int .i64 x.r.k, .string ⟨#[]⟩, .int .i64 x.r.s, .int .i64 x.r.q, .int .i64 0, .string ⟨#[]⟩, .slice none 0 0, .string ⟨#[]⟩, .int .i64 0, .int .i64 0, .int .i64 0] : List Value).length) := rowT_req
  clear hB hW k1 k2
  go_enter Try.func33, Try.ntmps33
  go_upto_region 1 with fail
  rw [← HW.out]
  go_upto_region 2 with ((with_reducible refine wl_store_bx HX.out HL.out HO.out HT.out ?_ ?_ ?_); rfl; rfl; intro w1 HB1 HK1)
  have k1 : Kept [] W w1 := (((Kept.refl [W.heap.size] W).alloc _).trans HK1.out (by simp)).drop0 (by intro i hi; simp at hi; omega)
  have HR1 := hide (HR.out.kept k1 (by simp))
  have hB1 := HB.out.kept k1 (by simp)
  have HKw1 := hide (HK.out.trans k1 (by simp))
  have hs1 := HB1.out.lt
  clear HK1 HX HW c0 c1 c2 c3 c4 c5 c6 c7 c8 c9 c10
  have c0 : w1.cell? ⟨w.heap.size, 0, none⟩ = some (.int .i64 x.r.k) := hB1.cell 0 rfl
  have c1 : w1.cell? ⟨w.heap.size, 1, none⟩ = some (.string (str x.r.n)) := hB1.cell 1 rfl
  have c2 : w1.cell? ⟨w.heap.size, 2, none⟩ = some (.int .i64 x.r.s) := hB1.cell 2 rfl
  have c3 : w1.cell? ⟨w.heap.size, 3, none⟩ = some (.int .i64 x.r.q) := hB1.cell 3 rfl
  have c4 : w1.cell? ⟨w.heap.size, 4, none⟩ = some (.int .i64 x.r.b) := hB1.cell 4 rfl
  have c5 : w1.cell? ⟨w.heap.size, 5, none⟩ = some (.string (str x.r.f)) := hB1.cell 5 rfl
  have c6 : w1.cell? ⟨w.heap.size, 6, none⟩ = some (.slice x.mo x.m x.mc) := hB1.cell 6 rfl
  have c7 : w1.cell? ⟨w.heap.size, 7, none⟩ = some (.string (str x.r.p)) := hB1.cell 7 rfl
  have c8 : w1.cell? ⟨w.heap.size, 8, none⟩ = some (.int .i64 x.r.fr) := hB1.cell 8 rfl
  have c9 : w1.cell? ⟨w.heap.size, 9, none⟩ = some (.int .i64 x.r.mn) := hB1.cell 9 rfl
  have c10 : w1.cell? ⟨w.heap.size, 10, none⟩ = some (.int .i64 x.r.mb) := hB1.cell 10 rfl
  clear k1 hB1
  have HLz : Hid (([.int .i64 x.r.k, .string ⟨#[]⟩, .int .i64 x.r.s, .int .i64 x.r.q, .int .i64 0, .string ⟨#[]⟩, .slice none 0 0, .string ⟨#[]⟩, .int .i64 0, .int .i64 0, .int .i64 0] : List Value).length = zrq.length) := rfl
  have HOz : Hid (∀ v ∈ ([.int .i64 x.r.k, .string ⟨#[]⟩, .int .i64 x.r.s, .int .i64 x.r.q, .int .i64 0, .string ⟨#[]⟩, .slice none 0 0, .string ⟨#[]⟩, .int .i64 0, .int .i64 0, .int .i64 0] : List Value), v.oneCell' = true) := by intro v hv; simp at hv; rcases hv with rfl | rfl | rfl | rfl | rfl | rfl | rfl | rfl | rfl | rfl | rfl <;> rfl
  have HTz : Hid (RowT Try.prog 34 ([.int .i64 x.r.k, .string ⟨#[]⟩, .int .i64 x.r.s, .int .i64 x.r.q, .int .i64 0, .string ⟨#[]⟩, .slice none 0 0, .string ⟨#[]⟩, .int .i64 0, .int .i64 0, .int .i64 0] : List Value).length) := rowT_req
  go_upto_region 19 with fail
  go_wp2_with (first | ((with_reducible refine wl_load_bx HB1.out HTz.out ?_ ?_); rfl) | ((with_reducible refine wl_store_bx HR1.out HLz.out HOz.out HTz.out ?_ ?_ ?_); rfl; rfl; intro wz HBz HKz))
  have KZ : Kept [] w wz := HKw1.out.trans HKz.out (by simp)
  refine bodyPost_ret (bx_result (by rfl) _ (by rfl) HBz.out HTz.out) rfl ?_
  exact ⟨.slice none 0 0, rfl, .inr ⟨rfl, rfl⟩, KZ⟩

end Go.Proofs.Ytlgacmmofimlmab
