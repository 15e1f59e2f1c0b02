/-
  The document's ownVerdict. (Written by mk/mkownv.py.)
-/
import Derived.Test.YtlgacmmofimlmabEnDvP
import Derived.Test.YtlgacmmofimlmabEnDc2
import Derived.Test.YtlgacmmofimlmabF8
namespace Go.Proofs.Ytlgacmmofimlmab
open Go.RowKit

/-- What ownVerdict answers. -/
def OwnQ (w : World) (u : Value) (k : List Com) (q : Vt) (e : Ending) (w' : World) : Prop := ∃ u', e = .returned (.agg (vtL q u').toArray) ∧ (u' = u ∧ q.k = k ∨ u' = .slice none 0 0 ∧ q.k = []) ∧ Kept [] w w'

set_option maxHeartbeats 8000000 in
set_option maxRecDepth 100000 in
theorem ownV_1 (w : World) (v : Vt) (uo : Option Addr) (un uc : Nat) (hk : v.c = 1) : Calls Try.prog 27 #[vtV v (.slice uo un uc)] w (OwnQ w (.slice uo un uc) v.k ⟨1, v.s, 0, [], 0, [], 0⟩) := by
  unfold vtV
  rw [hk]
  clear hk
  obtain ⟨W, hW⟩ : ∃ W, W = (w.alloc (.cells #[.int .i64 1, .int .i64 v.s, .int .i64 v.r, .string (str v.p), .int .u64 v.d, .slice uo un uc, .int .i64 v.m] 26)).alloc (.cells #[.int .i64 0, .int .i64 0, .int .i64 0, .string ⟨#[]⟩, .int .u64 0, .slice none 0 0, .int .i64 0] 26) := ⟨_, rfl⟩
  have k1 : Kept [] w (w.alloc (.cells #[.int .i64 1, .int .i64 v.s, .int .i64 v.r, .string (str v.p), .int .u64 v.d, .slice uo un uc, .int .i64 v.m] 26)) := (Kept.refl _ _).alloc _
  have k2 : Kept [] (w.alloc (.cells #[.int .i64 1, .int .i64 v.s, .int .i64 v.r, .string (str v.p), .int .u64 v.d, .slice uo un uc, .int .i64 v.m] 26)) W := by rw [hW]; exact (Kept.refl _ _).alloc _
  have hB : Bx W w.heap.size 26 [.int .i64 1, .int .i64 v.s, .int .i64 v.r, .string (str v.p), .int .u64 v.d, .slice uo un uc, .int .i64 v.m] := (Bx.new w _ [.int .i64 1, .int .i64 v.s, .int .i64 v.r, .string (str v.p), .int .u64 v.d, .slice uo un uc, .int .i64 v.m]).kept k2 (by simp)
  have HR : Hid (Bx W (w.heap.size + 1) 26 zvt) := by
    rw [hW]
    have h := Bx.new (w.alloc (.cells #[.int .i64 1, .int .i64 v.s, .int .i64 v.r, .string (str v.p), .int .u64 v.d, .slice uo un uc, .int .i64 v.m] 26)) 26 zvt
    rw [show (w.alloc (.cells #[.int .i64 1, .int .i64 v.s, .int .i64 v.r, .string (str v.p), .int .u64 v.d, .slice uo un uc, .int .i64 v.m] 26)).heap.size = w.heap.size + 1 by simp] at h
    exact h
  have HSz : Hid (W.heap.size = w.heap.size + 2) := by rw [hW]; show _ = _; simp
  have HB := hide hB
  have HK := hide (k1.trans k2 (by simp))
  have HW := hide hW
  have c0 : W.cell? ⟨w.heap.size, 0, none⟩ = some (.int .i64 1) := hB.cell 0 rfl
  have c1 : W.cell? ⟨w.heap.size, 1, none⟩ = some (.int .i64 v.s) := hB.cell 1 rfl
  have c2 : W.cell? ⟨w.heap.size, 2, none⟩ = some (.int .i64 v.r) := hB.cell 2 rfl
  have c3 : W.cell? ⟨w.heap.size, 3, none⟩ = some (.string (str v.p)) := hB.cell 3 rfl
  have c4 : W.cell? ⟨w.heap.size, 4, none⟩ = some (.int .u64 v.d) := hB.cell 4 rfl
  have c5 : W.cell? ⟨w.heap.size, 5, none⟩ = some (.slice uo un uc) := hB.cell 5 rfl
  have c6 : W.cell? ⟨w.heap.size, 6, none⟩ = some (.int .i64 v.m) := hB.cell 6 rfl
  have HX : Hid (Bx (W.alloc (.cells #[.int .i64 0, .int .i64 0, .int .i64 0, .string ⟨#[]⟩, .int .u64 0, .slice none 0 0, .int .i64 0] 26)) W.heap.size 26 zvt) := Bx.new W _ zvt
  have HL : Hid (([.int .i64 1, .int .i64 0, .int .i64 0, .string ⟨#[]⟩, .int .u64 0, .slice none 0 0, .int .i64 0] : List Value).length = zvt.length) := rfl
  have HO : Hid (∀ z ∈ ([.int .i64 1, .int .i64 0, .int .i64 0, .string ⟨#[]⟩, .int .u64 0, .slice none 0 0, .int .i64 0] : List Value), z.oneCell' = true) := by intro z hv; simp at hv; rcases hv with rfl | rfl | rfl | rfl | rfl | rfl | rfl <;> rfl
  have HT : Hid (RowT Try.prog 26 ([.int .i64 1, .int .i64 0, .int .i64 0, .string ⟨#[]⟩, .int .u64 0, .slice none 0 0, .int .i64 0] : List Value).length) := rowT_ver
  clear hB hW k1 k2
  go_enter Try.func27, Try.ntmps27
  go_upto_region 1 with fail
  rw [← HW.out]
  go_upto_region 2 with ((with_reducible refine wl_store_bx HX.out HL.out HO.out HT.out ?_ ?_ ?_); rfl; rfl; intro w1 HB1 HK1)
  have k1 : Kept [] W w1 := (((Kept.refl [W.heap.size] W).alloc _).trans HK1.out (by simp)).drop0 (by intro i hi; simp at hi; omega)
  have HR1 := hide (HR.out.kept k1 (by simp))
  have hB1 := HB.out.kept k1 (by simp)
  have HKw1 := hide (HK.out.trans k1 (by simp))
  clear HK1 HX HW c0 c1 c2 c3 c4 c5 c6
  have c0 : w1.cell? ⟨w.heap.size, 0, none⟩ = some (.int .i64 1) := hB1.cell 0 rfl
  have c1 : w1.cell? ⟨w.heap.size, 1, none⟩ = some (.int .i64 v.s) := hB1.cell 1 rfl
  have c2 : w1.cell? ⟨w.heap.size, 2, none⟩ = some (.int .i64 v.r) := hB1.cell 2 rfl
  have c3 : w1.cell? ⟨w.heap.size, 3, none⟩ = some (.string (str v.p)) := hB1.cell 3 rfl
  have c4 : w1.cell? ⟨w.heap.size, 4, none⟩ = some (.int .u64 v.d) := hB1.cell 4 rfl
  have c5 : w1.cell? ⟨w.heap.size, 5, none⟩ = some (.slice uo un uc) := hB1.cell 5 rfl
  have c6 : w1.cell? ⟨w.heap.size, 6, none⟩ = some (.int .i64 v.m) := hB1.cell 6 rfl
  clear k1 hB1
  have HLz : Hid (([.int .i64 1, .int .i64 v.s, .int .i64 0, .string ⟨#[]⟩, .int .u64 0, .slice none 0 0, .int .i64 0] : List Value).length = zvt.length) := rfl
  have HOz : Hid (∀ z ∈ ([.int .i64 1, .int .i64 v.s, .int .i64 0, .string ⟨#[]⟩, .int .u64 0, .slice none 0 0, .int .i64 0] : List Value), z.oneCell' = true) := by intro z hv; simp at hv; rcases hv with rfl | rfl | rfl | rfl | rfl | rfl | rfl <;> rfl
  have HTz : Hid (RowT Try.prog 26 ([.int .i64 1, .int .i64 v.s, .int .i64 0, .string ⟨#[]⟩, .int .u64 0, .slice none 0 0, .int .i64 0] : List Value).length) := rowT_ver
  go_upto_region 4 with fail
  have s1 : w1.cell? ⟨W.heap.size, 1, none⟩ = some (.int .i64 0) := HB1.out.cell 1 rfl
  have f1 : w1.frozen? ⟨W.heap.size, 1, none⟩ = false := HB1.out.froz 1
  go_upto_region 24 with fail
  obtain ⟨w2, hw2⟩ : ∃ w2, w2 = w1.setCell ⟨W.heap.size, 1, none⟩ (.int .i64 v.s) := ⟨_, rfl⟩
  rw [← hw2]
  have HB2 : Hid (Bx w2 W.heap.size 26 [.int .i64 1, .int .i64 v.s, .int .i64 0, .string ⟨#[]⟩, .int .u64 0, .slice none 0 0, .int .i64 0]) := by rw [hw2]; exact HB1.out.set 1 _
  have HK2 : Hid (Kept [W.heap.size] w1 w2) := by rw [hw2]; exact kept_set w1 W.heap.size 1 _
  have HR2 := hide (HR1.out.kept HK2.out (by simp; have := HSz.out; omega))
  have HKw2 := hide (HKw1.out.trans HK2.out (by simp; have := HSz.out; omega))
  clear hw2 s1 f1
  replace c0 := HK2.out.cell c0 (by simp; have := HSz.out; omega)
  replace c1 := HK2.out.cell c1 (by simp; have := HSz.out; omega)
  replace c2 := HK2.out.cell c2 (by simp; have := HSz.out; omega)
  replace c3 := HK2.out.cell c3 (by simp; have := HSz.out; omega)
  replace c4 := HK2.out.cell c4 (by simp; have := HSz.out; omega)
  replace c5 := HK2.out.cell c5 (by simp; have := HSz.out; omega)
  replace c6 := HK2.out.cell c6 (by simp; have := HSz.out; omega)
  go_wp2_with (first | ((with_reducible refine wl_load_bx HB2.out HTz.out ?_ ?_); rfl) | ((with_reducible refine wl_store_bx HR2.out HLz.out HOz.out HTz.out ?_ ?_ ?_); rfl; rfl; intro wz HBz HKz))
  have KZ : Kept [] w wz := HKw2.out.trans HKz.out (by simp)
  refine bodyPost_ret (bx_result (by rfl) _ (by rfl) HBz.out HTz.out) rfl ?_
  exact ⟨.slice none 0 0, rfl, .inr ⟨rfl, rfl⟩, KZ⟩

set_option maxHeartbeats 8000000 in
set_option maxRecDepth 100000 in
theorem ownV_2 (w : World) (v : Vt) (uo : Option Addr) (un uc : Nat) (hk : v.c = 2) : Calls Try.prog 27 #[vtV v (.slice uo un uc)] w (OwnQ w (.slice uo un uc) v.k ⟨2, 0, v.r, [], 0, [], 0⟩) := by
  unfold vtV
  rw [hk]
  clear hk
  obtain ⟨W, hW⟩ : ∃ W, W = (w.alloc (.cells #[.int .i64 2, .int .i64 v.s, .int .i64 v.r, .string (str v.p), .int .u64 v.d, .slice uo un uc, .int .i64 v.m] 26)).alloc (.cells #[.int .i64 0, .int .i64 0, .int .i64 0, .string ⟨#[]⟩, .int .u64 0, .slice none 0 0, .int .i64 0] 26) := ⟨_, rfl⟩
  have k1 : Kept [] w (w.alloc (.cells #[.int .i64 2, .int .i64 v.s, .int .i64 v.r, .string (str v.p), .int .u64 v.d, .slice uo un uc, .int .i64 v.m] 26)) := (Kept.refl _ _).alloc _
  have k2 : Kept [] (w.alloc (.cells #[.int .i64 2, .int .i64 v.s, .int .i64 v.r, .string (str v.p), .int .u64 v.d, .slice uo un uc, .int .i64 v.m] 26)) W := by rw [hW]; exact (Kept.refl _ _).alloc _
  have hB : Bx W w.heap.size 26 [.int .i64 2, .int .i64 v.s, .int .i64 v.r, .string (str v.p), .int .u64 v.d, .slice uo un uc, .int .i64 v.m] := (Bx.new w _ [.int .i64 2, .int .i64 v.s, .int .i64 v.r, .string (str v.p), .int .u64 v.d, .slice uo un uc, .int .i64 v.m]).kept k2 (by simp)
  have HR : Hid (Bx W (w.heap.size + 1) 26 zvt) := by
    rw [hW]
    have h := Bx.new (w.alloc (.cells #[.int .i64 2, .int .i64 v.s, .int .i64 v.r, .string (str v.p), .int .u64 v.d, .slice uo un uc, .int .i64 v.m] 26)) 26 zvt
    rw [show (w.alloc (.cells #[.int .i64 2, .int .i64 v.s, .int .i64 v.r, .string (str v.p), .int .u64 v.d, .slice uo un uc, .int .i64 v.m] 26)).heap.size = w.heap.size + 1 by simp] at h
    exact h
  have HSz : Hid (W.heap.size = w.heap.size + 2) := by rw [hW]; show _ = _; simp
  have HB := hide hB
  have HK := hide (k1.trans k2 (by simp))
  have HW := hide hW
  have c0 : W.cell? ⟨w.heap.size, 0, none⟩ = some (.int .i64 2) := hB.cell 0 rfl
  have c1 : W.cell? ⟨w.heap.size, 1, none⟩ = some (.int .i64 v.s) := hB.cell 1 rfl
  have c2 : W.cell? ⟨w.heap.size, 2, none⟩ = some (.int .i64 v.r) := hB.cell 2 rfl
  have c3 : W.cell? ⟨w.heap.size, 3, none⟩ = some (.string (str v.p)) := hB.cell 3 rfl
  have c4 : W.cell? ⟨w.heap.size, 4, none⟩ = some (.int .u64 v.d) := hB.cell 4 rfl
  have c5 : W.cell? ⟨w.heap.size, 5, none⟩ = some (.slice uo un uc) := hB.cell 5 rfl
  have c6 : W.cell? ⟨w.heap.size, 6, none⟩ = some (.int .i64 v.m) := hB.cell 6 rfl
  have HX : Hid (Bx (W.alloc (.cells #[.int .i64 0, .int .i64 0, .int .i64 0, .string ⟨#[]⟩, .int .u64 0, .slice none 0 0, .int .i64 0] 26)) W.heap.size 26 zvt) := Bx.new W _ zvt
  have HL : Hid (([.int .i64 2, .int .i64 0, .int .i64 0, .string ⟨#[]⟩, .int .u64 0, .slice none 0 0, .int .i64 0] : List Value).length = zvt.length) := rfl
  have HO : Hid (∀ z ∈ ([.int .i64 2, .int .i64 0, .int .i64 0, .string ⟨#[]⟩, .int .u64 0, .slice none 0 0, .int .i64 0] : List Value), z.oneCell' = true) := by intro z hv; simp at hv; rcases hv with rfl | rfl | rfl | rfl | rfl | rfl | rfl <;> rfl
  have HT : Hid (RowT Try.prog 26 ([.int .i64 2, .int .i64 0, .int .i64 0, .string ⟨#[]⟩, .int .u64 0, .slice none 0 0, .int .i64 0] : List Value).length) := rowT_ver
  clear hB hW k1 k2
  go_enter Try.func27, Try.ntmps27
  go_upto_region 1 with fail
  rw [← HW.out]
  go_upto_region 2 with ((with_reducible refine wl_store_bx HX.out HL.out HO.out HT.out ?_ ?_ ?_); rfl; rfl; intro w1 HB1 HK1)
  have k1 : Kept [] W w1 := (((Kept.refl [W.heap.size] W).alloc _).trans HK1.out (by simp)).drop0 (by intro i hi; simp at hi; omega)
  have HR1 := hide (HR.out.kept k1 (by simp))
  have hB1 := HB.out.kept k1 (by simp)
  have HKw1 := hide (HK.out.trans k1 (by simp))
  clear HK1 HX HW c0 c1 c2 c3 c4 c5 c6
  have c0 : w1.cell? ⟨w.heap.size, 0, none⟩ = some (.int .i64 2) := hB1.cell 0 rfl
  have c1 : w1.cell? ⟨w.heap.size, 1, none⟩ = some (.int .i64 v.s) := hB1.cell 1 rfl
  have c2 : w1.cell? ⟨w.heap.size, 2, none⟩ = some (.int .i64 v.r) := hB1.cell 2 rfl
  have c3 : w1.cell? ⟨w.heap.size, 3, none⟩ = some (.string (str v.p)) := hB1.cell 3 rfl
  have c4 : w1.cell? ⟨w.heap.size, 4, none⟩ = some (.int .u64 v.d) := hB1.cell 4 rfl
  have c5 : w1.cell? ⟨w.heap.size, 5, none⟩ = some (.slice uo un uc) := hB1.cell 5 rfl
  have c6 : w1.cell? ⟨w.heap.size, 6, none⟩ = some (.int .i64 v.m) := hB1.cell 6 rfl
  clear k1 hB1
  have HLz : Hid (([.int .i64 2, .int .i64 0, .int .i64 v.r, .string ⟨#[]⟩, .int .u64 0, .slice none 0 0, .int .i64 0] : List Value).length = zvt.length) := rfl
  have HOz : Hid (∀ z ∈ ([.int .i64 2, .int .i64 0, .int .i64 v.r, .string ⟨#[]⟩, .int .u64 0, .slice none 0 0, .int .i64 0] : List Value), z.oneCell' = true) := by intro z hv; simp at hv; rcases hv with rfl | rfl | rfl | rfl | rfl | rfl | rfl <;> rfl
  have HTz : Hid (RowT Try.prog 26 ([.int .i64 2, .int .i64 0, .int .i64 v.r, .string ⟨#[]⟩, .int .u64 0, .slice none 0 0, .int .i64 0] : List Value).length) := rowT_ver
  go_upto_region 8 with fail
  have s2 : w1.cell? ⟨W.heap.size, 2, none⟩ = some (.int .i64 0) := HB1.out.cell 2 rfl
  have f2 : w1.frozen? ⟨W.heap.size, 2, none⟩ = false := HB1.out.froz 2
  go_upto_region 24 with fail
  obtain ⟨w2, hw2⟩ : ∃ w2, w2 = w1.setCell ⟨W.heap.size, 2, none⟩ (.int .i64 v.r) := ⟨_, rfl⟩
  rw [← hw2]
  have HB2 : Hid (Bx w2 W.heap.size 26 [.int .i64 2, .int .i64 0, .int .i64 v.r, .string ⟨#[]⟩, .int .u64 0, .slice none 0 0, .int .i64 0]) := by rw [hw2]; exact HB1.out.set 2 _
  have HK2 : Hid (Kept [W.heap.size] w1 w2) := by rw [hw2]; exact kept_set w1 W.heap.size 2 _
  have HR2 := hide (HR1.out.kept HK2.out (by simp; have := HSz.out; omega))
  have HKw2 := hide (HKw1.out.trans HK2.out (by simp; have := HSz.out; omega))
  clear hw2 s2 f2
  replace c0 := HK2.out.cell c0 (by simp; have := HSz.out; omega)
  replace c1 := HK2.out.cell c1 (by simp; have := HSz.out; omega)
  replace c2 := HK2.out.cell c2 (by simp; have := HSz.out; omega)
  replace c3 := HK2.out.cell c3 (by simp; have := HSz.out; omega)
  replace c4 := HK2.out.cell c4 (by simp; have := HSz.out; omega)
  replace c5 := HK2.out.cell c5 (by simp; have := HSz.out; omega)
  replace c6 := HK2.out.cell c6 (by simp; have := HSz.out; omega)
  go_wp2_with (first | ((with_reducible refine wl_load_bx HB2.out HTz.out ?_ ?_); rfl) | ((with_reducible refine wl_store_bx HR2.out HLz.out HOz.out HTz.out ?_ ?_ ?_); rfl; rfl; intro wz HBz HKz))
  have KZ : Kept [] w wz := HKw2.out.trans HKz.out (by simp)
  refine bodyPost_ret (bx_result (by rfl) _ (by rfl) HBz.out HTz.out) rfl ?_
  exact ⟨.slice none 0 0, rfl, .inr ⟨rfl, rfl⟩, KZ⟩

set_option maxHeartbeats 8000000 in
set_option maxRecDepth 100000 in
theorem ownV_4 (w : World) (v : Vt) (uo : Option Addr) (un uc : Nat) (hk : v.c = 4) : Calls Try.prog 27 #[vtV v (.slice uo un uc)] w (OwnQ w (.slice uo un uc) v.k ⟨4, 0, v.r, [], 0, [], 0⟩) := by
  unfold vtV
  rw [hk]
  clear hk
  obtain ⟨W, hW⟩ : ∃ W, W = (w.alloc (.cells #[.int .i64 4, .int .i64 v.s, .int .i64 v.r, .string (str v.p), .int .u64 v.d, .slice uo un uc, .int .i64 v.m] 26)).alloc (.cells #[.int .i64 0, .int .i64 0, .int .i64 0, .string ⟨#[]⟩, .int .u64 0, .slice none 0 0, .int .i64 0] 26) := ⟨_, rfl⟩
  have k1 : Kept [] w (w.alloc (.cells #[.int .i64 4, .int .i64 v.s, .int .i64 v.r, .string (str v.p), .int .u64 v.d, .slice uo un uc, .int .i64 v.m] 26)) := (Kept.refl _ _).alloc _
  have k2 : Kept [] (w.alloc (.cells #[.int .i64 4, .int .i64 v.s, .int .i64 v.r, .string (str v.p), .int .u64 v.d, .slice uo un uc, .int .i64 v.m] 26)) W := by rw [hW]; exact (Kept.refl _ _).alloc _
  have hB : Bx W w.heap.size 26 [.int .i64 4, .int .i64 v.s, .int .i64 v.r, .string (str v.p), .int .u64 v.d, .slice uo un uc, .int .i64 v.m] := (Bx.new w _ [.int .i64 4, .int .i64 v.s, .int .i64 v.r, .string (str v.p), .int .u64 v.d, .slice uo un uc, .int .i64 v.m]).kept k2 (by simp)
  have HR : Hid (Bx W (w.heap.size + 1) 26 zvt) := by
    rw [hW]
    have h := Bx.new (w.alloc (.cells #[.int .i64 4, .int .i64 v.s, .int .i64 v.r, .string (str v.p), .int .u64 v.d, .slice uo un uc, .int .i64 v.m] 26)) 26 zvt
    rw [show (w.alloc (.cells #[.int .i64 4, .int .i64 v.s, .int .i64 v.r, .string (str v.p), .int .u64 v.d, .slice uo un uc, .int .i64 v.m] 26)).heap.size = w.heap.size + 1 by simp] at h
    exact h
  have HSz : Hid (W.heap.size = w.heap.size + 2) := by rw [hW]; show _ = _; simp
  have HB := hide hB
  have HK := hide (k1.trans k2 (by simp))
  have HW := hide hW
  have c0 : W.cell? ⟨w.heap.size, 0, none⟩ = some (.int .i64 4) := hB.cell 0 rfl
  have c1 : W.cell? ⟨w.heap.size, 1, none⟩ = some (.int .i64 v.s) := hB.cell 1 rfl
  have c2 : W.cell? ⟨w.heap.size, 2, none⟩ = some (.int .i64 v.r) := hB.cell 2 rfl
  have c3 : W.cell? ⟨w.heap.size, 3, none⟩ = some (.string (str v.p)) := hB.cell 3 rfl
  have c4 : W.cell? ⟨w.heap.size, 4, none⟩ = some (.int .u64 v.d) := hB.cell 4 rfl
  have c5 : W.cell? ⟨w.heap.size, 5, none⟩ = some (.slice uo un uc) := hB.cell 5 rfl
  have c6 : W.cell? ⟨w.heap.size, 6, none⟩ = some (.int .i64 v.m) := hB.cell 6 rfl
  have HX : Hid (Bx (W.alloc (.cells #[.int .i64 0, .int .i64 0, .int .i64 0, .string ⟨#[]⟩, .int .u64 0, .slice none 0 0, .int .i64 0] 26)) W.heap.size 26 zvt) := Bx.new W _ zvt
  have HL : Hid (([.int .i64 4, .int .i64 0, .int .i64 0, .string ⟨#[]⟩, .int .u64 0, .slice none 0 0, .int .i64 0] : List Value).length = zvt.length) := rfl
  have HO : Hid (∀ z ∈ ([.int .i64 4, .int .i64 0, .int .i64 0, .string ⟨#[]⟩, .int .u64 0, .slice none 0 0, .int .i64 0] : List Value), z.oneCell' = true) := by intro z hv; simp at hv; rcases hv with rfl | rfl | rfl | rfl | rfl | rfl | rfl <;> rfl
  have HT : Hid (RowT Try.prog 26 ([.int .i64 4, .int .i64 0, .int .i64 0, .string ⟨#[]⟩, .int .u64 0, .slice none 0 0, .int .i64 0] : List Value).length) := rowT_ver
  clear hB hW k1 k2
  go_enter Try.func27, Try.ntmps27
  go_upto_region 1 with fail
  rw [← HW.out]
  go_upto_region 2 with ((with_reducible refine wl_store_bx HX.out HL.out HO.out HT.out ?_ ?_ ?_); rfl; rfl; intro w1 HB1 HK1)
  have k1 : Kept [] W w1 := (((Kept.refl [W.heap.size] W).alloc _).trans HK1.out (by simp)).drop0 (by intro i hi; simp at hi; omega)
  have HR1 := hide (HR.out.kept k1 (by simp))
  have hB1 := HB.out.kept k1 (by simp)
  have HKw1 := hide (HK.out.trans k1 (by simp))
  clear HK1 HX HW c0 c1 c2 c3 c4 c5 c6
  have c0 : w1.cell? ⟨w.heap.size, 0, none⟩ = some (.int .i64 4) := hB1.cell 0 rfl
  have c1 : w1.cell? ⟨w.heap.size, 1, none⟩ = some (.int .i64 v.s) := hB1.cell 1 rfl
  have c2 : w1.cell? ⟨w.heap.size, 2, none⟩ = some (.int .i64 v.r) := hB1.cell 2 rfl
  have c3 : w1.cell? ⟨w.heap.size, 3, none⟩ = some (.string (str v.p)) := hB1.cell 3 rfl
  have c4 : w1.cell? ⟨w.heap.size, 4, none⟩ = some (.int .u64 v.d) := hB1.cell 4 rfl
  have c5 : w1.cell? ⟨w.heap.size, 5, none⟩ = some (.slice uo un uc) := hB1.cell 5 rfl
  have c6 : w1.cell? ⟨w.heap.size, 6, none⟩ = some (.int .i64 v.m) := hB1.cell 6 rfl
  clear k1 hB1
  have HLz : Hid (([.int .i64 4, .int .i64 0, .int .i64 v.r, .string ⟨#[]⟩, .int .u64 0, .slice none 0 0, .int .i64 0] : List Value).length = zvt.length) := rfl
  have HOz : Hid (∀ z ∈ ([.int .i64 4, .int .i64 0, .int .i64 v.r, .string ⟨#[]⟩, .int .u64 0, .slice none 0 0, .int .i64 0] : List Value), z.oneCell' = true) := by intro z hv; simp at hv; rcases hv with rfl | rfl | rfl | rfl | rfl | rfl | rfl <;> rfl
  have HTz : Hid (RowT Try.prog 26 ([.int .i64 4, .int .i64 0, .int .i64 v.r, .string ⟨#[]⟩, .int .u64 0, .slice none 0 0, .int .i64 0] : List Value).length) := rowT_ver
  go_upto_region 8 with fail
  have s2 : w1.cell? ⟨W.heap.size, 2, none⟩ = some (.int .i64 0) := HB1.out.cell 2 rfl
  have f2 : w1.frozen? ⟨W.heap.size, 2, none⟩ = false := HB1.out.froz 2
  go_upto_region 24 with fail
  obtain ⟨w2, hw2⟩ : ∃ w2, w2 = w1.setCell ⟨W.heap.size, 2, none⟩ (.int .i64 v.r) := ⟨_, rfl⟩
  rw [← hw2]
  have HB2 : Hid (Bx w2 W.heap.size 26 [.int .i64 4, .int .i64 0, .int .i64 v.r, .string ⟨#[]⟩, .int .u64 0, .slice none 0 0, .int .i64 0]) := by rw [hw2]; exact HB1.out.set 2 _
  have HK2 : Hid (Kept [W.heap.size] w1 w2) := by rw [hw2]; exact kept_set w1 W.heap.size 2 _
  have HR2 := hide (HR1.out.kept HK2.out (by simp; have := HSz.out; omega))
  have HKw2 := hide (HKw1.out.trans HK2.out (by simp; have := HSz.out; omega))
  clear hw2 s2 f2
  replace c0 := HK2.out.cell c0 (by simp; have := HSz.out; omega)
  replace c1 := HK2.out.cell c1 (by simp; have := HSz.out; omega)
  replace c2 := HK2.out.cell c2 (by simp; have := HSz.out; omega)
  replace c3 := HK2.out.cell c3 (by simp; have := HSz.out; omega)
  replace c4 := HK2.out.cell c4 (by simp; have := HSz.out; omega)
  replace c5 := HK2.out.cell c5 (by simp; have := HSz.out; omega)
  replace c6 := HK2.out.cell c6 (by simp; have := HSz.out; omega)
  go_wp2_with (first | ((with_reducible refine wl_load_bx HB2.out HTz.out ?_ ?_); rfl) | ((with_reducible refine wl_store_bx HR2.out HLz.out HOz.out HTz.out ?_ ?_ ?_); rfl; rfl; intro wz HBz HKz))
  have KZ : Kept [] w wz := HKw2.out.trans HKz.out (by simp)
  refine bodyPost_ret (bx_result (by rfl) _ (by rfl) HBz.out HTz.out) rfl ?_
  exact ⟨.slice none 0 0, rfl, .inr ⟨rfl, rfl⟩, KZ⟩

set_option maxHeartbeats 8000000 in
set_option maxRecDepth 100000 in
theorem ownV_8 (w : World) (v : Vt) (uo : Option Addr) (un uc : Nat) (hk : v.c = 8) : Calls Try.prog 27 #[vtV v (.slice uo un uc)] w (OwnQ w (.slice uo un uc) v.k ⟨8, 0, v.r, [], 0, [], 0⟩) := by
  unfold vtV
  rw [hk]
  clear hk
  obtain ⟨W, hW⟩ : ∃ W, W = (w.alloc (.cells #[.int .i64 8, .int .i64 v.s, .int .i64 v.r, .string (str v.p), .int .u64 v.d, .slice uo un uc, .int .i64 v.m] 26)).alloc (.cells #[.int .i64 0, .int .i64 0, .int .i64 0, .string ⟨#[]⟩, .int .u64 0, .slice none 0 0, .int .i64 0] 26) := ⟨_, rfl⟩
  have k1 : Kept [] w (w.alloc (.cells #[.int .i64 8, .int .i64 v.s, .int .i64 v.r, .string (str v.p), .int .u64 v.d, .slice uo un uc, .int .i64 v.m] 26)) := (Kept.refl _ _).alloc _
  have k2 : Kept [] (w.alloc (.cells #[.int .i64 8, .int .i64 v.s, .int .i64 v.r, .string (str v.p), .int .u64 v.d, .slice uo un uc, .int .i64 v.m] 26)) W := by rw [hW]; exact (Kept.refl _ _).alloc _
  have hB : Bx W w.heap.size 26 [.int .i64 8, .int .i64 v.s, .int .i64 v.r, .string (str v.p), .int .u64 v.d, .slice uo un uc, .int .i64 v.m] := (Bx.new w _ [.int .i64 8, .int .i64 v.s, .int .i64 v.r, .string (str v.p), .int .u64 v.d, .slice uo un uc, .int .i64 v.m]).kept k2 (by simp)
  have HR : Hid (Bx W (w.heap.size + 1) 26 zvt) := by
    rw [hW]
    have h := Bx.new (w.alloc (.cells #[.int .i64 8, .int .i64 v.s, .int .i64 v.r, .string (str v.p), .int .u64 v.d, .slice uo un uc, .int .i64 v.m] 26)) 26 zvt
    rw [show (w.alloc (.cells #[.int .i64 8, .int .i64 v.s, .int .i64 v.r, .string (str v.p), .int .u64 v.d, .slice uo un uc, .int .i64 v.m] 26)).heap.size = w.heap.size + 1 by simp] at h
    exact h
  have HSz : Hid (W.heap.size = w.heap.size + 2) := by rw [hW]; show _ = _; simp
  have HB := hide hB
  have HK := hide (k1.trans k2 (by simp))
  have HW := hide hW
  have c0 : W.cell? ⟨w.heap.size, 0, none⟩ = some (.int .i64 8) := hB.cell 0 rfl
  have c1 : W.cell? ⟨w.heap.size, 1, none⟩ = some (.int .i64 v.s) := hB.cell 1 rfl
  have c2 : W.cell? ⟨w.heap.size, 2, none⟩ = some (.int .i64 v.r) := hB.cell 2 rfl
  have c3 : W.cell? ⟨w.heap.size, 3, none⟩ = some (.string (str v.p)) := hB.cell 3 rfl
  have c4 : W.cell? ⟨w.heap.size, 4, none⟩ = some (.int .u64 v.d) := hB.cell 4 rfl
  have c5 : W.cell? ⟨w.heap.size, 5, none⟩ = some (.slice uo un uc) := hB.cell 5 rfl
  have c6 : W.cell? ⟨w.heap.size, 6, none⟩ = some (.int .i64 v.m) := hB.cell 6 rfl
  have HX : Hid (Bx (W.alloc (.cells #[.int .i64 0, .int .i64 0, .int .i64 0, .string ⟨#[]⟩, .int .u64 0, .slice none 0 0, .int .i64 0] 26)) W.heap.size 26 zvt) := Bx.new W _ zvt
  have HL : Hid (([.int .i64 8, .int .i64 0, .int .i64 0, .string ⟨#[]⟩, .int .u64 0, .slice none 0 0, .int .i64 0] : List Value).length = zvt.length) := rfl
  have HO : Hid (∀ z ∈ ([.int .i64 8, .int .i64 0, .int .i64 0, .string ⟨#[]⟩, .int .u64 0, .slice none 0 0, .int .i64 0] : List Value), z.oneCell' = true) := by intro z hv; simp at hv; rcases hv with rfl | rfl | rfl | rfl | rfl | rfl | rfl <;> rfl
  have HT : Hid (RowT Try.prog 26 ([.int .i64 8, .int .i64 0, .int .i64 0, .string ⟨#[]⟩, .int .u64 0, .slice none 0 0, .int .i64 0] : List Value).length) := rowT_ver
  clear hB hW k1 k2
  go_enter Try.func27, Try.ntmps27
  go_upto_region 1 with fail
  rw [← HW.out]
  go_upto_region 2 with ((with_reducible refine wl_store_bx HX.out HL.out HO.out HT.out ?_ ?_ ?_); rfl; rfl; intro w1 HB1 HK1)
  have k1 : Kept [] W w1 := (((Kept.refl [W.heap.size] W).alloc _).trans HK1.out (by simp)).drop0 (by intro i hi; simp at hi; omega)
  have HR1 := hide (HR.out.kept k1 (by simp))
  have hB1 := HB.out.kept k1 (by simp)
  have HKw1 := hide (HK.out.trans k1 (by simp))
  clear HK1 HX HW c0 c1 c2 c3 c4 c5 c6
  have c0 : w1.cell? ⟨w.heap.size, 0, none⟩ = some (.int .i64 8) := hB1.cell 0 rfl
  have c1 : w1.cell? ⟨w.heap.size, 1, none⟩ = some (.int .i64 v.s) := hB1.cell 1 rfl
  have c2 : w1.cell? ⟨w.heap.size, 2, none⟩ = some (.int .i64 v.r) := hB1.cell 2 rfl
  have c3 : w1.cell? ⟨w.heap.size, 3, none⟩ = some (.string (str v.p)) := hB1.cell 3 rfl
  have c4 : w1.cell? ⟨w.heap.size, 4, none⟩ = some (.int .u64 v.d) := hB1.cell 4 rfl
  have c5 : w1.cell? ⟨w.heap.size, 5, none⟩ = some (.slice uo un uc) := hB1.cell 5 rfl
  have c6 : w1.cell? ⟨w.heap.size, 6, none⟩ = some (.int .i64 v.m) := hB1.cell 6 rfl
  clear k1 hB1
  have HLz : Hid (([.int .i64 8, .int .i64 0, .int .i64 v.r, .string ⟨#[]⟩, .int .u64 0, .slice none 0 0, .int .i64 0] : List Value).length = zvt.length) := rfl
  have HOz : Hid (∀ z ∈ ([.int .i64 8, .int .i64 0, .int .i64 v.r, .string ⟨#[]⟩, .int .u64 0, .slice none 0 0, .int .i64 0] : List Value), z.oneCell' = true) := by intro z hv; simp at hv; rcases hv with rfl | rfl | rfl | rfl | rfl | rfl | rfl <;> rfl
  have HTz : Hid (RowT Try.prog 26 ([.int .i64 8, .int .i64 0, .int .i64 v.r, .string ⟨#[]⟩, .int .u64 0, .slice none 0 0, .int .i64 0] : List Value).length) := rowT_ver
  go_upto_region 8 with fail
  have s2 : w1.cell? ⟨W.heap.size, 2, none⟩ = some (.int .i64 0) := HB1.out.cell 2 rfl
  have f2 : w1.frozen? ⟨W.heap.size, 2, none⟩ = false := HB1.out.froz 2
  go_upto_region 24 with fail
  obtain ⟨w2, hw2⟩ : ∃ w2, w2 = w1.setCell ⟨W.heap.size, 2, none⟩ (.int .i64 v.r) := ⟨_, rfl⟩
  rw [← hw2]
  have HB2 : Hid (Bx w2 W.heap.size 26 [.int .i64 8, .int .i64 0, .int .i64 v.r, .string ⟨#[]⟩, .int .u64 0, .slice none 0 0, .int .i64 0]) := by rw [hw2]; exact HB1.out.set 2 _
  have HK2 : Hid (Kept [W.heap.size] w1 w2) := by rw [hw2]; exact kept_set w1 W.heap.size 2 _
  have HR2 := hide (HR1.out.kept HK2.out (by simp; have := HSz.out; omega))
  have HKw2 := hide (HKw1.out.trans HK2.out (by simp; have := HSz.out; omega))
  clear hw2 s2 f2
  replace c0 := HK2.out.cell c0 (by simp; have := HSz.out; omega)
  replace c1 := HK2.out.cell c1 (by simp; have := HSz.out; omega)
  replace c2 := HK2.out.cell c2 (by simp; have := HSz.out; omega)
  replace c3 := HK2.out.cell c3 (by simp; have := HSz.out; omega)
  replace c4 := HK2.out.cell c4 (by simp; have := HSz.out; omega)
  replace c5 := HK2.out.cell c5 (by simp; have := HSz.out; omega)
  replace c6 := HK2.out.cell c6 (by simp; have := HSz.out; omega)
  go_wp2_with (first | ((with_reducible refine wl_load_bx HB2.out HTz.out ?_ ?_); rfl) | ((with_reducible refine wl_store_bx HR2.out HLz.out HOz.out HTz.out ?_ ?_ ?_); rfl; rfl; intro wz HBz HKz))
  have KZ : Kept [] w wz := HKw2.out.trans HKz.out (by simp)
  refine bodyPost_ret (bx_result (by rfl) _ (by rfl) HBz.out HTz.out) rfl ?_
  exact ⟨.slice none 0 0, rfl, .inr ⟨rfl, rfl⟩, KZ⟩

set_option maxHeartbeats 8000000 in
set_option maxRecDepth 100000 in
theorem ownV_3 (w : World) (v : Vt) (uo : Option Addr) (un uc : Nat) (hk : v.c = 3) : Calls Try.prog 27 #[vtV v (.slice uo un uc)] w (OwnQ w (.slice uo un uc) v.k ⟨3, 0, v.r, v.p, 0, [], 0⟩) := by
  unfold vtV
  rw [hk]
  clear hk
  obtain ⟨W, hW⟩ : ∃ W, W = (w.alloc (.cells #[.int .i64 3, .int .i64 v.s, .int .i64 v.r, .string (str v.p), .int .u64 v.d, .slice uo un uc, .int .i64 v.m] 26)).alloc (.cells #[.int .i64 0, .int .i64 0, .int .i64 0, .string ⟨#[]⟩, .int .u64 0, .slice none 0 0, .int .i64 0] 26) := ⟨_, rfl⟩
  have k1 : Kept [] w (w.alloc (.cells #[.int .i64 3, .int .i64 v.s, .int .i64 v.r, .string (str v.p), .int .u64 v.d, .slice uo un uc, .int .i64 v.m] 26)) := (Kept.refl _ _).alloc _
  have k2 : Kept [] (w.alloc (.cells #[.int .i64 3, .int .i64 v.s, .int .i64 v.r, .string (str v.p), .int .u64 v.d, .slice uo un uc, .int .i64 v.m] 26)) W := by rw [hW]; exact (Kept.refl _ _).alloc _
  have hB : Bx W w.heap.size 26 [.int .i64 3, .int .i64 v.s, .int .i64 v.r, .string (str v.p), .int .u64 v.d, .slice uo un uc, .int .i64 v.m] := (Bx.new w _ [.int .i64 3, .int .i64 v.s, .int .i64 v.r, .string (str v.p), .int .u64 v.d, .slice uo un uc, .int .i64 v.m]).kept k2 (by simp)
  have HR : Hid (Bx W (w.heap.size + 1) 26 zvt) := by
    rw [hW]
    have h := Bx.new (w.alloc (.cells #[.int .i64 3, .int .i64 v.s, .int .i64 v.r, .string (str v.p), .int .u64 v.d, .slice uo un uc, .int .i64 v.m] 26)) 26 zvt
    rw [show (w.alloc (.cells #[.int .i64 3, .int .i64 v.s, .int .i64 v.r, .string (str v.p), .int .u64 v.d, .slice uo un uc, .int .i64 v.m] 26)).heap.size = w.heap.size + 1 by simp] at h
    exact h
  have HSz : Hid (W.heap.size = w.heap.size + 2) := by rw [hW]; show _ = _; simp
  have HB := hide hB
  have HK := hide (k1.trans k2 (by simp))
  have HW := hide hW
  have c0 : W.cell? ⟨w.heap.size, 0, none⟩ = some (.int .i64 3) := hB.cell 0 rfl
  have c1 : W.cell? ⟨w.heap.size, 1, none⟩ = some (.int .i64 v.s) := hB.cell 1 rfl
  have c2 : W.cell? ⟨w.heap.size, 2, none⟩ = some (.int .i64 v.r) := hB.cell 2 rfl
  have c3 : W.cell? ⟨w.heap.size, 3, none⟩ = some (.string (str v.p)) := hB.cell 3 rfl
  have c4 : W.cell? ⟨w.heap.size, 4, none⟩ = some (.int .u64 v.d) := hB.cell 4 rfl
  have c5 : W.cell? ⟨w.heap.size, 5, none⟩ = some (.slice uo un uc) := hB.cell 5 rfl
  have c6 : W.cell? ⟨w.heap.size, 6, none⟩ = some (.int .i64 v.m) := hB.cell 6 rfl
  have HX : Hid (Bx (W.alloc (.cells #[.int .i64 0, .int .i64 0, .int .i64 0, .string ⟨#[]⟩, .int .u64 0, .slice none 0 0, .int .i64 0] 26)) W.heap.size 26 zvt) := Bx.new W _ zvt
  have HL : Hid (([.int .i64 3, .int .i64 0, .int .i64 0, .string ⟨#[]⟩, .int .u64 0, .slice none 0 0, .int .i64 0] : List Value).length = zvt.length) := rfl
  have HO : Hid (∀ z ∈ ([.int .i64 3, .int .i64 0, .int .i64 0, .string ⟨#[]⟩, .int .u64 0, .slice none 0 0, .int .i64 0] : List Value), z.oneCell' = true) := by intro z hv; simp at hv; rcases hv with rfl | rfl | rfl | rfl | rfl | rfl | rfl <;> rfl
  have HT : Hid (RowT Try.prog 26 ([.int .i64 3, .int .i64 0, .int .i64 0, .string ⟨#[]⟩, .int .u64 0, .slice none 0 0, .int .i64 0] : List Value).length) := rowT_ver
  clear hB hW k1 k2
  go_enter Try.func27, Try.ntmps27
  go_upto_region 1 with fail
  rw [← HW.out]
  go_upto_region 2 with ((with_reducible refine wl_store_bx HX.out HL.out HO.out HT.out ?_ ?_ ?_); rfl; rfl; intro w1 HB1 HK1)
  have k1 : Kept [] W w1 := (((Kept.refl [W.heap.size] W).alloc _).trans HK1.out (by simp)).drop0 (by intro i hi; simp at hi; omega)
  have HR1 := hide (HR.out.kept k1 (by simp))
  have hB1 := HB.out.kept k1 (by simp)
  have HKw1 := hide (HK.out.trans k1 (by simp))
  clear HK1 HX HW c0 c1 c2 c3 c4 c5 c6
  have c0 : w1.cell? ⟨w.heap.size, 0, none⟩ = some (.int .i64 3) := hB1.cell 0 rfl
  have c1 : w1.cell? ⟨w.heap.size, 1, none⟩ = some (.int .i64 v.s) := hB1.cell 1 rfl
  have c2 : w1.cell? ⟨w.heap.size, 2, none⟩ = some (.int .i64 v.r) := hB1.cell 2 rfl
  have c3 : w1.cell? ⟨w.heap.size, 3, none⟩ = some (.string (str v.p)) := hB1.cell 3 rfl
  have c4 : w1.cell? ⟨w.heap.size, 4, none⟩ = some (.int .u64 v.d) := hB1.cell 4 rfl
  have c5 : w1.cell? ⟨w.heap.size, 5, none⟩ = some (.slice uo un uc) := hB1.cell 5 rfl
  have c6 : w1.cell? ⟨w.heap.size, 6, none⟩ = some (.int .i64 v.m) := hB1.cell 6 rfl
  clear k1 hB1
  have HLz : Hid (([.int .i64 3, .int .i64 0, .int .i64 v.r, .string (str v.p), .int .u64 0, .slice none 0 0, .int .i64 0] : List Value).length = zvt.length) := rfl
  have HOz : Hid (∀ z ∈ ([.int .i64 3, .int .i64 0, .int .i64 v.r, .string (str v.p), .int .u64 0, .slice none 0 0, .int .i64 0] : List Value), z.oneCell' = true) := by intro z hv; simp at hv; rcases hv with rfl | rfl | rfl | rfl | rfl | rfl | rfl <;> rfl
  have HTz : Hid (RowT Try.prog 26 ([.int .i64 3, .int .i64 0, .int .i64 v.r, .string (str v.p), .int .u64 0, .slice none 0 0, .int .i64 0] : List Value).length) := rowT_ver
  go_upto_region 10 with fail
  have s3 : w1.cell? ⟨W.heap.size, 3, none⟩ = some (.string ⟨#[]⟩) := HB1.out.cell 3 rfl
  have f3 : w1.frozen? ⟨W.heap.size, 3, none⟩ = false := HB1.out.froz 3
  go_upto_region 11 with fail
  obtain ⟨w2, hw2⟩ : ∃ w2, w2 = w1.setCell ⟨W.heap.size, 3, none⟩ (.string (str v.p)) := ⟨_, rfl⟩
  rw [← hw2]
  have HB2 : Hid (Bx w2 W.heap.size 26 [.int .i64 3, .int .i64 0, .int .i64 0, .string (str v.p), .int .u64 0, .slice none 0 0, .int .i64 0]) := by rw [hw2]; exact HB1.out.set 3 _
  have HK2 : Hid (Kept [W.heap.size] w1 w2) := by rw [hw2]; exact kept_set w1 W.heap.size 3 _
  have HR2 := hide (HR1.out.kept HK2.out (by simp; have := HSz.out; omega))
  have HKw2 := hide (HKw1.out.trans HK2.out (by simp; have := HSz.out; omega))
  clear hw2 s3 f3
  replace c0 := HK2.out.cell c0 (by simp; have := HSz.out; omega)
  replace c1 := HK2.out.cell c1 (by simp; have := HSz.out; omega)
  replace c2 := HK2.out.cell c2 (by simp; have := HSz.out; omega)
  replace c3 := HK2.out.cell c3 (by simp; have := HSz.out; omega)
  replace c4 := HK2.out.cell c4 (by simp; have := HSz.out; omega)
  replace c5 := HK2.out.cell c5 (by simp; have := HSz.out; omega)
  replace c6 := HK2.out.cell c6 (by simp; have := HSz.out; omega)
  have s2 : w2.cell? ⟨W.heap.size, 2, none⟩ = some (.int .i64 0) := HB2.out.cell 2 rfl
  have f2 : w2.frozen? ⟨W.heap.size, 2, none⟩ = false := HB2.out.froz 2
  go_upto_region 24 with fail
  obtain ⟨w3, hw3⟩ : ∃ w3, w3 = w2.setCell ⟨W.heap.size, 2, none⟩ (.int .i64 v.r) := ⟨_, rfl⟩
  rw [← hw3]
  have HB3 : Hid (Bx w3 W.heap.size 26 [.int .i64 3, .int .i64 0, .int .i64 v.r, .string (str v.p), .int .u64 0, .slice none 0 0, .int .i64 0]) := by rw [hw3]; exact HB2.out.set 2 _
  have HK3 : Hid (Kept [W.heap.size] w2 w3) := by rw [hw3]; exact kept_set w2 W.heap.size 2 _
  have HR3 := hide (HR2.out.kept HK3.out (by simp; have := HSz.out; omega))
  have HKw3 := hide (HKw2.out.trans HK3.out (by simp; have := HSz.out; omega))
  clear hw3 s2 f2
  replace c0 := HK3.out.cell c0 (by simp; have := HSz.out; omega)
  replace c1 := HK3.out.cell c1 (by simp; have := HSz.out; omega)
  replace c2 := HK3.out.cell c2 (by simp; have := HSz.out; omega)
  replace c3 := HK3.out.cell c3 (by simp; have := HSz.out; omega)
  replace c4 := HK3.out.cell c4 (by simp; have := HSz.out; omega)
  replace c5 := HK3.out.cell c5 (by simp; have := HSz.out; omega)
  replace c6 := HK3.out.cell c6 (by simp; have := HSz.out; omega)
  go_wp2_with (first | ((with_reducible refine wl_load_bx HB3.out HTz.out ?_ ?_); rfl) | ((with_reducible refine wl_store_bx HR3.out HLz.out HOz.out HTz.out ?_ ?_ ?_); rfl; rfl; intro wz HBz HKz))
  have KZ : Kept [] w wz := HKw3.out.trans HKz.out (by simp)
  refine bodyPost_ret (bx_result (by rfl) _ (by rfl) HBz.out HTz.out) rfl ?_
  exact ⟨.slice none 0 0, rfl, .inr ⟨rfl, rfl⟩, KZ⟩

set_option maxHeartbeats 8000000 in
set_option maxRecDepth 100000 in
theorem ownV_9 (w : World) (v : Vt) (uo : Option Addr) (un uc : Nat) (hk : v.c = 9) : Calls Try.prog 27 #[vtV v (.slice uo un uc)] w (OwnQ w (.slice uo un uc) v.k ⟨9, 0, v.r, v.p, v.d, [], 0⟩) := by
  unfold vtV
  rw [hk]
  clear hk
  obtain ⟨W, hW⟩ : ∃ W, W = (w.alloc (.cells #[.int .i64 9, .int .i64 v.s, .int .i64 v.r, .string (str v.p), .int .u64 v.d, .slice uo un uc, .int .i64 v.m] 26)).alloc (.cells #[.int .i64 0, .int .i64 0, .int .i64 0, .string ⟨#[]⟩, .int .u64 0, .slice none 0 0, .int .i64 0] 26) := ⟨_, rfl⟩
  have k1 : Kept [] w (w.alloc (.cells #[.int .i64 9, .int .i64 v.s, .int .i64 v.r, .string (str v.p), .int .u64 v.d, .slice uo un uc, .int .i64 v.m] 26)) := (Kept.refl _ _).alloc _
  have k2 : Kept [] (w.alloc (.cells #[.int .i64 9, .int .i64 v.s, .int .i64 v.r, .string (str v.p), .int .u64 v.d, .slice uo un uc, .int .i64 v.m] 26)) W := by rw [hW]; exact (Kept.refl _ _).alloc _
  have hB : Bx W w.heap.size 26 [.int .i64 9, .int .i64 v.s, .int .i64 v.r, .string (str v.p), .int .u64 v.d, .slice uo un uc, .int .i64 v.m] := (Bx.new w _ [.int .i64 9, .int .i64 v.s, .int .i64 v.r, .string (str v.p), .int .u64 v.d, .slice uo un uc, .int .i64 v.m]).kept k2 (by simp)
  have HR : Hid (Bx W (w.heap.size + 1) 26 zvt) := by
    rw [hW]
    have h := Bx.new (w.alloc (.cells #[.int .i64 9, .int .i64 v.s, .int .i64 v.r, .string (str v.p), .int .u64 v.d, .slice uo un uc, .int .i64 v.m] 26)) 26 zvt
    rw [show (w.alloc (.cells #[.int .i64 9, .int .i64 v.s, .int .i64 v.r, .string (str v.p), .int .u64 v.d, .slice uo un uc, .int .i64 v.m] 26)).heap.size = w.heap.size + 1 by simp] at h
    exact h
  have HSz : Hid (W.heap.size = w.heap.size + 2) := by rw [hW]; show _ = _; simp
  have HB := hide hB
  have HK := hide (k1.trans k2 (by simp))
  have HW := hide hW
  have c0 : W.cell? ⟨w.heap.size, 0, none⟩ = some (.int .i64 9) := hB.cell 0 rfl
  have c1 : W.cell? ⟨w.heap.size, 1, none⟩ = some (.int .i64 v.s) := hB.cell 1 rfl
  have c2 : W.cell? ⟨w.heap.size, 2, none⟩ = some (.int .i64 v.r) := hB.cell 2 rfl
  have c3 : W.cell? ⟨w.heap.size, 3, none⟩ = some (.string (str v.p)) := hB.cell 3 rfl
  have c4 : W.cell? ⟨w.heap.size, 4, none⟩ = some (.int .u64 v.d) := hB.cell 4 rfl
  have c5 : W.cell? ⟨w.heap.size, 5, none⟩ = some (.slice uo un uc) := hB.cell 5 rfl
  have c6 : W.cell? ⟨w.heap.size, 6, none⟩ = some (.int .i64 v.m) := hB.cell 6 rfl
  have HX : Hid (Bx (W.alloc (.cells #[.int .i64 0, .int .i64 0, .int .i64 0, .string ⟨#[]⟩, .int .u64 0, .slice none 0 0, .int .i64 0] 26)) W.heap.size 26 zvt) := Bx.new W _ zvt
  have HL : Hid (([.int .i64 9, .int .i64 0, .int .i64 0, .string ⟨#[]⟩, .int .u64 0, .slice none 0 0, .int .i64 0] : List Value).length = zvt.length) := rfl
  have HO : Hid (∀ z ∈ ([.int .i64 9, .int .i64 0, .int .i64 0, .string ⟨#[]⟩, .int .u64 0, .slice none 0 0, .int .i64 0] : List Value), z.oneCell' = true) := by intro z hv; simp at hv; rcases hv with rfl | rfl | rfl | rfl | rfl | rfl | rfl <;> rfl
  have HT : Hid (RowT Try.prog 26 ([.int .i64 9, .int .i64 0, .int .i64 0, .string ⟨#[]⟩, .int .u64 0, .slice none 0 0, .int .i64 0] : List Value).length) := rowT_ver
  clear hB hW k1 k2
  go_enter Try.func27, Try.ntmps27
  go_upto_region 1 with fail
  rw [← HW.out]
  go_upto_region 2 with ((with_reducible refine wl_store_bx HX.out HL.out HO.out HT.out ?_ ?_ ?_); rfl; rfl; intro w1 HB1 HK1)
  have k1 : Kept [] W w1 := (((Kept.refl [W.heap.size] W).alloc _).trans HK1.out (by simp)).drop0 (by intro i hi; simp at hi; omega)
  have HR1 := hide (HR.out.kept k1 (by simp))
  have hB1 := HB.out.kept k1 (by simp)
  have HKw1 := hide (HK.out.trans k1 (by simp))
  clear HK1 HX HW c0 c1 c2 c3 c4 c5 c6
  have c0 : w1.cell? ⟨w.heap.size, 0, none⟩ = some (.int .i64 9) := hB1.cell 0 rfl
  have c1 : w1.cell? ⟨w.heap.size, 1, none⟩ = some (.int .i64 v.s) := hB1.cell 1 rfl
  have c2 : w1.cell? ⟨w.heap.size, 2, none⟩ = some (.int .i64 v.r) := hB1.cell 2 rfl
  have c3 : w1.cell? ⟨w.heap.size, 3, none⟩ = some (.string (str v.p)) := hB1.cell 3 rfl
  have c4 : w1.cell? ⟨w.heap.size, 4, none⟩ = some (.int .u64 v.d) := hB1.cell 4 rfl
  have c5 : w1.cell? ⟨w.heap.size, 5, none⟩ = some (.slice uo un uc) := hB1.cell 5 rfl
  have c6 : w1.cell? ⟨w.heap.size, 6, none⟩ = some (.int .i64 v.m) := hB1.cell 6 rfl
  clear k1 hB1
  have HLz : Hid (([.int .i64 9, .int .i64 0, .int .i64 v.r, .string (str v.p), .int .u64 v.d, .slice none 0 0, .int .i64 0] : List Value).length = zvt.length) := rfl
  have HOz : Hid (∀ z ∈ ([.int .i64 9, .int .i64 0, .int .i64 v.r, .string (str v.p), .int .u64 v.d, .slice none 0 0, .int .i64 0] : List Value), z.oneCell' = true) := by intro z hv; simp at hv; rcases hv with rfl | rfl | rfl | rfl | rfl | rfl | rfl <;> rfl
  have HTz : Hid (RowT Try.prog 26 ([.int .i64 9, .int .i64 0, .int .i64 v.r, .string (str v.p), .int .u64 v.d, .slice none 0 0, .int .i64 0] : List Value).length) := rowT_ver
  go_upto_region 13 with fail
  have s3 : w1.cell? ⟨W.heap.size, 3, none⟩ = some (.string ⟨#[]⟩) := HB1.out.cell 3 rfl
  have f3 : w1.frozen? ⟨W.heap.size, 3, none⟩ = false := HB1.out.froz 3
  go_upto_region 14 with fail
  obtain ⟨w2, hw2⟩ : ∃ w2, w2 = w1.setCell ⟨W.heap.size, 3, none⟩ (.string (str v.p)) := ⟨_, rfl⟩
  rw [← hw2]
  have HB2 : Hid (Bx w2 W.heap.size 26 [.int .i64 9, .int .i64 0, .int .i64 0, .string (str v.p), .int .u64 0, .slice none 0 0, .int .i64 0]) := by rw [hw2]; exact HB1.out.set 3 _
  have HK2 : Hid (Kept [W.heap.size] w1 w2) := by rw [hw2]; exact kept_set w1 W.heap.size 3 _
  have HR2 := hide (HR1.out.kept HK2.out (by simp; have := HSz.out; omega))
  have HKw2 := hide (HKw1.out.trans HK2.out (by simp; have := HSz.out; omega))
  clear hw2 s3 f3
  replace c0 := HK2.out.cell c0 (by simp; have := HSz.out; omega)
  replace c1 := HK2.out.cell c1 (by simp; have := HSz.out; omega)
  replace c2 := HK2.out.cell c2 (by simp; have := HSz.out; omega)
  replace c3 := HK2.out.cell c3 (by simp; have := HSz.out; omega)
  replace c4 := HK2.out.cell c4 (by simp; have := HSz.out; omega)
  replace c5 := HK2.out.cell c5 (by simp; have := HSz.out; omega)
  replace c6 := HK2.out.cell c6 (by simp; have := HSz.out; omega)
  have s4 : w2.cell? ⟨W.heap.size, 4, none⟩ = some (.int .u64 0) := HB2.out.cell 4 rfl
  have f4 : w2.frozen? ⟨W.heap.size, 4, none⟩ = false := HB2.out.froz 4
  go_upto_region 15 with fail
  obtain ⟨w3, hw3⟩ : ∃ w3, w3 = w2.setCell ⟨W.heap.size, 4, none⟩ (.int .u64 v.d) := ⟨_, rfl⟩
  rw [← hw3]
  have HB3 : Hid (Bx w3 W.heap.size 26 [.int .i64 9, .int .i64 0, .int .i64 0, .string (str v.p), .int .u64 v.d, .slice none 0 0, .int .i64 0]) := by rw [hw3]; exact HB2.out.set 4 _
  have HK3 : Hid (Kept [W.heap.size] w2 w3) := by rw [hw3]; exact kept_set w2 W.heap.size 4 _
  have HR3 := hide (HR2.out.kept HK3.out (by simp; have := HSz.out; omega))
  have HKw3 := hide (HKw2.out.trans HK3.out (by simp; have := HSz.out; omega))
  clear hw3 s4 f4
  replace c0 := HK3.out.cell c0 (by simp; have := HSz.out; omega)
  replace c1 := HK3.out.cell c1 (by simp; have := HSz.out; omega)
  replace c2 := HK3.out.cell c2 (by simp; have := HSz.out; omega)
  replace c3 := HK3.out.cell c3 (by simp; have := HSz.out; omega)
  replace c4 := HK3.out.cell c4 (by simp; have := HSz.out; omega)
  replace c5 := HK3.out.cell c5 (by simp; have := HSz.out; omega)
  replace c6 := HK3.out.cell c6 (by simp; have := HSz.out; omega)
  have s2 : w3.cell? ⟨W.heap.size, 2, none⟩ = some (.int .i64 0) := HB3.out.cell 2 rfl
  have f2 : w3.frozen? ⟨W.heap.size, 2, none⟩ = false := HB3.out.froz 2
  go_upto_region 24 with fail
  obtain ⟨w4, hw4⟩ : ∃ w4, w4 = w3.setCell ⟨W.heap.size, 2, none⟩ (.int .i64 v.r) := ⟨_, rfl⟩
  rw [← hw4]
  have HB4 : Hid (Bx w4 W.heap.size 26 [.int .i64 9, .int .i64 0, .int .i64 v.r, .string (str v.p), .int .u64 v.d, .slice none 0 0, .int .i64 0]) := by rw [hw4]; exact HB3.out.set 2 _
  have HK4 : Hid (Kept [W.heap.size] w3 w4) := by rw [hw4]; exact kept_set w3 W.heap.size 2 _
  have HR4 := hide (HR3.out.kept HK4.out (by simp; have := HSz.out; omega))
  have HKw4 := hide (HKw3.out.trans HK4.out (by simp; have := HSz.out; omega))
  clear hw4 s2 f2
  replace c0 := HK4.out.cell c0 (by simp; have := HSz.out; omega)
  replace c1 := HK4.out.cell c1 (by simp; have := HSz.out; omega)
  replace c2 := HK4.out.cell c2 (by simp; have := HSz.out; omega)
  replace c3 := HK4.out.cell c3 (by simp; have := HSz.out; omega)
  replace c4 := HK4.out.cell c4 (by simp; have := HSz.out; omega)
  replace c5 := HK4.out.cell c5 (by simp; have := HSz.out; omega)
  replace c6 := HK4.out.cell c6 (by simp; have := HSz.out; omega)
  go_wp2_with (first | ((with_reducible refine wl_load_bx HB4.out HTz.out ?_ ?_); rfl) | ((with_reducible refine wl_store_bx HR4.out HLz.out HOz.out HTz.out ?_ ?_ ?_); rfl; rfl; intro wz HBz HKz))
  have KZ : Kept [] w wz := HKw4.out.trans HKz.out (by simp)
  refine bodyPost_ret (bx_result (by rfl) _ (by rfl) HBz.out HTz.out) rfl ?_
  exact ⟨.slice none 0 0, rfl, .inr ⟨rfl, rfl⟩, KZ⟩

set_option maxHeartbeats 8000000 in
set_option maxRecDepth 100000 in
theorem ownV_10 (w : World) (v : Vt) (uo : Option Addr) (un uc : Nat) (hk : v.c = 10) : Calls Try.prog 27 #[vtV v (.slice uo un uc)] w (OwnQ w (.slice uo un uc) v.k ⟨10, 0, 0, v.p, 0, [], 0⟩) := by
  unfold vtV
  rw [hk]
  clear hk
  obtain ⟨W, hW⟩ : ∃ W, W = (w.alloc (.cells #[.int .i64 10, .int .i64 v.s, .int .i64 v.r, .string (str v.p), .int .u64 v.d, .slice uo un uc, .int .i64 v.m] 26)).alloc (.cells #[.int .i64 0, .int .i64 0, .int .i64 0, .string ⟨#[]⟩, .int .u64 0, .slice none 0 0, .int .i64 0] 26) := ⟨_, rfl⟩
  have k1 : Kept [] w (w.alloc (.cells #[.int .i64 10, .int .i64 v.s, .int .i64 v.r, .string (str v.p), .int .u64 v.d, .slice uo un uc, .int .i64 v.m] 26)) := (Kept.refl _ _).alloc _
  have k2 : Kept [] (w.alloc (.cells #[.int .i64 10, .int .i64 v.s, .int .i64 v.r, .string (str v.p), .int .u64 v.d, .slice uo un uc, .int .i64 v.m] 26)) W := by rw [hW]; exact (Kept.refl _ _).alloc _
  have hB : Bx W w.heap.size 26 [.int .i64 10, .int .i64 v.s, .int .i64 v.r, .string (str v.p), .int .u64 v.d, .slice uo un uc, .int .i64 v.m] := (Bx.new w _ [.int .i64 10, .int .i64 v.s, .int .i64 v.r, .string (str v.p), .int .u64 v.d, .slice uo un uc, .int .i64 v.m]).kept k2 (by simp)
  have HR : Hid (Bx W (w.heap.size + 1) 26 zvt) := by
    rw [hW]
    have h := Bx.new (w.alloc (.cells #[.int .i64 10, .int .i64 v.s, .int .i64 v.r, .string (str v.p), .int .u64 v.d, .slice uo un uc, .int .i64 v.m] 26)) 26 zvt
    rw [show (w.alloc (.cells #[.int .i64 10, .int .i64 v.s, .int .i64 v.r, .string (str v.p), .int .u64 v.d, .slice uo un uc, .int .i64 v.m] 26)).heap.size = w.heap.size + 1 by simp] at h
    exact h
  have HSz : Hid (W.heap.size = w.heap.size + 2) := by rw [hW]; show _ = _; simp
  have HB := hide hB
  have HK := hide (k1.trans k2 (by simp))
  have HW := hide hW
  have c0 : W.cell? ⟨w.heap.size, 0, none⟩ = some (.int .i64 10) := hB.cell 0 rfl
  have c1 : W.cell? ⟨w.heap.size, 1, none⟩ = some (.int .i64 v.s) := hB.cell 1 rfl
  have c2 : W.cell? ⟨w.heap.size, 2, none⟩ = some (.int .i64 v.r) := hB.cell 2 rfl
  have c3 : W.cell? ⟨w.heap.size, 3, none⟩ = some (.string (str v.p)) := hB.cell 3 rfl
  have c4 : W.cell? ⟨w.heap.size, 4, none⟩ = some (.int .u64 v.d) := hB.cell 4 rfl
  have c5 : W.cell? ⟨w.heap.size, 5, none⟩ = some (.slice uo un uc) := hB.cell 5 rfl
  have c6 : W.cell? ⟨w.heap.size, 6, none⟩ = some (.int .i64 v.m) := hB.cell 6 rfl
  have HX : Hid (Bx (W.alloc (.cells #[.int .i64 0, .int .i64 0, .int .i64 0, .string ⟨#[]⟩, .int .u64 0, .slice none 0 0, .int .i64 0] 26)) W.heap.size 26 zvt) := Bx.new W _ zvt
  have HL : Hid (([.int .i64 10, .int .i64 0, .int .i64 0, .string ⟨#[]⟩, .int .u64 0, .slice none 0 0, .int .i64 0] : List Value).length = zvt.length) := rfl
  have HO : Hid (∀ z ∈ ([.int .i64 10, .int .i64 0, .int .i64 0, .string ⟨#[]⟩, .int .u64 0, .slice none 0 0, .int .i64 0] : List Value), z.oneCell' = true) := by intro z hv; simp at hv; rcases hv with rfl | rfl | rfl | rfl | rfl | rfl | rfl <;> rfl
  have HT : Hid (RowT Try.prog 26 ([.int .i64 10, .int .i64 0, .int .i64 0, .string ⟨#[]⟩, .int .u64 0, .slice none 0 0, .int .i64 0] : List Value).length) := rowT_ver
  clear hB hW k1 k2
  go_enter Try.func27, Try.ntmps27
  go_upto_region 1 with fail
  rw [← HW.out]
  go_upto_region 2 with ((with_reducible refine wl_store_bx HX.out HL.out HO.out HT.out ?_ ?_ ?_); rfl; rfl; intro w1 HB1 HK1)
  have k1 : Kept [] W w1 := (((Kept.refl [W.heap.size] W).alloc _).trans HK1.out (by simp)).drop0 (by intro i hi; simp at hi; omega)
  have HR1 := hide (HR.out.kept k1 (by simp))
  have hB1 := HB.out.kept k1 (by simp)
  have HKw1 := hide (HK.out.trans k1 (by simp))
  clear HK1 HX HW c0 c1 c2 c3 c4 c5 c6
  have c0 : w1.cell? ⟨w.heap.size, 0, none⟩ = some (.int .i64 10) := hB1.cell 0 rfl
  have c1 : w1.cell? ⟨w.heap.size, 1, none⟩ = some (.int .i64 v.s) := hB1.cell 1 rfl
  have c2 : w1.cell? ⟨w.heap.size, 2, none⟩ = some (.int .i64 v.r) := hB1.cell 2 rfl
  have c3 : w1.cell? ⟨w.heap.size, 3, none⟩ = some (.string (str v.p)) := hB1.cell 3 rfl
  have c4 : w1.cell? ⟨w.heap.size, 4, none⟩ = some (.int .u64 v.d) := hB1.cell 4 rfl
  have c5 : w1.cell? ⟨w.heap.size, 5, none⟩ = some (.slice uo un uc) := hB1.cell 5 rfl
  have c6 : w1.cell? ⟨w.heap.size, 6, none⟩ = some (.int .i64 v.m) := hB1.cell 6 rfl
  clear k1 hB1
  have HLz : Hid (([.int .i64 10, .int .i64 0, .int .i64 0, .string (str v.p), .int .u64 0, .slice none 0 0, .int .i64 0] : List Value).length = zvt.length) := rfl
  have HOz : Hid (∀ z ∈ ([.int .i64 10, .int .i64 0, .int .i64 0, .string (str v.p), .int .u64 0, .slice none 0 0, .int .i64 0] : List Value), z.oneCell' = true) := by intro z hv; simp at hv; rcases hv with rfl | rfl | rfl | rfl | rfl | rfl | rfl <;> rfl
  have HTz : Hid (RowT Try.prog 26 ([.int .i64 10, .int .i64 0, .int .i64 0, .string (str v.p), .int .u64 0, .slice none 0 0, .int .i64 0] : List Value).length) := rowT_ver
  go_upto_region 17 with fail
  have s3 : w1.cell? ⟨W.heap.size, 3, none⟩ = some (.string ⟨#[]⟩) := HB1.out.cell 3 rfl
  have f3 : w1.frozen? ⟨W.heap.size, 3, none⟩ = false := HB1.out.froz 3
  go_upto_region 24 with fail
  obtain ⟨w2, hw2⟩ : ∃ w2, w2 = w1.setCell ⟨W.heap.size, 3, none⟩ (.string (str v.p)) := ⟨_, rfl⟩
  rw [← hw2]
  have HB2 : Hid (Bx w2 W.heap.size 26 [.int .i64 10, .int .i64 0, .int .i64 0, .string (str v.p), .int .u64 0, .slice none 0 0, .int .i64 0]) := by rw [hw2]; exact HB1.out.set 3 _
  have HK2 : Hid (Kept [W.heap.size] w1 w2) := by rw [hw2]; exact kept_set w1 W.heap.size 3 _
  have HR2 := hide (HR1.out.kept HK2.out (by simp; have := HSz.out; omega))
  have HKw2 := hide (HKw1.out.trans HK2.out (by simp; have := HSz.out; omega))
  clear hw2 s3 f3
  replace c0 := HK2.out.cell c0 (by simp; have := HSz.out; omega)
  replace c1 := HK2.out.cell c1 (by simp; have := HSz.out; omega)
  replace c2 := HK2.out.cell c2 (by simp; have := HSz.out; omega)
  replace c3 := HK2.out.cell c3 (by simp; have := HSz.out; omega)
  replace c4 := HK2.out.cell c4 (by simp; have := HSz.out; omega)
  replace c5 := HK2.out.cell c5 (by simp; have := HSz.out; omega)
  replace c6 := HK2.out.cell c6 (by simp; have := HSz.out; omega)
  go_wp2_with (first | ((with_reducible refine wl_load_bx HB2.out HTz.out ?_ ?_); rfl) | ((with_reducible refine wl_store_bx HR2.out HLz.out HOz.out HTz.out ?_ ?_ ?_); rfl; rfl; intro wz HBz HKz))
  have KZ : Kept [] w wz := HKw2.out.trans HKz.out (by simp)
  refine bodyPost_ret (bx_result (by rfl) _ (by rfl) HBz.out HTz.out) rfl ?_
  exact ⟨.slice none 0 0, rfl, .inr ⟨rfl, rfl⟩, KZ⟩

set_option maxHeartbeats 8000000 in
set_option maxRecDepth 100000 in
theorem ownV_11 (w : World) (v : Vt) (uo : Option Addr) (un uc : Nat) (hk : v.c = 11) : Calls Try.prog 27 #[vtV v (.slice uo un uc)] w (OwnQ w (.slice uo un uc) v.k ⟨11, 0, 0, [], 0, v.k, 0⟩) := by
  unfold vtV
  rw [hk]
  clear hk
  obtain ⟨W, hW⟩ : ∃ W, W = (w.alloc (.cells #[.int .i64 11, .int .i64 v.s, .int .i64 v.r, .string (str v.p), .int .u64 v.d, .slice uo un uc, .int .i64 v.m] 26)).alloc (.cells #[.int .i64 0, .int .i64 0, .int .i64 0, .string ⟨#[]⟩, .int .u64 0, .slice none 0 0, .int .i64 0] 26) := ⟨_, rfl⟩
  have k1 : Kept [] w (w.alloc (.cells #[.int .i64 11, .int .i64 v.s, .int .i64 v.r, .string (str v.p), .int .u64 v.d, .slice uo un uc, .int .i64 v.m] 26)) := (Kept.refl _ _).alloc _
  have k2 : Kept [] (w.alloc (.cells #[.int .i64 11, .int .i64 v.s, .int .i64 v.r, .string (str v.p), .int .u64 v.d, .slice uo un uc, .int .i64 v.m] 26)) W := by rw [hW]; exact (Kept.refl _ _).alloc _
  have hB : Bx W w.heap.size 26 [.int .i64 11, .int .i64 v.s, .int .i64 v.r, .string (str v.p), .int .u64 v.d, .slice uo un uc, .int .i64 v.m] := (Bx.new w _ [.int .i64 11, .int .i64 v.s, .int .i64 v.r, .string (str v.p), .int .u64 v.d, .slice uo un uc, .int .i64 v.m]).kept k2 (by simp)
  have HR : Hid (Bx W (w.heap.size + 1) 26 zvt) := by
    rw [hW]
    have h := Bx.new (w.alloc (.cells #[.int .i64 11, .int .i64 v.s, .int .i64 v.r, .string (str v.p), .int .u64 v.d, .slice uo un uc, .int .i64 v.m] 26)) 26 zvt
    rw [show (w.alloc (.cells #[.int .i64 11, .int .i64 v.s, .int .i64 v.r, .string (str v.p), .int .u64 v.d, .slice uo un uc, .int .i64 v.m] 26)).heap.size = w.heap.size + 1 by simp] at h
    exact h
  have HSz : Hid (W.heap.size = w.heap.size + 2) := by rw [hW]; show _ = _; simp
  have HB := hide hB
  have HK := hide (k1.trans k2 (by simp))
  have HW := hide hW
  have c0 : W.cell? ⟨w.heap.size, 0, none⟩ = some (.int .i64 11) := hB.cell 0 rfl
  have c1 : W.cell? ⟨w.heap.size, 1, none⟩ = some (.int .i64 v.s) := hB.cell 1 rfl
  have c2 : W.cell? ⟨w.heap.size, 2, none⟩ = some (.int .i64 v.r) := hB.cell 2 rfl
  have c3 : W.cell? ⟨w.heap.size, 3, none⟩ = some (.string (str v.p)) := hB.cell 3 rfl
  have c4 : W.cell? ⟨w.heap.size, 4, none⟩ = some (.int .u64 v.d) := hB.cell 4 rfl
  have c5 : W.cell? ⟨w.heap.size, 5, none⟩ = some (.slice uo un uc) := hB.cell 5 rfl
  have c6 : W.cell? ⟨w.heap.size, 6, none⟩ = some (.int .i64 v.m) := hB.cell 6 rfl
  have HX : Hid (Bx (W.alloc (.cells #[.int .i64 0, .int .i64 0, .int .i64 0, .string ⟨#[]⟩, .int .u64 0, .slice none 0 0, .int .i64 0] 26)) W.heap.size 26 zvt) := Bx.new W _ zvt
  have HL : Hid (([.int .i64 11, .int .i64 0, .int .i64 0, .string ⟨#[]⟩, .int .u64 0, .slice none 0 0, .int .i64 0] : List Value).length = zvt.length) := rfl
  have HO : Hid (∀ z ∈ ([.int .i64 11, .int .i64 0, .int .i64 0, .string ⟨#[]⟩, .int .u64 0, .slice none 0 0, .int .i64 0] : List Value), z.oneCell' = true) := by intro z hv; simp at hv; rcases hv with rfl | rfl | rfl | rfl | rfl | rfl | rfl <;> rfl
  have HT : Hid (RowT Try.prog 26 ([.int .i64 11, .int .i64 0, .int .i64 0, .string ⟨#[]⟩, .int .u64 0, .slice none 0 0, .int .i64 0] : List Value).length) := rowT_ver
  clear hB hW k1 k2
  go_enter Try.func27, Try.ntmps27
  go_upto_region 1 with fail
  rw [← HW.out]
  go_upto_region 2 with ((with_reducible refine wl_store_bx HX.out HL.out HO.out HT.out ?_ ?_ ?_); rfl; rfl; intro w1 HB1 HK1)
  have k1 : Kept [] W w1 := (((Kept.refl [W.heap.size] W).alloc _).trans HK1.out (by simp)).drop0 (by intro i hi; simp at hi; omega)
  have HR1 := hide (HR.out.kept k1 (by simp))
  have hB1 := HB.out.kept k1 (by simp)
  have HKw1 := hide (HK.out.trans k1 (by simp))
  clear HK1 HX HW c0 c1 c2 c3 c4 c5 c6
  have c0 : w1.cell? ⟨w.heap.size, 0, none⟩ = some (.int .i64 11) := hB1.cell 0 rfl
  have c1 : w1.cell? ⟨w.heap.size, 1, none⟩ = some (.int .i64 v.s) := hB1.cell 1 rfl
  have c2 : w1.cell? ⟨w.heap.size, 2, none⟩ = some (.int .i64 v.r) := hB1.cell 2 rfl
  have c3 : w1.cell? ⟨w.heap.size, 3, none⟩ = some (.string (str v.p)) := hB1.cell 3 rfl
  have c4 : w1.cell? ⟨w.heap.size, 4, none⟩ = some (.int .u64 v.d) := hB1.cell 4 rfl
  have c5 : w1.cell? ⟨w.heap.size, 5, none⟩ = some (.slice uo un uc) := hB1.cell 5 rfl
  have c6 : w1.cell? ⟨w.heap.size, 6, none⟩ = some (.int .i64 v.m) := hB1.cell 6 rfl
  clear k1 hB1
  have HLz : Hid (([.int .i64 11, .int .i64 0, .int .i64 0, .string ⟨#[]⟩, .int .u64 0, .slice uo un uc, .int .i64 0] : List Value).length = zvt.length) := rfl
  have HOz : Hid (∀ z ∈ ([.int .i64 11, .int .i64 0, .int .i64 0, .string ⟨#[]⟩, .int .u64 0, .slice uo un uc, .int .i64 0] : List Value), z.oneCell' = true) := by intro z hv; simp at hv; rcases hv with rfl | rfl | rfl | rfl | rfl | rfl | rfl <;> rfl
  have HTz : Hid (RowT Try.prog 26 ([.int .i64 11, .int .i64 0, .int .i64 0, .string ⟨#[]⟩, .int .u64 0, .slice uo un uc, .int .i64 0] : List Value).length) := rowT_ver
  go_upto_region 19 with fail
  have s5 : w1.cell? ⟨W.heap.size, 5, none⟩ = some (.slice none 0 0) := HB1.out.cell 5 rfl
  have f5 : w1.frozen? ⟨W.heap.size, 5, none⟩ = false := HB1.out.froz 5
  go_upto_region 24 with fail
  obtain ⟨w2, hw2⟩ : ∃ w2, w2 = w1.setCell ⟨W.heap.size, 5, none⟩ (.slice uo un uc) := ⟨_, rfl⟩
  rw [← hw2]
  have HB2 : Hid (Bx w2 W.heap.size 26 [.int .i64 11, .int .i64 0, .int .i64 0, .string ⟨#[]⟩, .int .u64 0, .slice uo un uc, .int .i64 0]) := by rw [hw2]; exact HB1.out.set 5 _
  have HK2 : Hid (Kept [W.heap.size] w1 w2) := by rw [hw2]; exact kept_set w1 W.heap.size 5 _
  have HR2 := hide (HR1.out.kept HK2.out (by simp; have := HSz.out; omega))
  have HKw2 := hide (HKw1.out.trans HK2.out (by simp; have := HSz.out; omega))
  clear hw2 s5 f5
  replace c0 := HK2.out.cell c0 (by simp; have := HSz.out; omega)
  replace c1 := HK2.out.cell c1 (by simp; have := HSz.out; omega)
  replace c2 := HK2.out.cell c2 (by simp; have := HSz.out; omega)
  replace c3 := HK2.out.cell c3 (by simp; have := HSz.out; omega)
  replace c4 := HK2.out.cell c4 (by simp; have := HSz.out; omega)
  replace c5 := HK2.out.cell c5 (by simp; have := HSz.out; omega)
  replace c6 := HK2.out.cell c6 (by simp; have := HSz.out; omega)
  go_wp2_with (first | ((with_reducible refine wl_load_bx HB2.out HTz.out ?_ ?_); rfl) | ((with_reducible refine wl_store_bx HR2.out HLz.out HOz.out HTz.out ?_ ?_ ?_); rfl; rfl; intro wz HBz HKz))
  have KZ : Kept [] w wz := HKw2.out.trans HKz.out (by simp)
  refine bodyPost_ret (bx_result (by rfl) _ (by rfl) HBz.out HTz.out) rfl ?_
  exact ⟨.slice uo un uc, rfl, .inl ⟨rfl, rfl⟩, KZ⟩

set_option maxHeartbeats 8000000 in
set_option maxRecDepth 100000 in
theorem ownV_12 (w : World) (v : Vt) (uo : Option Addr) (un uc : Nat) (hk : v.c = 12) : Calls Try.prog 27 #[vtV v (.slice uo un uc)] w (OwnQ w (.slice uo un uc) v.k ⟨12, 0, 0, [], 0, [], v.m⟩) := by
  unfold vtV
  rw [hk]
  clear hk
  obtain ⟨W, hW⟩ : ∃ W, W = (w.alloc (.cells #[.int .i64 12, .int .i64 v.s, .int .i64 v.r, .string (str v.p), .int .u64 v.d, .slice uo un uc, .int .i64 v.m] 26)).alloc (.cells #[.int .i64 0, .int .i64 0, .int .i64 0, .string ⟨#[]⟩, .int .u64 0, .slice none 0 0, .int .i64 0] 26) := ⟨_, rfl⟩
  have k1 : Kept [] w (w.alloc (.cells #[.int .i64 12, .int .i64 v.s, .int .i64 v.r, .string (str v.p), .int .u64 v.d, .slice uo un uc, .int .i64 v.m] 26)) := (Kept.refl _ _).alloc _
  have k2 : Kept [] (w.alloc (.cells #[.int .i64 12, .int .i64 v.s, .int .i64 v.r, .string (str v.p), .int .u64 v.d, .slice uo un uc, .int .i64 v.m] 26)) W := by rw [hW]; exact (Kept.refl _ _).alloc _
  have hB : Bx W w.heap.size 26 [.int .i64 12, .int .i64 v.s, .int .i64 v.r, .string (str v.p), .int .u64 v.d, .slice uo un uc, .int .i64 v.m] := (Bx.new w _ [.int .i64 12, .int .i64 v.s, .int .i64 v.r, .string (str v.p), .int .u64 v.d, .slice uo un uc, .int .i64 v.m]).kept k2 (by simp)
  have HR : Hid (Bx W (w.heap.size + 1) 26 zvt) := by
    rw [hW]
    have h := Bx.new (w.alloc (.cells #[.int .i64 12, .int .i64 v.s, .int .i64 v.r, .string (str v.p), .int .u64 v.d, .slice uo un uc, .int .i64 v.m] 26)) 26 zvt
    rw [show (w.alloc (.cells #[.int .i64 12, .int .i64 v.s, .int .i64 v.r, .string (str v.p), .int .u64 v.d, .slice uo un uc, .int .i64 v.m] 26)).heap.size = w.heap.size + 1 by simp] at h
    exact h
  have HSz : Hid (W.heap.size = w.heap.size + 2) := by rw [hW]; show _ = _; simp
  have HB := hide hB
  have HK := hide (k1.trans k2 (by simp))
  have HW := hide hW
  have c0 : W.cell? ⟨w.heap.size, 0, none⟩ = some (.int .i64 12) := hB.cell 0 rfl
  have c1 : W.cell? ⟨w.heap.size, 1, none⟩ = some (.int .i64 v.s) := hB.cell 1 rfl
  have c2 : W.cell? ⟨w.heap.size, 2, none⟩ = some (.int .i64 v.r) := hB.cell 2 rfl
  have c3 : W.cell? ⟨w.heap.size, 3, none⟩ = some (.string (str v.p)) := hB.cell 3 rfl
  have c4 : W.cell? ⟨w.heap.size, 4, none⟩ = some (.int .u64 v.d) := hB.cell 4 rfl
  have c5 : W.cell? ⟨w.heap.size, 5, none⟩ = some (.slice uo un uc) := hB.cell 5 rfl
  have c6 : W.cell? ⟨w.heap.size, 6, none⟩ = some (.int .i64 v.m) := hB.cell 6 rfl
  have HX : Hid (Bx (W.alloc (.cells #[.int .i64 0, .int .i64 0, .int .i64 0, .string ⟨#[]⟩, .int .u64 0, .slice none 0 0, .int .i64 0] 26)) W.heap.size 26 zvt) := Bx.new W _ zvt
  have HL : Hid (([.int .i64 12, .int .i64 0, .int .i64 0, .string ⟨#[]⟩, .int .u64 0, .slice none 0 0, .int .i64 0] : List Value).length = zvt.length) := rfl
  have HO : Hid (∀ z ∈ ([.int .i64 12, .int .i64 0, .int .i64 0, .string ⟨#[]⟩, .int .u64 0, .slice none 0 0, .int .i64 0] : List Value), z.oneCell' = true) := by intro z hv; simp at hv; rcases hv with rfl | rfl | rfl | rfl | rfl | rfl | rfl <;> rfl
  have HT : Hid (RowT Try.prog 26 ([.int .i64 12, .int .i64 0, .int .i64 0, .string ⟨#[]⟩, .int .u64 0, .slice none 0 0, .int .i64 0] : List Value).length) := rowT_ver
  clear hB hW k1 k2
  go_enter Try.func27, Try.ntmps27
  go_upto_region 1 with fail
  rw [← HW.out]
  go_upto_region 2 with ((with_reducible refine wl_store_bx HX.out HL.out HO.out HT.out ?_ ?_ ?_); rfl; rfl; intro w1 HB1 HK1)
  have k1 : Kept [] W w1 := (((Kept.refl [W.heap.size] W).alloc _).trans HK1.out (by simp)).drop0 (by intro i hi; simp at hi; omega)
  have HR1 := hide (HR.out.kept k1 (by simp))
  have hB1 := HB.out.kept k1 (by simp)
  have HKw1 := hide (HK.out.trans k1 (by simp))
  clear HK1 HX HW c0 c1 c2 c3 c4 c5 c6
  have c0 : w1.cell? ⟨w.heap.size, 0, none⟩ = some (.int .i64 12) := hB1.cell 0 rfl
  have c1 : w1.cell? ⟨w.heap.size, 1, none⟩ = some (.int .i64 v.s) := hB1.cell 1 rfl
  have c2 : w1.cell? ⟨w.heap.size, 2, none⟩ = some (.int .i64 v.r) := hB1.cell 2 rfl
  have c3 : w1.cell? ⟨w.heap.size, 3, none⟩ = some (.string (str v.p)) := hB1.cell 3 rfl
  have c4 : w1.cell? ⟨w.heap.size, 4, none⟩ = some (.int .u64 v.d) := hB1.cell 4 rfl
  have c5 : w1.cell? ⟨w.heap.size, 5, none⟩ = some (.slice uo un uc) := hB1.cell 5 rfl
  have c6 : w1.cell? ⟨w.heap.size, 6, none⟩ = some (.int .i64 v.m) := hB1.cell 6 rfl
  clear k1 hB1
  have HLz : Hid (([.int .i64 12, .int .i64 0, .int .i64 0, .string ⟨#[]⟩, .int .u64 0, .slice none 0 0, .int .i64 v.m] : List Value).length = zvt.length) := rfl
  have HOz : Hid (∀ z ∈ ([.int .i64 12, .int .i64 0, .int .i64 0, .string ⟨#[]⟩, .int .u64 0, .slice none 0 0, .int .i64 v.m] : List Value), z.oneCell' = true) := by intro z hv; simp at hv; rcases hv with rfl | rfl | rfl | rfl | rfl | rfl | rfl <;> rfl
  have HTz : Hid (RowT Try.prog 26 ([.int .i64 12, .int .i64 0, .int .i64 0, .string ⟨#[]⟩, .int .u64 0, .slice none 0 0, .int .i64 v.m] : List Value).length) := rowT_ver
  go_upto_region 23 with fail
  have s6 : w1.cell? ⟨W.heap.size, 6, none⟩ = some (.int .i64 0) := HB1.out.cell 6 rfl
  have f6 : w1.frozen? ⟨W.heap.size, 6, none⟩ = false := HB1.out.froz 6
  go_upto_region 24 with fail
  obtain ⟨w2, hw2⟩ : ∃ w2, w2 = w1.setCell ⟨W.heap.size, 6, none⟩ (.int .i64 v.m) := ⟨_, rfl⟩
  rw [← hw2]
  have HB2 : Hid (Bx w2 W.heap.size 26 [.int .i64 12, .int .i64 0, .int .i64 0, .string ⟨#[]⟩, .int .u64 0, .slice none 0 0, .int .i64 v.m]) := by rw [hw2]; exact HB1.out.set 6 _
  have HK2 : Hid (Kept [W.heap.size] w1 w2) := by rw [hw2]; exact kept_set w1 W.heap.size 6 _
  have HR2 := hide (HR1.out.kept HK2.out (by simp; have := HSz.out; omega))
  have HKw2 := hide (HKw1.out.trans HK2.out (by simp; have := HSz.out; omega))
  clear hw2 s6 f6
  replace c0 := HK2.out.cell c0 (by simp; have := HSz.out; omega)
  replace c1 := HK2.out.cell c1 (by simp; have := HSz.out; omega)
  replace c2 := HK2.out.cell c2 (by simp; have := HSz.out; omega)
  replace c3 := HK2.out.cell c3 (by simp; have := HSz.out; omega)
  replace c4 := HK2.out.cell c4 (by simp; have := HSz.out; omega)
  replace c5 := HK2.out.cell c5 (by simp; have := HSz.out; omega)
  replace c6 := HK2.out.cell c6 (by simp; have := HSz.out; omega)
  go_wp2_with (first | ((with_reducible refine wl_load_bx HB2.out HTz.out ?_ ?_); rfl) | ((with_reducible refine wl_store_bx HR2.out HLz.out HOz.out HTz.out ?_ ?_ ?_); rfl; rfl; intro wz HBz HKz))
  have KZ : Kept [] w wz := HKw2.out.trans HKz.out (by simp)
  refine bodyPost_ret (bx_result (by rfl) _ (by rfl) HBz.out HTz.out) rfl ?_
  exact ⟨.slice none 0 0, rfl, .inr ⟨rfl, rfl⟩, KZ⟩

set_option maxHeartbeats 8000000 in
set_option maxRecDepth 100000 in
theorem ownV_13 (w : World) (v : Vt) (uo : Option Addr) (un uc : Nat) (hk : v.c = 13) : Calls Try.prog 27 #[vtV v (.slice uo un uc)] w (OwnQ w (.slice uo un uc) v.k ⟨13, 0, 0, [], 0, [], v.m⟩) := by
  unfold vtV
  rw [hk]
  clear hk
  obtain ⟨W, hW⟩ : ∃ W, W = (w.alloc (.cells #[.int .i64 13, .int .i64 v.s, .int .i64 v.r, .string (str v.p), .int .u64 v.d, .slice uo un uc, .int .i64 v.m] 26)).alloc (.cells #[.int .i64 0, .int .i64 0, .int .i64 0, .string ⟨#[]⟩, .int .u64 0, .slice none 0 0, .int .i64 0] 26) := ⟨_, rfl⟩
  have k1 : Kept [] w (w.alloc (.cells #[.int .i64 13, .int .i64 v.s, .int .i64 v.r, .string (str v.p), .int .u64 v.d, .slice uo un uc, .int .i64 v.m] 26)) := (Kept.refl _ _).alloc _
  have k2 : Kept [] (w.alloc (.cells #[.int .i64 13, .int .i64 v.s, .int .i64 v.r, .string (str v.p), .int .u64 v.d, .slice uo un uc, .int .i64 v.m] 26)) W := by rw [hW]; exact (Kept.refl _ _).alloc _
  have hB : Bx W w.heap.size 26 [.int .i64 13, .int .i64 v.s, .int .i64 v.r, .string (str v.p), .int .u64 v.d, .slice uo un uc, .int .i64 v.m] := (Bx.new w _ [.int .i64 13, .int .i64 v.s, .int .i64 v.r, .string (str v.p), .int .u64 v.d, .slice uo un uc, .int .i64 v.m]).kept k2 (by simp)
  have HR : Hid (Bx W (w.heap.size + 1) 26 zvt) := by
    rw [hW]
    have h := Bx.new (w.alloc (.cells #[.int .i64 13, .int .i64 v.s, .int .i64 v.r, .string (str v.p), .int .u64 v.d, .slice uo un uc, .int .i64 v.m] 26)) 26 zvt
    rw [show (w.alloc (.cells #[.int .i64 13, .int .i64 v.s, .int .i64 v.r, .string (str v.p), .int .u64 v.d, .slice uo un uc, .int .i64 v.m] 26)).heap.size = w.heap.size + 1 by simp] at h
    exact h
  have HSz : Hid (W.heap.size = w.heap.size + 2) := by rw [hW]; show _ = _; simp
  have HB := hide hB
  have HK := hide (k1.trans k2 (by simp))
  have HW := hide hW
  have c0 : W.cell? ⟨w.heap.size, 0, none⟩ = some (.int .i64 13) := hB.cell 0 rfl
  have c1 : W.cell? ⟨w.heap.size, 1, none⟩ = some (.int .i64 v.s) := hB.cell 1 rfl
  have c2 : W.cell? ⟨w.heap.size, 2, none⟩ = some (.int .i64 v.r) := hB.cell 2 rfl
  have c3 : W.cell? ⟨w.heap.size, 3, none⟩ = some (.string (str v.p)) := hB.cell 3 rfl
  have c4 : W.cell? ⟨w.heap.size, 4, none⟩ = some (.int .u64 v.d) := hB.cell 4 rfl
  have c5 : W.cell? ⟨w.heap.size, 5, none⟩ = some (.slice uo un uc) := hB.cell 5 rfl
  have c6 : W.cell? ⟨w.heap.size, 6, none⟩ = some (.int .i64 v.m) := hB.cell 6 rfl
  have HX : Hid (Bx (W.alloc (.cells #[.int .i64 0, .int .i64 0, .int .i64 0, .string ⟨#[]⟩, .int .u64 0, .slice none 0 0, .int .i64 0] 26)) W.heap.size 26 zvt) := Bx.new W _ zvt
  have HL : Hid (([.int .i64 13, .int .i64 0, .int .i64 0, .string ⟨#[]⟩, .int .u64 0, .slice none 0 0, .int .i64 0] : List Value).length = zvt.length) := rfl
  have HO : Hid (∀ z ∈ ([.int .i64 13, .int .i64 0, .int .i64 0, .string ⟨#[]⟩, .int .u64 0, .slice none 0 0, .int .i64 0] : List Value), z.oneCell' = true) := by intro z hv; simp at hv; rcases hv with rfl | rfl | rfl | rfl | rfl | rfl | rfl <;> rfl
  have HT : Hid (RowT Try.prog 26 ([.int .i64 13, .int .i64 0, .int .i64 0, .string ⟨#[]⟩, .int .u64 0, .slice none 0 0, .int .i64 0] : List Value).length) := rowT_ver
  clear hB hW k1 k2
  go_enter Try.func27, Try.ntmps27
  go_upto_region 1 with fail
  rw [← HW.out]
  go_upto_region 2 with ((with_reducible refine wl_store_bx HX.out HL.out HO.out HT.out ?_ ?_ ?_); rfl; rfl; intro w1 HB1 HK1)
  have k1 : Kept [] W w1 := (((Kept.refl [W.heap.size] W).alloc _).trans HK1.out (by simp)).drop0 (by intro i hi; simp at hi; omega)
  have HR1 := hide (HR.out.kept k1 (by simp))
  have hB1 := HB.out.kept k1 (by simp)
  have HKw1 := hide (HK.out.trans k1 (by simp))
  clear HK1 HX HW c0 c1 c2 c3 c4 c5 c6
  have c0 : w1.cell? ⟨w.heap.size, 0, none⟩ = some (.int .i64 13) := hB1.cell 0 rfl
  have c1 : w1.cell? ⟨w.heap.size, 1, none⟩ = some (.int .i64 v.s) := hB1.cell 1 rfl
  have c2 : w1.cell? ⟨w.heap.size, 2, none⟩ = some (.int .i64 v.r) := hB1.cell 2 rfl
  have c3 : w1.cell? ⟨w.heap.size, 3, none⟩ = some (.string (str v.p)) := hB1.cell 3 rfl
  have c4 : w1.cell? ⟨w.heap.size, 4, none⟩ = some (.int .u64 v.d) := hB1.cell 4 rfl
  have c5 : w1.cell? ⟨w.heap.size, 5, none⟩ = some (.slice uo un uc) := hB1.cell 5 rfl
  have c6 : w1.cell? ⟨w.heap.size, 6, none⟩ = some (.int .i64 v.m) := hB1.cell 6 rfl
  clear k1 hB1
  have HLz : Hid (([.int .i64 13, .int .i64 0, .int .i64 0, .string ⟨#[]⟩, .int .u64 0, .slice none 0 0, .int .i64 v.m] : List Value).length = zvt.length) := rfl
  have HOz : Hid (∀ z ∈ ([.int .i64 13, .int .i64 0, .int .i64 0, .string ⟨#[]⟩, .int .u64 0, .slice none 0 0, .int .i64 v.m] : List Value), z.oneCell' = true) := by intro z hv; simp at hv; rcases hv with rfl | rfl | rfl | rfl | rfl | rfl | rfl <;> rfl
  have HTz : Hid (RowT Try.prog 26 ([.int .i64 13, .int .i64 0, .int .i64 0, .string ⟨#[]⟩, .int .u64 0, .slice none 0 0, .int .i64 v.m] : List Value).length) := rowT_ver
  go_upto_region 23 with fail
  have s6 : w1.cell? ⟨W.heap.size, 6, none⟩ = some (.int .i64 0) := HB1.out.cell 6 rfl
  have f6 : w1.frozen? ⟨W.heap.size, 6, none⟩ = false := HB1.out.froz 6
  go_upto_region 24 with fail
  obtain ⟨w2, hw2⟩ : ∃ w2, w2 = w1.setCell ⟨W.heap.size, 6, none⟩ (.int .i64 v.m) := ⟨_, rfl⟩
  rw [← hw2]
  have HB2 : Hid (Bx w2 W.heap.size 26 [.int .i64 13, .int .i64 0, .int .i64 0, .string ⟨#[]⟩, .int .u64 0, .slice none 0 0, .int .i64 v.m]) := by rw [hw2]; exact HB1.out.set 6 _
  have HK2 : Hid (Kept [W.heap.size] w1 w2) := by rw [hw2]; exact kept_set w1 W.heap.size 6 _
  have HR2 := hide (HR1.out.kept HK2.out (by simp; have := HSz.out; omega))
  have HKw2 := hide (HKw1.out.trans HK2.out (by simp; have := HSz.out; omega))
  clear hw2 s6 f6
  replace c0 := HK2.out.cell c0 (by simp; have := HSz.out; omega)
  replace c1 := HK2.out.cell c1 (by simp; have := HSz.out; omega)
  replace c2 := HK2.out.cell c2 (by simp; have := HSz.out; omega)
  replace c3 := HK2.out.cell c3 (by simp; have := HSz.out; omega)
  replace c4 := HK2.out.cell c4 (by simp; have := HSz.out; omega)
  replace c5 := HK2.out.cell c5 (by simp; have := HSz.out; omega)
  replace c6 := HK2.out.cell c6 (by simp; have := HSz.out; omega)
  go_wp2_with (first | ((with_reducible refine wl_load_bx HB2.out HTz.out ?_ ?_); rfl) | ((with_reducible refine wl_store_bx HR2.out HLz.out HOz.out HTz.out ?_ ?_ ?_); rfl; rfl; intro wz HBz HKz))
  have KZ : Kept [] w wz := HKw2.out.trans HKz.out (by simp)
  refine bodyPost_ret (bx_result (by rfl) _ (by rfl) HBz.out HTz.out) rfl ?_
  exact ⟨.slice none 0 0, rfl, .inr ⟨rfl, rfl⟩, KZ⟩

set_option maxHeartbeats 8000000 in
set_option maxRecDepth 100000 in
theorem ownV_14 (w : World) (v : Vt) (uo : Option Addr) (un uc : Nat) (hk : v.c = 14) : Calls Try.prog 27 #[vtV v (.slice uo un uc)] w (OwnQ w (.slice uo un uc) v.k ⟨14, 0, 0, [], 0, [], v.m⟩) := by
  unfold vtV
  rw [hk]
  clear hk
  obtain ⟨W, hW⟩ : ∃ W, W = (w.alloc (.cells #[.int .i64 14, .int .i64 v.s, .int .i64 v.r, .string (str v.p), .int .u64 v.d, .slice uo un uc, .int .i64 v.m] 26)).alloc (.cells #[.int .i64 0, .int .i64 0, .int .i64 0, .string ⟨#[]⟩, .int .u64 0, .slice none 0 0, .int .i64 0] 26) := ⟨_, rfl⟩
  have k1 : Kept [] w (w.alloc (.cells #[.int .i64 14, .int .i64 v.s, .int .i64 v.r, .string (str v.p), .int .u64 v.d, .slice uo un uc, .int .i64 v.m] 26)) := (Kept.refl _ _).alloc _
  have k2 : Kept [] (w.alloc (.cells #[.int .i64 14, .int .i64 v.s, .int .i64 v.r, .string (str v.p), .int .u64 v.d, .slice uo un uc, .int .i64 v.m] 26)) W := by rw [hW]; exact (Kept.refl _ _).alloc _
  have hB : Bx W w.heap.size 26 [.int .i64 14, .int .i64 v.s, .int .i64 v.r, .string (str v.p), .int .u64 v.d, .slice uo un uc, .int .i64 v.m] := (Bx.new w _ [.int .i64 14, .int .i64 v.s, .int .i64 v.r, .string (str v.p), .int .u64 v.d, .slice uo un uc, .int .i64 v.m]).kept k2 (by simp)
  have HR : Hid (Bx W (w.heap.size + 1) 26 zvt) := by
    rw [hW]
    have h := Bx.new (w.alloc (.cells #[.int .i64 14, .int .i64 v.s, .int .i64 v.r, .string (str v.p), .int .u64 v.d, .slice uo un uc, .int .i64 v.m] 26)) 26 zvt
    rw [show (w.alloc (.cells #[.int .i64 14, .int .i64 v.s, .int .i64 v.r, .string (str v.p), .int .u64 v.d, .slice uo un uc, .int .i64 v.m] 26)).heap.size = w.heap.size + 1 by simp] at h
    exact h
  have HSz : Hid (W.heap.size = w.heap.size + 2) := by rw [hW]; show _ = _; simp
  have HB := hide hB
  have HK := hide (k1.trans k2 (by simp))
  have HW := hide hW
  have c0 : W.cell? ⟨w.heap.size, 0, none⟩ = some (.int .i64 14) := hB.cell 0 rfl
  have c1 : W.cell? ⟨w.heap.size, 1, none⟩ = some (.int .i64 v.s) := hB.cell 1 rfl
  have c2 : W.cell? ⟨w.heap.size, 2, none⟩ = some (.int .i64 v.r) := hB.cell 2 rfl
  have c3 : W.cell? ⟨w.heap.size, 3, none⟩ = some (.string (str v.p)) := hB.cell 3 rfl
  have c4 : W.cell? ⟨w.heap.size, 4, none⟩ = some (.int .u64 v.d) := hB.cell 4 rfl
  have c5 : W.cell? ⟨w.heap.size, 5, none⟩ = some (.slice uo un uc) := hB.cell 5 rfl
  have c6 : W.cell? ⟨w.heap.size, 6, none⟩ = some (.int .i64 v.m) := hB.cell 6 rfl
  have HX : Hid (Bx (W.alloc (.cells #[.int .i64 0, .int .i64 0, .int .i64 0, .string ⟨#[]⟩, .int .u64 0, .slice none 0 0, .int .i64 0] 26)) W.heap.size 26 zvt) := Bx.new W _ zvt
  have HL : Hid (([.int .i64 14, .int .i64 0, .int .i64 0, .string ⟨#[]⟩, .int .u64 0, .slice none 0 0, .int .i64 0] : List Value).length = zvt.length) := rfl
  have HO : Hid (∀ z ∈ ([.int .i64 14, .int .i64 0, .int .i64 0, .string ⟨#[]⟩, .int .u64 0, .slice none 0 0, .int .i64 0] : List Value), z.oneCell' = true) := by intro z hv; simp at hv; rcases hv with rfl | rfl | rfl | rfl | rfl | rfl | rfl <;> rfl
  have HT : Hid (RowT Try.prog 26 ([.int .i64 14, .int .i64 0, .int .i64 0, .string ⟨#[]⟩, .int .u64 0, .slice none 0 0, .int .i64 0] : List Value).length) := rowT_ver
  clear hB hW k1 k2
  go_enter Try.func27, Try.ntmps27
  go_upto_region 1 with fail
  rw [← HW.out]
  go_upto_region 2 with ((with_reducible refine wl_store_bx HX.out HL.out HO.out HT.out ?_ ?_ ?_); rfl; rfl; intro w1 HB1 HK1)
  have k1 : Kept [] W w1 := (((Kept.refl [W.heap.size] W).alloc _).trans HK1.out (by simp)).drop0 (by intro i hi; simp at hi; omega)
  have HR1 := hide (HR.out.kept k1 (by simp))
  have hB1 := HB.out.kept k1 (by simp)
  have HKw1 := hide (HK.out.trans k1 (by simp))
  clear HK1 HX HW c0 c1 c2 c3 c4 c5 c6
  have c0 : w1.cell? ⟨w.heap.size, 0, none⟩ = some (.int .i64 14) := hB1.cell 0 rfl
  have c1 : w1.cell? ⟨w.heap.size, 1, none⟩ = some (.int .i64 v.s) := hB1.cell 1 rfl
  have c2 : w1.cell? ⟨w.heap.size, 2, none⟩ = some (.int .i64 v.r) := hB1.cell 2 rfl
  have c3 : w1.cell? ⟨w.heap.size, 3, none⟩ = some (.string (str v.p)) := hB1.cell 3 rfl
  have c4 : w1.cell? ⟨w.heap.size, 4, none⟩ = some (.int .u64 v.d) := hB1.cell 4 rfl
  have c5 : w1.cell? ⟨w.heap.size, 5, none⟩ = some (.slice uo un uc) := hB1.cell 5 rfl
  have c6 : w1.cell? ⟨w.heap.size, 6, none⟩ = some (.int .i64 v.m) := hB1.cell 6 rfl
  clear k1 hB1
  have HLz : Hid (([.int .i64 14, .int .i64 0, .int .i64 0, .string ⟨#[]⟩, .int .u64 0, .slice none 0 0, .int .i64 v.m] : List Value).length = zvt.length) := rfl
  have HOz : Hid (∀ z ∈ ([.int .i64 14, .int .i64 0, .int .i64 0, .string ⟨#[]⟩, .int .u64 0, .slice none 0 0, .int .i64 v.m] : List Value), z.oneCell' = true) := by intro z hv; simp at hv; rcases hv with rfl | rfl | rfl | rfl | rfl | rfl | rfl <;> rfl
  have HTz : Hid (RowT Try.prog 26 ([.int .i64 14, .int .i64 0, .int .i64 0, .string ⟨#[]⟩, .int .u64 0, .slice none 0 0, .int .i64 v.m] : List Value).length) := rowT_ver
  go_upto_region 23 with fail
  have s6 : w1.cell? ⟨W.heap.size, 6, none⟩ = some (.int .i64 0) := HB1.out.cell 6 rfl
  have f6 : w1.frozen? ⟨W.heap.size, 6, none⟩ = false := HB1.out.froz 6
  go_upto_region 24 with fail
  obtain ⟨w2, hw2⟩ : ∃ w2, w2 = w1.setCell ⟨W.heap.size, 6, none⟩ (.int .i64 v.m) := ⟨_, rfl⟩
  rw [← hw2]
  have HB2 : Hid (Bx w2 W.heap.size 26 [.int .i64 14, .int .i64 0, .int .i64 0, .string ⟨#[]⟩, .int .u64 0, .slice none 0 0, .int .i64 v.m]) := by rw [hw2]; exact HB1.out.set 6 _
  have HK2 : Hid (Kept [W.heap.size] w1 w2) := by rw [hw2]; exact kept_set w1 W.heap.size 6 _
  have HR2 := hide (HR1.out.kept HK2.out (by simp; have := HSz.out; omega))
  have HKw2 := hide (HKw1.out.trans HK2.out (by simp; have := HSz.out; omega))
  clear hw2 s6 f6
  replace c0 := HK2.out.cell c0 (by simp; have := HSz.out; omega)
  replace c1 := HK2.out.cell c1 (by simp; have := HSz.out; omega)
  replace c2 := HK2.out.cell c2 (by simp; have := HSz.out; omega)
  replace c3 := HK2.out.cell c3 (by simp; have := HSz.out; omega)
  replace c4 := HK2.out.cell c4 (by simp; have := HSz.out; omega)
  replace c5 := HK2.out.cell c5 (by simp; have := HSz.out; omega)
  replace c6 := HK2.out.cell c6 (by simp; have := HSz.out; omega)
  go_wp2_with (first | ((with_reducible refine wl_load_bx HB2.out HTz.out ?_ ?_); rfl) | ((with_reducible refine wl_store_bx HR2.out HLz.out HOz.out HTz.out ?_ ?_ ?_); rfl; rfl; intro wz HBz HKz))
  have KZ : Kept [] w wz := HKw2.out.trans HKz.out (by simp)
  refine bodyPost_ret (bx_result (by rfl) _ (by rfl) HBz.out HTz.out) rfl ?_
  exact ⟨.slice none 0 0, rfl, .inr ⟨rfl, rfl⟩, KZ⟩

set_option maxHeartbeats 8000000 in
set_option maxRecDepth 100000 in
theorem ownV_x (w : World) (v : Vt) (uo : Option Addr) (un uc : Nat) (h1 : v.c ≠ 1) (h2 : v.c ≠ 2) (h4 : v.c ≠ 4) (h8 : v.c ≠ 8) (h3 : v.c ≠ 3) (h9 : v.c ≠ 9) (h10 : v.c ≠ 10) (h11 : v.c ≠ 11) (h12 : v.c ≠ 12) (h13 : v.c ≠ 13) (h14 : v.c ≠ 14) : Calls Try.prog 27 #[vtV v (.slice uo un uc)] w (OwnQ w (.slice uo un uc) v.k ⟨v.c, 0, 0, [], 0, [], 0⟩) := by
  have b1 : (v.c == 1) = false := by simpa using h1
  have b2 : (v.c == 2) = false := by simpa using h2
  have b4 : (v.c == 4) = false := by simpa using h4
  have b8 : (v.c == 8) = false := by simpa using h8
  have b3 : (v.c == 3) = false := by simpa using h3
  have b9 : (v.c == 9) = false := by simpa using h9
  have b10 : (v.c == 10) = false := by simpa using h10
  have b11 : (v.c == 11) = false := by simpa using h11
  have b12 : (v.c == 12) = false := by simpa using h12
  have b13 : (v.c == 13) = false := by simpa using h13
  have b14 : (v.c == 14) = false := by simpa using h14
  clear h1 h2 h4 h8 h3 h9 h10 h11 h12 h13 h14
  unfold vtV
  obtain ⟨W, hW⟩ : ∃ W, W = (w.alloc (.cells #[.int .i64 v.c, .int .i64 v.s, .int .i64 v.r, .string (str v.p), .int .u64 v.d, .slice uo un uc, .int .i64 v.m] 26)).alloc (.cells #[.int .i64 0, .int .i64 0, .int .i64 0, .string ⟨#[]⟩, .int .u64 0, .slice none 0 0, .int .i64 0] 26) := ⟨_, rfl⟩
  have k1 : Kept [] w (w.alloc (.cells #[.int .i64 v.c, .int .i64 v.s, .int .i64 v.r, .string (str v.p), .int .u64 v.d, .slice uo un uc, .int .i64 v.m] 26)) := (Kept.refl _ _).alloc _
  have k2 : Kept [] (w.alloc (.cells #[.int .i64 v.c, .int .i64 v.s, .int .i64 v.r, .string (str v.p), .int .u64 v.d, .slice uo un uc, .int .i64 v.m] 26)) W := by rw [hW]; exact (Kept.refl _ _).alloc _
  have hB : Bx W w.heap.size 26 [.int .i64 v.c, .int .i64 v.s, .int .i64 v.r, .string (str v.p), .int .u64 v.d, .slice uo un uc, .int .i64 v.m] := (Bx.new w _ [.int .i64 v.c, .int .i64 v.s, .int .i64 v.r, .string (str v.p), .int .u64 v.d, .slice uo un uc, .int .i64 v.m]).kept k2 (by simp)
  have HR : Hid (Bx W (w.heap.size + 1) 26 zvt) := by
    rw [hW]
    have h := Bx.new (w.alloc (.cells #[.int .i64 v.c, .int .i64 v.s, .int .i64 v.r, .string (str v.p), .int .u64 v.d, .slice uo un uc, .int .i64 v.m] 26)) 26 zvt
    rw [show (w.alloc (.cells #[.int .i64 v.c, .int .i64 v.s, .int .i64 v.r, .string (str v.p), .int .u64 v.d, .slice uo un uc, .int .i64 v.m] 26)).heap.size = w.heap.size + 1 by simp] at h
    exact h
  have HSz : Hid (W.heap.size = w.heap.size + 2) := by rw [hW]; show _ = _; simp
  have HB := hide hB
  have HK := hide (k1.trans k2 (by simp))
  have HW := hide hW
  have c0 : W.cell? ⟨w.heap.size, 0, none⟩ = some (.int .i64 v.c) := hB.cell 0 rfl
  have c1 : W.cell? ⟨w.heap.size, 1, none⟩ = some (.int .i64 v.s) := hB.cell 1 rfl
  have c2 : W.cell? ⟨w.heap.size, 2, none⟩ = some (.int .i64 v.r) := hB.cell 2 rfl
  have c3 : W.cell? ⟨w.heap.size, 3, none⟩ = some (.string (str v.p)) := hB.cell 3 rfl
  have c4 : W.cell? ⟨w.heap.size, 4, none⟩ = some (.int .u64 v.d) := hB.cell 4 rfl
  have c5 : W.cell? ⟨w.heap.size, 5, none⟩ = some (.slice uo un uc) := hB.cell 5 rfl
  have c6 : W.cell? ⟨w.heap.size, 6, none⟩ = some (.int .i64 v.m) := hB.cell 6 rfl
  have HX : Hid (Bx (W.alloc (.cells #[.int .i64 0, .int .i64 0, .int .i64 0, .string ⟨#[]⟩, .int .u64 0, .slice none 0 0, .int .i64 0] 26)) W.heap.size 26 zvt) := Bx.new W _ zvt
  have HL : Hid (([.int .i64 v.c, .int .i64 0, .int .i64 0, .string ⟨#[]⟩, .int .u64 0, .slice none 0 0, .int .i64 0] : List Value).length = zvt.length) := rfl
  have HO : Hid (∀ z ∈ ([.int .i64 v.c, .int .i64 0, .int .i64 0, .string ⟨#[]⟩, .int .u64 0, .slice none 0 0, .int .i64 0] : List Value), z.oneCell' = true) := by intro z hv; simp at hv; rcases hv with rfl | rfl | rfl | rfl | rfl | rfl | rfl <;> rfl
  have HT : Hid (RowT Try.prog 26 ([.int .i64 v.c, .int .i64 0, .int .i64 0, .string ⟨#[]⟩, .int .u64 0, .slice none 0 0, .int .i64 0] : List Value).length) := rowT_ver
  clear hB hW k1 k2
  go_enter Try.func27, Try.ntmps27
  go_upto_region 1 with fail
  rw [← HW.out]
  go_upto_region 2 with ((with_reducible refine wl_store_bx HX.out HL.out HO.out HT.out ?_ ?_ ?_); rfl; rfl; intro w1 HB1 HK1)
  have k1 : Kept [] W w1 := (((Kept.refl [W.heap.size] W).alloc _).trans HK1.out (by simp)).drop0 (by intro i hi; simp at hi; omega)
  have HR1 := hide (HR.out.kept k1 (by simp))
  have hB1 := HB.out.kept k1 (by simp)
  have HKw1 := hide (HK.out.trans k1 (by simp))
  clear HK1 HX HW c0 c1 c2 c3 c4 c5 c6
  have c0 : w1.cell? ⟨w.heap.size, 0, none⟩ = some (.int .i64 v.c) := hB1.cell 0 rfl
  have c1 : w1.cell? ⟨w.heap.size, 1, none⟩ = some (.int .i64 v.s) := hB1.cell 1 rfl
  have c2 : w1.cell? ⟨w.heap.size, 2, none⟩ = some (.int .i64 v.r) := hB1.cell 2 rfl
  have c3 : w1.cell? ⟨w.heap.size, 3, none⟩ = some (.string (str v.p)) := hB1.cell 3 rfl
  have c4 : w1.cell? ⟨w.heap.size, 4, none⟩ = some (.int .u64 v.d) := hB1.cell 4 rfl
  have c5 : w1.cell? ⟨w.heap.size, 5, none⟩ = some (.slice uo un uc) := hB1.cell 5 rfl
  have c6 : w1.cell? ⟨w.heap.size, 6, none⟩ = some (.int .i64 v.m) := hB1.cell 6 rfl
  clear k1 hB1
  have HLz : Hid (([.int .i64 v.c, .int .i64 0, .int .i64 0, .string ⟨#[]⟩, .int .u64 0, .slice none 0 0, .int .i64 0] : List Value).length = zvt.length) := rfl
  have HOz : Hid (∀ z ∈ ([.int .i64 v.c, .int .i64 0, .int .i64 0, .string ⟨#[]⟩, .int .u64 0, .slice none 0 0, .int .i64 0] : List Value), z.oneCell' = true) := by intro z hv; simp at hv; rcases hv with rfl | rfl | rfl | rfl | rfl | rfl | rfl <;> rfl
  have HTz : Hid (RowT Try.prog 26 ([.int .i64 v.c, .int .i64 0, .int .i64 0, .string ⟨#[]⟩, .int .u64 0, .slice none 0 0, .int .i64 0] : List Value).length) := rowT_ver
  go_upto_region 24 with fail
  go_wp2_with (first | ((with_reducible refine wl_load_bx HB1.out HTz.out ?_ ?_); rfl) | ((with_reducible refine wl_store_bx HR1.out HLz.out HOz.out HTz.out ?_ ?_ ?_); rfl; rfl; intro wz HBz HKz))
  have KZ : Kept [] w wz := HKw1.out.trans HKz.out (by simp)
  refine bodyPost_ret (bx_result (by rfl) _ (by rfl) HBz.out HTz.out) rfl ?_
  exact ⟨.slice none 0 0, rfl, .inr ⟨rfl, rfl⟩, KZ⟩

theorem ownV_call (w : World) (v : Vt) (uo : Option Addr) (un uc : Nat) : Calls Try.prog 27 #[vtV v (.slice uo un uc)] w (OwnQ w (.slice uo un uc) v.k (ownV v)) := by
  unfold ownV
  by_cases e1 : v.c = 1
  · rw [if_pos (by omega), e1]; exact ownV_1 w v uo un uc e1
  rw [if_neg (by omega)]
  by_cases e2 : v.c = 2
  · rw [if_pos (by omega), e2]; exact ownV_2 w v uo un uc e2
  by_cases e4 : v.c = 4
  · rw [if_pos (by omega), e4]; exact ownV_4 w v uo un uc e4
  by_cases e8 : v.c = 8
  · rw [if_pos (by omega), e8]; exact ownV_8 w v uo un uc e8
  rw [if_neg (by omega)]
  by_cases e3 : v.c = 3
  · rw [if_pos (by omega), e3]; exact ownV_3 w v uo un uc e3
  rw [if_neg (by omega)]
  by_cases e9 : v.c = 9
  · rw [if_pos (by omega), e9]; exact ownV_9 w v uo un uc e9
  rw [if_neg (by omega)]
  by_cases e10 : v.c = 10
  · rw [if_pos (by omega), e10]; exact ownV_10 w v uo un uc e10
  rw [if_neg (by omega)]
  by_cases e11 : v.c = 11
  · rw [if_pos (by omega), e11]; exact ownV_11 w v uo un uc e11
  rw [if_neg (by omega)]
  by_cases e12 : v.c = 12
  · rw [if_pos (by omega), e12]; exact ownV_12 w v uo un uc e12
  by_cases e13 : v.c = 13
  · rw [if_pos (by omega), e13]; exact ownV_13 w v uo un uc e13
  by_cases e14 : v.c = 14
  · rw [if_pos (by omega), e14]; exact ownV_14 w v uo un uc e14
  rw [if_neg (by omega)]
  exact ownV_x w v uo un uc (by omega) (by omega) (by omega) (by omega) (by omega) (by omega) (by omega) (by omega) (by omega) (by omega) (by omega)

end Go.Proofs.Ytlgacmmofimlmab
