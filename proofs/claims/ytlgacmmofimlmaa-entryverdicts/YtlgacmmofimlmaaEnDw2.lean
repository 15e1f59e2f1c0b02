/-
  The document's Put, Encode of requests. (Written by mk/mkdput.py.)
-/
import Derived.Test.YtlgacmmofimlmaaEnDw1
import Derived.Test.YtlgacmmofimlmaaEnDc3
namespace Go.Proofs.Ytlgacmmofimlmaa
open Go.RowKit

/-- What is left when the document writes a request. -/
def putD (s : List Int × Int) (r : Rq) : List Int × Int := if chkB r = true then stepD s (bR r) else refD s

theorem errI_true : errI true = 0 := rfl
theorem errI_false : errI false = 1 := rfl

/-- What is known where a request is written, its box laid and Check said yes. -/
structure PutH (p : Nat) (W1 : World) (O : List Nat) (s : List Int × Int) (m b : Nat) (x : Rm) (w2 : World) : Prop where
  wb : WB p W1 O b 29 (rqC x) s (m + 210) w2
  lt : b < W1.heap.size
  no : b ∉ O
  sl : SlC W1 x.mo x.m x.mc x.r.c
  d : 0 < x.m → ∀ k ∈ blk x.mo, k < W1.heap.size ∧ k ∉ O

set_option maxHeartbeats 8000000 in
set_option maxRecDepth 100000 in
theorem dput_0 (p : Nat) (w : World) (O : List Nat) (s : List Int × Int) (m : Nat) (x : Rm) (hk : x.r.k = 0) (hS : SlC w x.mo x.m x.mc x.r.c) (hd : 0 < x.m → ∀ k ∈ blk x.mo, k < w.heap.size ∧ k ∉ O) (hch : chkB x.r = true) (hA : AtW p w O s (m + 210)) :
    Calls Try.prog 31 #[.pointer (some ⟨p, 0, none⟩), rqV x] w (DwP p w O (stepD s (encNum 0)) m) := by
  have k1 : Kept [] w (w.alloc (.cells #[.int .i64 x.r.k, .string (str x.r.n), .int .i64 x.r.s, .int .i64 x.r.q, .int .i64 x.r.b, .string (str x.r.f), .slice x.mo x.m x.mc, .string (str x.r.p), .int .i64 x.r.fr, .int .i64 x.r.mn, .int .i64 x.r.mb] 29)) := (Kept.refl _ _).alloc _
  obtain ⟨W, hW⟩ : ∃ W, W = w.alloc (.cells #[.int .i64 x.r.k, .string (str x.r.n), .int .i64 x.r.s, .int .i64 x.r.q, .int .i64 x.r.b, .string (str x.r.f), .slice x.mo x.m x.mc, .string (str x.r.p), .int .i64 x.r.fr, .int .i64 x.r.mn, .int .i64 x.r.mb] 29) := ⟨_, rfl⟩
  rw [← hW] at k1
  have HW := hide hW
  have HB : Hid (Bx W w.heap.size 29 (rqC x)) := by rw [hW]; exact Bx.new w _ (rqC x)
  have HT : Hid (RowT Try.prog 29 (rqC x).length) := rowT_req
  have HSz : Hid (W.heap.size = w.heap.size + 1) := by rw [hW]; show _ = _; simp
  have HO := hide hA.lt
  have HA := hide (hA.kept k1 (by simp))
  have HS := hide hS
  have HD := hide hd
  have HK := hide k1
  have cC : Calls Try.prog 16 #[.agg (rqC x).toArray] W fun e w' => e = .returned (.int .i64 0) ∧ Kept [] W w' := by
    have h := chk_call W x (hS.kept k1 (by simp))
    rw [hch, errI_true] at h
    exact h
  have HC := hide cC
  have HKK := hide hk
  clear hW k1 hA hS hd hch cC hk
  unfold rqV
  go_enter Try.func31, Try.ntmps31
  go_upto_region 1 with fail
  rw [← HW.out]
  go_upto_region 3 with (first | ((with_reducible refine wl_load_bx HB.out HT.out ?_ ?_); rfl) | (go_at_call 16; refine HC.out.mono ?_; clear HC; rintro _ w1 ⟨rfl, hk1⟩; have HK1 := hide hk1; clear hk1))
  have hno : w.heap.size ∉ O := fun hm => by have := HO.out _ hm; omega
  have hlt : w.heap.size < W.heap.size := by rw [HSz.out]; omega
  have HB1 : Hid (WB p W O w.heap.size 29 (rqC x) s (m + 210) w1) := ⟨⟨O, HA.out.kept HK1.out (by simp), HK1.out.mono (by simp), fun k hk => .inl hk⟩, HB.out.kept HK1.out (by simp)⟩
  have c0 : w1.cell? ⟨w.heap.size, 0, none⟩ = some (.int .i64 0) := by rw [← HKK.out]; exact HB1.out.2.cell 0 rfl
  have cN := wb_step HB1.out hlt hno (fun O' _ _ h => dw_num p w1 O' _ (m + 209) 0 (by decide) h)
  have HN := hide cN
  clear cN
  go_wp2_with fail
  refine HN.out.mono ?_
  clear HN
  rintro _ w2 ⟨rfl, hB⟩
  have HB2 := hide hB
  clear hB c0
  have c0 : w2.cell? ⟨w.heap.size, 0, none⟩ = some (.int .i64 0) := by rw [← HKK.out]; exact HB2.out.2.cell 0 rfl
  go_wp2_with fail
  go_end0
  obtain ⟨O1, hA1, hk1, hn1⟩ := HB2.out.1
  refine ⟨rfl, O1, ?_, (HK.out.mono (by simp)).trans hk1 (fun i hi => .inl hi), fun i hi => ?_⟩
  · have h2 := hA1.less (m' := m) (by omega)
    exact h2
  · rcases hn1 i hi with h1 | h1
    · exact .inl h1
    · exact .inr (by omega)

set_option maxHeartbeats 8000000 in
set_option maxRecDepth 100000 in
theorem dput_1 (p : Nat) (w : World) (O : List Nat) (s : List Int × Int) (m : Nat) (x : Rm) (hk : x.r.k = 1) (hS : SlC w x.mo x.m x.mc x.r.c) (hd : 0 < x.m → ∀ k ∈ blk x.mo, k < w.heap.size ∧ k ∉ O) (t_n : okT x.r.n = true) (hch : chkB x.r = true) (hA : AtW p w O s (m + 210)) :
    Calls Try.prog 31 #[.pointer (some ⟨p, 0, none⟩), rqV x] w (DwP p w O (stepD s (encNum 1 ++ (bT x.r.n))) m) := by
  have k1 : Kept [] w (w.alloc (.cells #[.int .i64 x.r.k, .string (str x.r.n), .int .i64 x.r.s, .int .i64 x.r.q, .int .i64 x.r.b, .string (str x.r.f), .slice x.mo x.m x.mc, .string (str x.r.p), .int .i64 x.r.fr, .int .i64 x.r.mn, .int .i64 x.r.mb] 29)) := (Kept.refl _ _).alloc _
  obtain ⟨W, hW⟩ : ∃ W, W = w.alloc (.cells #[.int .i64 x.r.k, .string (str x.r.n), .int .i64 x.r.s, .int .i64 x.r.q, .int .i64 x.r.b, .string (str x.r.f), .slice x.mo x.m x.mc, .string (str x.r.p), .int .i64 x.r.fr, .int .i64 x.r.mn, .int .i64 x.r.mb] 29) := ⟨_, rfl⟩
  rw [← hW] at k1
  have HW := hide hW
  have HB : Hid (Bx W w.heap.size 29 (rqC x)) := by rw [hW]; exact Bx.new w _ (rqC x)
  have HT : Hid (RowT Try.prog 29 (rqC x).length) := rowT_req
  have HSz : Hid (W.heap.size = w.heap.size + 1) := by rw [hW]; show _ = _; simp
  have HO := hide hA.lt
  have HA := hide (hA.kept k1 (by simp))
  have HS := hide hS
  have HD := hide hd
  have HK := hide k1
  have cC : Calls Try.prog 16 #[.agg (rqC x).toArray] W fun e w' => e = .returned (.int .i64 0) ∧ Kept [] W w' := by
    have h := chk_call W x (hS.kept k1 (by simp))
    rw [hch, errI_true] at h
    exact h
  have HC := hide cC
  have HKK := hide hk
  clear hW k1 hA hS hd hch cC hk
  unfold rqV
  go_enter Try.func31, Try.ntmps31
  go_upto_region 1 with fail
  rw [← HW.out]
  go_upto_region 3 with (first | ((with_reducible refine wl_load_bx HB.out HT.out ?_ ?_); rfl) | (go_at_call 16; refine HC.out.mono ?_; clear HC; rintro _ w1 ⟨rfl, hk1⟩; have HK1 := hide hk1; clear hk1))
  have hno : w.heap.size ∉ O := fun hm => by have := HO.out _ hm; omega
  have hlt : w.heap.size < W.heap.size := by rw [HSz.out]; omega
  have HB1 : Hid (WB p W O w.heap.size 29 (rqC x) s (m + 210) w1) := ⟨⟨O, HA.out.kept HK1.out (by simp), HK1.out.mono (by simp), fun k hk => .inl hk⟩, HB.out.kept HK1.out (by simp)⟩
  have c0 : w1.cell? ⟨w.heap.size, 0, none⟩ = some (.int .i64 1) := by rw [← HKK.out]; exact HB1.out.2.cell 0 rfl
  have cN := wb_step HB1.out hlt hno (fun O' _ _ h => dw_num p w1 O' _ (m + 209) 1 (by decide) h)
  have HN := hide cN
  clear cN
  go_wp2_with fail
  refine HN.out.mono ?_
  clear HN
  rintro _ w2 ⟨rfl, hB⟩
  have HB2 := hide hB
  clear hB c0
  have c0 : w2.cell? ⟨w.heap.size, 0, none⟩ = some (.int .i64 1) := by rw [← HKK.out]; exact HB2.out.2.cell 0 rfl
  have cv : w2.cell? ⟨w.heap.size, 1, none⟩ = some (.string (str x.r.n)) := HB2.out.2.cell 1 rfl
  have cN := wb_step HB2.out hlt hno (fun O' _ _ h => dw_text p w2 O' _ (m + 208) x.r.n t_n h)
  have HN := hide cN
  clear cN
  go_wp2_with fail
  refine HN.out.mono ?_
  clear HN
  rintro _ w3 ⟨rfl, hB⟩
  have HB3 := hide hB
  clear hB c0 cv
  have c0 : w3.cell? ⟨w.heap.size, 0, none⟩ = some (.int .i64 1) := by rw [← HKK.out]; exact HB3.out.2.cell 0 rfl
  go_wp2_with fail
  go_end0
  obtain ⟨O1, hA1, hk1, hn1⟩ := HB3.out.1
  refine ⟨rfl, O1, ?_, (HK.out.mono (by simp)).trans hk1 (fun i hi => .inl hi), fun i hi => ?_⟩
  · have h2 := hA1.less (m' := m) (by omega)
    simp only [stepD_trans] at h2
    exact h2
  · rcases hn1 i hi with h1 | h1
    · exact .inl h1
    · exact .inr (by omega)

set_option maxHeartbeats 8000000 in
set_option maxRecDepth 100000 in
theorem dput_2 (p : Nat) (w : World) (O : List Nat) (s : List Int × Int) (m : Nat) (x : Rm) (hk : x.r.k = 2) (hS : SlC w x.mo x.m x.mc x.r.c) (hd : 0 < x.m → ∀ k ∈ blk x.mo, k < w.heap.size ∧ k ∉ O) (g_s : goodB x.r.s = true) (g_q : goodB x.r.q = true) (g_b : goodB x.r.b = true) (t_f : okT x.r.f = true) (hc : okChgs x.r.c) (hch : chkB x.r = true) (hA : AtW p w O s (m + 210)) :
    Calls Try.prog 31 #[.pointer (some ⟨p, 0, none⟩), rqV x] w (DwP p w O (stepD s (encNum 2 ++ (encNum x.r.s ++ (encNum x.r.q ++ (encNum x.r.b ++ (bT x.r.f ++ (bCs x.r.c))))))) m) := by
  have k1 : Kept [] w (w.alloc (.cells #[.int .i64 x.r.k, .string (str x.r.n), .int .i64 x.r.s, .int .i64 x.r.q, .int .i64 x.r.b, .string (str x.r.f), .slice x.mo x.m x.mc, .string (str x.r.p), .int .i64 x.r.fr, .int .i64 x.r.mn, .int .i64 x.r.mb] 29)) := (Kept.refl _ _).alloc _
  obtain ⟨W, hW⟩ : ∃ W, W = w.alloc (.cells #[.int .i64 x.r.k, .string (str x.r.n), .int .i64 x.r.s, .int .i64 x.r.q, .int .i64 x.r.b, .string (str x.r.f), .slice x.mo x.m x.mc, .string (str x.r.p), .int .i64 x.r.fr, .int .i64 x.r.mn, .int .i64 x.r.mb] 29) := ⟨_, rfl⟩
  rw [← hW] at k1
  have HW := hide hW
  have HB : Hid (Bx W w.heap.size 29 (rqC x)) := by rw [hW]; exact Bx.new w _ (rqC x)
  have HT : Hid (RowT Try.prog 29 (rqC x).length) := rowT_req
  have HSz : Hid (W.heap.size = w.heap.size + 1) := by rw [hW]; show _ = _; simp
  have HO := hide hA.lt
  have HA := hide (hA.kept k1 (by simp))
  have HS := hide hS
  have HD := hide hd
  have HK := hide k1
  have cC : Calls Try.prog 16 #[.agg (rqC x).toArray] W fun e w' => e = .returned (.int .i64 0) ∧ Kept [] W w' := by
    have h := chk_call W x (hS.kept k1 (by simp))
    rw [hch, errI_true] at h
    exact h
  have HC := hide cC
  have HKK := hide hk
  clear hW k1 hA hS hd hch cC hk
  unfold rqV
  go_enter Try.func31, Try.ntmps31
  go_upto_region 1 with fail
  rw [← HW.out]
  go_upto_region 3 with (first | ((with_reducible refine wl_load_bx HB.out HT.out ?_ ?_); rfl) | (go_at_call 16; refine HC.out.mono ?_; clear HC; rintro _ w1 ⟨rfl, hk1⟩; have HK1 := hide hk1; clear hk1))
  have hno : w.heap.size ∉ O := fun hm => by have := HO.out _ hm; omega
  have hlt : w.heap.size < W.heap.size := by rw [HSz.out]; omega
  have HB1 : Hid (WB p W O w.heap.size 29 (rqC x) s (m + 210) w1) := ⟨⟨O, HA.out.kept HK1.out (by simp), HK1.out.mono (by simp), fun k hk => .inl hk⟩, HB.out.kept HK1.out (by simp)⟩
  have c0 : w1.cell? ⟨w.heap.size, 0, none⟩ = some (.int .i64 2) := by rw [← HKK.out]; exact HB1.out.2.cell 0 rfl
  have cN := wb_step HB1.out hlt hno (fun O' _ _ h => dw_num p w1 O' _ (m + 209) 2 (by decide) h)
  have HN := hide cN
  clear cN
  go_wp2_with fail
  refine HN.out.mono ?_
  clear HN
  rintro _ w2 ⟨rfl, hB⟩
  have HB2 := hide hB
  clear hB c0
  have c0 : w2.cell? ⟨w.heap.size, 0, none⟩ = some (.int .i64 2) := by rw [← HKK.out]; exact HB2.out.2.cell 0 rfl
  have cv : w2.cell? ⟨w.heap.size, 2, none⟩ = some (.int .i64 x.r.s) := HB2.out.2.cell 2 rfl
  have cN := wb_step HB2.out hlt hno (fun O' _ _ h => dw_num p w2 O' _ (m + 208) x.r.s g_s h)
  have HN := hide cN
  clear cN
  go_wp2_with fail
  refine HN.out.mono ?_
  clear HN
  rintro _ w3 ⟨rfl, hB⟩
  have HB3 := hide hB
  clear hB c0 cv
  have c0 : w3.cell? ⟨w.heap.size, 0, none⟩ = some (.int .i64 2) := by rw [← HKK.out]; exact HB3.out.2.cell 0 rfl
  have cv : w3.cell? ⟨w.heap.size, 3, none⟩ = some (.int .i64 x.r.q) := HB3.out.2.cell 3 rfl
  have cN := wb_step HB3.out hlt hno (fun O' _ _ h => dw_num p w3 O' _ (m + 207) x.r.q g_q h)
  have HN := hide cN
  clear cN
  go_wp2_with fail
  refine HN.out.mono ?_
  clear HN
  rintro _ w4 ⟨rfl, hB⟩
  have HB4 := hide hB
  clear hB c0 cv
  have c0 : w4.cell? ⟨w.heap.size, 0, none⟩ = some (.int .i64 2) := by rw [← HKK.out]; exact HB4.out.2.cell 0 rfl
  have cv : w4.cell? ⟨w.heap.size, 4, none⟩ = some (.int .i64 x.r.b) := HB4.out.2.cell 4 rfl
  have cN := wb_step HB4.out hlt hno (fun O' _ _ h => dw_num p w4 O' _ (m + 206) x.r.b g_b h)
  have HN := hide cN
  clear cN
  go_wp2_with fail
  refine HN.out.mono ?_
  clear HN
  rintro _ w5 ⟨rfl, hB⟩
  have HB5 := hide hB
  clear hB c0 cv
  have c0 : w5.cell? ⟨w.heap.size, 0, none⟩ = some (.int .i64 2) := by rw [← HKK.out]; exact HB5.out.2.cell 0 rfl
  have cv : w5.cell? ⟨w.heap.size, 5, none⟩ = some (.string (str x.r.f)) := HB5.out.2.cell 5 rfl
  have cN := wb_step HB5.out hlt hno (fun O' _ _ h => dw_text p w5 O' _ (m + 205) x.r.f t_f h)
  have HN := hide cN
  clear cN
  go_wp2_with fail
  refine HN.out.mono ?_
  clear HN
  rintro _ w6 ⟨rfl, hB⟩
  have HB6 := hide hB
  clear hB c0 cv
  have c0 : w6.cell? ⟨w.heap.size, 0, none⟩ = some (.int .i64 2) := by rw [← HKK.out]; exact HB6.out.2.cell 0 rfl
  have cv : w6.cell? ⟨w.heap.size, 6, none⟩ = some (.slice x.mo x.m x.mc) := HB6.out.2.cell 6 rfl
  have cN := wb_step HB6.out hlt hno (fun O' hn hk h => putC_call p w6 O' _ (m + 5) x.mo x.m x.mc x.r.c ((HS.out.kept HK.out (by simp)).kept0 hk (fun h0 g hg => (HD.out h0 g hg).2)) (fun h0 g hg hm => by rcases hn g hm with h1 | h1; exact (HD.out h0 g hg).2 h1; have := (HD.out h0 g hg).1; omega) hc h)
  have HN := hide cN
  clear cN
  go_wp2_with fail
  refine HN.out.mono ?_
  clear HN
  rintro _ w7 ⟨rfl, hB⟩
  have HB7 := hide hB
  clear hB c0 cv
  have c0 : w7.cell? ⟨w.heap.size, 0, none⟩ = some (.int .i64 2) := by rw [← HKK.out]; exact HB7.out.2.cell 0 rfl
  go_wp2_with fail
  go_end0
  obtain ⟨O1, hA1, hk1, hn1⟩ := HB7.out.1
  refine ⟨rfl, O1, ?_, (HK.out.mono (by simp)).trans hk1 (fun i hi => .inl hi), fun i hi => ?_⟩
  · have h2 := hA1.less (m' := m) (by omega)
    simp only [stepD_trans, List.append_assoc] at h2
    exact h2
  · rcases hn1 i hi with h1 | h1
    · exact .inl h1
    · exact .inr (by omega)

set_option maxHeartbeats 8000000 in
set_option maxRecDepth 100000 in
theorem dput_3 (p : Nat) (w : World) (O : List Nat) (s : List Int × Int) (m : Nat) (x : Rm) (hk : x.r.k = 3) (hS : SlC w x.mo x.m x.mc x.r.c) (hd : 0 < x.m → ∀ k ∈ blk x.mo, k < w.heap.size ∧ k ∉ O) (g_s : goodB x.r.s = true) (g_q : goodB x.r.q = true) (hch : chkB x.r = true) (hA : AtW p w O s (m + 210)) :
    Calls Try.prog 31 #[.pointer (some ⟨p, 0, none⟩), rqV x] w (DwP p w O (stepD s (encNum 3 ++ (encNum x.r.s ++ (encNum x.r.q)))) m) := by
  have k1 : Kept [] w (w.alloc (.cells #[.int .i64 x.r.k, .string (str x.r.n), .int .i64 x.r.s, .int .i64 x.r.q, .int .i64 x.r.b, .string (str x.r.f), .slice x.mo x.m x.mc, .string (str x.r.p), .int .i64 x.r.fr, .int .i64 x.r.mn, .int .i64 x.r.mb] 29)) := (Kept.refl _ _).alloc _
  obtain ⟨W, hW⟩ : ∃ W, W = w.alloc (.cells #[.int .i64 x.r.k, .string (str x.r.n), .int .i64 x.r.s, .int .i64 x.r.q, .int .i64 x.r.b, .string (str x.r.f), .slice x.mo x.m x.mc, .string (str x.r.p), .int .i64 x.r.fr, .int .i64 x.r.mn, .int .i64 x.r.mb] 29) := ⟨_, rfl⟩
  rw [← hW] at k1
  have HW := hide hW
  have HB : Hid (Bx W w.heap.size 29 (rqC x)) := by rw [hW]; exact Bx.new w _ (rqC x)
  have HT : Hid (RowT Try.prog 29 (rqC x).length) := rowT_req
  have HSz : Hid (W.heap.size = w.heap.size + 1) := by rw [hW]; show _ = _; simp
  have HO := hide hA.lt
  have HA := hide (hA.kept k1 (by simp))
  have HS := hide hS
  have HD := hide hd
  have HK := hide k1
  have cC : Calls Try.prog 16 #[.agg (rqC x).toArray] W fun e w' => e = .returned (.int .i64 0) ∧ Kept [] W w' := by
    have h := chk_call W x (hS.kept k1 (by simp))
    rw [hch, errI_true] at h
    exact h
  have HC := hide cC
  have HKK := hide hk
  clear hW k1 hA hS hd hch cC hk
  unfold rqV
  go_enter Try.func31, Try.ntmps31
  go_upto_region 1 with fail
  rw [← HW.out]
  go_upto_region 3 with (first | ((with_reducible refine wl_load_bx HB.out HT.out ?_ ?_); rfl) | (go_at_call 16; refine HC.out.mono ?_; clear HC; rintro _ w1 ⟨rfl, hk1⟩; have HK1 := hide hk1; clear hk1))
  have hno : w.heap.size ∉ O := fun hm => by have := HO.out _ hm; omega
  have hlt : w.heap.size < W.heap.size := by rw [HSz.out]; omega
  have HB1 : Hid (WB p W O w.heap.size 29 (rqC x) s (m + 210) w1) := ⟨⟨O, HA.out.kept HK1.out (by simp), HK1.out.mono (by simp), fun k hk => .inl hk⟩, HB.out.kept HK1.out (by simp)⟩
  have c0 : w1.cell? ⟨w.heap.size, 0, none⟩ = some (.int .i64 3) := by rw [← HKK.out]; exact HB1.out.2.cell 0 rfl
  have cN := wb_step HB1.out hlt hno (fun O' _ _ h => dw_num p w1 O' _ (m + 209) 3 (by decide) h)
  have HN := hide cN
  clear cN
  go_wp2_with fail
  refine HN.out.mono ?_
  clear HN
  rintro _ w2 ⟨rfl, hB⟩
  have HB2 := hide hB
  clear hB c0
  have c0 : w2.cell? ⟨w.heap.size, 0, none⟩ = some (.int .i64 3) := by rw [← HKK.out]; exact HB2.out.2.cell 0 rfl
  have cv : w2.cell? ⟨w.heap.size, 2, none⟩ = some (.int .i64 x.r.s) := HB2.out.2.cell 2 rfl
  have cN := wb_step HB2.out hlt hno (fun O' _ _ h => dw_num p w2 O' _ (m + 208) x.r.s g_s h)
  have HN := hide cN
  clear cN
  go_wp2_with fail
  refine HN.out.mono ?_
  clear HN
  rintro _ w3 ⟨rfl, hB⟩
  have HB3 := hide hB
  clear hB c0 cv
  have c0 : w3.cell? ⟨w.heap.size, 0, none⟩ = some (.int .i64 3) := by rw [← HKK.out]; exact HB3.out.2.cell 0 rfl
  have cv : w3.cell? ⟨w.heap.size, 3, none⟩ = some (.int .i64 x.r.q) := HB3.out.2.cell 3 rfl
  have cN := wb_step HB3.out hlt hno (fun O' _ _ h => dw_num p w3 O' _ (m + 207) x.r.q g_q h)
  have HN := hide cN
  clear cN
  go_wp2_with fail
  refine HN.out.mono ?_
  clear HN
  rintro _ w4 ⟨rfl, hB⟩
  have HB4 := hide hB
  clear hB c0 cv
  have c0 : w4.cell? ⟨w.heap.size, 0, none⟩ = some (.int .i64 3) := by rw [← HKK.out]; exact HB4.out.2.cell 0 rfl
  go_wp2_with fail
  go_end0
  obtain ⟨O1, hA1, hk1, hn1⟩ := HB4.out.1
  refine ⟨rfl, O1, ?_, (HK.out.mono (by simp)).trans hk1 (fun i hi => .inl hi), fun i hi => ?_⟩
  · have h2 := hA1.less (m' := m) (by omega)
    simp only [stepD_trans, List.append_assoc] at h2
    exact h2
  · rcases hn1 i hi with h1 | h1
    · exact .inl h1
    · exact .inr (by omega)

set_option maxHeartbeats 8000000 in
set_option maxRecDepth 100000 in
theorem dput_4 (p : Nat) (w : World) (O : List Nat) (s : List Int × Int) (m : Nat) (x : Rm) (hk : x.r.k = 4) (hS : SlC w x.mo x.m x.mc x.r.c) (hd : 0 < x.m → ∀ k ∈ blk x.mo, k < w.heap.size ∧ k ∉ O) (g_s : goodB x.r.s = true) (g_q : goodB x.r.q = true) (t_p : okT x.r.p = true) (hch : chkB x.r = true) (hA : AtW p w O s (m + 210)) :
    Calls Try.prog 31 #[.pointer (some ⟨p, 0, none⟩), rqV x] w (DwP p w O (stepD s (encNum 4 ++ (encNum x.r.s ++ (encNum x.r.q ++ (bT x.r.p))))) m) := by
  have k1 : Kept [] w (w.alloc (.cells #[.int .i64 x.r.k, .string (str x.r.n), .int .i64 x.r.s, .int .i64 x.r.q, .int .i64 x.r.b, .string (str x.r.f), .slice x.mo x.m x.mc, .string (str x.r.p), .int .i64 x.r.fr, .int .i64 x.r.mn, .int .i64 x.r.mb] 29)) := (Kept.refl _ _).alloc _
  obtain ⟨W, hW⟩ : ∃ W, W = w.alloc (.cells #[.int .i64 x.r.k, .string (str x.r.n), .int .i64 x.r.s, .int .i64 x.r.q, .int .i64 x.r.b, .string (str x.r.f), .slice x.mo x.m x.mc, .string (str x.r.p), .int .i64 x.r.fr, .int .i64 x.r.mn, .int .i64 x.r.mb] 29) := ⟨_, rfl⟩
  rw [← hW] at k1
  have HW := hide hW
  have HB : Hid (Bx W w.heap.size 29 (rqC x)) := by rw [hW]; exact Bx.new w _ (rqC x)
  have HT : Hid (RowT Try.prog 29 (rqC x).length) := rowT_req
  have HSz : Hid (W.heap.size = w.heap.size + 1) := by rw [hW]; show _ = _; simp
  have HO := hide hA.lt
  have HA := hide (hA.kept k1 (by simp))
  have HS := hide hS
  have HD := hide hd
  have HK := hide k1
  have cC : Calls Try.prog 16 #[.agg (rqC x).toArray] W fun e w' => e = .returned (.int .i64 0) ∧ Kept [] W w' := by
    have h := chk_call W x (hS.kept k1 (by simp))
    rw [hch, errI_true] at h
    exact h
  have HC := hide cC
  have HKK := hide hk
  clear hW k1 hA hS hd hch cC hk
  unfold rqV
  go_enter Try.func31, Try.ntmps31
  go_upto_region 1 with fail
  rw [← HW.out]
  go_upto_region 3 with (first | ((with_reducible refine wl_load_bx HB.out HT.out ?_ ?_); rfl) | (go_at_call 16; refine HC.out.mono ?_; clear HC; rintro _ w1 ⟨rfl, hk1⟩; have HK1 := hide hk1; clear hk1))
  have hno : w.heap.size ∉ O := fun hm => by have := HO.out _ hm; omega
  have hlt : w.heap.size < W.heap.size := by rw [HSz.out]; omega
  have HB1 : Hid (WB p W O w.heap.size 29 (rqC x) s (m + 210) w1) := ⟨⟨O, HA.out.kept HK1.out (by simp), HK1.out.mono (by simp), fun k hk => .inl hk⟩, HB.out.kept HK1.out (by simp)⟩
  have c0 : w1.cell? ⟨w.heap.size, 0, none⟩ = some (.int .i64 4) := by rw [← HKK.out]; exact HB1.out.2.cell 0 rfl
  have cN := wb_step HB1.out hlt hno (fun O' _ _ h => dw_num p w1 O' _ (m + 209) 4 (by decide) h)
  have HN := hide cN
  clear cN
  go_wp2_with fail
  refine HN.out.mono ?_
  clear HN
  rintro _ w2 ⟨rfl, hB⟩
  have HB2 := hide hB
  clear hB c0
  have c0 : w2.cell? ⟨w.heap.size, 0, none⟩ = some (.int .i64 4) := by rw [← HKK.out]; exact HB2.out.2.cell 0 rfl
  have cv : w2.cell? ⟨w.heap.size, 2, none⟩ = some (.int .i64 x.r.s) := HB2.out.2.cell 2 rfl
  have cN := wb_step HB2.out hlt hno (fun O' _ _ h => dw_num p w2 O' _ (m + 208) x.r.s g_s h)
  have HN := hide cN
  clear cN
  go_wp2_with fail
  refine HN.out.mono ?_
  clear HN
  rintro _ w3 ⟨rfl, hB⟩
  have HB3 := hide hB
  clear hB c0 cv
  have c0 : w3.cell? ⟨w.heap.size, 0, none⟩ = some (.int .i64 4) := by rw [← HKK.out]; exact HB3.out.2.cell 0 rfl
  have cv : w3.cell? ⟨w.heap.size, 3, none⟩ = some (.int .i64 x.r.q) := HB3.out.2.cell 3 rfl
  have cN := wb_step HB3.out hlt hno (fun O' _ _ h => dw_num p w3 O' _ (m + 207) x.r.q g_q h)
  have HN := hide cN
  clear cN
  go_wp2_with fail
  refine HN.out.mono ?_
  clear HN
  rintro _ w4 ⟨rfl, hB⟩
  have HB4 := hide hB
  clear hB c0 cv
  have c0 : w4.cell? ⟨w.heap.size, 0, none⟩ = some (.int .i64 4) := by rw [← HKK.out]; exact HB4.out.2.cell 0 rfl
  have cv : w4.cell? ⟨w.heap.size, 7, none⟩ = some (.string (str x.r.p)) := HB4.out.2.cell 7 rfl
  have cN := wb_step HB4.out hlt hno (fun O' _ _ h => dw_text p w4 O' _ (m + 206) x.r.p t_p h)
  have HN := hide cN
  clear cN
  go_wp2_with fail
  refine HN.out.mono ?_
  clear HN
  rintro _ w5 ⟨rfl, hB⟩
  have HB5 := hide hB
  clear hB c0 cv
  have c0 : w5.cell? ⟨w.heap.size, 0, none⟩ = some (.int .i64 4) := by rw [← HKK.out]; exact HB5.out.2.cell 0 rfl
  go_wp2_with fail
  go_end0
  obtain ⟨O1, hA1, hk1, hn1⟩ := HB5.out.1
  refine ⟨rfl, O1, ?_, (HK.out.mono (by simp)).trans hk1 (fun i hi => .inl hi), fun i hi => ?_⟩
  · have h2 := hA1.less (m' := m) (by omega)
    simp only [stepD_trans, List.append_assoc] at h2
    exact h2
  · rcases hn1 i hi with h1 | h1
    · exact .inl h1
    · exact .inr (by omega)

set_option maxHeartbeats 8000000 in
set_option maxRecDepth 100000 in
theorem dput_5 (p : Nat) (w : World) (O : List Nat) (s : List Int × Int) (m : Nat) (x : Rm) (hk : x.r.k = 5) (hS : SlC w x.mo x.m x.mc x.r.c) (hd : 0 < x.m → ∀ k ∈ blk x.mo, k < w.heap.size ∧ k ∉ O) (g_s : goodB x.r.s = true) (g_q : goodB x.r.q = true) (g_fr : goodB x.r.fr = true) (g_mn : goodB x.r.mn = true) (hch : chkB x.r = true) (hA : AtW p w O s (m + 210)) :
    Calls Try.prog 31 #[.pointer (some ⟨p, 0, none⟩), rqV x] w (DwP p w O (stepD s (encNum 5 ++ (encNum x.r.s ++ (encNum x.r.q ++ (encNum x.r.fr ++ (encNum x.r.mn)))))) m) := by
  have k1 : Kept [] w (w.alloc (.cells #[.int .i64 x.r.k, .string (str x.r.n), .int .i64 x.r.s, .int .i64 x.r.q, .int .i64 x.r.b, .string (str x.r.f), .slice x.mo x.m x.mc, .string (str x.r.p), .int .i64 x.r.fr, .int .i64 x.r.mn, .int .i64 x.r.mb] 29)) := (Kept.refl _ _).alloc _
  obtain ⟨W, hW⟩ : ∃ W, W = w.alloc (.cells #[.int .i64 x.r.k, .string (str x.r.n), .int .i64 x.r.s, .int .i64 x.r.q, .int .i64 x.r.b, .string (str x.r.f), .slice x.mo x.m x.mc, .string (str x.r.p), .int .i64 x.r.fr, .int .i64 x.r.mn, .int .i64 x.r.mb] 29) := ⟨_, rfl⟩
  rw [← hW] at k1
  have HW := hide hW
  have HB : Hid (Bx W w.heap.size 29 (rqC x)) := by rw [hW]; exact Bx.new w _ (rqC x)
  have HT : Hid (RowT Try.prog 29 (rqC x).length) := rowT_req
  have HSz : Hid (W.heap.size = w.heap.size + 1) := by rw [hW]; show _ = _; simp
  have HO := hide hA.lt
  have HA := hide (hA.kept k1 (by simp))
  have HS := hide hS
  have HD := hide hd
  have HK := hide k1
  have cC : Calls Try.prog 16 #[.agg (rqC x).toArray] W fun e w' => e = .returned (.int .i64 0) ∧ Kept [] W w' := by
    have h := chk_call W x (hS.kept k1 (by simp))
    rw [hch, errI_true] at h
    exact h
  have HC := hide cC
  have HKK := hide hk
  clear hW k1 hA hS hd hch cC hk
  unfold rqV
  go_enter Try.func31, Try.ntmps31
  go_upto_region 1 with fail
  rw [← HW.out]
  go_upto_region 3 with (first | ((with_reducible refine wl_load_bx HB.out HT.out ?_ ?_); rfl) | (go_at_call 16; refine HC.out.mono ?_; clear HC; rintro _ w1 ⟨rfl, hk1⟩; have HK1 := hide hk1; clear hk1))
  have hno : w.heap.size ∉ O := fun hm => by have := HO.out _ hm; omega
  have hlt : w.heap.size < W.heap.size := by rw [HSz.out]; omega
  have HB1 : Hid (WB p W O w.heap.size 29 (rqC x) s (m + 210) w1) := ⟨⟨O, HA.out.kept HK1.out (by simp), HK1.out.mono (by simp), fun k hk => .inl hk⟩, HB.out.kept HK1.out (by simp)⟩
  have c0 : w1.cell? ⟨w.heap.size, 0, none⟩ = some (.int .i64 5) := by rw [← HKK.out]; exact HB1.out.2.cell 0 rfl
  have cN := wb_step HB1.out hlt hno (fun O' _ _ h => dw_num p w1 O' _ (m + 209) 5 (by decide) h)
  have HN := hide cN
  clear cN
  go_wp2_with fail
  refine HN.out.mono ?_
  clear HN
  rintro _ w2 ⟨rfl, hB⟩
  have HB2 := hide hB
  clear hB c0
  have c0 : w2.cell? ⟨w.heap.size, 0, none⟩ = some (.int .i64 5) := by rw [← HKK.out]; exact HB2.out.2.cell 0 rfl
  have cv : w2.cell? ⟨w.heap.size, 2, none⟩ = some (.int .i64 x.r.s) := HB2.out.2.cell 2 rfl
  have cN := wb_step HB2.out hlt hno (fun O' _ _ h => dw_num p w2 O' _ (m + 208) x.r.s g_s h)
  have HN := hide cN
  clear cN
  go_wp2_with fail
  refine HN.out.mono ?_
  clear HN
  rintro _ w3 ⟨rfl, hB⟩
  have HB3 := hide hB
  clear hB c0 cv
  have c0 : w3.cell? ⟨w.heap.size, 0, none⟩ = some (.int .i64 5) := by rw [← HKK.out]; exact HB3.out.2.cell 0 rfl
  have cv : w3.cell? ⟨w.heap.size, 3, none⟩ = some (.int .i64 x.r.q) := HB3.out.2.cell 3 rfl
  have cN := wb_step HB3.out hlt hno (fun O' _ _ h => dw_num p w3 O' _ (m + 207) x.r.q g_q h)
  have HN := hide cN
  clear cN
  go_wp2_with fail
  refine HN.out.mono ?_
  clear HN
  rintro _ w4 ⟨rfl, hB⟩
  have HB4 := hide hB
  clear hB c0 cv
  have c0 : w4.cell? ⟨w.heap.size, 0, none⟩ = some (.int .i64 5) := by rw [← HKK.out]; exact HB4.out.2.cell 0 rfl
  have cv : w4.cell? ⟨w.heap.size, 8, none⟩ = some (.int .i64 x.r.fr) := HB4.out.2.cell 8 rfl
  have cN := wb_step HB4.out hlt hno (fun O' _ _ h => dw_num p w4 O' _ (m + 206) x.r.fr g_fr h)
  have HN := hide cN
  clear cN
  go_wp2_with fail
  refine HN.out.mono ?_
  clear HN
  rintro _ w5 ⟨rfl, hB⟩
  have HB5 := hide hB
  clear hB c0 cv
  have c0 : w5.cell? ⟨w.heap.size, 0, none⟩ = some (.int .i64 5) := by rw [← HKK.out]; exact HB5.out.2.cell 0 rfl
  have cv : w5.cell? ⟨w.heap.size, 9, none⟩ = some (.int .i64 x.r.mn) := HB5.out.2.cell 9 rfl
  have cN := wb_step HB5.out hlt hno (fun O' _ _ h => dw_num p w5 O' _ (m + 205) x.r.mn g_mn h)
  have HN := hide cN
  clear cN
  go_wp2_with fail
  refine HN.out.mono ?_
  clear HN
  rintro _ w6 ⟨rfl, hB⟩
  have HB6 := hide hB
  clear hB c0 cv
  have c0 : w6.cell? ⟨w.heap.size, 0, none⟩ = some (.int .i64 5) := by rw [← HKK.out]; exact HB6.out.2.cell 0 rfl
  go_wp2_with fail
  go_end0
  obtain ⟨O1, hA1, hk1, hn1⟩ := HB6.out.1
  refine ⟨rfl, O1, ?_, (HK.out.mono (by simp)).trans hk1 (fun i hi => .inl hi), fun i hi => ?_⟩
  · have h2 := hA1.less (m' := m) (by omega)
    simp only [stepD_trans, List.append_assoc] at h2
    exact h2
  · rcases hn1 i hi with h1 | h1
    · exact .inl h1
    · exact .inr (by omega)

set_option maxHeartbeats 8000000 in
set_option maxRecDepth 100000 in
theorem dput_6 (p : Nat) (w : World) (O : List Nat) (s : List Int × Int) (m : Nat) (x : Rm) (hk : x.r.k = 6) (hS : SlC w x.mo x.m x.mc x.r.c) (hd : 0 < x.m → ∀ k ∈ blk x.mo, k < w.heap.size ∧ k ∉ O) (g_s : goodB x.r.s = true) (g_q : goodB x.r.q = true) (g_mb : goodB x.r.mb = true) (hch : chkB x.r = true) (hA : AtW p w O s (m + 210)) :
    Calls Try.prog 31 #[.pointer (some ⟨p, 0, none⟩), rqV x] w (DwP p w O (stepD s (encNum 6 ++ (encNum x.r.s ++ (encNum x.r.q ++ (encNum x.r.mb))))) m) := by
  have k1 : Kept [] w (w.alloc (.cells #[.int .i64 x.r.k, .string (str x.r.n), .int .i64 x.r.s, .int .i64 x.r.q, .int .i64 x.r.b, .string (str x.r.f), .slice x.mo x.m x.mc, .string (str x.r.p), .int .i64 x.r.fr, .int .i64 x.r.mn, .int .i64 x.r.mb] 29)) := (Kept.refl _ _).alloc _
  obtain ⟨W, hW⟩ : ∃ W, W = w.alloc (.cells #[.int .i64 x.r.k, .string (str x.r.n), .int .i64 x.r.s, .int .i64 x.r.q, .int .i64 x.r.b, .string (str x.r.f), .slice x.mo x.m x.mc, .string (str x.r.p), .int .i64 x.r.fr, .int .i64 x.r.mn, .int .i64 x.r.mb] 29) := ⟨_, rfl⟩
  rw [← hW] at k1
  have HW := hide hW
  have HB : Hid (Bx W w.heap.size 29 (rqC x)) := by rw [hW]; exact Bx.new w _ (rqC x)
  have HT : Hid (RowT Try.prog 29 (rqC x).length) := rowT_req
  have HSz : Hid (W.heap.size = w.heap.size + 1) := by rw [hW]; show _ = _; simp
  have HO := hide hA.lt
  have HA := hide (hA.kept k1 (by simp))
  have HS := hide hS
  have HD := hide hd
  have HK := hide k1
  have cC : Calls Try.prog 16 #[.agg (rqC x).toArray] W fun e w' => e = .returned (.int .i64 0) ∧ Kept [] W w' := by
    have h := chk_call W x (hS.kept k1 (by simp))
    rw [hch, errI_true] at h
    exact h
  have HC := hide cC
  have HKK := hide hk
  clear hW k1 hA hS hd hch cC hk
  unfold rqV
  go_enter Try.func31, Try.ntmps31
  go_upto_region 1 with fail
  rw [← HW.out]
  go_upto_region 3 with (first | ((with_reducible refine wl_load_bx HB.out HT.out ?_ ?_); rfl) | (go_at_call 16; refine HC.out.mono ?_; clear HC; rintro _ w1 ⟨rfl, hk1⟩; have HK1 := hide hk1; clear hk1))
  have hno : w.heap.size ∉ O := fun hm => by have := HO.out _ hm; omega
  have hlt : w.heap.size < W.heap.size := by rw [HSz.out]; omega
  have HB1 : Hid (WB p W O w.heap.size 29 (rqC x) s (m + 210) w1) := ⟨⟨O, HA.out.kept HK1.out (by simp), HK1.out.mono (by simp), fun k hk => .inl hk⟩, HB.out.kept HK1.out (by simp)⟩
  have c0 : w1.cell? ⟨w.heap.size, 0, none⟩ = some (.int .i64 6) := by rw [← HKK.out]; exact HB1.out.2.cell 0 rfl
  have cN := wb_step HB1.out hlt hno (fun O' _ _ h => dw_num p w1 O' _ (m + 209) 6 (by decide) h)
  have HN := hide cN
  clear cN
  go_wp2_with fail
  refine HN.out.mono ?_
  clear HN
  rintro _ w2 ⟨rfl, hB⟩
  have HB2 := hide hB
  clear hB c0
  have c0 : w2.cell? ⟨w.heap.size, 0, none⟩ = some (.int .i64 6) := by rw [← HKK.out]; exact HB2.out.2.cell 0 rfl
  have cv : w2.cell? ⟨w.heap.size, 2, none⟩ = some (.int .i64 x.r.s) := HB2.out.2.cell 2 rfl
  have cN := wb_step HB2.out hlt hno (fun O' _ _ h => dw_num p w2 O' _ (m + 208) x.r.s g_s h)
  have HN := hide cN
  clear cN
  go_wp2_with fail
  refine HN.out.mono ?_
  clear HN
  rintro _ w3 ⟨rfl, hB⟩
  have HB3 := hide hB
  clear hB c0 cv
  have c0 : w3.cell? ⟨w.heap.size, 0, none⟩ = some (.int .i64 6) := by rw [← HKK.out]; exact HB3.out.2.cell 0 rfl
  have cv : w3.cell? ⟨w.heap.size, 3, none⟩ = some (.int .i64 x.r.q) := HB3.out.2.cell 3 rfl
  have cN := wb_step HB3.out hlt hno (fun O' _ _ h => dw_num p w3 O' _ (m + 207) x.r.q g_q h)
  have HN := hide cN
  clear cN
  go_wp2_with fail
  refine HN.out.mono ?_
  clear HN
  rintro _ w4 ⟨rfl, hB⟩
  have HB4 := hide hB
  clear hB c0 cv
  have c0 : w4.cell? ⟨w.heap.size, 0, none⟩ = some (.int .i64 6) := by rw [← HKK.out]; exact HB4.out.2.cell 0 rfl
  have cv : w4.cell? ⟨w.heap.size, 10, none⟩ = some (.int .i64 x.r.mb) := HB4.out.2.cell 10 rfl
  have cN := wb_step HB4.out hlt hno (fun O' _ _ h => dw_num p w4 O' _ (m + 206) x.r.mb g_mb h)
  have HN := hide cN
  clear cN
  go_wp2_with fail
  refine HN.out.mono ?_
  clear HN
  rintro _ w5 ⟨rfl, hB⟩
  have HB5 := hide hB
  clear hB c0 cv
  have c0 : w5.cell? ⟨w.heap.size, 0, none⟩ = some (.int .i64 6) := by rw [← HKK.out]; exact HB5.out.2.cell 0 rfl
  go_wp2_with fail
  go_end0
  obtain ⟨O1, hA1, hk1, hn1⟩ := HB5.out.1
  refine ⟨rfl, O1, ?_, (HK.out.mono (by simp)).trans hk1 (fun i hi => .inl hi), fun i hi => ?_⟩
  · have h2 := hA1.less (m' := m) (by omega)
    simp only [stepD_trans, List.append_assoc] at h2
    exact h2
  · rcases hn1 i hi with h1 | h1
    · exact .inl h1
    · exact .inr (by omega)

set_option maxHeartbeats 8000000 in
set_option maxRecDepth 100000 in
theorem dput_7 (p : Nat) (w : World) (O : List Nat) (s : List Int × Int) (m : Nat) (x : Rm) (hk : x.r.k = 7) (hS : SlC w x.mo x.m x.mc x.r.c) (hd : 0 < x.m → ∀ k ∈ blk x.mo, k < w.heap.size ∧ k ∉ O) (g_s : goodB x.r.s = true) (g_q : goodB x.r.q = true) (g_mb : goodB x.r.mb = true) (hch : chkB x.r = true) (hA : AtW p w O s (m + 210)) :
    Calls Try.prog 31 #[.pointer (some ⟨p, 0, none⟩), rqV x] w (DwP p w O (stepD s (encNum 7 ++ (encNum x.r.s ++ (encNum x.r.q ++ (encNum x.r.mb))))) m) := by
  have k1 : Kept [] w (w.alloc (.cells #[.int .i64 x.r.k, .string (str x.r.n), .int .i64 x.r.s, .int .i64 x.r.q, .int .i64 x.r.b, .string (str x.r.f), .slice x.mo x.m x.mc, .string (str x.r.p), .int .i64 x.r.fr, .int .i64 x.r.mn, .int .i64 x.r.mb] 29)) := (Kept.refl _ _).alloc _
  obtain ⟨W, hW⟩ : ∃ W, W = w.alloc (.cells #[.int .i64 x.r.k, .string (str x.r.n), .int .i64 x.r.s, .int .i64 x.r.q, .int .i64 x.r.b, .string (str x.r.f), .slice x.mo x.m x.mc, .string (str x.r.p), .int .i64 x.r.fr, .int .i64 x.r.mn, .int .i64 x.r.mb] 29) := ⟨_, rfl⟩
  rw [← hW] at k1
  have HW := hide hW
  have HB : Hid (Bx W w.heap.size 29 (rqC x)) := by rw [hW]; exact Bx.new w _ (rqC x)
  have HT : Hid (RowT Try.prog 29 (rqC x).length) := rowT_req
  have HSz : Hid (W.heap.size = w.heap.size + 1) := by rw [hW]; show _ = _; simp
  have HO := hide hA.lt
  have HA := hide (hA.kept k1 (by simp))
  have HS := hide hS
  have HD := hide hd
  have HK := hide k1
  have cC : Calls Try.prog 16 #[.agg (rqC x).toArray] W fun e w' => e = .returned (.int .i64 0) ∧ Kept [] W w' := by
    have h := chk_call W x (hS.kept k1 (by simp))
    rw [hch, errI_true] at h
    exact h
  have HC := hide cC
  have HKK := hide hk
  clear hW k1 hA hS hd hch cC hk
  unfold rqV
  go_enter Try.func31, Try.ntmps31
  go_upto_region 1 with fail
  rw [← HW.out]
  go_upto_region 3 with (first | ((with_reducible refine wl_load_bx HB.out HT.out ?_ ?_); rfl) | (go_at_call 16; refine HC.out.mono ?_; clear HC; rintro _ w1 ⟨rfl, hk1⟩; have HK1 := hide hk1; clear hk1))
  have hno : w.heap.size ∉ O := fun hm => by have := HO.out _ hm; omega
  have hlt : w.heap.size < W.heap.size := by rw [HSz.out]; omega
  have HB1 : Hid (WB p W O w.heap.size 29 (rqC x) s (m + 210) w1) := ⟨⟨O, HA.out.kept HK1.out (by simp), HK1.out.mono (by simp), fun k hk => .inl hk⟩, HB.out.kept HK1.out (by simp)⟩
  have c0 : w1.cell? ⟨w.heap.size, 0, none⟩ = some (.int .i64 7) := by rw [← HKK.out]; exact HB1.out.2.cell 0 rfl
  have cN := wb_step HB1.out hlt hno (fun O' _ _ h => dw_num p w1 O' _ (m + 209) 7 (by decide) h)
  have HN := hide cN
  clear cN
  go_wp2_with fail
  refine HN.out.mono ?_
  clear HN
  rintro _ w2 ⟨rfl, hB⟩
  have HB2 := hide hB
  clear hB c0
  have c0 : w2.cell? ⟨w.heap.size, 0, none⟩ = some (.int .i64 7) := by rw [← HKK.out]; exact HB2.out.2.cell 0 rfl
  have cv : w2.cell? ⟨w.heap.size, 2, none⟩ = some (.int .i64 x.r.s) := HB2.out.2.cell 2 rfl
  have cN := wb_step HB2.out hlt hno (fun O' _ _ h => dw_num p w2 O' _ (m + 208) x.r.s g_s h)
  have HN := hide cN
  clear cN
  go_wp2_with fail
  refine HN.out.mono ?_
  clear HN
  rintro _ w3 ⟨rfl, hB⟩
  have HB3 := hide hB
  clear hB c0 cv
  have c0 : w3.cell? ⟨w.heap.size, 0, none⟩ = some (.int .i64 7) := by rw [← HKK.out]; exact HB3.out.2.cell 0 rfl
  have cv : w3.cell? ⟨w.heap.size, 3, none⟩ = some (.int .i64 x.r.q) := HB3.out.2.cell 3 rfl
  have cN := wb_step HB3.out hlt hno (fun O' _ _ h => dw_num p w3 O' _ (m + 207) x.r.q g_q h)
  have HN := hide cN
  clear cN
  go_wp2_with fail
  refine HN.out.mono ?_
  clear HN
  rintro _ w4 ⟨rfl, hB⟩
  have HB4 := hide hB
  clear hB c0 cv
  have c0 : w4.cell? ⟨w.heap.size, 0, none⟩ = some (.int .i64 7) := by rw [← HKK.out]; exact HB4.out.2.cell 0 rfl
  have cv : w4.cell? ⟨w.heap.size, 10, none⟩ = some (.int .i64 x.r.mb) := HB4.out.2.cell 10 rfl
  have cN := wb_step HB4.out hlt hno (fun O' _ _ h => dw_num p w4 O' _ (m + 206) x.r.mb g_mb h)
  have HN := hide cN
  clear cN
  go_wp2_with fail
  refine HN.out.mono ?_
  clear HN
  rintro _ w5 ⟨rfl, hB⟩
  have HB5 := hide hB
  clear hB c0 cv
  have c0 : w5.cell? ⟨w.heap.size, 0, none⟩ = some (.int .i64 7) := by rw [← HKK.out]; exact HB5.out.2.cell 0 rfl
  go_wp2_with fail
  go_end0
  obtain ⟨O1, hA1, hk1, hn1⟩ := HB5.out.1
  refine ⟨rfl, O1, ?_, (HK.out.mono (by simp)).trans hk1 (fun i hi => .inl hi), fun i hi => ?_⟩
  · have h2 := hA1.less (m' := m) (by omega)
    simp only [stepD_trans, List.append_assoc] at h2
    exact h2
  · rcases hn1 i hi with h1 | h1
    · exact .inl h1
    · exact .inr (by omega)

set_option maxHeartbeats 4000000 in
theorem dput_no (p : Nat) (w : World) (O : List Nat) (s : List Int × Int) (m : Nat) (x : Rm) (hS : SlC w x.mo x.m x.mc x.r.c) (hch : chkB x.r = false) (hA : AtW p w O s (m + 210)) :
    Calls Try.prog 31 #[.pointer (some ⟨p, 0, none⟩), rqV x] w (DwP p w O (refD s) m) := by
  have k1 : Kept [] w (w.alloc (.cells #[.int .i64 x.r.k, .string (str x.r.n), .int .i64 x.r.s, .int .i64 x.r.q, .int .i64 x.r.b, .string (str x.r.f), .slice x.mo x.m x.mc, .string (str x.r.p), .int .i64 x.r.fr, .int .i64 x.r.mn, .int .i64 x.r.mb] 29)) := (Kept.refl _ _).alloc _
  obtain ⟨W, hW⟩ : ∃ W, W = w.alloc (.cells #[.int .i64 x.r.k, .string (str x.r.n), .int .i64 x.r.s, .int .i64 x.r.q, .int .i64 x.r.b, .string (str x.r.f), .slice x.mo x.m x.mc, .string (str x.r.p), .int .i64 x.r.fr, .int .i64 x.r.mn, .int .i64 x.r.mb] 29) := ⟨_, rfl⟩
  rw [← hW] at k1
  have HW := hide hW
  have HB : Hid (Bx W w.heap.size 29 (rqC x)) := by rw [hW]; exact Bx.new w _ (rqC x)
  have HT : Hid (RowT Try.prog 29 (rqC x).length) := rowT_req
  have HA := hide (hA.kept k1 (by simp))
  have HK := hide k1
  have cC : Calls Try.prog 16 #[.agg (rqC x).toArray] W fun e w' => e = .returned (.int .i64 1) ∧ Kept [] W w' := by
    have h := chk_call W x (hS.kept k1 (by simp))
    rw [hch, errI_false] at h
    exact h
  have HC := hide cC
  clear hW k1 hA hS hch cC
  unfold rqV
  go_enter Try.func31, Try.ntmps31
  go_upto_region 1 with fail
  rw [← HW.out]
  go_upto_region 2 with (first | ((with_reducible refine wl_load_bx HB.out HT.out ?_ ?_); rfl) | (go_at_call 16; refine HC.out.mono ?_; clear HC; rintro _ w1 ⟨rfl, hk1⟩; have HK1 := hide hk1; clear hk1))
  have HN := hide (dw_refuse p w1 O s (m + 210) (HA.out.kept HK1.out (by simp)))
  go_wp2_with fail
  refine HN.out.mono ?_
  clear HN
  rintro _ w2 ⟨rfl, hW2⟩
  have HW2 := hide hW2
  clear hW2
  go_wp2_with fail
  go_end0
  obtain ⟨O1, hA1, hk1, hn1⟩ := HW2.out
  refine ⟨rfl, O1, hA1.less (by omega), (((HK.out.trans HK1.out (by simp)).mono (by simp)).trans hk1 (fun i hi => .inl hi)), fun i hi => ?_⟩
  rcases hn1 i hi with h1 | h1
  · exact .inl h1
  · exact .inr (by have := HK.out.size; have := HK1.out.size; omega)

theorem dput_call (p : Nat) (w : World) (O : List Nat) (s : List Int × Int) (m : Nat) (x : Rm) (hS : SlC w x.mo x.m x.mc x.r.c) (hd : 0 < x.m → ∀ k ∈ blk x.mo, k < w.heap.size ∧ k ∉ O) (hu : U64c x.r.c) (hA : AtW p w O s (m + 210)) :
    Calls Try.prog 31 #[.pointer (some ⟨p, 0, none⟩), rqV x] w (DwP p w O (putD s x.r) m) := by
  unfold putD
  by_cases hch : chkB x.r = true
  rotate_left
  · rw [if_neg hch]
    exact dput_no p w O s m x hS (by simpa using hch) hA
  rw [if_pos hch]
  have hok := (chk_ok x.r hu).1 hch
  rw [ok_bytes hok]
  obtain ⟨⟨hk0, hk7⟩, hf⟩ := hok
  have hk0' := ((good_iff _).1 hk0).1
  unfold okF' at hf
  unfold bF'
  by_cases h0 : x.r.k = 0
  · rw [if_pos h0, List.append_nil, h0]; exact dput_0 p w O s m x h0 hS hd hch hA
  rw [if_neg h0] at hf ⊢
  by_cases h1 : x.r.k = 1
  · rw [if_pos h1] at hf ⊢; rw [h1]; exact dput_1 p w O s m x h1 hS hd hf.1 hch hA
  rw [if_neg h1] at hf ⊢
  by_cases h2 : x.r.k = 2
  · rw [if_pos h2] at hf ⊢; rw [h2]; exact dput_2 p w O s m x h2 hS hd hf.1.1 hf.1.2.1 hf.1.2.2.1 hf.1.2.2.2.1 hf.1.2.2.2.2 hch hA
  rw [if_neg h2] at hf ⊢
  by_cases h4 : x.r.k = 4
  · rw [if_pos h4] at hf ⊢; rw [h4]; exact dput_4 p w O s m x h4 hS hd hf.1.1 hf.1.2.1 hf.1.2.2 hch hA
  rw [if_neg h4] at hf ⊢
  by_cases h5 : x.r.k = 5
  · rw [if_pos h5] at hf ⊢; rw [h5]; exact dput_5 p w O s m x h5 hS hd hf.1.1 hf.1.2.1 hf.1.2.2.1 hf.1.2.2.2 hch hA
  rw [if_neg h5] at hf ⊢
  by_cases h6 : x.r.k = 6
  · rw [if_pos (.inl h6)] at hf ⊢; rw [h6]; exact dput_6 p w O s m x h6 hS hd hf.1.1 hf.1.2.1 hf.1.2.2 hch hA
  by_cases h7 : x.r.k = 7
  · rw [if_pos (.inr h7)] at hf ⊢; rw [h7]; exact dput_7 p w O s m x h7 hS hd hf.1.1 hf.1.2.1 hf.1.2.2 hch hA
  rw [if_neg (by omega)] at hf ⊢
  have h3 : x.r.k = 3 := by omega
  rw [h3]
  exact dput_3 p w O s m x h3 hS hd hf.1.1 hf.1.2 hch hA

/-- What the document's Encode answers. -/
def encD (r : Rq) : List Int × Int := if chkB r = true then (bR r, 0) else ([], 1)

def EncD (w : World) (q : List Int × Int) (r : Ending) (w' : World) : Prop :=
  ∃ a n c, r = .returned (.tuple #[.slice a n c, .int .i64 q.2]) ∧ Sl w' a n c q.1 ∧ (∀ k ∈ blk a, w.heap.size ≤ k ∧ k < w'.heap.size) ∧ Kept [] w w'

theorem atW_new (w : World) : AtW w.heap.size (w.alloc (.cells #[.slice none 0 0, .int .i64 0] 64)) [w.heap.size] ([], 0) 3000 :=
  ⟨none, rfl, ⟨.slice none 0 0, heap_alloc_new w _, ⟨by rfl, .inl ⟨rfl, rfl⟩⟩, rfl, by simp⟩, by simp⟩

theorem rwOut_enc (r : Rq) : rwOut (putD ([], 0) r).2 (putD ([], 0) r).1 = (encD r).1 ∧ (putD ([], 0) r).2 = (encD r).2 := by
  unfold putD encD rwOut stepD refD
  by_cases h : chkB r = true
  · simp [h]
  · simp [h]

set_option maxHeartbeats 4000000 in
theorem dEnc_call (w : World) (x : Rm) (hS : SlC w x.mo x.m x.mc x.r.c) (hd : 0 < x.m → ∀ k ∈ blk x.mo, k < w.heap.size) (hu : U64c x.r.c) :
    Calls Try.prog 14 #[rqV x] w (EncD w (encD x.r)) := by
  have k1 : Kept [] w (w.alloc (.cells #[.int .i64 x.r.k, .string (str x.r.n), .int .i64 x.r.s, .int .i64 x.r.q, .int .i64 x.r.b, .string (str x.r.f), .slice x.mo x.m x.mc, .string (str x.r.p), .int .i64 x.r.fr, .int .i64 x.r.mn, .int .i64 x.r.mb] 29)) := (Kept.refl _ _).alloc _
  obtain ⟨W, hW⟩ : ∃ W, W = w.alloc (.cells #[.int .i64 x.r.k, .string (str x.r.n), .int .i64 x.r.s, .int .i64 x.r.q, .int .i64 x.r.b, .string (str x.r.f), .slice x.mo x.m x.mc, .string (str x.r.p), .int .i64 x.r.fr, .int .i64 x.r.mn, .int .i64 x.r.mb] 29) := ⟨_, rfl⟩
  rw [← hW] at k1
  have HW := hide hW
  have hB : Bx W w.heap.size 29 (rqC x) := by rw [hW]; exact Bx.new w _ (rqC x)
  have HT : Hid (RowT Try.prog 29 (rqC x).length) := rowT_req
  have hsz := k1.size
  have k2 : Kept [] W (W.alloc (.cells #[.slice none 0 0, .int .i64 0] 64)) := (Kept.refl _ _).alloc _
  have cP := hide (dput_call W.heap.size _ [W.heap.size] ([], 0) 2000 x ((hS.kept k1 (by simp)).kept k2 (by simp)) (fun h k hk => ⟨by have := hd h k hk; have := k2.size; omega, by have := hd h k hk; simp; omega⟩) hu ((atW_new W).less (by omega)))
  have HB := hide (hB.kept k2 (by simp))
  have HK := hide (k1.trans k2 (by simp))
  have HR := hide (rwOut_enc x.r)
  clear hW k1 k2 hS hd hu hB
  unfold rqV at cP ⊢
  go_enter Try.func14, Try.ntmps14
  go_upto_region 1 with fail
  rw [← HW.out]
  go_wp2_with ((with_reducible refine wl_load_bx HB.out HT.out ?_ ?_); rfl)
  refine cP.out.mono ?_
  clear cP
  rintro _ w2 ⟨rfl, hW2⟩
  obtain ⟨O2, ⟨g2, e2, hw2, hl2⟩, hk2, hn2⟩ := hW2
  have hk02 : Kept [] w w2 := HK.out.trans hk2 (by intro i hi; simp at hi; subst hi; right; omega)
  have HK2 := hide hk02
  have HW2 := hide hw2
  clear hw2 hk2 hn2 e2 hk02
  go_wp2_with fail
  refine (rwdone_call _ _ g2 _ _ HW2.out (by omega)).mono ?_
  rintro _ w3 ⟨a, n, c, rfl, hS3, hb3, hk3⟩
  rw [HR.out.1] at hS3
  rw [HR.out.2]
  have H3 : Hid (EncD w (encD x.r) (.returned (.tuple #[.slice a n c, .int .i64 (encD x.r).2])) w3) := ⟨a, n, c, rfl, hS3, fun k hk => ⟨Nat.le_trans HK2.out.size (hb3 k hk).1, (hb3 k hk).2⟩, HK2.out.trans hk3 (by simp)⟩
  clear hS3 hb3 hk3
  go_wp2_with fail
  go_ret2
  exact H3.out

end Go.Proofs.Ytlgacmmofimlmaa
