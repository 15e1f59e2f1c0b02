/-
  The document's Told, EncodeVerdict. (Written by mk/mkdtold.py.)
-/
import Derived.Test.YtlgacmmofimlmaaEnDw2
import Derived.Test.YtlgacmmofimlmaaEnDv5
import Derived.Test.YtlgacmmofimlmaaF8
namespace Go.Proofs.Ytlgacmmofimlmaa
open Go.RowKit

/-- What is left when the document writes a verdict. -/
def toldD (s : List Int × Int) (v : Vt) : List Int × Int := if mvB v = true then stepD s (bV v) else refD s

theorem VtHy.ko {O : List Nat} {w : World} {x : Vt} {u : Value} (h : VtHy O w x u) : KoV w u x.k := by
  obtain ⟨uo, un, uc, KK, e, hD, hK⟩ := h.u
  exact ⟨uo, un, uc, KK, e, hD.sl, hK, hD.2.2.2.1⟩

set_option maxHeartbeats 8000000 in
set_option maxRecDepth 100000 in
theorem dtold_1 (p : Nat) (w : World) (O : List Nat) (s : List Int × Int) (m : Nat) (v : Vt) (u : Value) (hx : VtHy O w v u) (hk : v.c = 1) (g_s : goodB v.s = true) (hch : mvB v = true) (hA : AtW p w O s (m + 7000)) :
    Calls Try.prog 45 #[.pointer (some ⟨p, 0, none⟩), vtV v u] w (DwP p w O (stepD s (encNum 1 ++ (encNum v.s))) m) := by
  obtain ⟨uo, un, uc, KK, rfl, hKD, hKK⟩ := hx.u
  have k1 : Kept [] w (w.alloc (.cells #[.int .i64 v.c, .int .i64 v.s, .int .i64 v.r, .string (str v.p), .int .u64 v.d, .slice uo un uc, .int .i64 v.m] 43)) := (Kept.refl _ _).alloc _
  obtain ⟨W, hW⟩ : ∃ W, W = w.alloc (.cells #[.int .i64 v.c, .int .i64 v.s, .int .i64 v.r, .string (str v.p), .int .u64 v.d, .slice uo un uc, .int .i64 v.m] 43) := ⟨_, rfl⟩
  rw [← hW] at k1
  have HW := hide hW
  have HB : Hid (Bx W w.heap.size 43 (vtL v (.slice uo un uc))) := by rw [hW]; exact Bx.new w _ (vtL v (.slice uo un uc))
  have HT : Hid (RowT Try.prog 43 (vtL v (.slice uo un uc)).length) := rowT_ver
  have HSz : Hid (W.heap.size = w.heap.size + 1) := by rw [hW]; show _ = _; simp
  have HO := hide hA.lt
  have HA := hide (hA.kept k1 (by simp))
  have HK := hide k1
  have HKD := hide (hKD.on (k1.mono (by simp)) (O' := O) (fun k hk => .inl hk))
  have HKK := hide hKK
  have cC : Calls Try.prog 72 #[.agg (vtL v (.slice uo un uc)).toArray] W fun e w' => e = .returned (.bool true) ∧ Kept [] W w' := by
    have h := mv_call W v _ (hx.ko.kept k1)
    rw [hch] at h
    exact h
  have HC := hide cC
  have HKc := hide hk
  clear hW k1 hA hx hch cC hKD hKK hk
  unfold vtV
  go_enter Try.func45, Try.ntmps45
  go_upto_region 1 with fail
  rw [← HW.out]
  go_upto_region 3 with (first | ((with_reducible refine wl_load_bx HB.out HT.out ?_ ?_); rfl) | (go_at_call 72; refine HC.out.mono ?_; clear HC; rintro _ w1 ⟨rfl, hk1⟩; have HK1 := hide hk1; clear hk1))
  have hno : w.heap.size ∉ O := fun hm => by have := HO.out _ hm; omega
  have hlt : w.heap.size < W.heap.size := by rw [HSz.out]; omega
  have HB1 : Hid (WB p W O w.heap.size 43 (vtL v (.slice uo un uc)) s (m + 7000) w1) := ⟨⟨O, HA.out.kept HK1.out (by simp), HK1.out.mono (by simp), fun k hk => .inl hk⟩, HB.out.kept HK1.out (by simp)⟩
  have c0 : w1.cell? ⟨w.heap.size, 0, none⟩ = some (.int .i64 1) := by rw [← HKc.out]; exact HB1.out.2.cell 0 rfl
  have cN := wb_step HB1.out hlt hno (fun O' _ _ h => dw_num p w1 O' _ (m + 6999) 1 (by decide) h)
  have HN := hide cN
  clear cN
  go_wp2_with fail
  refine HN.out.mono ?_
  clear HN
  rintro _ w2 ⟨rfl, hB⟩
  have HB2 := hide hB
  clear hB c0
  have c0 : w2.cell? ⟨w.heap.size, 0, none⟩ = some (.int .i64 1) := by rw [← HKc.out]; exact HB2.out.2.cell 0 rfl
  have cv : w2.cell? ⟨w.heap.size, 1, none⟩ = some (.int .i64 v.s) := HB2.out.2.cell 1 rfl
  have cN := wb_step HB2.out hlt hno (fun O' _ _ h => dw_num p w2 O' _ (m + 6998) v.s g_s h)
  have HN := hide cN
  clear cN
  go_wp2_with fail
  refine HN.out.mono ?_
  clear HN
  rintro _ w3 ⟨rfl, hB⟩
  have HB3 := hide hB
  clear hB c0 cv
  have c0 : w3.cell? ⟨w.heap.size, 0, none⟩ = some (.int .i64 1) := by rw [← HKc.out]; exact HB3.out.2.cell 0 rfl
  go_wp2_with fail
  go_end0
  obtain ⟨O1, hA1, hk1, hn1⟩ := HB3.out.1
  refine ⟨rfl, O1, ?_, (HK.out.mono (by simp)).trans hk1 (fun i hi => .inl hi), fun i hi => ?_⟩
  · have h2 := hA1.less (m' := m) (by omega)
    simp only [stepD_trans] at h2
    exact h2
  · rcases hn1 i hi with h1 | h1
    · exact .inl h1
    · exact .inr (by omega)

set_option maxHeartbeats 8000000 in
set_option maxRecDepth 100000 in
theorem dtold_2 (p : Nat) (w : World) (O : List Nat) (s : List Int × Int) (m : Nat) (v : Vt) (u : Value) (hx : VtHy O w v u) (hk : v.c = 2) (g_r : goodB v.r = true) (hch : mvB v = true) (hA : AtW p w O s (m + 7000)) :
    Calls Try.prog 45 #[.pointer (some ⟨p, 0, none⟩), vtV v u] w (DwP p w O (stepD s (encNum 2 ++ (encNum v.r))) m) := by
  obtain ⟨uo, un, uc, KK, rfl, hKD, hKK⟩ := hx.u
  have k1 : Kept [] w (w.alloc (.cells #[.int .i64 v.c, .int .i64 v.s, .int .i64 v.r, .string (str v.p), .int .u64 v.d, .slice uo un uc, .int .i64 v.m] 43)) := (Kept.refl _ _).alloc _
  obtain ⟨W, hW⟩ : ∃ W, W = w.alloc (.cells #[.int .i64 v.c, .int .i64 v.s, .int .i64 v.r, .string (str v.p), .int .u64 v.d, .slice uo un uc, .int .i64 v.m] 43) := ⟨_, rfl⟩
  rw [← hW] at k1
  have HW := hide hW
  have HB : Hid (Bx W w.heap.size 43 (vtL v (.slice uo un uc))) := by rw [hW]; exact Bx.new w _ (vtL v (.slice uo un uc))
  have HT : Hid (RowT Try.prog 43 (vtL v (.slice uo un uc)).length) := rowT_ver
  have HSz : Hid (W.heap.size = w.heap.size + 1) := by rw [hW]; show _ = _; simp
  have HO := hide hA.lt
  have HA := hide (hA.kept k1 (by simp))
  have HK := hide k1
  have HKD := hide (hKD.on (k1.mono (by simp)) (O' := O) (fun k hk => .inl hk))
  have HKK := hide hKK
  have cC : Calls Try.prog 72 #[.agg (vtL v (.slice uo un uc)).toArray] W fun e w' => e = .returned (.bool true) ∧ Kept [] W w' := by
    have h := mv_call W v _ (hx.ko.kept k1)
    rw [hch] at h
    exact h
  have HC := hide cC
  have HKc := hide hk
  clear hW k1 hA hx hch cC hKD hKK hk
  unfold vtV
  go_enter Try.func45, Try.ntmps45
  go_upto_region 1 with fail
  rw [← HW.out]
  go_upto_region 3 with (first | ((with_reducible refine wl_load_bx HB.out HT.out ?_ ?_); rfl) | (go_at_call 72; refine HC.out.mono ?_; clear HC; rintro _ w1 ⟨rfl, hk1⟩; have HK1 := hide hk1; clear hk1))
  have hno : w.heap.size ∉ O := fun hm => by have := HO.out _ hm; omega
  have hlt : w.heap.size < W.heap.size := by rw [HSz.out]; omega
  have HB1 : Hid (WB p W O w.heap.size 43 (vtL v (.slice uo un uc)) s (m + 7000) w1) := ⟨⟨O, HA.out.kept HK1.out (by simp), HK1.out.mono (by simp), fun k hk => .inl hk⟩, HB.out.kept HK1.out (by simp)⟩
  have c0 : w1.cell? ⟨w.heap.size, 0, none⟩ = some (.int .i64 2) := by rw [← HKc.out]; exact HB1.out.2.cell 0 rfl
  have cN := wb_step HB1.out hlt hno (fun O' _ _ h => dw_num p w1 O' _ (m + 6999) 2 (by decide) h)
  have HN := hide cN
  clear cN
  go_wp2_with fail
  refine HN.out.mono ?_
  clear HN
  rintro _ w2 ⟨rfl, hB⟩
  have HB2 := hide hB
  clear hB c0
  have c0 : w2.cell? ⟨w.heap.size, 0, none⟩ = some (.int .i64 2) := by rw [← HKc.out]; exact HB2.out.2.cell 0 rfl
  have cv : w2.cell? ⟨w.heap.size, 2, none⟩ = some (.int .i64 v.r) := HB2.out.2.cell 2 rfl
  have cN := wb_step HB2.out hlt hno (fun O' _ _ h => dw_num p w2 O' _ (m + 6998) v.r g_r h)
  have HN := hide cN
  clear cN
  go_wp2_with fail
  refine HN.out.mono ?_
  clear HN
  rintro _ w3 ⟨rfl, hB⟩
  have HB3 := hide hB
  clear hB c0 cv
  have c0 : w3.cell? ⟨w.heap.size, 0, none⟩ = some (.int .i64 2) := by rw [← HKc.out]; exact HB3.out.2.cell 0 rfl
  go_wp2_with fail
  go_end0
  obtain ⟨O1, hA1, hk1, hn1⟩ := HB3.out.1
  refine ⟨rfl, O1, ?_, (HK.out.mono (by simp)).trans hk1 (fun i hi => .inl hi), fun i hi => ?_⟩
  · have h2 := hA1.less (m' := m) (by omega)
    simp only [stepD_trans] at h2
    exact h2
  · rcases hn1 i hi with h1 | h1
    · exact .inl h1
    · exact .inr (by omega)

set_option maxHeartbeats 8000000 in
set_option maxRecDepth 100000 in
theorem dtold_4 (p : Nat) (w : World) (O : List Nat) (s : List Int × Int) (m : Nat) (v : Vt) (u : Value) (hx : VtHy O w v u) (hk : v.c = 4) (g_r : goodB v.r = true) (hch : mvB v = true) (hA : AtW p w O s (m + 7000)) :
    Calls Try.prog 45 #[.pointer (some ⟨p, 0, none⟩), vtV v u] w (DwP p w O (stepD s (encNum 4 ++ (encNum v.r))) m) := by
  obtain ⟨uo, un, uc, KK, rfl, hKD, hKK⟩ := hx.u
  have k1 : Kept [] w (w.alloc (.cells #[.int .i64 v.c, .int .i64 v.s, .int .i64 v.r, .string (str v.p), .int .u64 v.d, .slice uo un uc, .int .i64 v.m] 43)) := (Kept.refl _ _).alloc _
  obtain ⟨W, hW⟩ : ∃ W, W = w.alloc (.cells #[.int .i64 v.c, .int .i64 v.s, .int .i64 v.r, .string (str v.p), .int .u64 v.d, .slice uo un uc, .int .i64 v.m] 43) := ⟨_, rfl⟩
  rw [← hW] at k1
  have HW := hide hW
  have HB : Hid (Bx W w.heap.size 43 (vtL v (.slice uo un uc))) := by rw [hW]; exact Bx.new w _ (vtL v (.slice uo un uc))
  have HT : Hid (RowT Try.prog 43 (vtL v (.slice uo un uc)).length) := rowT_ver
  have HSz : Hid (W.heap.size = w.heap.size + 1) := by rw [hW]; show _ = _; simp
  have HO := hide hA.lt
  have HA := hide (hA.kept k1 (by simp))
  have HK := hide k1
  have HKD := hide (hKD.on (k1.mono (by simp)) (O' := O) (fun k hk => .inl hk))
  have HKK := hide hKK
  have cC : Calls Try.prog 72 #[.agg (vtL v (.slice uo un uc)).toArray] W fun e w' => e = .returned (.bool true) ∧ Kept [] W w' := by
    have h := mv_call W v _ (hx.ko.kept k1)
    rw [hch] at h
    exact h
  have HC := hide cC
  have HKc := hide hk
  clear hW k1 hA hx hch cC hKD hKK hk
  unfold vtV
  go_enter Try.func45, Try.ntmps45
  go_upto_region 1 with fail
  rw [← HW.out]
  go_upto_region 3 with (first | ((with_reducible refine wl_load_bx HB.out HT.out ?_ ?_); rfl) | (go_at_call 72; refine HC.out.mono ?_; clear HC; rintro _ w1 ⟨rfl, hk1⟩; have HK1 := hide hk1; clear hk1))
  have hno : w.heap.size ∉ O := fun hm => by have := HO.out _ hm; omega
  have hlt : w.heap.size < W.heap.size := by rw [HSz.out]; omega
  have HB1 : Hid (WB p W O w.heap.size 43 (vtL v (.slice uo un uc)) s (m + 7000) w1) := ⟨⟨O, HA.out.kept HK1.out (by simp), HK1.out.mono (by simp), fun k hk => .inl hk⟩, HB.out.kept HK1.out (by simp)⟩
  have c0 : w1.cell? ⟨w.heap.size, 0, none⟩ = some (.int .i64 4) := by rw [← HKc.out]; exact HB1.out.2.cell 0 rfl
  have cN := wb_step HB1.out hlt hno (fun O' _ _ h => dw_num p w1 O' _ (m + 6999) 4 (by decide) h)
  have HN := hide cN
  clear cN
  go_wp2_with fail
  refine HN.out.mono ?_
  clear HN
  rintro _ w2 ⟨rfl, hB⟩
  have HB2 := hide hB
  clear hB c0
  have c0 : w2.cell? ⟨w.heap.size, 0, none⟩ = some (.int .i64 4) := by rw [← HKc.out]; exact HB2.out.2.cell 0 rfl
  have cv : w2.cell? ⟨w.heap.size, 2, none⟩ = some (.int .i64 v.r) := HB2.out.2.cell 2 rfl
  have cN := wb_step HB2.out hlt hno (fun O' _ _ h => dw_num p w2 O' _ (m + 6998) v.r g_r h)
  have HN := hide cN
  clear cN
  go_wp2_with fail
  refine HN.out.mono ?_
  clear HN
  rintro _ w3 ⟨rfl, hB⟩
  have HB3 := hide hB
  clear hB c0 cv
  have c0 : w3.cell? ⟨w.heap.size, 0, none⟩ = some (.int .i64 4) := by rw [← HKc.out]; exact HB3.out.2.cell 0 rfl
  go_wp2_with fail
  go_end0
  obtain ⟨O1, hA1, hk1, hn1⟩ := HB3.out.1
  refine ⟨rfl, O1, ?_, (HK.out.mono (by simp)).trans hk1 (fun i hi => .inl hi), fun i hi => ?_⟩
  · have h2 := hA1.less (m' := m) (by omega)
    simp only [stepD_trans] at h2
    exact h2
  · rcases hn1 i hi with h1 | h1
    · exact .inl h1
    · exact .inr (by omega)

set_option maxHeartbeats 8000000 in
set_option maxRecDepth 100000 in
theorem dtold_8 (p : Nat) (w : World) (O : List Nat) (s : List Int × Int) (m : Nat) (v : Vt) (u : Value) (hx : VtHy O w v u) (hk : v.c = 8) (g_r : goodB v.r = true) (hch : mvB v = true) (hA : AtW p w O s (m + 7000)) :
    Calls Try.prog 45 #[.pointer (some ⟨p, 0, none⟩), vtV v u] w (DwP p w O (stepD s (encNum 8 ++ (encNum v.r))) m) := by
  obtain ⟨uo, un, uc, KK, rfl, hKD, hKK⟩ := hx.u
  have k1 : Kept [] w (w.alloc (.cells #[.int .i64 v.c, .int .i64 v.s, .int .i64 v.r, .string (str v.p), .int .u64 v.d, .slice uo un uc, .int .i64 v.m] 43)) := (Kept.refl _ _).alloc _
  obtain ⟨W, hW⟩ : ∃ W, W = w.alloc (.cells #[.int .i64 v.c, .int .i64 v.s, .int .i64 v.r, .string (str v.p), .int .u64 v.d, .slice uo un uc, .int .i64 v.m] 43) := ⟨_, rfl⟩
  rw [← hW] at k1
  have HW := hide hW
  have HB : Hid (Bx W w.heap.size 43 (vtL v (.slice uo un uc))) := by rw [hW]; exact Bx.new w _ (vtL v (.slice uo un uc))
  have HT : Hid (RowT Try.prog 43 (vtL v (.slice uo un uc)).length) := rowT_ver
  have HSz : Hid (W.heap.size = w.heap.size + 1) := by rw [hW]; show _ = _; simp
  have HO := hide hA.lt
  have HA := hide (hA.kept k1 (by simp))
  have HK := hide k1
  have HKD := hide (hKD.on (k1.mono (by simp)) (O' := O) (fun k hk => .inl hk))
  have HKK := hide hKK
  have cC : Calls Try.prog 72 #[.agg (vtL v (.slice uo un uc)).toArray] W fun e w' => e = .returned (.bool true) ∧ Kept [] W w' := by
    have h := mv_call W v _ (hx.ko.kept k1)
    rw [hch] at h
    exact h
  have HC := hide cC
  have HKc := hide hk
  clear hW k1 hA hx hch cC hKD hKK hk
  unfold vtV
  go_enter Try.func45, Try.ntmps45
  go_upto_region 1 with fail
  rw [← HW.out]
  go_upto_region 3 with (first | ((with_reducible refine wl_load_bx HB.out HT.out ?_ ?_); rfl) | (go_at_call 72; refine HC.out.mono ?_; clear HC; rintro _ w1 ⟨rfl, hk1⟩; have HK1 := hide hk1; clear hk1))
  have hno : w.heap.size ∉ O := fun hm => by have := HO.out _ hm; omega
  have hlt : w.heap.size < W.heap.size := by rw [HSz.out]; omega
  have HB1 : Hid (WB p W O w.heap.size 43 (vtL v (.slice uo un uc)) s (m + 7000) w1) := ⟨⟨O, HA.out.kept HK1.out (by simp), HK1.out.mono (by simp), fun k hk => .inl hk⟩, HB.out.kept HK1.out (by simp)⟩
  have c0 : w1.cell? ⟨w.heap.size, 0, none⟩ = some (.int .i64 8) := by rw [← HKc.out]; exact HB1.out.2.cell 0 rfl
  have cN := wb_step HB1.out hlt hno (fun O' _ _ h => dw_num p w1 O' _ (m + 6999) 8 (by decide) h)
  have HN := hide cN
  clear cN
  go_wp2_with fail
  refine HN.out.mono ?_
  clear HN
  rintro _ w2 ⟨rfl, hB⟩
  have HB2 := hide hB
  clear hB c0
  have c0 : w2.cell? ⟨w.heap.size, 0, none⟩ = some (.int .i64 8) := by rw [← HKc.out]; exact HB2.out.2.cell 0 rfl
  have cv : w2.cell? ⟨w.heap.size, 2, none⟩ = some (.int .i64 v.r) := HB2.out.2.cell 2 rfl
  have cN := wb_step HB2.out hlt hno (fun O' _ _ h => dw_num p w2 O' _ (m + 6998) v.r g_r h)
  have HN := hide cN
  clear cN
  go_wp2_with fail
  refine HN.out.mono ?_
  clear HN
  rintro _ w3 ⟨rfl, hB⟩
  have HB3 := hide hB
  clear hB c0 cv
  have c0 : w3.cell? ⟨w.heap.size, 0, none⟩ = some (.int .i64 8) := by rw [← HKc.out]; exact HB3.out.2.cell 0 rfl
  go_wp2_with fail
  go_end0
  obtain ⟨O1, hA1, hk1, hn1⟩ := HB3.out.1
  refine ⟨rfl, O1, ?_, (HK.out.mono (by simp)).trans hk1 (fun i hi => .inl hi), fun i hi => ?_⟩
  · have h2 := hA1.less (m' := m) (by omega)
    simp only [stepD_trans] at h2
    exact h2
  · rcases hn1 i hi with h1 | h1
    · exact .inl h1
    · exact .inr (by omega)

set_option maxHeartbeats 8000000 in
set_option maxRecDepth 100000 in
theorem dtold_3 (p : Nat) (w : World) (O : List Nat) (s : List Int × Int) (m : Nat) (v : Vt) (u : Value) (hx : VtHy O w v u) (hk : v.c = 3) (t_p : okT v.p = true) (g_r : goodB v.r = true) (hch : mvB v = true) (hA : AtW p w O s (m + 7000)) :
    Calls Try.prog 45 #[.pointer (some ⟨p, 0, none⟩), vtV v u] w (DwP p w O (stepD s (encNum 3 ++ (bT v.p ++ (encNum v.r)))) m) := by
  obtain ⟨uo, un, uc, KK, rfl, hKD, hKK⟩ := hx.u
  have k1 : Kept [] w (w.alloc (.cells #[.int .i64 v.c, .int .i64 v.s, .int .i64 v.r, .string (str v.p), .int .u64 v.d, .slice uo un uc, .int .i64 v.m] 43)) := (Kept.refl _ _).alloc _
  obtain ⟨W, hW⟩ : ∃ W, W = w.alloc (.cells #[.int .i64 v.c, .int .i64 v.s, .int .i64 v.r, .string (str v.p), .int .u64 v.d, .slice uo un uc, .int .i64 v.m] 43) := ⟨_, rfl⟩
  rw [← hW] at k1
  have HW := hide hW
  have HB : Hid (Bx W w.heap.size 43 (vtL v (.slice uo un uc))) := by rw [hW]; exact Bx.new w _ (vtL v (.slice uo un uc))
  have HT : Hid (RowT Try.prog 43 (vtL v (.slice uo un uc)).length) := rowT_ver
  have HSz : Hid (W.heap.size = w.heap.size + 1) := by rw [hW]; show _ = _; simp
  have HO := hide hA.lt
  have HA := hide (hA.kept k1 (by simp))
  have HK := hide k1
  have HKD := hide (hKD.on (k1.mono (by simp)) (O' := O) (fun k hk => .inl hk))
  have HKK := hide hKK
  have cC : Calls Try.prog 72 #[.agg (vtL v (.slice uo un uc)).toArray] W fun e w' => e = .returned (.bool true) ∧ Kept [] W w' := by
    have h := mv_call W v _ (hx.ko.kept k1)
    rw [hch] at h
    exact h
  have HC := hide cC
  have HKc := hide hk
  clear hW k1 hA hx hch cC hKD hKK hk
  unfold vtV
  go_enter Try.func45, Try.ntmps45
  go_upto_region 1 with fail
  rw [← HW.out]
  go_upto_region 3 with (first | ((with_reducible refine wl_load_bx HB.out HT.out ?_ ?_); rfl) | (go_at_call 72; refine HC.out.mono ?_; clear HC; rintro _ w1 ⟨rfl, hk1⟩; have HK1 := hide hk1; clear hk1))
  have hno : w.heap.size ∉ O := fun hm => by have := HO.out _ hm; omega
  have hlt : w.heap.size < W.heap.size := by rw [HSz.out]; omega
  have HB1 : Hid (WB p W O w.heap.size 43 (vtL v (.slice uo un uc)) s (m + 7000) w1) := ⟨⟨O, HA.out.kept HK1.out (by simp), HK1.out.mono (by simp), fun k hk => .inl hk⟩, HB.out.kept HK1.out (by simp)⟩
  have c0 : w1.cell? ⟨w.heap.size, 0, none⟩ = some (.int .i64 3) := by rw [← HKc.out]; exact HB1.out.2.cell 0 rfl
  have cN := wb_step HB1.out hlt hno (fun O' _ _ h => dw_num p w1 O' _ (m + 6999) 3 (by decide) h)
  have HN := hide cN
  clear cN
  go_wp2_with fail
  refine HN.out.mono ?_
  clear HN
  rintro _ w2 ⟨rfl, hB⟩
  have HB2 := hide hB
  clear hB c0
  have c0 : w2.cell? ⟨w.heap.size, 0, none⟩ = some (.int .i64 3) := by rw [← HKc.out]; exact HB2.out.2.cell 0 rfl
  have cv : w2.cell? ⟨w.heap.size, 3, none⟩ = some (.string (str v.p)) := HB2.out.2.cell 3 rfl
  have cN := wb_step HB2.out hlt hno (fun O' _ _ h => dw_text p w2 O' _ (m + 6998) v.p t_p h)
  have HN := hide cN
  clear cN
  go_wp2_with fail
  refine HN.out.mono ?_
  clear HN
  rintro _ w3 ⟨rfl, hB⟩
  have HB3 := hide hB
  clear hB c0 cv
  have c0 : w3.cell? ⟨w.heap.size, 0, none⟩ = some (.int .i64 3) := by rw [← HKc.out]; exact HB3.out.2.cell 0 rfl
  have cv : w3.cell? ⟨w.heap.size, 2, none⟩ = some (.int .i64 v.r) := HB3.out.2.cell 2 rfl
  have cN := wb_step HB3.out hlt hno (fun O' _ _ h => dw_num p w3 O' _ (m + 6997) v.r g_r h)
  have HN := hide cN
  clear cN
  go_wp2_with fail
  refine HN.out.mono ?_
  clear HN
  rintro _ w4 ⟨rfl, hB⟩
  have HB4 := hide hB
  clear hB c0 cv
  have c0 : w4.cell? ⟨w.heap.size, 0, none⟩ = some (.int .i64 3) := by rw [← HKc.out]; exact HB4.out.2.cell 0 rfl
  go_wp2_with fail
  go_end0
  obtain ⟨O1, hA1, hk1, hn1⟩ := HB4.out.1
  refine ⟨rfl, O1, ?_, (HK.out.mono (by simp)).trans hk1 (fun i hi => .inl hi), fun i hi => ?_⟩
  · have h2 := hA1.less (m' := m) (by omega)
    simp only [stepD_trans, List.append_assoc] at h2
    exact h2
  · rcases hn1 i hi with h1 | h1
    · exact .inl h1
    · exact .inr (by omega)

set_option maxHeartbeats 8000000 in
set_option maxRecDepth 100000 in
theorem dtold_9 (p : Nat) (w : World) (O : List Nat) (s : List Int × Int) (m : Nat) (v : Vt) (u : Value) (hx : VtHy O w v u) (hk : v.c = 9) (t_p : okT v.p = true) (g_r : goodB v.r = true) (hch : mvB v = true) (hA : AtW p w O s (m + 7000)) :
    Calls Try.prog 45 #[.pointer (some ⟨p, 0, none⟩), vtV v u] w (DwP p w O (stepD s (encNum 9 ++ (bT v.p ++ (hiB 8 v.d ++ (encNum v.r))))) m) := by
  obtain ⟨uo, un, uc, KK, rfl, hKD, hKK⟩ := hx.u
  have k1 : Kept [] w (w.alloc (.cells #[.int .i64 v.c, .int .i64 v.s, .int .i64 v.r, .string (str v.p), .int .u64 v.d, .slice uo un uc, .int .i64 v.m] 43)) := (Kept.refl _ _).alloc _
  obtain ⟨W, hW⟩ : ∃ W, W = w.alloc (.cells #[.int .i64 v.c, .int .i64 v.s, .int .i64 v.r, .string (str v.p), .int .u64 v.d, .slice uo un uc, .int .i64 v.m] 43) := ⟨_, rfl⟩
  rw [← hW] at k1
  have HW := hide hW
  have HB : Hid (Bx W w.heap.size 43 (vtL v (.slice uo un uc))) := by rw [hW]; exact Bx.new w _ (vtL v (.slice uo un uc))
  have HT : Hid (RowT Try.prog 43 (vtL v (.slice uo un uc)).length) := rowT_ver
  have HSz : Hid (W.heap.size = w.heap.size + 1) := by rw [hW]; show _ = _; simp
  have HO := hide hA.lt
  have HA := hide (hA.kept k1 (by simp))
  have HK := hide k1
  have HKD := hide (hKD.on (k1.mono (by simp)) (O' := O) (fun k hk => .inl hk))
  have HKK := hide hKK
  have cC : Calls Try.prog 72 #[.agg (vtL v (.slice uo un uc)).toArray] W fun e w' => e = .returned (.bool true) ∧ Kept [] W w' := by
    have h := mv_call W v _ (hx.ko.kept k1)
    rw [hch] at h
    exact h
  have HC := hide cC
  have HKc := hide hk
  clear hW k1 hA hx hch cC hKD hKK hk
  unfold vtV
  go_enter Try.func45, Try.ntmps45
  go_upto_region 1 with fail
  rw [← HW.out]
  go_upto_region 3 with (first | ((with_reducible refine wl_load_bx HB.out HT.out ?_ ?_); rfl) | (go_at_call 72; refine HC.out.mono ?_; clear HC; rintro _ w1 ⟨rfl, hk1⟩; have HK1 := hide hk1; clear hk1))
  have hno : w.heap.size ∉ O := fun hm => by have := HO.out _ hm; omega
  have hlt : w.heap.size < W.heap.size := by rw [HSz.out]; omega
  have HB1 : Hid (WB p W O w.heap.size 43 (vtL v (.slice uo un uc)) s (m + 7000) w1) := ⟨⟨O, HA.out.kept HK1.out (by simp), HK1.out.mono (by simp), fun k hk => .inl hk⟩, HB.out.kept HK1.out (by simp)⟩
  have c0 : w1.cell? ⟨w.heap.size, 0, none⟩ = some (.int .i64 9) := by rw [← HKc.out]; exact HB1.out.2.cell 0 rfl
  have cN := wb_step HB1.out hlt hno (fun O' _ _ h => dw_num p w1 O' _ (m + 6999) 9 (by decide) h)
  have HN := hide cN
  clear cN
  go_wp2_with fail
  refine HN.out.mono ?_
  clear HN
  rintro _ w2 ⟨rfl, hB⟩
  have HB2 := hide hB
  clear hB c0
  have c0 : w2.cell? ⟨w.heap.size, 0, none⟩ = some (.int .i64 9) := by rw [← HKc.out]; exact HB2.out.2.cell 0 rfl
  have cv : w2.cell? ⟨w.heap.size, 3, none⟩ = some (.string (str v.p)) := HB2.out.2.cell 3 rfl
  have cN := wb_step HB2.out hlt hno (fun O' _ _ h => dw_text p w2 O' _ (m + 6998) v.p t_p h)
  have HN := hide cN
  clear cN
  go_wp2_with fail
  refine HN.out.mono ?_
  clear HN
  rintro _ w3 ⟨rfl, hB⟩
  have HB3 := hide hB
  clear hB c0 cv
  have c0 : w3.cell? ⟨w.heap.size, 0, none⟩ = some (.int .i64 9) := by rw [← HKc.out]; exact HB3.out.2.cell 0 rfl
  have cv : w3.cell? ⟨w.heap.size, 4, none⟩ = some (.int .u64 v.d) := HB3.out.2.cell 4 rfl
  have cN := wb_step HB3.out hlt hno (fun O' _ _ h => dw_word p w3 O' _ (m + 6997) v.d h)
  have HN := hide cN
  clear cN
  go_wp2_with fail
  refine HN.out.mono ?_
  clear HN
  rintro _ w4 ⟨rfl, hB⟩
  have HB4 := hide hB
  clear hB c0 cv
  have c0 : w4.cell? ⟨w.heap.size, 0, none⟩ = some (.int .i64 9) := by rw [← HKc.out]; exact HB4.out.2.cell 0 rfl
  have cv : w4.cell? ⟨w.heap.size, 2, none⟩ = some (.int .i64 v.r) := HB4.out.2.cell 2 rfl
  have cN := wb_step HB4.out hlt hno (fun O' _ _ h => dw_num p w4 O' _ (m + 6996) v.r g_r h)
  have HN := hide cN
  clear cN
  go_wp2_with fail
  refine HN.out.mono ?_
  clear HN
  rintro _ w5 ⟨rfl, hB⟩
  have HB5 := hide hB
  clear hB c0 cv
  have c0 : w5.cell? ⟨w.heap.size, 0, none⟩ = some (.int .i64 9) := by rw [← HKc.out]; exact HB5.out.2.cell 0 rfl
  go_wp2_with fail
  go_end0
  obtain ⟨O1, hA1, hk1, hn1⟩ := HB5.out.1
  refine ⟨rfl, O1, ?_, (HK.out.mono (by simp)).trans hk1 (fun i hi => .inl hi), fun i hi => ?_⟩
  · have h2 := hA1.less (m' := m) (by omega)
    simp only [stepD_trans, List.append_assoc] at h2
    exact h2
  · rcases hn1 i hi with h1 | h1
    · exact .inl h1
    · exact .inr (by omega)

set_option maxHeartbeats 8000000 in
set_option maxRecDepth 100000 in
theorem dtold_10 (p : Nat) (w : World) (O : List Nat) (s : List Int × Int) (m : Nat) (v : Vt) (u : Value) (hx : VtHy O w v u) (hk : v.c = 10) (t_p : okT v.p = true) (hch : mvB v = true) (hA : AtW p w O s (m + 7000)) :
    Calls Try.prog 45 #[.pointer (some ⟨p, 0, none⟩), vtV v u] w (DwP p w O (stepD s (encNum 10 ++ (bT v.p))) m) := by
  obtain ⟨uo, un, uc, KK, rfl, hKD, hKK⟩ := hx.u
  have k1 : Kept [] w (w.alloc (.cells #[.int .i64 v.c, .int .i64 v.s, .int .i64 v.r, .string (str v.p), .int .u64 v.d, .slice uo un uc, .int .i64 v.m] 43)) := (Kept.refl _ _).alloc _
  obtain ⟨W, hW⟩ : ∃ W, W = w.alloc (.cells #[.int .i64 v.c, .int .i64 v.s, .int .i64 v.r, .string (str v.p), .int .u64 v.d, .slice uo un uc, .int .i64 v.m] 43) := ⟨_, rfl⟩
  rw [← hW] at k1
  have HW := hide hW
  have HB : Hid (Bx W w.heap.size 43 (vtL v (.slice uo un uc))) := by rw [hW]; exact Bx.new w _ (vtL v (.slice uo un uc))
  have HT : Hid (RowT Try.prog 43 (vtL v (.slice uo un uc)).length) := rowT_ver
  have HSz : Hid (W.heap.size = w.heap.size + 1) := by rw [hW]; show _ = _; simp
  have HO := hide hA.lt
  have HA := hide (hA.kept k1 (by simp))
  have HK := hide k1
  have HKD := hide (hKD.on (k1.mono (by simp)) (O' := O) (fun k hk => .inl hk))
  have HKK := hide hKK
  have cC : Calls Try.prog 72 #[.agg (vtL v (.slice uo un uc)).toArray] W fun e w' => e = .returned (.bool true) ∧ Kept [] W w' := by
    have h := mv_call W v _ (hx.ko.kept k1)
    rw [hch] at h
    exact h
  have HC := hide cC
  have HKc := hide hk
  clear hW k1 hA hx hch cC hKD hKK hk
  unfold vtV
  go_enter Try.func45, Try.ntmps45
  go_upto_region 1 with fail
  rw [← HW.out]
  go_upto_region 3 with (first | ((with_reducible refine wl_load_bx HB.out HT.out ?_ ?_); rfl) | (go_at_call 72; refine HC.out.mono ?_; clear HC; rintro _ w1 ⟨rfl, hk1⟩; have HK1 := hide hk1; clear hk1))
  have hno : w.heap.size ∉ O := fun hm => by have := HO.out _ hm; omega
  have hlt : w.heap.size < W.heap.size := by rw [HSz.out]; omega
  have HB1 : Hid (WB p W O w.heap.size 43 (vtL v (.slice uo un uc)) s (m + 7000) w1) := ⟨⟨O, HA.out.kept HK1.out (by simp), HK1.out.mono (by simp), fun k hk => .inl hk⟩, HB.out.kept HK1.out (by simp)⟩
  have c0 : w1.cell? ⟨w.heap.size, 0, none⟩ = some (.int .i64 10) := by rw [← HKc.out]; exact HB1.out.2.cell 0 rfl
  have cN := wb_step HB1.out hlt hno (fun O' _ _ h => dw_num p w1 O' _ (m + 6999) 10 (by decide) h)
  have HN := hide cN
  clear cN
  go_wp2_with fail
  refine HN.out.mono ?_
  clear HN
  rintro _ w2 ⟨rfl, hB⟩
  have HB2 := hide hB
  clear hB c0
  have c0 : w2.cell? ⟨w.heap.size, 0, none⟩ = some (.int .i64 10) := by rw [← HKc.out]; exact HB2.out.2.cell 0 rfl
  have cv : w2.cell? ⟨w.heap.size, 3, none⟩ = some (.string (str v.p)) := HB2.out.2.cell 3 rfl
  have cN := wb_step HB2.out hlt hno (fun O' _ _ h => dw_text p w2 O' _ (m + 6998) v.p t_p h)
  have HN := hide cN
  clear cN
  go_wp2_with fail
  refine HN.out.mono ?_
  clear HN
  rintro _ w3 ⟨rfl, hB⟩
  have HB3 := hide hB
  clear hB c0 cv
  have c0 : w3.cell? ⟨w.heap.size, 0, none⟩ = some (.int .i64 10) := by rw [← HKc.out]; exact HB3.out.2.cell 0 rfl
  go_wp2_with fail
  go_end0
  obtain ⟨O1, hA1, hk1, hn1⟩ := HB3.out.1
  refine ⟨rfl, O1, ?_, (HK.out.mono (by simp)).trans hk1 (fun i hi => .inl hi), fun i hi => ?_⟩
  · have h2 := hA1.less (m' := m) (by omega)
    simp only [stepD_trans] at h2
    exact h2
  · rcases hn1 i hi with h1 | h1
    · exact .inl h1
    · exact .inr (by omega)

set_option maxHeartbeats 8000000 in
set_option maxRecDepth 100000 in
theorem dtold_12 (p : Nat) (w : World) (O : List Nat) (s : List Int × Int) (m : Nat) (v : Vt) (u : Value) (hx : VtHy O w v u) (hk : v.c = 12) (g_m : goodB v.m = true) (hch : mvB v = true) (hA : AtW p w O s (m + 7000)) :
    Calls Try.prog 45 #[.pointer (some ⟨p, 0, none⟩), vtV v u] w (DwP p w O (stepD s (encNum 12 ++ (encNum v.m))) m) := by
  obtain ⟨uo, un, uc, KK, rfl, hKD, hKK⟩ := hx.u
  have k1 : Kept [] w (w.alloc (.cells #[.int .i64 v.c, .int .i64 v.s, .int .i64 v.r, .string (str v.p), .int .u64 v.d, .slice uo un uc, .int .i64 v.m] 43)) := (Kept.refl _ _).alloc _
  obtain ⟨W, hW⟩ : ∃ W, W = w.alloc (.cells #[.int .i64 v.c, .int .i64 v.s, .int .i64 v.r, .string (str v.p), .int .u64 v.d, .slice uo un uc, .int .i64 v.m] 43) := ⟨_, rfl⟩
  rw [← hW] at k1
  have HW := hide hW
  have HB : Hid (Bx W w.heap.size 43 (vtL v (.slice uo un uc))) := by rw [hW]; exact Bx.new w _ (vtL v (.slice uo un uc))
  have HT : Hid (RowT Try.prog 43 (vtL v (.slice uo un uc)).length) := rowT_ver
  have HSz : Hid (W.heap.size = w.heap.size + 1) := by rw [hW]; show _ = _; simp
  have HO := hide hA.lt
  have HA := hide (hA.kept k1 (by simp))
  have HK := hide k1
  have HKD := hide (hKD.on (k1.mono (by simp)) (O' := O) (fun k hk => .inl hk))
  have HKK := hide hKK
  have cC : Calls Try.prog 72 #[.agg (vtL v (.slice uo un uc)).toArray] W fun e w' => e = .returned (.bool true) ∧ Kept [] W w' := by
    have h := mv_call W v _ (hx.ko.kept k1)
    rw [hch] at h
    exact h
  have HC := hide cC
  have HKc := hide hk
  clear hW k1 hA hx hch cC hKD hKK hk
  unfold vtV
  go_enter Try.func45, Try.ntmps45
  go_upto_region 1 with fail
  rw [← HW.out]
  go_upto_region 3 with (first | ((with_reducible refine wl_load_bx HB.out HT.out ?_ ?_); rfl) | (go_at_call 72; refine HC.out.mono ?_; clear HC; rintro _ w1 ⟨rfl, hk1⟩; have HK1 := hide hk1; clear hk1))
  have hno : w.heap.size ∉ O := fun hm => by have := HO.out _ hm; omega
  have hlt : w.heap.size < W.heap.size := by rw [HSz.out]; omega
  have HB1 : Hid (WB p W O w.heap.size 43 (vtL v (.slice uo un uc)) s (m + 7000) w1) := ⟨⟨O, HA.out.kept HK1.out (by simp), HK1.out.mono (by simp), fun k hk => .inl hk⟩, HB.out.kept HK1.out (by simp)⟩
  have c0 : w1.cell? ⟨w.heap.size, 0, none⟩ = some (.int .i64 12) := by rw [← HKc.out]; exact HB1.out.2.cell 0 rfl
  have cN := wb_step HB1.out hlt hno (fun O' _ _ h => dw_num p w1 O' _ (m + 6999) 12 (by decide) h)
  have HN := hide cN
  clear cN
  go_wp2_with fail
  refine HN.out.mono ?_
  clear HN
  rintro _ w2 ⟨rfl, hB⟩
  have HB2 := hide hB
  clear hB c0
  have c0 : w2.cell? ⟨w.heap.size, 0, none⟩ = some (.int .i64 12) := by rw [← HKc.out]; exact HB2.out.2.cell 0 rfl
  have cv : w2.cell? ⟨w.heap.size, 6, none⟩ = some (.int .i64 v.m) := HB2.out.2.cell 6 rfl
  have cN := wb_step HB2.out hlt hno (fun O' _ _ h => dw_num p w2 O' _ (m + 6998) v.m g_m h)
  have HN := hide cN
  clear cN
  go_wp2_with fail
  refine HN.out.mono ?_
  clear HN
  rintro _ w3 ⟨rfl, hB⟩
  have HB3 := hide hB
  clear hB c0 cv
  have c0 : w3.cell? ⟨w.heap.size, 0, none⟩ = some (.int .i64 12) := by rw [← HKc.out]; exact HB3.out.2.cell 0 rfl
  go_wp2_with fail
  go_end0
  obtain ⟨O1, hA1, hk1, hn1⟩ := HB3.out.1
  refine ⟨rfl, O1, ?_, (HK.out.mono (by simp)).trans hk1 (fun i hi => .inl hi), fun i hi => ?_⟩
  · have h2 := hA1.less (m' := m) (by omega)
    simp only [stepD_trans] at h2
    exact h2
  · rcases hn1 i hi with h1 | h1
    · exact .inl h1
    · exact .inr (by omega)

set_option maxHeartbeats 8000000 in
set_option maxRecDepth 100000 in
theorem dtold_13 (p : Nat) (w : World) (O : List Nat) (s : List Int × Int) (m : Nat) (v : Vt) (u : Value) (hx : VtHy O w v u) (hk : v.c = 13) (g_m : goodB v.m = true) (hch : mvB v = true) (hA : AtW p w O s (m + 7000)) :
    Calls Try.prog 45 #[.pointer (some ⟨p, 0, none⟩), vtV v u] w (DwP p w O (stepD s (encNum 13 ++ (encNum v.m))) m) := by
  obtain ⟨uo, un, uc, KK, rfl, hKD, hKK⟩ := hx.u
  have k1 : Kept [] w (w.alloc (.cells #[.int .i64 v.c, .int .i64 v.s, .int .i64 v.r, .string (str v.p), .int .u64 v.d, .slice uo un uc, .int .i64 v.m] 43)) := (Kept.refl _ _).alloc _
  obtain ⟨W, hW⟩ : ∃ W, W = w.alloc (.cells #[.int .i64 v.c, .int .i64 v.s, .int .i64 v.r, .string (str v.p), .int .u64 v.d, .slice uo un uc, .int .i64 v.m] 43) := ⟨_, rfl⟩
  rw [← hW] at k1
  have HW := hide hW
  have HB : Hid (Bx W w.heap.size 43 (vtL v (.slice uo un uc))) := by rw [hW]; exact Bx.new w _ (vtL v (.slice uo un uc))
  have HT : Hid (RowT Try.prog 43 (vtL v (.slice uo un uc)).length) := rowT_ver
  have HSz : Hid (W.heap.size = w.heap.size + 1) := by rw [hW]; show _ = _; simp
  have HO := hide hA.lt
  have HA := hide (hA.kept k1 (by simp))
  have HK := hide k1
  have HKD := hide (hKD.on (k1.mono (by simp)) (O' := O) (fun k hk => .inl hk))
  have HKK := hide hKK
  have cC : Calls Try.prog 72 #[.agg (vtL v (.slice uo un uc)).toArray] W fun e w' => e = .returned (.bool true) ∧ Kept [] W w' := by
    have h := mv_call W v _ (hx.ko.kept k1)
    rw [hch] at h
    exact h
  have HC := hide cC
  have HKc := hide hk
  clear hW k1 hA hx hch cC hKD hKK hk
  unfold vtV
  go_enter Try.func45, Try.ntmps45
  go_upto_region 1 with fail
  rw [← HW.out]
  go_upto_region 3 with (first | ((with_reducible refine wl_load_bx HB.out HT.out ?_ ?_); rfl) | (go_at_call 72; refine HC.out.mono ?_; clear HC; rintro _ w1 ⟨rfl, hk1⟩; have HK1 := hide hk1; clear hk1))
  have hno : w.heap.size ∉ O := fun hm => by have := HO.out _ hm; omega
  have hlt : w.heap.size < W.heap.size := by rw [HSz.out]; omega
  have HB1 : Hid (WB p W O w.heap.size 43 (vtL v (.slice uo un uc)) s (m + 7000) w1) := ⟨⟨O, HA.out.kept HK1.out (by simp), HK1.out.mono (by simp), fun k hk => .inl hk⟩, HB.out.kept HK1.out (by simp)⟩
  have c0 : w1.cell? ⟨w.heap.size, 0, none⟩ = some (.int .i64 13) := by rw [← HKc.out]; exact HB1.out.2.cell 0 rfl
  have cN := wb_step HB1.out hlt hno (fun O' _ _ h => dw_num p w1 O' _ (m + 6999) 13 (by decide) h)
  have HN := hide cN
  clear cN
  go_wp2_with fail
  refine HN.out.mono ?_
  clear HN
  rintro _ w2 ⟨rfl, hB⟩
  have HB2 := hide hB
  clear hB c0
  have c0 : w2.cell? ⟨w.heap.size, 0, none⟩ = some (.int .i64 13) := by rw [← HKc.out]; exact HB2.out.2.cell 0 rfl
  have cv : w2.cell? ⟨w.heap.size, 6, none⟩ = some (.int .i64 v.m) := HB2.out.2.cell 6 rfl
  have cN := wb_step HB2.out hlt hno (fun O' _ _ h => dw_num p w2 O' _ (m + 6998) v.m g_m h)
  have HN := hide cN
  clear cN
  go_wp2_with fail
  refine HN.out.mono ?_
  clear HN
  rintro _ w3 ⟨rfl, hB⟩
  have HB3 := hide hB
  clear hB c0 cv
  have c0 : w3.cell? ⟨w.heap.size, 0, none⟩ = some (.int .i64 13) := by rw [← HKc.out]; exact HB3.out.2.cell 0 rfl
  go_wp2_with fail
  go_end0
  obtain ⟨O1, hA1, hk1, hn1⟩ := HB3.out.1
  refine ⟨rfl, O1, ?_, (HK.out.mono (by simp)).trans hk1 (fun i hi => .inl hi), fun i hi => ?_⟩
  · have h2 := hA1.less (m' := m) (by omega)
    simp only [stepD_trans] at h2
    exact h2
  · rcases hn1 i hi with h1 | h1
    · exact .inl h1
    · exact .inr (by omega)

set_option maxHeartbeats 8000000 in
set_option maxRecDepth 100000 in
theorem dtold_14 (p : Nat) (w : World) (O : List Nat) (s : List Int × Int) (m : Nat) (v : Vt) (u : Value) (hx : VtHy O w v u) (hk : v.c = 14) (g_m : goodB v.m = true) (hch : mvB v = true) (hA : AtW p w O s (m + 7000)) :
    Calls Try.prog 45 #[.pointer (some ⟨p, 0, none⟩), vtV v u] w (DwP p w O (stepD s (encNum 14 ++ (encNum v.m))) m) := by
  obtain ⟨uo, un, uc, KK, rfl, hKD, hKK⟩ := hx.u
  have k1 : Kept [] w (w.alloc (.cells #[.int .i64 v.c, .int .i64 v.s, .int .i64 v.r, .string (str v.p), .int .u64 v.d, .slice uo un uc, .int .i64 v.m] 43)) := (Kept.refl _ _).alloc _
  obtain ⟨W, hW⟩ : ∃ W, W = w.alloc (.cells #[.int .i64 v.c, .int .i64 v.s, .int .i64 v.r, .string (str v.p), .int .u64 v.d, .slice uo un uc, .int .i64 v.m] 43) := ⟨_, rfl⟩
  rw [← hW] at k1
  have HW := hide hW
  have HB : Hid (Bx W w.heap.size 43 (vtL v (.slice uo un uc))) := by rw [hW]; exact Bx.new w _ (vtL v (.slice uo un uc))
  have HT : Hid (RowT Try.prog 43 (vtL v (.slice uo un uc)).length) := rowT_ver
  have HSz : Hid (W.heap.size = w.heap.size + 1) := by rw [hW]; show _ = _; simp
  have HO := hide hA.lt
  have HA := hide (hA.kept k1 (by simp))
  have HK := hide k1
  have HKD := hide (hKD.on (k1.mono (by simp)) (O' := O) (fun k hk => .inl hk))
  have HKK := hide hKK
  have cC : Calls Try.prog 72 #[.agg (vtL v (.slice uo un uc)).toArray] W fun e w' => e = .returned (.bool true) ∧ Kept [] W w' := by
    have h := mv_call W v _ (hx.ko.kept k1)
    rw [hch] at h
    exact h
  have HC := hide cC
  have HKc := hide hk
  clear hW k1 hA hx hch cC hKD hKK hk
  unfold vtV
  go_enter Try.func45, Try.ntmps45
  go_upto_region 1 with fail
  rw [← HW.out]
  go_upto_region 3 with (first | ((with_reducible refine wl_load_bx HB.out HT.out ?_ ?_); rfl) | (go_at_call 72; refine HC.out.mono ?_; clear HC; rintro _ w1 ⟨rfl, hk1⟩; have HK1 := hide hk1; clear hk1))
  have hno : w.heap.size ∉ O := fun hm => by have := HO.out _ hm; omega
  have hlt : w.heap.size < W.heap.size := by rw [HSz.out]; omega
  have HB1 : Hid (WB p W O w.heap.size 43 (vtL v (.slice uo un uc)) s (m + 7000) w1) := ⟨⟨O, HA.out.kept HK1.out (by simp), HK1.out.mono (by simp), fun k hk => .inl hk⟩, HB.out.kept HK1.out (by simp)⟩
  have c0 : w1.cell? ⟨w.heap.size, 0, none⟩ = some (.int .i64 14) := by rw [← HKc.out]; exact HB1.out.2.cell 0 rfl
  have cN := wb_step HB1.out hlt hno (fun O' _ _ h => dw_num p w1 O' _ (m + 6999) 14 (by decide) h)
  have HN := hide cN
  clear cN
  go_wp2_with fail
  refine HN.out.mono ?_
  clear HN
  rintro _ w2 ⟨rfl, hB⟩
  have HB2 := hide hB
  clear hB c0
  have c0 : w2.cell? ⟨w.heap.size, 0, none⟩ = some (.int .i64 14) := by rw [← HKc.out]; exact HB2.out.2.cell 0 rfl
  have cv : w2.cell? ⟨w.heap.size, 6, none⟩ = some (.int .i64 v.m) := HB2.out.2.cell 6 rfl
  have cN := wb_step HB2.out hlt hno (fun O' _ _ h => dw_num p w2 O' _ (m + 6998) v.m g_m h)
  have HN := hide cN
  clear cN
  go_wp2_with fail
  refine HN.out.mono ?_
  clear HN
  rintro _ w3 ⟨rfl, hB⟩
  have HB3 := hide hB
  clear hB c0 cv
  have c0 : w3.cell? ⟨w.heap.size, 0, none⟩ = some (.int .i64 14) := by rw [← HKc.out]; exact HB3.out.2.cell 0 rfl
  go_wp2_with fail
  go_end0
  obtain ⟨O1, hA1, hk1, hn1⟩ := HB3.out.1
  refine ⟨rfl, O1, ?_, (HK.out.mono (by simp)).trans hk1 (fun i hi => .inl hi), fun i hi => ?_⟩
  · have h2 := hA1.less (m' := m) (by omega)
    simp only [stepD_trans] at h2
    exact h2
  · rcases hn1 i hi with h1 | h1
    · exact .inl h1
    · exact .inr (by omega)

set_option maxHeartbeats 8000000 in
set_option maxRecDepth 100000 in
theorem dtold_0 (p : Nat) (w : World) (O : List Nat) (s : List Int × Int) (m : Nat) (v : Vt) (u : Value) (hx : VtHy O w v u) (hk : v.c = 0) (hch : mvB v = true) (hA : AtW p w O s (m + 7000)) :
    Calls Try.prog 45 #[.pointer (some ⟨p, 0, none⟩), vtV v u] w (DwP p w O (stepD s (encNum 0)) m) := by
  obtain ⟨uo, un, uc, KK, rfl, hKD, hKK⟩ := hx.u
  have k1 : Kept [] w (w.alloc (.cells #[.int .i64 v.c, .int .i64 v.s, .int .i64 v.r, .string (str v.p), .int .u64 v.d, .slice uo un uc, .int .i64 v.m] 43)) := (Kept.refl _ _).alloc _
  obtain ⟨W, hW⟩ : ∃ W, W = w.alloc (.cells #[.int .i64 v.c, .int .i64 v.s, .int .i64 v.r, .string (str v.p), .int .u64 v.d, .slice uo un uc, .int .i64 v.m] 43) := ⟨_, rfl⟩
  rw [← hW] at k1
  have HW := hide hW
  have HB : Hid (Bx W w.heap.size 43 (vtL v (.slice uo un uc))) := by rw [hW]; exact Bx.new w _ (vtL v (.slice uo un uc))
  have HT : Hid (RowT Try.prog 43 (vtL v (.slice uo un uc)).length) := rowT_ver
  have HSz : Hid (W.heap.size = w.heap.size + 1) := by rw [hW]; show _ = _; simp
  have HO := hide hA.lt
  have HA := hide (hA.kept k1 (by simp))
  have HK := hide k1
  have HKD := hide (hKD.on (k1.mono (by simp)) (O' := O) (fun k hk => .inl hk))
  have HKK := hide hKK
  have cC : Calls Try.prog 72 #[.agg (vtL v (.slice uo un uc)).toArray] W fun e w' => e = .returned (.bool true) ∧ Kept [] W w' := by
    have h := mv_call W v _ (hx.ko.kept k1)
    rw [hch] at h
    exact h
  have HC := hide cC
  have HKc := hide hk
  clear hW k1 hA hx hch cC hKD hKK hk
  unfold vtV
  go_enter Try.func45, Try.ntmps45
  go_upto_region 1 with fail
  rw [← HW.out]
  go_upto_region 3 with (first | ((with_reducible refine wl_load_bx HB.out HT.out ?_ ?_); rfl) | (go_at_call 72; refine HC.out.mono ?_; clear HC; rintro _ w1 ⟨rfl, hk1⟩; have HK1 := hide hk1; clear hk1))
  have hno : w.heap.size ∉ O := fun hm => by have := HO.out _ hm; omega
  have hlt : w.heap.size < W.heap.size := by rw [HSz.out]; omega
  have HB1 : Hid (WB p W O w.heap.size 43 (vtL v (.slice uo un uc)) s (m + 7000) w1) := ⟨⟨O, HA.out.kept HK1.out (by simp), HK1.out.mono (by simp), fun k hk => .inl hk⟩, HB.out.kept HK1.out (by simp)⟩
  have c0 : w1.cell? ⟨w.heap.size, 0, none⟩ = some (.int .i64 0) := by rw [← HKc.out]; exact HB1.out.2.cell 0 rfl
  have cN := wb_step HB1.out hlt hno (fun O' _ _ h => dw_num p w1 O' _ (m + 6999) 0 (by decide) h)
  have HN := hide cN
  clear cN
  go_wp2_with fail
  refine HN.out.mono ?_
  clear HN
  rintro _ w2 ⟨rfl, hB⟩
  have HB2 := hide hB
  clear hB c0
  have c0 : w2.cell? ⟨w.heap.size, 0, none⟩ = some (.int .i64 0) := by rw [← HKc.out]; exact HB2.out.2.cell 0 rfl
  go_wp2_with fail
  go_end0
  obtain ⟨O1, hA1, hk1, hn1⟩ := HB2.out.1
  refine ⟨rfl, O1, ?_, (HK.out.mono (by simp)).trans hk1 (fun i hi => .inl hi), fun i hi => ?_⟩
  · have h2 := hA1.less (m' := m) (by omega)
    exact h2
  · rcases hn1 i hi with h1 | h1
    · exact .inl h1
    · exact .inr (by omega)

set_option maxHeartbeats 8000000 in
set_option maxRecDepth 100000 in
theorem dtold_5 (p : Nat) (w : World) (O : List Nat) (s : List Int × Int) (m : Nat) (v : Vt) (u : Value) (hx : VtHy O w v u) (hk : v.c = 5) (hch : mvB v = true) (hA : AtW p w O s (m + 7000)) :
    Calls Try.prog 45 #[.pointer (some ⟨p, 0, none⟩), vtV v u] w (DwP p w O (stepD s (encNum 5)) m) := by
  obtain ⟨uo, un, uc, KK, rfl, hKD, hKK⟩ := hx.u
  have k1 : Kept [] w (w.alloc (.cells #[.int .i64 v.c, .int .i64 v.s, .int .i64 v.r, .string (str v.p), .int .u64 v.d, .slice uo un uc, .int .i64 v.m] 43)) := (Kept.refl _ _).alloc _
  obtain ⟨W, hW⟩ : ∃ W, W = w.alloc (.cells #[.int .i64 v.c, .int .i64 v.s, .int .i64 v.r, .string (str v.p), .int .u64 v.d, .slice uo un uc, .int .i64 v.m] 43) := ⟨_, rfl⟩
  rw [← hW] at k1
  have HW := hide hW
  have HB : Hid (Bx W w.heap.size 43 (vtL v (.slice uo un uc))) := by rw [hW]; exact Bx.new w _ (vtL v (.slice uo un uc))
  have HT : Hid (RowT Try.prog 43 (vtL v (.slice uo un uc)).length) := rowT_ver
  have HSz : Hid (W.heap.size = w.heap.size + 1) := by rw [hW]; show _ = _; simp
  have HO := hide hA.lt
  have HA := hide (hA.kept k1 (by simp))
  have HK := hide k1
  have HKD := hide (hKD.on (k1.mono (by simp)) (O' := O) (fun k hk => .inl hk))
  have HKK := hide hKK
  have cC : Calls Try.prog 72 #[.agg (vtL v (.slice uo un uc)).toArray] W fun e w' => e = .returned (.bool true) ∧ Kept [] W w' := by
    have h := mv_call W v _ (hx.ko.kept k1)
    rw [hch] at h
    exact h
  have HC := hide cC
  have HKc := hide hk
  clear hW k1 hA hx hch cC hKD hKK hk
  unfold vtV
  go_enter Try.func45, Try.ntmps45
  go_upto_region 1 with fail
  rw [← HW.out]
  go_upto_region 3 with (first | ((with_reducible refine wl_load_bx HB.out HT.out ?_ ?_); rfl) | (go_at_call 72; refine HC.out.mono ?_; clear HC; rintro _ w1 ⟨rfl, hk1⟩; have HK1 := hide hk1; clear hk1))
  have hno : w.heap.size ∉ O := fun hm => by have := HO.out _ hm; omega
  have hlt : w.heap.size < W.heap.size := by rw [HSz.out]; omega
  have HB1 : Hid (WB p W O w.heap.size 43 (vtL v (.slice uo un uc)) s (m + 7000) w1) := ⟨⟨O, HA.out.kept HK1.out (by simp), HK1.out.mono (by simp), fun k hk => .inl hk⟩, HB.out.kept HK1.out (by simp)⟩
  have c0 : w1.cell? ⟨w.heap.size, 0, none⟩ = some (.int .i64 5) := by rw [← HKc.out]; exact HB1.out.2.cell 0 rfl
  have cN := wb_step HB1.out hlt hno (fun O' _ _ h => dw_num p w1 O' _ (m + 6999) 5 (by decide) h)
  have HN := hide cN
  clear cN
  go_wp2_with fail
  refine HN.out.mono ?_
  clear HN
  rintro _ w2 ⟨rfl, hB⟩
  have HB2 := hide hB
  clear hB c0
  have c0 : w2.cell? ⟨w.heap.size, 0, none⟩ = some (.int .i64 5) := by rw [← HKc.out]; exact HB2.out.2.cell 0 rfl
  go_wp2_with fail
  go_end0
  obtain ⟨O1, hA1, hk1, hn1⟩ := HB2.out.1
  refine ⟨rfl, O1, ?_, (HK.out.mono (by simp)).trans hk1 (fun i hi => .inl hi), fun i hi => ?_⟩
  · have h2 := hA1.less (m' := m) (by omega)
    exact h2
  · rcases hn1 i hi with h1 | h1
    · exact .inl h1
    · exact .inr (by omega)

set_option maxHeartbeats 8000000 in
set_option maxRecDepth 100000 in
theorem dtold_6 (p : Nat) (w : World) (O : List Nat) (s : List Int × Int) (m : Nat) (v : Vt) (u : Value) (hx : VtHy O w v u) (hk : v.c = 6) (hch : mvB v = true) (hA : AtW p w O s (m + 7000)) :
    Calls Try.prog 45 #[.pointer (some ⟨p, 0, none⟩), vtV v u] w (DwP p w O (stepD s (encNum 6)) m) := by
  obtain ⟨uo, un, uc, KK, rfl, hKD, hKK⟩ := hx.u
  have k1 : Kept [] w (w.alloc (.cells #[.int .i64 v.c, .int .i64 v.s, .int .i64 v.r, .string (str v.p), .int .u64 v.d, .slice uo un uc, .int .i64 v.m] 43)) := (Kept.refl _ _).alloc _
  obtain ⟨W, hW⟩ : ∃ W, W = w.alloc (.cells #[.int .i64 v.c, .int .i64 v.s, .int .i64 v.r, .string (str v.p), .int .u64 v.d, .slice uo un uc, .int .i64 v.m] 43) := ⟨_, rfl⟩
  rw [← hW] at k1
  have HW := hide hW
  have HB : Hid (Bx W w.heap.size 43 (vtL v (.slice uo un uc))) := by rw [hW]; exact Bx.new w _ (vtL v (.slice uo un uc))
  have HT : Hid (RowT Try.prog 43 (vtL v (.slice uo un uc)).length) := rowT_ver
  have HSz : Hid (W.heap.size = w.heap.size + 1) := by rw [hW]; show _ = _; simp
  have HO := hide hA.lt
  have HA := hide (hA.kept k1 (by simp))
  have HK := hide k1
  have HKD := hide (hKD.on (k1.mono (by simp)) (O' := O) (fun k hk => .inl hk))
  have HKK := hide hKK
  have cC : Calls Try.prog 72 #[.agg (vtL v (.slice uo un uc)).toArray] W fun e w' => e = .returned (.bool true) ∧ Kept [] W w' := by
    have h := mv_call W v _ (hx.ko.kept k1)
    rw [hch] at h
    exact h
  have HC := hide cC
  have HKc := hide hk
  clear hW k1 hA hx hch cC hKD hKK hk
  unfold vtV
  go_enter Try.func45, Try.ntmps45
  go_upto_region 1 with fail
  rw [← HW.out]
  go_upto_region 3 with (first | ((with_reducible refine wl_load_bx HB.out HT.out ?_ ?_); rfl) | (go_at_call 72; refine HC.out.mono ?_; clear HC; rintro _ w1 ⟨rfl, hk1⟩; have HK1 := hide hk1; clear hk1))
  have hno : w.heap.size ∉ O := fun hm => by have := HO.out _ hm; omega
  have hlt : w.heap.size < W.heap.size := by rw [HSz.out]; omega
  have HB1 : Hid (WB p W O w.heap.size 43 (vtL v (.slice uo un uc)) s (m + 7000) w1) := ⟨⟨O, HA.out.kept HK1.out (by simp), HK1.out.mono (by simp), fun k hk => .inl hk⟩, HB.out.kept HK1.out (by simp)⟩
  have c0 : w1.cell? ⟨w.heap.size, 0, none⟩ = some (.int .i64 6) := by rw [← HKc.out]; exact HB1.out.2.cell 0 rfl
  have cN := wb_step HB1.out hlt hno (fun O' _ _ h => dw_num p w1 O' _ (m + 6999) 6 (by decide) h)
  have HN := hide cN
  clear cN
  go_wp2_with fail
  refine HN.out.mono ?_
  clear HN
  rintro _ w2 ⟨rfl, hB⟩
  have HB2 := hide hB
  clear hB c0
  have c0 : w2.cell? ⟨w.heap.size, 0, none⟩ = some (.int .i64 6) := by rw [← HKc.out]; exact HB2.out.2.cell 0 rfl
  go_wp2_with fail
  go_end0
  obtain ⟨O1, hA1, hk1, hn1⟩ := HB2.out.1
  refine ⟨rfl, O1, ?_, (HK.out.mono (by simp)).trans hk1 (fun i hi => .inl hi), fun i hi => ?_⟩
  · have h2 := hA1.less (m' := m) (by omega)
    exact h2
  · rcases hn1 i hi with h1 | h1
    · exact .inl h1
    · exact .inr (by omega)

set_option maxHeartbeats 8000000 in
set_option maxRecDepth 100000 in
theorem dtold_7 (p : Nat) (w : World) (O : List Nat) (s : List Int × Int) (m : Nat) (v : Vt) (u : Value) (hx : VtHy O w v u) (hk : v.c = 7) (hch : mvB v = true) (hA : AtW p w O s (m + 7000)) :
    Calls Try.prog 45 #[.pointer (some ⟨p, 0, none⟩), vtV v u] w (DwP p w O (stepD s (encNum 7)) m) := by
  obtain ⟨uo, un, uc, KK, rfl, hKD, hKK⟩ := hx.u
  have k1 : Kept [] w (w.alloc (.cells #[.int .i64 v.c, .int .i64 v.s, .int .i64 v.r, .string (str v.p), .int .u64 v.d, .slice uo un uc, .int .i64 v.m] 43)) := (Kept.refl _ _).alloc _
  obtain ⟨W, hW⟩ : ∃ W, W = w.alloc (.cells #[.int .i64 v.c, .int .i64 v.s, .int .i64 v.r, .string (str v.p), .int .u64 v.d, .slice uo un uc, .int .i64 v.m] 43) := ⟨_, rfl⟩
  rw [← hW] at k1
  have HW := hide hW
  have HB : Hid (Bx W w.heap.size 43 (vtL v (.slice uo un uc))) := by rw [hW]; exact Bx.new w _ (vtL v (.slice uo un uc))
  have HT : Hid (RowT Try.prog 43 (vtL v (.slice uo un uc)).length) := rowT_ver
  have HSz : Hid (W.heap.size = w.heap.size + 1) := by rw [hW]; show _ = _; simp
  have HO := hide hA.lt
  have HA := hide (hA.kept k1 (by simp))
  have HK := hide k1
  have HKD := hide (hKD.on (k1.mono (by simp)) (O' := O) (fun k hk => .inl hk))
  have HKK := hide hKK
  have cC : Calls Try.prog 72 #[.agg (vtL v (.slice uo un uc)).toArray] W fun e w' => e = .returned (.bool true) ∧ Kept [] W w' := by
    have h := mv_call W v _ (hx.ko.kept k1)
    rw [hch] at h
    exact h
  have HC := hide cC
  have HKc := hide hk
  clear hW k1 hA hx hch cC hKD hKK hk
  unfold vtV
  go_enter Try.func45, Try.ntmps45
  go_upto_region 1 with fail
  rw [← HW.out]
  go_upto_region 3 with (first | ((with_reducible refine wl_load_bx HB.out HT.out ?_ ?_); rfl) | (go_at_call 72; refine HC.out.mono ?_; clear HC; rintro _ w1 ⟨rfl, hk1⟩; have HK1 := hide hk1; clear hk1))
  have hno : w.heap.size ∉ O := fun hm => by have := HO.out _ hm; omega
  have hlt : w.heap.size < W.heap.size := by rw [HSz.out]; omega
  have HB1 : Hid (WB p W O w.heap.size 43 (vtL v (.slice uo un uc)) s (m + 7000) w1) := ⟨⟨O, HA.out.kept HK1.out (by simp), HK1.out.mono (by simp), fun k hk => .inl hk⟩, HB.out.kept HK1.out (by simp)⟩
  have c0 : w1.cell? ⟨w.heap.size, 0, none⟩ = some (.int .i64 7) := by rw [← HKc.out]; exact HB1.out.2.cell 0 rfl
  have cN := wb_step HB1.out hlt hno (fun O' _ _ h => dw_num p w1 O' _ (m + 6999) 7 (by decide) h)
  have HN := hide cN
  clear cN
  go_wp2_with fail
  refine HN.out.mono ?_
  clear HN
  rintro _ w2 ⟨rfl, hB⟩
  have HB2 := hide hB
  clear hB c0
  have c0 : w2.cell? ⟨w.heap.size, 0, none⟩ = some (.int .i64 7) := by rw [← HKc.out]; exact HB2.out.2.cell 0 rfl
  go_wp2_with fail
  go_end0
  obtain ⟨O1, hA1, hk1, hn1⟩ := HB2.out.1
  refine ⟨rfl, O1, ?_, (HK.out.mono (by simp)).trans hk1 (fun i hi => .inl hi), fun i hi => ?_⟩
  · have h2 := hA1.less (m' := m) (by omega)
    exact h2
  · rcases hn1 i hi with h1 | h1
    · exact .inl h1
    · exact .inr (by omega)

set_option maxHeartbeats 8000000 in
set_option maxRecDepth 100000 in
theorem dtold_no (p : Nat) (w : World) (O : List Nat) (s : List Int × Int) (m : Nat) (v : Vt) (u : Value) (hx : VtHy O w v u) (hch : mvB v = false) (hA : AtW p w O s (m + 7000)) :
    Calls Try.prog 45 #[.pointer (some ⟨p, 0, none⟩), vtV v u] w (DwP p w O (refD s) m) := by
  obtain ⟨uo, un, uc, KK, rfl, hKD, hKK⟩ := hx.u
  have k1 : Kept [] w (w.alloc (.cells #[.int .i64 v.c, .int .i64 v.s, .int .i64 v.r, .string (str v.p), .int .u64 v.d, .slice uo un uc, .int .i64 v.m] 43)) := (Kept.refl _ _).alloc _
  obtain ⟨W, hW⟩ : ∃ W, W = w.alloc (.cells #[.int .i64 v.c, .int .i64 v.s, .int .i64 v.r, .string (str v.p), .int .u64 v.d, .slice uo un uc, .int .i64 v.m] 43) := ⟨_, rfl⟩
  rw [← hW] at k1
  have HW := hide hW
  have HB : Hid (Bx W w.heap.size 43 (vtL v (.slice uo un uc))) := by rw [hW]; exact Bx.new w _ (vtL v (.slice uo un uc))
  have HT : Hid (RowT Try.prog 43 (vtL v (.slice uo un uc)).length) := rowT_ver
  have HSz : Hid (W.heap.size = w.heap.size + 1) := by rw [hW]; show _ = _; simp
  have HO := hide hA.lt
  have HA := hide (hA.kept k1 (by simp))
  have HK := hide k1
  have HKD := hide (hKD.on (k1.mono (by simp)) (O' := O) (fun k hk => .inl hk))
  have HKK := hide hKK
  have cC : Calls Try.prog 72 #[.agg (vtL v (.slice uo un uc)).toArray] W fun e w' => e = .returned (.bool false) ∧ Kept [] W w' := by
    have h := mv_call W v _ (hx.ko.kept k1)
    rw [hch] at h
    exact h
  have HC := hide cC
  clear hW k1 hA hx hch cC hKD hKK
  unfold vtV
  go_enter Try.func45, Try.ntmps45
  go_upto_region 1 with fail
  rw [← HW.out]
  go_upto_region 2 with (first | ((with_reducible refine wl_load_bx HB.out HT.out ?_ ?_); rfl) | (go_at_call 72; refine HC.out.mono ?_; clear HC; rintro _ w1 ⟨rfl, hk1⟩; have HK1 := hide hk1; clear hk1))
  have HN := hide (dw_refuse p w1 O s (m + 7000) (HA.out.kept HK1.out (by simp)))
  clear HKD HKK
  go_wp2_with fail
  refine HN.out.mono ?_
  clear HN
  rintro _ w2 ⟨rfl, hW2⟩
  have HW2 := hide hW2
  clear hW2
  go_wp2_with fail
  go_end0
  obtain ⟨O1, hA1, hk1, hn1⟩ := HW2.out
  refine ⟨rfl, O1, hA1.less (by omega), (((HK.out.trans HK1.out (by simp)).mono (by simp)).trans hk1 (fun i hi => .inl hi)), fun i hi => ?_⟩
  rcases hn1 i hi with h1 | h1
  · exact .inl h1
  · exact .inr (by have := HK.out.size; have := HK1.out.size; omega)

/-- So far in the loop. -/
def TlI (p : Nat) (W : World) (O : List Nat) (b : Nat) (cs : List Value) (s : List Int × Int) (m n : Nat) (L : List Com) (iv : Value) (wr : World) : Prop :=
  ∃ i : Nat, iv = .int .i64 (i : Int) ∧ i ≤ n ∧ Hid (WB p W O b 43 cs (stepD s (encNum 11 ++ (encNum n ++ (L.take i).flatMap bK))) (m + 6998 - 203 * i) wr)

set_option maxHeartbeats 8000000 in
set_option maxRecDepth 100000 in
theorem dtold_11 (p : Nat) (w : World) (O : List Nat) (s : List Int × Int) (m : Nat) (v : Vt) (u : Value) (hx : VtHy O w v u) (hk : v.c = 11) (hks : okComs v.k) (hch : mvB v = true) (hA : AtW p w O s (m + 7000)) :
    Calls Try.prog 45 #[.pointer (some ⟨p, 0, none⟩), vtV v u] w (DwP p w O (stepD s (encNum 11 ++ bKs v.k)) m) := by
  obtain ⟨uo, un, uc, KK, rfl, hKD, hKK⟩ := hx.u
  have k1 : Kept [] w (w.alloc (.cells #[.int .i64 v.c, .int .i64 v.s, .int .i64 v.r, .string (str v.p), .int .u64 v.d, .slice uo un uc, .int .i64 v.m] 43)) := (Kept.refl _ _).alloc _
  obtain ⟨W, hW⟩ : ∃ W, W = w.alloc (.cells #[.int .i64 v.c, .int .i64 v.s, .int .i64 v.r, .string (str v.p), .int .u64 v.d, .slice uo un uc, .int .i64 v.m] 43) := ⟨_, rfl⟩
  rw [← hW] at k1
  have HW := hide hW
  have HB : Hid (Bx W w.heap.size 43 (vtL v (.slice uo un uc))) := by rw [hW]; exact Bx.new w _ (vtL v (.slice uo un uc))
  have HT : Hid (RowT Try.prog 43 (vtL v (.slice uo un uc)).length) := rowT_ver
  have HSz : Hid (W.heap.size = w.heap.size + 1) := by rw [hW]; show _ = _; simp
  have HO := hide hA.lt
  have HA := hide (hA.kept k1 (by simp))
  have HK := hide k1
  have HKD := hide (hKD.on (k1.mono (by simp)) (O' := O) (fun k hk => .inl hk))
  have HKK := hide hKK
  have cC : Calls Try.prog 72 #[.agg (vtL v (.slice uo un uc)).toArray] W fun e w' => e = .returned (.bool true) ∧ Kept [] W w' := by
    have h := mv_call W v _ (hx.ko.kept k1)
    rw [hch] at h
    exact h
  have HC := hide cC
  have HKc := hide hk
  have HOK := hide hks
  have h32 := hks.1
  have hlk : v.k.length = un := by rw [← hKK, List.length_map, hKD.1]
  have hum := hKD.2.2.1
  have huc := hKD.2.1
  unfold maxLen at hum
  have HBB : Hid (bKs v.k = encNum un ++ v.k.flatMap bK) := by show bKs v.k = _; unfold bKs bL; rw [if_pos h32, hlk]
  clear hW k1 hA hx hch cC hKD hKK hk hks
  unfold vtV
  go_enter Try.func45, Try.ntmps45
  go_upto_region 1 with fail
  rw [← HW.out]
  go_upto_region 3 with (first | ((with_reducible refine wl_load_bx HB.out HT.out ?_ ?_); rfl) | (go_at_call 72; refine HC.out.mono ?_; clear HC; rintro _ w1 ⟨rfl, hk1⟩; have HK1 := hide hk1; clear hk1))
  have hno : w.heap.size ∉ O := fun hm => by have := HO.out _ hm; omega
  have hlt : w.heap.size < W.heap.size := by rw [HSz.out]; omega
  have HB1 : Hid (WB p W O w.heap.size 43 (vtL v (.slice uo un uc)) s (m + 7000) w1) := ⟨⟨O, HA.out.kept HK1.out (by simp), HK1.out.mono (by simp), fun k hk => .inl hk⟩, HB.out.kept HK1.out (by simp)⟩
  have c0 : w1.cell? ⟨w.heap.size, 0, none⟩ = some (.int .i64 11) := by rw [← HKc.out]; exact HB1.out.2.cell 0 rfl
  have cN := wb_step HB1.out hlt hno (fun O' _ _ h => dw_num p w1 O' _ (m + 6999) 11 (by decide) h)
  have HN := hide cN
  clear cN
  go_wp2_with fail
  refine HN.out.mono ?_
  clear HN
  rintro _ w2 ⟨rfl, hB⟩
  have HB2 := hide hB
  clear hB c0
  have c0 : w2.cell? ⟨w.heap.size, 0, none⟩ = some (.int .i64 11) := by rw [← HKc.out]; exact HB2.out.2.cell 0 rfl
  have cv : w2.cell? ⟨w.heap.size, 5, none⟩ = some (.slice uo un uc) := HB2.out.2.cell 5 rfl
  have cN := wb_step HB2.out hlt hno (fun O' _ _ h => dw_num p w2 O' _ (m + 6998) (un : Int) ((good_iff _).2 (by omega)) h)
  have HN := hide cN
  clear cN
  go_wp2_with fail
  refine HN.out.mono ?_
  clear HN
  rintro _ w3 ⟨rfl, hB⟩
  have HB3 : Hid (WB p W O w.heap.size 43 (vtL v (.slice uo un uc)) (stepD s (encNum 11 ++ (encNum un ++ (v.k.take 0).flatMap bK))) (m + 6998 - 203 * 0) w3) := by
    show WB _ _ _ _ _ _ _ _ _
    rw [stepD_trans] at hB
    simpa using hB
  clear hB c0 cv
  go_wp2_with fail
  go_loopw [4] (fun iv wr => TlI p W O w.heap.size (vtL v (.slice uo un uc)) s m un v.k iv wr) (fun iv _ => un - (intOf iv).toNat)
  case atStart => exact ⟨0, rfl, Nat.zero_le _, HB3⟩
  case round =>
    obtain ⟨i, rfl, hi, HR⟩ := hrel
    have cr5 : wr.cell? ⟨w.heap.size, 5, none⟩ = some (.slice uo un uc) := HR.out.2.cell 5 rfl
    by_cases hlt2 : i < un
    · have hlt2' : (i : Int) < un := by omega
      have hic : i ≤ uc := by omega
      have hiK : i < KK.length := by rw [HKD.out.1]; exact hlt2
      have hiL : i < v.k.length := by omega
      obtain ⟨g, o, rfl, _⟩ := HKD.out.2.2.2.2.1 i hiK
      have HG : Hid (∀ (wq : World) (sq : List Int × Int) (mq : Nat), WB p W O w.heap.size 43 (vtL v (.slice (some ⟨g, o, none⟩) un uc)) sq mq wq → CoAt wq g (o + i * 4) KK[i]) := fun wq sq mq hq => by
        obtain ⟨⟨O1, _, hk1, hn1⟩, _⟩ := hq
        obtain ⟨b', o', e', h'⟩ := (HKD.out.on hk1 hn1).2.2.2.2.1 i hiK
        cases e'
        exact h'
      have HH : Hid (∀ (wq : World) (O1 : List Nat), Kept O W wq → (∀ k ∈ O1, k ∈ O ∨ W.heap.size ≤ k) → ChD O1 wq KK[i].2 KK[i].1.c) := fun wq O1 hk1 hn1 => (HKD.out.on hk1 hn1).2.2.2.2.2.2 _ (List.getElem_mem hiK)
      have hyc : v.k[i] = KK[i].1 := by
        have h1 : (KK.map Prod.fst)[i]'(by simpa using hiK) = v.k[i] := by simp only [HKK.out]
        rw [← h1]; simp
      have hxo := HOK.out.2 _ (List.getElem_mem hiL)
      have HF := hide (flat_snoc bK v.k i hiL)
      rw [hyc] at hxo HF
      obtain ⟨mo, mm, mc, e1, _⟩ := HKD.out.2.2.2.2.2.2 _ (List.getElem_mem hiK)
      generalize KK[i] = y at *
      obtain ⟨y1, y2⟩ := y
      simp only at e1 hxo HF HH
      subst e1
      obtain ⟨ho1, ho2, ho3, ho4⟩ := hxo
      have e3 : m + 6998 - 203 * i = m + 6998 - 203 * (i + 1) + 200 + 3 := by omega
      have hR := HR.out
      rw [e3] at hR
      have HR0 := hide hR
      clear hR e3 hyc
      obtain ⟨x0, _, _, _⟩ := HG.out _ _ _ HR0.out
      have cN := wb_step HR0.out hlt hno (fun O' _ _ h => dw_num p wr O' _ (m + 6998 - 203 * (i + 1) + 200 + 2) y1.r ho1 h)
      have HN := hide cN
      clear cN
      go_upto_region 26 with (go_at_call 59; refine HN.out.mono ?_; clear HN; rintro _ w4 ⟨rfl, hB⟩; have HB4 := hide hB; clear hB)
      clear x0 cr5
      have cr5 : w4.cell? ⟨w.heap.size, 5, none⟩ = some (.slice (some ⟨g, o, none⟩) un uc) := HB4.out.2.cell 5 rfl
      obtain ⟨_, x1, _, _⟩ := HG.out _ _ _ HB4.out
      have cN := wb_step HB4.out hlt hno (fun O' _ _ h => dw_num p w4 O' _ (m + 6998 - 203 * (i + 1) + 200 + 1) y1.b ho2 h)
      have HN := hide cN
      clear cN
      go_upto_region 27 with (go_at_call 59; refine HN.out.mono ?_; clear HN; rintro _ w5 ⟨rfl, hB⟩; have HB5 := hide hB; clear hB)
      clear x1 cr5
      have cr5 : w5.cell? ⟨w.heap.size, 5, none⟩ = some (.slice (some ⟨g, o, none⟩) un uc) := HB5.out.2.cell 5 rfl
      obtain ⟨_, _, x2, _⟩ := HG.out _ _ _ HB5.out
      have cN := wb_step HB5.out hlt hno (fun O' _ _ h => dw_text p w5 O' _ (m + 6998 - 203 * (i + 1) + 200) y1.n ho3 h)
      have HN := hide cN
      clear cN
      go_upto_region 28 with (go_at_call 60; refine HN.out.mono ?_; clear HN; rintro _ w6 ⟨rfl, hB⟩; have HB6 := hide hB; clear hB)
      clear x2 cr5
      have cr5 : w6.cell? ⟨w.heap.size, 5, none⟩ = some (.slice (some ⟨g, o, none⟩) un uc) := HB6.out.2.cell 5 rfl
      obtain ⟨_, _, _, x3⟩ := HG.out _ _ _ HB6.out
      have cN := wb_step HB6.out hlt hno (fun O' hn hk h => by
        obtain ⟨mo', n', c', e', hS', _, hd'⟩ := HH.out w6 O' hk hn
        cases e'
        exact putC_call p w6 O' _ (m + 6998 - 203 * (i + 1)) mo mm mc y1.c hS' (fun h0 k hk => (hd' h0 k hk).2) ho4 h)
      have HN := hide cN
      have HFin : Hid (∀ wq, WB p W O w.heap.size 43 (vtL v (.slice (some ⟨g, o, none⟩) un uc)) (stepD (stepD (stepD (stepD (stepD s (encNum 11 ++ (encNum un ++ (v.k.take i).flatMap bK))) (encNum y1.r)) (encNum y1.b)) (bT y1.n)) (bCs y1.c)) (m + 6998 - 203 * (i + 1)) wq → WB p W O w.heap.size 43 (vtL v (.slice (some ⟨g, o, none⟩) un uc)) (stepD s (encNum 11 ++ (encNum un ++ (v.k.take (i + 1)).flatMap bK))) (m + 6998 - 203 * (i + 1)) wq) := fun wq hq => by
        rw [stepD_trans, stepD_trans, stepD_trans, stepD_trans] at hq
        have e : bK y1 = encNum y1.r ++ encNum y1.b ++ bT y1.n ++ bCs y1.c := rfl
        rw [HF.out, e]
        simpa [List.append_assoc] using hq
      clear cN
      go_wp2_with (go_at_call 61; refine HN.out.mono ?_; clear HN; rintro _ w7 ⟨rfl, hB⟩; have HB7 := hide (HFin.out _ hB); clear hB)
      go_roundw
      case rel => exact ⟨i + 1, by go_num, by omega, HB7⟩
      case measure => simp [intOf]; omega
    · have hlt2' : ¬ (i : Int) < un := by omega
      go_wp2_with fail
      go_end0
      obtain ⟨O1, hA1, hk1, hn1⟩ := HR.out.1
      refine ⟨rfl, O1, ?_, (HK.out.mono (by simp)).trans hk1 (fun i hi => .inl hi), fun i hi => ?_⟩
      · rw [List.take_of_length_le (by omega), ← HBB.out] at hA1
        exact hA1.less (by omega)
      · rcases hn1 i hi with h1 | h1
        · exact .inl h1
        · exact .inr (by omega)

theorem dtold_call (p : Nat) (w : World) (O : List Nat) (s : List Int × Int) (m : Nat) (v : Vt) (u : Value) (hx : VtHy O w v u) (hu : U64v v) (hA : AtW p w O s (m + 7000)) :
    Calls Try.prog 45 #[.pointer (some ⟨p, 0, none⟩), vtV v u] w (DwP p w O (toldD s v) m) := by
  unfold toldD
  by_cases hch : mvB v = true
  rotate_left
  · rw [if_neg hch]
    exact dtold_no p w O s m v u hx (by simpa using hch) hA
  rw [if_pos hch]
  have hok := (mv_ok v hu).1 hch
  rw [ok_bytesV hok]
  obtain ⟨⟨hk0, hk14⟩, hf⟩ := hok
  have hk0' := ((good_iff _).1 hk0).1
  unfold okG at hf
  unfold bG
  by_cases h1 : v.c = 1
  · rw [if_pos h1] at hf ⊢; rw [h1]; exact dtold_1 p w O s m v u hx h1 hf.1 hch hA
  rw [if_neg h1] at hf ⊢
  by_cases h2 : v.c = 2 ∨ v.c = 4 ∨ v.c = 8
  · rw [if_pos h2] at hf ⊢
    rcases h2 with h2 | h2 | h2
    · rw [h2]; exact dtold_2 p w O s m v u hx h2 hf.1 hch hA
    · rw [h2]; exact dtold_4 p w O s m v u hx h2 hf.1 hch hA
    · rw [h2]; exact dtold_8 p w O s m v u hx h2 hf.1 hch hA
  rw [if_neg h2] at hf ⊢
  by_cases h3 : v.c = 3
  · rw [if_pos h3] at hf ⊢; rw [h3]; exact dtold_3 p w O s m v u hx h3 hf.1.1 hf.1.2 hch hA
  rw [if_neg h3] at hf ⊢
  by_cases h9 : v.c = 9
  · rw [if_pos h9] at hf ⊢; rw [h9]; exact dtold_9 p w O s m v u hx h9 hf.1.1 hf.1.2.2 hch hA
  rw [if_neg h9] at hf ⊢
  by_cases h10 : v.c = 10
  · rw [if_pos h10] at hf ⊢; rw [h10]; exact dtold_10 p w O s m v u hx h10 hf.1 hch hA
  rw [if_neg h10] at hf ⊢
  by_cases h11 : v.c = 11
  · rw [if_pos h11] at hf ⊢; rw [h11]; exact dtold_11 p w O s m v u hx h11 hf.1 hch hA
  rw [if_neg h11] at hf ⊢
  by_cases h12 : v.c = 12 ∨ v.c = 13 ∨ v.c = 14
  · rw [if_pos h12] at hf ⊢
    rcases h12 with h2 | h2 | h2
    · rw [h2]; exact dtold_12 p w O s m v u hx h2 hf.1 hch hA
    · rw [h2]; exact dtold_13 p w O s m v u hx h2 hf.1 hch hA
    · rw [h2]; exact dtold_14 p w O s m v u hx h2 hf.1 hch hA
  rw [if_neg h12, List.append_nil]
  have hor : v.c = 0 ∨ v.c = 5 ∨ v.c = 6 ∨ v.c = 7 := by omega
  rcases hor with h | h | h | h
  · rw [h]; exact dtold_0 p w O s m v u hx h hch hA
  · rw [h]; exact dtold_5 p w O s m v u hx h hch hA
  · rw [h]; exact dtold_6 p w O s m v u hx h hch hA
  · rw [h]; exact dtold_7 p w O s m v u hx h hch hA

/-- What the document's EncodeVerdict answers. -/
def encVD (v : Vt) : List Int × Int := if mvB v = true then (bV v, 0) else ([], 1)

theorem rwOut_encV (v : Vt) : rwOut (toldD ([], 0) v).2 (toldD ([], 0) v).1 = (encVD v).1 ∧ (toldD ([], 0) v).2 = (encVD v).2 := by
  unfold toldD encVD rwOut stepD refD
  by_cases h : mvB v = true
  · simp [h]
  · simp [h]

theorem atW_newV (w : World) : AtW w.heap.size (w.alloc (.cells #[.slice none 0 0, .int .i64 0] 64)) [w.heap.size] ([], 0) 10000 :=
  ⟨none, rfl, ⟨.slice none 0 0, heap_alloc_new w _, ⟨by rfl, .inl ⟨rfl, rfl⟩⟩, rfl, by simp⟩, by simp⟩

set_option maxHeartbeats 4000000 in
theorem dEncV_call (w : World) (v : Vt) (u : Value) (hx : VtHy [] w v u) (hu : U64v v) :
    Calls Try.prog 24 #[vtV v u] w (EncD w (encVD v)) := by
  obtain ⟨uo, un, uc, KK, rfl, _, _⟩ := hx.u
  have k1 : Kept [] w (w.alloc (.cells #[.int .i64 v.c, .int .i64 v.s, .int .i64 v.r, .string (str v.p), .int .u64 v.d, .slice uo un uc, .int .i64 v.m] 43)) := (Kept.refl _ _).alloc _
  obtain ⟨W, hW⟩ : ∃ W, W = w.alloc (.cells #[.int .i64 v.c, .int .i64 v.s, .int .i64 v.r, .string (str v.p), .int .u64 v.d, .slice uo un uc, .int .i64 v.m] 43) := ⟨_, rfl⟩
  rw [← hW] at k1
  have HW := hide hW
  have hB : Bx W w.heap.size 43 (vtL v (.slice uo un uc)) := by rw [hW]; exact Bx.new w _ (vtL v (.slice uo un uc))
  have HT : Hid (RowT Try.prog 43 (vtL v (.slice uo un uc)).length) := rowT_ver
  have hsz := k1.size
  have k2 : Kept [] W (W.alloc (.cells #[.slice none 0 0, .int .i64 0] 64)) := (Kept.refl _ _).alloc _
  have cP := hide (dtold_call W.heap.size _ [W.heap.size] ([], 0) 2000 v (.slice uo un uc) (hx.on (k1.trans k2 (by simp)) (fun k hk => .inr (by simp at hk; omega))) hu ((atW_newV W).less (by omega)))
  have HB := hide (hB.kept k2 (by simp))
  have HK := hide (k1.trans k2 (by simp))
  have HR := hide (rwOut_encV v)
  clear hW k1 k2 hx hu hB
  unfold vtV at cP ⊢
  go_enter Try.func24, Try.ntmps24
  go_upto_region 1 with fail
  rw [← HW.out]
  go_wp2_with ((with_reducible refine wl_load_bx HB.out HT.out ?_ ?_); rfl)
  refine cP.out.mono ?_
  clear cP
  rintro _ w2 ⟨rfl, hW2⟩
  obtain ⟨O2, ⟨g2, e2, hw2, hl2⟩, hk2, hn2⟩ := hW2
  have hk02 : Kept [] w w2 := HK.out.trans hk2 (by intro i hi; simp at hi; subst hi; right; omega)
  have HK2 := hide hk02
  have HW2 := hide hw2
  clear hw2 hk2 hn2 e2 hk02
  go_wp2_with fail
  refine (rwdone_call _ _ g2 _ _ HW2.out (by omega)).mono ?_
  rintro _ w3 ⟨a, n, c, rfl, hS3, hb3, hk3⟩
  rw [HR.out.1] at hS3
  rw [HR.out.2]
  have H3 : Hid (EncD w (encVD v) (.returned (.tuple #[.slice a n c, .int .i64 (encVD v).2])) w3) := ⟨a, n, c, rfl, hS3, fun k hk => ⟨Nat.le_trans HK2.out.size (hb3 k hk).1, (hb3 k hk).2⟩, HK2.out.trans hk3 (by simp)⟩
  clear hS3 hb3 hk3
  go_wp2_with fail
  go_ret2
  exact H3.out

end Go.Proofs.Ytlgacmmofimlmaa
