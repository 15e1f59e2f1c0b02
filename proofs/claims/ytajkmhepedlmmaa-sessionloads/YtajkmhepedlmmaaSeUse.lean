/-
  use: a session is put behind all others.
-/
import Derived.Test.YtajkmhepedlmmaaSeList
import Derived.Deep.Cut
namespace Go.Proofs.Ytajkmhepedlmmaa
open Go.RowKit

/-- A table, changed. -/
def TbP (w : World) (b sz : Nat) (v : Value) (L : List Se) (w' : World) : Prop :=
  ∃ v' X', TbA w' b sz v' X' L ∧ Kept [b] w w' ∧ ∀ k, v'.ownBlock = some k → v.ownBlock = some k ∨ w.heap.size ≤ k

theorem typed1 {w : World} {b : Nat} {t : TypeId} {x : Array Value} (hb : w.heap[b]? = some (.cells x t (0, 0))) : Typed w [b] [t] := fun k hk cur t' mk hh => by
  simp at hk; subst hk
  rw [hb] at hh; cases hh; simp

/-- A list is stored. -/
theorem TbA.store {w w5 : World} {b sz : Nat} {v v5 : Value} {X X5 : List (Se × Value)} {L L5 : List Se} (h : TbA w b sz v X L) (hK : Kept [] w w5) (hR : TRow w5 v5 X5) (ho : ∀ x ∈ X5, KoO 0 w5 x.2 x.1.v.k) (he : X5.map Prod.fst = L5) : TbA (w5.setCell ⟨b, 1, none⟩ v5) b sz v5 X5 L5 := by
  have h5 := hK.at h.at_ (by simp)
  have hK2 : Kept [b] w5 (w5.setCell ⟨b, 1, none⟩ v5) := (Kept.refl _ _).setCell (by simp) _
  exact ⟨heap_setCell_same w5 b 1 _ _ _ h5, h.pos, hR.typed hK2 (typed1 h5) (by decide), fun x hx => (ho x hx).keep hK2 (typed1 h5) (by decide) (by decide), he⟩

set_option linter.unusedSimpArgs false in
set_option maxHeartbeats 8000000 in
set_option maxRecDepth 100000 in
theorem use_call {w : World} {b sz : Nat} {v : Value} {X : List (Se × Value)} {L : List Se} (h : TbA w b sz v X L) (hl : L.length ≤ 100000) (i : Nat) (hi : i < L.length) :
    Calls Try.prog 31 #[.pointer (some ⟨b, 0, none⟩), .int .i64 i] w fun e w' => ∃ u, e = .returned (seV (L.getD i se0) u) ∧ KoO 0 w' u (L.getD i se0).v.k ∧ TbP w b sz v (useL L i) w' := by
  have hiX : i < X.length := by rw [h.len]; exact hi
  obtain ⟨sao, sc, hv, hsc, hsm, _, hsat⟩ := h.row.shape
  subst hv
  unfold maxLen at hsm
  obtain ⟨g, he, hx⟩ := hsat i hiX
  subst he
  have hCk := fst_get h.ses hiX hi
  have hkoi := h.own _ (List.getElem_mem hiX)
  obtain ⟨ao, n, c, hm2⟩ := hkoi.ko.one
  have HX : Hid (X[i]? = some (L[i], .slice ao n c)) := by
    show _ = _
    rw [List.getElem?_eq_getElem hiX]
    exact congrArg some (Prod.ext hCk hm2)
  obtain ⟨h0, h1, h2, h3, h4, h5, h6, h7, h8, h9⟩ := hx
  rw [hCk] at h0 h1 h2 h3 h4 h5 h6 h7 h9 hkoi
  rw [hm2] at h8 hkoi
  have HD : Hid (L.getD i se0 = L[i]) := getD_get hi
  have HU : Hid (useL L i = outL L i ++ [L[i]]) := by show _ = _; unfold useL; rw [getD_get hi]
  obtain ⟨x, hxe⟩ : ∃ x, x = L[i] := ⟨_, rfl⟩
  rw [← hxe] at h0 h1 h2 h3 h4 h5 h6 h7 h9 hkoi HX HD HU
  clear hm2 hCk hxe hsat
  rw [HD.out]
  obtain ⟨W1, hW1⟩ : ∃ W1, W1 = (w.alloc (.cells #[.int .i64 0, .int .i64 0, .string ⟨#[]⟩, .int .i64 0, .int .i64 0, .int .i64 0, .string ⟨#[]⟩, .int .u64 0, .slice none 0 0, .int .i64 0] 44)).alloc (.cells #[.int .i64 x.i, .int .i64 x.q, .string (str x.n), .int .i64 x.v.c, .int .i64 x.v.s, .int .i64 x.v.r, .string (str x.v.p), .int .u64 x.v.d, .slice ao n c, .int .i64 x.v.m] 44) := ⟨_, rfl⟩
  have hK1 : Kept [] w W1 := by rw [hW1]; exact ((Kept.refl _ _).alloc _).alloc _
  have hL2 := lay2 w #[.int .i64 0, .int .i64 0, .string ⟨#[]⟩, .int .i64 0, .int .i64 0, .int .i64 0, .string ⟨#[]⟩, .int .u64 0, .slice none 0 0, .int .i64 0] #[.int .i64 x.i, .int .i64 x.q, .string (str x.n), .int .i64 x.v.c, .int .i64 x.v.s, .int .i64 x.v.r, .string (str x.v.p), .int .u64 x.v.d, .slice ao n c, .int .i64 x.v.m] 44
  rw [← hW1] at hL2
  have hT1 := h.kept hK1
  have hw1 : W1.heap.size = w.heap.size + 2 := by rw [hW1, World.size_alloc, World.size_alloc]
  have hlX : X.length ≤ 100000 := by rw [h.len]; exact hl
  have HT := hide hT1
  have HKo := hide hkoi
  have HK1 := hide hK1
  have HZ := hide hL2.1
  have HB := hide hL2.2
  have b0 := cell_inC (k := 0) hL2.2 rfl
  have b1 := cell_inC (k := 1) hL2.2 rfl
  have b2 := cell_inC (k := 2) hL2.2 rfl
  have b3 := cell_inC (k := 3) hL2.2 rfl
  have b4 := cell_inC (k := 4) hL2.2 rfl
  have b5 := cell_inC (k := 5) hL2.2 rfl
  have b6 := cell_inC (k := 6) hL2.2 rfl
  have b7 := cell_inC (k := 7) hL2.2 rfl
  have b8 := cell_inC (k := 8) hL2.2 rfl
  have b9 := cell_inC (k := 9) hL2.2 rfl
  have H1 : Hid (∀ x ∈ X, x.2.oneCell' = true) := fun x hx => by obtain ⟨_, _, _, e⟩ := (h.own x hx).ko.one; rw [e]; rfl
  have cW := fun W (hk : Kept [] W1 W) => without_call W _ X ((hT1.kept hk).row) H1.out i hiX hlX
  have cB := fun W v' (hR : TRow W v' (outL X i)) => behind_call W v' (outL X i) hR x (.slice ao n c) ⟨_, _, _, rfl⟩ (by rw [outL_length hiX]; omega)
  unfold LiP at cW cB
  unfold seV at cB
  have t1 := hT1.cells.2
  obtain ⟨r0, r1⟩ := h.cells
  have fz := froz3 hT1.at_ 1
  have hblt := lt_of_at h.at_
  have HF : Hid (∀ w5 v5, Kept [] W1 w5 → TRow w5 v5 (outL X i ++ [(x, .slice ao n c)]) → TbA (w5.setCell ⟨b, 1, none⟩ v5) b sz v5 (outL X i ++ [(x, .slice ao n c)]) (useL L i)) := fun w5 v5 hK5 hR5 => by
    refine HT.out.store hK5 hR5 (fun y hy => ?_) ?_
    · rcases List.mem_append.1 hy with hy | hy
      · exact (HT.out.own y (mem_outL hy)).kept hK5
      · simp at hy; subst hy
        exact (HKo.out.kept HK1.out).kept hK5
    · rw [List.map_append, map_outL, HT.out.ses, HU.out]; rfl
  have HG : Hid (g < w.heap.size) := lt_of_at (h.row.block (k := g) rfl).choose_spec
  have hinX : (i : Int) < X.length := by omega
  have hic : i ≤ sc := by omega
  unfold seV
  have hKz := (Kept.refl [] w).alloc (.cells #[.int .i64 0, .int .i64 0, .string ⟨#[]⟩, .int .i64 0, .int .i64 0, .int .i64 0, .string ⟨#[]⟩, .int .u64 0, .slice none 0 0, .int .i64 0] 44)
  replace h0 := hKz.cell h0 (by simp)
  replace h1 := hKz.cell h1 (by simp)
  replace h2 := hKz.cell h2 (by simp)
  replace h3 := hKz.cell h3 (by simp)
  replace h4 := hKz.cell h4 (by simp)
  replace h5 := hKz.cell h5 (by simp)
  replace h6 := hKz.cell h6 (by simp)
  replace h7 := hKz.cell h7 (by simp)
  replace h8 := hKz.cell h8 (by simp)
  replace h9 := hKz.cell h9 (by simp)
  replace r0 := hKz.cell r0 (by simp)
  replace r1 := hKz.cell r1 (by simp)
  clear h hT1 hkoi hK1 hL2 hlX hKz
  go_enter Try.func31, Try.ntmps31
  go_upto_region 2 with fail
  rw [← hW1]
  clear hW1 h0 h1 h2 h3 h4 h5 h6 h7 h8 h9 r0 r1
  refine wp_region_held_drew (S := fun w' => w'.cell? ⟨w.heap.size + 1, 0, none⟩ = some (.int .i64 x.i) ∧ w'.cell? ⟨w.heap.size + 1, 1, none⟩ = some (.int .i64 x.q) ∧ w'.cell? ⟨w.heap.size + 1, 2, none⟩ = some (.string (str x.n)) ∧ w'.cell? ⟨w.heap.size + 1, 3, none⟩ = some (.int .i64 x.v.c) ∧ w'.cell? ⟨w.heap.size + 1, 4, none⟩ = some (.int .i64 x.v.s) ∧ w'.cell? ⟨w.heap.size + 1, 5, none⟩ = some (.int .i64 x.v.r) ∧ w'.cell? ⟨w.heap.size + 1, 6, none⟩ = some (.string (str x.v.p)) ∧ w'.cell? ⟨w.heap.size + 1, 7, none⟩ = some (.int .u64 x.v.d) ∧ w'.cell? ⟨w.heap.size + 1, 8, none⟩ = some (.slice ao n c) ∧ w'.cell? ⟨w.heap.size + 1, 9, none⟩ = some (.int .i64 x.v.m)) (by kernel_rfl) ⟨b0, b1, b2, b3, b4, b5, b6, b7, b8, b9⟩ (fun hHeld => ?_)
  refine wpAnyH_take (i := 0) (v := ?_) rfl (by kernel_rfl) (by kernel_rfl) (by kernel_rfl) (fun _ _ _ h => h) (Or.inl ⟨by rfl, ?_⟩) hHeld ?_
  rotate_left
  · intro w9 hSw; (try dsimp only at hSw); go_simp; (try with_reducible rfl)
  try simp only [List.getElem_toArray, List.getElem_cons_succ, List.getElem_cons_zero, Act.put, List.setIfInBounds_toArray, List.set_cons_zero, List.set_cons_succ]
  refine wpAnyH_take (i := 1) (v := ?_) rfl (by kernel_rfl) (by kernel_rfl) (by kernel_rfl) (fun _ _ _ h => h) (Or.inl ⟨by rfl, ?_⟩) hHeld ?_
  rotate_left
  · intro w9 hSw; (try dsimp only at hSw); go_simp; (try with_reducible rfl)
  try simp only [List.getElem_toArray, List.getElem_cons_succ, List.getElem_cons_zero, Act.put, List.setIfInBounds_toArray, List.set_cons_zero, List.set_cons_succ]
  refine wpAnyH_take (i := 2) (v := ?_) rfl (by kernel_rfl) (by kernel_rfl) (by kernel_rfl) (fun _ _ _ h => h) (Or.inl ⟨by rfl, ?_⟩) hHeld ?_
  rotate_left
  · intro w9 hSw; (try dsimp only at hSw); go_simp; (try with_reducible rfl)
  try simp only [List.getElem_toArray, List.getElem_cons_succ, List.getElem_cons_zero, Act.put, List.setIfInBounds_toArray, List.set_cons_zero, List.set_cons_succ]
  refine wpAnyH_take (i := 3) (v := ?_) rfl (by kernel_rfl) (by kernel_rfl) (by kernel_rfl) (fun _ _ _ h => h) (Or.inl ⟨by rfl, ?_⟩) hHeld ?_
  rotate_left
  · intro w9 hSw; (try dsimp only at hSw); go_simp; (try with_reducible rfl)
  try simp only [List.getElem_toArray, List.getElem_cons_succ, List.getElem_cons_zero, Act.put, List.setIfInBounds_toArray, List.set_cons_zero, List.set_cons_succ]
  refine wpAnyH_take (i := 5) (v := ?_) rfl (by kernel_rfl) (by kernel_rfl) (by kernel_rfl) (fun _ _ _ h => h) (Or.inl ⟨by rfl, ?_⟩) hHeld ?_
  rotate_left
  · intro w9 hSw; (try dsimp only at hSw); go_simp; (try with_reducible rfl)
  try simp only [List.getElem_toArray, List.getElem_cons_succ, List.getElem_cons_zero, Act.put, List.setIfInBounds_toArray, List.set_cons_zero, List.set_cons_succ]
  refine wpAnyH_take (i := 7) (v := ?_) rfl (by kernel_rfl) (by kernel_rfl) (by kernel_rfl) (fun _ _ _ h => h) (Or.inl ⟨by rfl, ?_⟩) hHeld ?_
  rotate_left
  · intro w9 hSw; (try dsimp only at hSw); go_simp; (try with_reducible rfl)
  try simp only [List.getElem_toArray, List.getElem_cons_succ, List.getElem_cons_zero, Act.put, List.setIfInBounds_toArray, List.set_cons_zero, List.set_cons_succ]
  refine wpAnyH_ready (rs := [4]) (by kernel_rfl) (by simp) (AllReadyH.cons rfl (fun K0 hK0 => ?_) AllReadyH.nil)
  go_simp
  refine hK0.out _ _ hHeld (fun hHeld => ?_)
  clear hK0 K0
  try simp only [List.getElem_toArray, List.getElem_cons_succ, List.getElem_cons_zero, Act.put, List.setIfInBounds_toArray, List.set_cons_zero, List.set_cons_succ]
  refine wpAnyH_ready (rs := [6]) (by kernel_rfl) (by simp) (AllReadyH.cons rfl (fun K0 hK0 => ?_) AllReadyH.nil)
  go_simp
  refine (cW _ (Kept.refl [] _).drew).mono ?_
  rintro _ w3 ⟨v3, rfl, hR3, hK3, hv3⟩
  replace hK3 := (Kept.refl [] W1).drew.trans hK3 (by simp)
  obtain ⟨ao3, c3, rfl, _⟩ := hR3.shape
  have HR3 := hide hR3
  have HV3 := hide hv3
  have HK3 := hide hK3
  go_wp2_with fail
  refine hK0.out _ _ ⟨HK3.out.cell b0 (by simp), HK3.out.cell b1 (by simp), HK3.out.cell b2 (by simp), HK3.out.cell b3 (by simp), HK3.out.cell b4 (by simp), HK3.out.cell b5 (by simp), HK3.out.cell b6 (by simp), HK3.out.cell b7 (by simp), HK3.out.cell b8 (by simp), HK3.out.cell b9 (by simp)⟩ (fun hHeld => ?_)
  clear hK0 K0 hR3 hv3 hK3
  try simp only [List.getElem_toArray, List.getElem_cons_succ, List.getElem_cons_zero, Act.put, List.setIfInBounds_toArray, List.set_cons_zero, List.set_cons_succ]
  refine wpAnyH_ready (rs := [8]) (by kernel_rfl) (by simp) (AllReadyH.cons rfl (fun K0 hK0 => ?_) AllReadyH.nil)
  go_simp
  refine (cB _ _ HR3.out).mono ?_
  rintro _ w4 ⟨v4, rfl, hR4, hK4, hv4⟩
  have HK4 := hide (HK3.out.trans hK4 (by simp))
  have HR4 := hide hR4
  have HV4 : Hid (∀ k, v4.ownBlock = some k → g = k ∨ w.heap.size + 2 ≤ k) := fun k hk => by
    rcases hv4 k hk with h1 | h1
    · rcases HV3.out k h1 with h2 | h2
      · cases h2; exact .inl rfl
      · have h3 : W1.heap.size ≤ k := h2
        exact .inr (by omega)
    · have h2 := HK3.out.size
      exact .inr (by omega)
  obtain ⟨ao4, c4, hv4e, _⟩ := hR4.shape
  have hb4 := cell_inC (k := 1) (HK4.out.at HT.out.at_ (by simp)) rfl
  have fz4 := froz3 (HK4.out.at HT.out.at_ (by simp)) 1
  have HF4 := hide (HF.out w4 v4 HK4.out hR4)
  clear hR4 hK4 hv4
  subst hv4e
  go_wp2_with fail
  refine hK0.out _ _ ⟨HK4.out.cell b0 (by simp), HK4.out.cell b1 (by simp), HK4.out.cell b2 (by simp), HK4.out.cell b3 (by simp), HK4.out.cell b4 (by simp), HK4.out.cell b5 (by simp), HK4.out.cell b6 (by simp), HK4.out.cell b7 (by simp), HK4.out.cell b8 (by simp), HK4.out.cell b9 (by simp)⟩ (fun hHeld => ?_)
  clear hK0 K0
  try simp only [List.getElem_toArray, List.getElem_cons_succ, List.getElem_cons_zero, Act.put, List.setIfInBounds_toArray, List.set_cons_zero, List.set_cons_succ]
  refine wpAnyH_take (i := 9) (v := ?_) rfl (by kernel_rfl) (by kernel_rfl) (by kernel_rfl) (fun _ _ _ h => h) (Or.inl ⟨by rfl, ?_⟩) hHeld ?_
  rotate_left
  · intro w9 hSw; (try dsimp only at hSw); go_simp; (try with_reducible rfl)
  try simp only [List.getElem_toArray, List.getElem_cons_succ, List.getElem_cons_zero, Act.put, List.setIfInBounds_toArray, List.set_cons_zero, List.set_cons_succ]
  refine wpAnyH_take (i := 10) (v := ?_) rfl (by kernel_rfl) (by kernel_rfl) (by kernel_rfl) (fun _ _ _ h => h) (Or.inl ⟨by rfl, ?_⟩) hHeld ?_
  rotate_left
  · intro w9 hSw; (try dsimp only at hSw); go_simp; (try with_reducible rfl)
  try simp only [List.getElem_toArray, List.getElem_cons_succ, List.getElem_cons_zero, Act.put, List.setIfInBounds_toArray, List.set_cons_zero, List.set_cons_succ]
  refine wpAnyH_ready (rs := [11]) (by kernel_rfl) (by simp) (AllReadyH.cons rfl (fun K0 hK0 => ?_) AllReadyH.nil)
  go_simp
  obtain ⟨w5, hw5⟩ : ∃ w5, w5 = w4.setCell ⟨b, 1, none⟩ (.slice ao4 ((outL X i).length + 1) c4) := ⟨_, rfl⟩
  rw [← hw5]
  have hK5 : Kept [b] W1 w5 := by rw [hw5]; exact (HK4.out.mono (by simp)).setCell (by simp) _
  refine hK0.out _ _ ⟨hK5.cell b0 (by simp; omega), hK5.cell b1 (by simp; omega), hK5.cell b2 (by simp; omega), hK5.cell b3 (by simp; omega), hK5.cell b4 (by simp; omega), hK5.cell b5 (by simp; omega), hK5.cell b6 (by simp; omega), hK5.cell b7 (by simp; omega), hK5.cell b8 (by simp; omega), hK5.cell b9 (by simp; omega)⟩ (fun hHeld => ?_)
  refine wpAnyH_done (by kernel_rfl) ?_ _
  have HF5 : Hid (TbA w5 b sz (.slice ao4 ((outL X i).length + 1) c4) (outL X i ++ [(x, .slice ao n c)]) (useL L i)) := by show TbA _ _ _ _ _ _; rw [hw5]; have h := HF4.out; rw [List.length_append] at h; exact h
  have HK5 := hide hK5
  have hB5 := hK5.at HB.out (by simp; omega)
  have hZ5 := hK5.at HZ.out (by simp; omega)
  clear b0
  clear b1
  clear b2
  clear b3
  clear b4
  clear b5
  clear b6
  clear b7
  clear b8
  clear b9
  have q0 := cell_inC (k := 0) hB5 rfl
  have q1 := cell_inC (k := 1) hB5 rfl
  have q2 := cell_inC (k := 2) hB5 rfl
  have q3 := cell_inC (k := 3) hB5 rfl
  have q4 := cell_inC (k := 4) hB5 rfl
  have q5 := cell_inC (k := 5) hB5 rfl
  have q6 := cell_inC (k := 6) hB5 rfl
  have q7 := cell_inC (k := 7) hB5 rfl
  have q8 := cell_inC (k := 8) hB5 rfl
  have q9 := cell_inC (k := 9) hB5 rfl
  have r0 := cell_inC (k := 0) hZ5 rfl
  have r1 := cell_inC (k := 1) hZ5 rfl
  have r2 := cell_inC (k := 2) hZ5 rfl
  have r3 := cell_inC (k := 3) hZ5 rfl
  have r4 := cell_inC (k := 4) hZ5 rfl
  have r5 := cell_inC (k := 5) hZ5 rfl
  have r6 := cell_inC (k := 6) hZ5 rfl
  have r7 := cell_inC (k := 7) hZ5 rfl
  have r8 := cell_inC (k := 8) hZ5 rfl
  have r9 := cell_inC (k := 9) hZ5 rfl
  have fr0 := froz3 hZ5 0
  have fr1 := froz3 hZ5 1
  have fr2 := froz3 hZ5 2
  have fr3 := froz3 hZ5 3
  have fr4 := froz3 hZ5 4
  have fr5 := froz3 hZ5 5
  have fr6 := froz3 hZ5 6
  have fr7 := froz3 hZ5 7
  have fr8 := froz3 hZ5 8
  have fr9 := froz3 hZ5 9
  have HZ5 := hide hZ5
  clear hw5 hK5 hB5 hZ5 hK0 K0 hHeld hb4 fz4 fz t1
  go_wp2_with fail
  have HKe : Hid (Kept [w.heap.size] w5 (setA10 w5 w.heap.size (.int .i64 x.i) (.int .i64 x.q) (.string (str x.n)) (.int .i64 x.v.c) (.int .i64 x.v.s) (.int .i64 x.v.r) (.string (str x.v.p)) (.int .u64 x.v.d) (.slice ao n c) (.int .i64 x.v.m))) := setA10_kept (Kept.refl _ w5) (by simp) _ _ _ _ _ _ _ _ _ _
  refine bodyPost_ret (se_res (by rfl) _ (by rfl) (setA10_at HZ5.out rfl _ _ _ _ _ _ _ _ _ _) rfl) rfl ?_
  have hb : b < w.heap.size := hblt
  have hv5 : ∀ k, (Value.slice ao4 ((outL X i).length + 1) c4).ownBlock = some k → g = k ∨ w.heap.size + 2 ≤ k := by have h := HV4.out; rw [List.length_append] at h; exact h
  have hsz : ∀ k ∈ ownT b (.slice ao4 ((outL X i).length + 1) c4), k ∉ [w.heap.size] := fun k hk hm => by
    simp at hm
    subst hm
    rcases List.mem_cons.1 hk with e | e
    · omega
    · have h2 := HG.out
      rcases hv5 _ (mem_own.1 e) with h1 | h1 <;> omega
  have hT6 := HF5.out.keep HKe.out hsz (typed1 HZ5.out) (by decide) (by decide)
  exact ⟨_, rfl, hT6.own (x, .slice ao n c) (by simp), _, _, hT6, ((HK1.out.mono (by simp)).trans HK5.out (by simp)).trans HKe.out (fun k hk => .inr (by simp at hk; omega)), fun k hk => (hv5 k hk).imp (fun e => by rw [e]; rfl) (fun e => by omega)⟩

end Go.Proofs.Ytajkmhepedlmmaa
