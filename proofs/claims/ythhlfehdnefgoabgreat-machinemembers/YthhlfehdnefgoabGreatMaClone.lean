/-
  Clone.
-/
import Derived.Test.YthhlfehdnefgoabGreatMaLoop
import Derived.Test.YthhlfehdnefgoabGreatGrClG
namespace Go.Proofs.YthhlfehdnefgoabGreat
open Go.RowKit

variable {w0 w : World} {F D : List Nat} {b : Nat} {p : Pl} {al : Int} {sz : Nat} {m : Ma}

theorem eCloneC (h : LiveM w0 w F D b p al sz m) (hl : m.e.length ≤ 1000) : Calls Tryz.prog 36 #[.pointer (some ⟨p.e, 0, none⟩)] w fun e w' => ∃ q : Nat, e = .returned (.pointer (some ⟨q, 0, none⟩)) ∧ Hid (EpA w.heap.size w' q al m.e) ∧ Hid (Kept [] w w') := by
  obtain ⟨S, vt, X, h1, _, _, _, _, h6⟩ := h
  exact (cloneE_call _ w p.e al m.e h1.e h6.e (by omega)).mono fun _ _ ⟨q, a, c, d⟩ => ⟨q, a, c, d⟩

/-- A table that is a clone: whatever is newer than w is not among its verdicts'. -/
def TcP (w : World) (sz : Nat) (L : List Se) (q : Nat) (w' : World) : Prop := ∃ v X, TbA (fun k => k < w.heap.size) w' q sz v X L ∧ w.heap.size ≤ q

theorem tCloneC (h : LiveM w0 w F D b p al sz m) : Calls Tryz.prog 37 #[.pointer (some ⟨p.t, 0, none⟩)] w fun e w' => ∃ q : Nat, e = .returned (.pointer (some ⟨q, 0, none⟩)) ∧ Hid (TcP w sz m.s q w') ∧ Hid (Kept [] w w') := by
  obtain ⟨S, vt, X, h1, _, _, _, _, h6⟩ := h
  have ht : TbA (fun k => k < w.heap.size) w p.t sz vt X m.s := ⟨h1.t.at_, h1.t.pos, h1.t.row, fun x hx => ⟨(h1.t.own x hx).1, fun j hj => ko_block (h1.t.own x hx) hj⟩, h1.t.ses⟩
  exact (cloneT_call ht).mono fun _ _ ⟨q, a, c, d, e⟩ => ⟨q, a, ⟨vt, X, c, e⟩, d⟩

theorem gCloneC (h : LiveM w0 w F D b p al sz m) (hl : m.g.cs.length ≤ 10000) : Calls Tryz.prog 38 #[.pointer (some ⟨p.g, 0, none⟩)] w fun e w' => ∃ q : Nat, e = .returned (.pointer (some ⟨q, 0, none⟩)) ∧ Hid (∃ S, GAt w' q S m.g ∧ ∀ k ∈ S, w.heap.size ≤ k) ∧ Hid (Kept [] w w') := by
  obtain ⟨S, vt, X, h1, _, _, _, _, h6⟩ := h
  obtain ⟨v, q, t, mb, K, hG, _⟩ := h1.g
  exact (gclone_call hG hl).mono fun _ _ ⟨q, S, a, c, d, e⟩ => ⟨q, a, ⟨S, c, e⟩, d⟩

theorem clone_live {w W1 w2 w3 w4 w7 : World} {bn qe qt qg : Nat} {al : Int} {sz : Nat} {m : Ma} (hw : MaW sz al m) (hW1 : Kept [] w W1) (hb : w.heap.size ≤ bn) (hblt : bn < W1.heap.size) (hE : EpA W1.heap.size w2 qe al m.e) (hK2 : Kept [] W1 w2) (hT : TcP w2 sz m.s qt w3) (hK3 : Kept [] w2 w3) (hG : ∃ S, GAt w4 qg S m.g ∧ ∀ k ∈ S, w3.heap.size ≤ k) (hK4 : Kept [] w3 w4)
    (hat : w7.heap[bn]? = some (.cells #[.int .i64 al, .int .i64 (sz : Int), .int .i64 m.a, .pointer (some ⟨qe, 0, none⟩), .pointer (some ⟨qt, 0, none⟩), .pointer (some ⟨qg, 0, none⟩)] 65 (0, 0))) {vs : Array Value} (hB4 : w4.heap[bn]? = some (.cells vs 65 (0, 0))) (hK7 : Kept [bn] w4 w7) : ∃ F', LiveM w w7 F' [] bn ⟨qe, qt, qg⟩ al sz m := by
  obtain ⟨S, hg, hS⟩ := hG
  obtain ⟨v, X, ht, hqt⟩ := hT
  have z1 := hW1.size
  have z2 := hK2.size
  have z3 := hK3.size
  have z4 := hK4.size
  have hTy : Typed w4 [bn] [65] := typed1 hB4
  have h24 := hK3.trans hK4 (by simp)
  refine ⟨_, S, v, X, ⟨hat, hg.keep hK7 (fun i hi hm => ?_) hTy (by decide) (by decide) (by decide), ?_, ?_⟩, rfl, ((hW1.trans hK2 (by simp)).trans h24 (by simp)).trans hK7 (fun i hi => .inr (by simp at hi; omega)), fun k hk => ?_, (fun k hk => by cases hk), hw⟩
  · rw [List.mem_singleton] at hm
    have := hS i hi; omega
  · have h1 := (ht.kept hK4).keep hK7 (fun i hi hm => ?_) hTy (by decide) (by decide)
    · exact ⟨h1.at_, h1.pos, h1.row, fun x hx => ⟨(h1.own x hx).1, fun j hj => ⟨fun hm => by have := (h1.own x hx).2 j hj; have := hS j hm; omega, by simp⟩⟩, h1.ses⟩
    · rw [List.mem_singleton] at hm
      rw [hm] at hi
      obtain ⟨cur, t, hh, htt⟩ := (ht.kept hK4).typed hi
      rw [hB4] at hh
      cases hh
      rcases htt with e | e <;> simp at e
  · have h1 := (hE.kept h24).keep hK7 hTy (by decide) (by decide)
    obtain ⟨v', e1, e2, e3⟩ := h1
    exact ⟨v', by show w.heap.size ≤ qe; omega, e2, row_mono e3 z1⟩
  · rcases List.mem_cons.1 hk with e | hk
    · rw [e]; exact hb
    · rcases List.mem_cons.1 hk with e | hk
      · rw [e]; show w.heap.size ≤ qt; omega
      · have := hS k hk; omega

set_option linter.unusedSimpArgs false in
set_option maxHeartbeats 16000000 in
set_option maxRecDepth 100000 in
theorem mClone_call (h : LiveM w0 w F D b p al sz m) (hl : m.g.cs.length ≤ 10000) (he : m.e.length ≤ 1000) : Calls Tryz.prog 19 #[.pointer (some ⟨b, 0, none⟩)] w fun e w' => ∃ (bn : Nat) (q : Pl), e = .returned (.pointer (some ⟨bn, 0, none⟩)) ∧ Hid (∃ F', LiveM w w' F' [] bn q al sz m) := by
  obtain ⟨W1, hW1⟩ : ∃ W1, W1 = w.alloc (.cells #[.int .i64 al, .int .i64 (sz : Int), .int .i64 m.a, .pointer (some ⟨p.e, 0, none⟩), .pointer (some ⟨p.t, 0, none⟩), .pointer (some ⟨p.g, 0, none⟩)] 65) := ⟨_, rfl⟩
  have hK1 : Kept [] w W1 := by rw [hW1]; exact (Kept.refl _ _).alloc _
  have HN1 : Hid (W1.heap[w.heap.size]? = some (.cells #[.int .i64 al, .int .i64 (sz : Int), .int .i64 m.a, .pointer (some ⟨p.e, 0, none⟩), .pointer (some ⟨p.t, 0, none⟩), .pointer (some ⟨p.g, 0, none⟩)] 65 (0, 0))) := by rw [hW1]; exact heap_alloc_new w _
  have cM := madeM_call h
  obtain ⟨m0, m1, m2, m3, m4, m5⟩ := h.cells
  have HW := hide h.w
  have hblt := lt_of_at h.at
  have HL1 := hide (h.kept hK1)
  have HK1 := hide hK1
  have HGl := hide hl
  have HEl := hide he
  have cE := fun W (hk : Kept [] W1 W) => eCloneC (HL1.out.kept hk) HEl.out
  have cT := fun W (hk : Kept [] W1 W) => tCloneC (HL1.out.kept hk)
  have cG := fun W (hk : Kept [] W1 W) => gCloneC (HL1.out.kept hk) HGl.out
  clear h hK1 hl he
  go_enter Tryz.func19, Tryz.ntmps19
  go_wp2_with fail
  refine cM.mono ?_
  rintro _ W0 ⟨rfl, hW0⟩
  obtain rfl := hW0.symm
  go_upto_region 4 with fail
  rw [← hW1]
  clear hW1 m0 m1 m2 m3 m4 m5 cM
  refine wp_region_held_drew (S := fun w' => McC w' b p al sz m.a) (by kernel_rfl) (HL1.out.kept (Kept.refl [] _).drew).cells (fun hHeld => ?_)
  refine wpAnyH_take (i := 0) (v := ?_) rfl (by kernel_rfl) (by kernel_rfl) (by kernel_rfl) (fun _ _ _ h => h) (Or.inl ⟨by rfl, ?_⟩) hHeld ?_
  rotate_left
  · intro w9 hSw; obtain ⟨m0, m1, m2, m3, m4, m5⟩ := hSw; go_simp; (try with_reducible rfl)
  try simp only [List.getElem_toArray, List.getElem_cons_succ, List.getElem_cons_zero, Act.put, List.setIfInBounds_toArray, List.set_cons_zero, List.set_cons_succ]
  refine wpAnyH_take (i := 1) (v := ?_) rfl (by kernel_rfl) (by kernel_rfl) (by kernel_rfl) (fun _ _ _ h => h) (Or.inl ⟨by rfl, ?_⟩) hHeld ?_
  rotate_left
  · intro w9 hSw; obtain ⟨m0, m1, m2, m3, m4, m5⟩ := hSw; go_simp; (try with_reducible rfl)
  try simp only [List.getElem_toArray, List.getElem_cons_succ, List.getElem_cons_zero, Act.put, List.setIfInBounds_toArray, List.set_cons_zero, List.set_cons_succ]
  refine wpAnyH_take (i := 2) (v := ?_) rfl (by kernel_rfl) (by kernel_rfl) (by kernel_rfl) (fun _ _ _ h => h) (Or.inl ⟨by rfl, ?_⟩) hHeld ?_
  rotate_left
  · intro w9 hSw; obtain ⟨m0, m1, m2, m3, m4, m5⟩ := hSw; go_simp; (try with_reducible rfl)
  try simp only [List.getElem_toArray, List.getElem_cons_succ, List.getElem_cons_zero, Act.put, List.setIfInBounds_toArray, List.set_cons_zero, List.set_cons_succ]
  refine wpAnyH_take (i := 3) (v := ?_) rfl (by kernel_rfl) (by kernel_rfl) (by kernel_rfl) (fun _ _ _ h => h) (Or.inl ⟨by rfl, ?_⟩) hHeld ?_
  rotate_left
  · intro w9 hSw; obtain ⟨m0, m1, m2, m3, m4, m5⟩ := hSw; go_simp; (try with_reducible rfl)
  try simp only [List.getElem_toArray, List.getElem_cons_succ, List.getElem_cons_zero, Act.put, List.setIfInBounds_toArray, List.set_cons_zero, List.set_cons_succ]
  refine wpAnyH_take (i := 5) (v := ?_) rfl (by kernel_rfl) (by kernel_rfl) (by kernel_rfl) (fun _ _ _ h => h) (Or.inl ⟨by rfl, ?_⟩) hHeld ?_
  rotate_left
  · intro w9 hSw; obtain ⟨m0, m1, m2, m3, m4, m5⟩ := hSw; go_simp; (try with_reducible rfl)
  try simp only [List.getElem_toArray, List.getElem_cons_succ, List.getElem_cons_zero, Act.put, List.setIfInBounds_toArray, List.set_cons_zero, List.set_cons_succ]
  refine wpAnyH_take (i := 6) (v := ?_) rfl (by kernel_rfl) (by kernel_rfl) (by kernel_rfl) (fun _ _ _ h => h) (Or.inl ⟨by rfl, ?_⟩) hHeld ?_
  rotate_left
  · intro w9 hSw; obtain ⟨m0, m1, m2, m3, m4, m5⟩ := hSw; go_simp; (try with_reducible rfl)
  try simp only [List.getElem_toArray, List.getElem_cons_succ, List.getElem_cons_zero, Act.put, List.setIfInBounds_toArray, List.set_cons_zero, List.set_cons_succ]
  refine wpAnyH_take (i := 7) (v := ?_) rfl (by kernel_rfl) (by kernel_rfl) (by kernel_rfl) (fun _ _ _ h => h) (Or.inl ⟨by rfl, ?_⟩) hHeld ?_
  rotate_left
  · intro w9 hSw; obtain ⟨m0, m1, m2, m3, m4, m5⟩ := hSw; go_simp; (try with_reducible rfl)
  try simp only [List.getElem_toArray, List.getElem_cons_succ, List.getElem_cons_zero, Act.put, List.setIfInBounds_toArray, List.set_cons_zero, List.set_cons_succ]
  refine wpAnyH_take (i := 8) (v := ?_) rfl (by kernel_rfl) (by kernel_rfl) (by kernel_rfl) (fun _ _ _ h => h) (Or.inl ⟨by rfl, ?_⟩) hHeld ?_
  rotate_left
  · intro w9 hSw; obtain ⟨m0, m1, m2, m3, m4, m5⟩ := hSw; go_simp; (try with_reducible rfl)
  try simp only [List.getElem_toArray, List.getElem_cons_succ, List.getElem_cons_zero, Act.put, List.setIfInBounds_toArray, List.set_cons_zero, List.set_cons_succ]
  refine wpAnyH_take (i := 10) (v := ?_) rfl (by kernel_rfl) (by kernel_rfl) (by kernel_rfl) (fun _ _ _ h => h) (Or.inl ⟨by rfl, ?_⟩) hHeld ?_
  rotate_left
  · intro w9 hSw; obtain ⟨m0, m1, m2, m3, m4, m5⟩ := hSw; go_simp; (try with_reducible rfl)
  try simp only [List.getElem_toArray, List.getElem_cons_succ, List.getElem_cons_zero, Act.put, List.setIfInBounds_toArray, List.set_cons_zero, List.set_cons_succ]
  refine wpAnyH_take (i := 11) (v := ?_) rfl (by kernel_rfl) (by kernel_rfl) (by kernel_rfl) (fun _ _ _ h => h) (Or.inl ⟨by rfl, ?_⟩) hHeld ?_
  rotate_left
  · intro w9 hSw; obtain ⟨m0, m1, m2, m3, m4, m5⟩ := hSw; go_simp; (try with_reducible rfl)
  try simp only [List.getElem_toArray, List.getElem_cons_succ, List.getElem_cons_zero, Act.put, List.setIfInBounds_toArray, List.set_cons_zero, List.set_cons_succ]
  refine wpAnyH_take (i := 12) (v := ?_) rfl (by kernel_rfl) (by kernel_rfl) (by kernel_rfl) (fun _ _ _ h => h) (Or.inl ⟨by rfl, ?_⟩) hHeld ?_
  rotate_left
  · intro w9 hSw; obtain ⟨m0, m1, m2, m3, m4, m5⟩ := hSw; go_simp; (try with_reducible rfl)
  try simp only [List.getElem_toArray, List.getElem_cons_succ, List.getElem_cons_zero, Act.put, List.setIfInBounds_toArray, List.set_cons_zero, List.set_cons_succ]
  refine wpAnyH_take (i := 13) (v := ?_) rfl (by kernel_rfl) (by kernel_rfl) (by kernel_rfl) (fun _ _ _ h => h) (Or.inl ⟨by rfl, ?_⟩) hHeld ?_
  rotate_left
  · intro w9 hSw; obtain ⟨m0, m1, m2, m3, m4, m5⟩ := hSw; go_simp; (try with_reducible rfl)
  try simp only [List.getElem_toArray, List.getElem_cons_succ, List.getElem_cons_zero, Act.put, List.setIfInBounds_toArray, List.set_cons_zero, List.set_cons_succ]
  refine wpAnyH_ready (rs := [4]) (by kernel_rfl) (by simp) (AllReadyH.cons rfl (fun K0 hK0 => ?_) AllReadyH.nil)
  go_simp
  refine (cE _ (Kept.refl [] _).drew).mono ?_
  rintro _ w2 ⟨qe, rfl, HE2, HK2⟩
  have hk2 := (Kept.refl [] W1).drew.trans HK2.out (by simp)
  go_wp2_with fail
  refine hK0.out _ _ (HL1.out.kept hk2).cells (fun hHeld => ?_)
  clear hK0 K0
  try simp only [List.getElem_toArray, List.getElem_cons_succ, List.getElem_cons_zero, Act.put, List.setIfInBounds_toArray, List.set_cons_zero, List.set_cons_succ]
  refine wpAnyH_ready (rs := [9]) (by kernel_rfl) (by simp) (AllReadyH.cons rfl (fun K0 hK0 => ?_) AllReadyH.nil)
  go_simp
  refine (cT _ hk2).mono ?_
  rintro _ w3 ⟨qt, rfl, HT3, HK3⟩
  have hk3 := hk2.trans HK3.out (by simp)
  go_wp2_with fail
  refine hK0.out _ _ (HL1.out.kept hk3).cells (fun hHeld => ?_)
  clear hK0 K0
  try simp only [List.getElem_toArray, List.getElem_cons_succ, List.getElem_cons_zero, Act.put, List.setIfInBounds_toArray, List.set_cons_zero, List.set_cons_succ]
  refine wpAnyH_ready (rs := [14]) (by kernel_rfl) (by simp) (AllReadyH.cons rfl (fun K0 hK0 => ?_) AllReadyH.nil)
  go_simp
  refine (cG _ hk3).mono ?_
  rintro _ w4 ⟨qg, rfl, HG4, HK4⟩
  have hk4 := hk3.trans HK4.out (by simp)
  go_wp2_with fail
  have hN4 := hk4.at HN1.out (by simp)
  have HN4 := hide hN4
  have x3 := cell_inC (k := 3) hN4 rfl
  have x4 := cell_inC (k := 4) hN4 rfl
  have x5 := cell_inC (k := 5) hN4 rfl
  have f3 := froz3 hN4 3
  have f4 := froz3 hN4 4
  have f5 := froz3 hN4 5
  have HC : Hid (∀ W7, Kept [w.heap.size] w4 W7 → McC W7 b p al sz m.a) := fun W7 hk => by
    have hat := hk.at ((HL1.out.kept hk4).at) (by simp; omega)
    exact ⟨cell_inC (k := 0) hat rfl, cell_inC (k := 1) hat rfl, cell_inC (k := 2) hat rfl, cell_inC (k := 3) hat rfl, cell_inC (k := 4) hat rfl, cell_inC (k := 5) hat rfl⟩
  have HK12 := hide hk2
  clear hk2 hk3 hN4
  refine hK0.out _ _ (HL1.out.kept hk4).cells (fun hHeld => ?_)
  clear hK0 K0
  try simp only [List.getElem_toArray, List.getElem_cons_succ, List.getElem_cons_zero, Act.put, List.setIfInBounds_toArray, List.set_cons_zero, List.set_cons_succ]
  refine wpAnyH_take (i := 15) (v := ?_) rfl (by kernel_rfl) (by kernel_rfl) (by kernel_rfl) (fun _ _ _ h => h) (Or.inl ⟨by rfl, ?_⟩) hHeld ?_
  rotate_left
  · intro w9 hSw; obtain ⟨m0, m1, m2, m3, m4, m5⟩ := hSw; go_simp; (try with_reducible rfl)
  try simp only [List.getElem_toArray, List.getElem_cons_succ, List.getElem_cons_zero, Act.put, List.setIfInBounds_toArray, List.set_cons_zero, List.set_cons_succ]
  refine wpAnyH_ready (rs := [16]) (by kernel_rfl) (by simp) (AllReadyH.cons rfl (fun K0 hK0 => ?_) AllReadyH.nil)
  go_simp
  have hk5 : Kept [w.heap.size] w4 (w4.setCell ⟨w.heap.size, 3, none⟩ (.pointer (some ⟨qe, 0, none⟩))) := (Kept.refl _ _).setCell (by simp) _
  refine hK0.out _ _ (HC.out _ hk5) (fun hHeld => ?_)
  clear hK0 K0
  try simp only [List.getElem_toArray, List.getElem_cons_succ, List.getElem_cons_zero, Act.put, List.setIfInBounds_toArray, List.set_cons_zero, List.set_cons_succ]
  refine wpAnyH_take (i := 17) (v := ?_) rfl (by kernel_rfl) (by kernel_rfl) (by kernel_rfl) (fun _ _ _ h => h) (Or.inl ⟨by rfl, ?_⟩) hHeld ?_
  rotate_left
  · intro w9 hSw; obtain ⟨m0, m1, m2, m3, m4, m5⟩ := hSw; go_simp; (try with_reducible rfl)
  try simp only [List.getElem_toArray, List.getElem_cons_succ, List.getElem_cons_zero, Act.put, List.setIfInBounds_toArray, List.set_cons_zero, List.set_cons_succ]
  refine wpAnyH_ready (rs := [18]) (by kernel_rfl) (by simp) (AllReadyH.cons rfl (fun K0 hK0 => ?_) AllReadyH.nil)
  go_simp
  have hk6 : Kept [w.heap.size] w4 ((w4.setCell ⟨w.heap.size, 3, none⟩ (.pointer (some ⟨qe, 0, none⟩))).setCell ⟨w.heap.size, 4, none⟩ (.pointer (some ⟨qt, 0, none⟩))) := hk5.setCell (by simp) _
  refine hK0.out _ _ (HC.out _ hk6) (fun hHeld => ?_)
  clear hK0 K0
  try simp only [List.getElem_toArray, List.getElem_cons_succ, List.getElem_cons_zero, Act.put, List.setIfInBounds_toArray, List.set_cons_zero, List.set_cons_succ]
  refine wpAnyH_take (i := 19) (v := ?_) rfl (by kernel_rfl) (by kernel_rfl) (by kernel_rfl) (fun _ _ _ h => h) (Or.inl ⟨by rfl, ?_⟩) hHeld ?_
  rotate_left
  · intro w9 hSw; obtain ⟨m0, m1, m2, m3, m4, m5⟩ := hSw; go_simp; (try with_reducible rfl)
  try simp only [List.getElem_toArray, List.getElem_cons_succ, List.getElem_cons_zero, Act.put, List.setIfInBounds_toArray, List.set_cons_zero, List.set_cons_succ]
  refine wpAnyH_ready (rs := [20]) (by kernel_rfl) (by simp) (AllReadyH.cons rfl (fun K0 hK0 => ?_) AllReadyH.nil)
  go_simp
  have hk7 : Kept [w.heap.size] w4 (((w4.setCell ⟨w.heap.size, 3, none⟩ (.pointer (some ⟨qe, 0, none⟩))).setCell ⟨w.heap.size, 4, none⟩ (.pointer (some ⟨qt, 0, none⟩))).setCell ⟨w.heap.size, 5, none⟩ (.pointer (some ⟨qg, 0, none⟩))) := hk6.setCell (by simp) _
  refine hK0.out _ _ (HC.out _ hk7) (fun hHeld => ?_)
  clear hK0 K0
  try simp only [List.getElem_toArray, List.getElem_cons_succ, List.getElem_cons_zero, Act.put, List.setIfInBounds_toArray, List.set_cons_zero, List.set_cons_succ]
  refine wpAnyH_done (by kernel_rfl) ?_ _
  clear hHeld
  have hat : (((w4.setCell ⟨w.heap.size, 3, none⟩ (.pointer (some ⟨qe, 0, none⟩))).setCell ⟨w.heap.size, 4, none⟩ (.pointer (some ⟨qt, 0, none⟩))).setCell ⟨w.heap.size, 5, none⟩ (.pointer (some ⟨qg, 0, none⟩))).heap[w.heap.size]? = some (.cells #[.int .i64 al, .int .i64 (sz : Int), .int .i64 m.a, .pointer (some ⟨qe, 0, none⟩), .pointer (some ⟨qt, 0, none⟩), .pointer (some ⟨qg, 0, none⟩)] 65 (0, 0)) := by
    have e1 := heap_setCell_same w4 w.heap.size 3 _ _ (.pointer (some ⟨qe, 0, none⟩)) HN4.out
    have e2 := heap_setCell_same _ w.heap.size 4 _ _ (.pointer (some ⟨qt, 0, none⟩)) e1
    have e3 := heap_setCell_same _ w.heap.size 5 _ _ (.pointer (some ⟨qg, 0, none⟩)) e2
    simpa using e3
  have HLv := hide (clone_live HW.out HK1.out (Nat.le_refl _) (lt_of_at HN1.out) HE2.out HK12.out HT3.out HK3.out HG4.out HK4.out hat HN4.out hk7)
  clear hat hk5 hk6 hk7 x3 x4 x5 f3 f4 f5
  go_wp2_with fail
  go_ret
  exact ⟨w.heap.size, _, rfl, HLv.out⟩

end Go.Proofs.YthhlfehdnefgoabGreat
