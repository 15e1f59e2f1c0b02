/-
  Done.
-/
import Derived.Test.YtajkmhepedlmmaaSeAsk
namespace Go.Proofs.Ytajkmhepedlmmaa
open Go.RowKit

/-- What Done tells, and leaves. -/
def DoneP (w : World) (b sz : Nat) (v : Value) (id seq : Int) (d : Vt) (L : List Se) (e : Ending) (w' : World) : Prop :=
  e = .returned (.bool (doneI id seq L).isSome) ∧ TbP w b sz v (doneL id seq d L) w'

theorem set_parts {α : Type} {X : List α} {i : Nat} (hi : i < X.length) (y : α) : X.set i y = X.take i ++ [y] ++ X.drop (i + 1) := by
  rw [List.set_eq_take_append_cons_drop, if_pos hi]; simp

theorem own_le {B : Nat} {w : World} {g n c : Nat} {X : List (Se × Value)} (h : RowS B w (.slice (some ⟨g, 0, none⟩) n c) X) : n ≤ c := by
  rcases h.t with ⟨h, _⟩ | ⟨g', c', cur, hv, _, h1, _⟩
  · cases h
  · obtain ⟨_, rfl, rfl⟩ : g = g' ∧ n = X.length ∧ c = c' := by simpa using hv
    exact h1

theorem row_form {B : Nat} {w : World} {v : Value} {X : List (Se × Value)} (h : RowS B w v X) (hp : 0 < X.length) : ∃ g n c, v = .slice (some ⟨g, 0, none⟩) n c := by
  obtain ⟨g, c, he, _⟩ := World.ownsRow.form h hp
  exact ⟨g, _, c, he⟩

theorem done_end {w w5 w8 : World} {b sz i g n c : Nat} {v : Value} {X8 : List (Se × Value)} {id seq : Int} {d : Vt} {L : List Se} (hD : doneI id seq L = some i) (hT : TbA w8 b sz (.slice (some ⟨g, 0, none⟩) n c) X8 (doneL id seq d L)) (hK5 : Kept [] w w5) (hK8 : Kept [b] w5 w8) (hg : w5.heap.size ≤ g) :
    DoneP w b sz v id seq d L (.returned (.bool true)) w8 :=
  ⟨by rw [hD]; rfl, _, _, hT, (hK5.mono (by simp)).trans hK8 (by simp), fun k hk => .inr (by cases hk; exact Nat.le_trans hK5.size hg)⟩

set_option linter.unusedSimpArgs false in
set_option maxHeartbeats 8000000 in
set_option maxRecDepth 100000 in
theorem done_call {w : World} {b sz : Nat} {v : Value} {X : List (Se × Value)} {L : List Se} (h : TbA w b sz v X L) (hl : L.length ≤ 100000) (id seq : Int) (d : Vt) (u : Value) (hu : KoV w u d.k) (hd : okV d) :
    Calls Try.prog 18 #[.pointer (some ⟨b, 0, none⟩), .int .i64 id, .int .i64 seq, vtV d u] w fun e w' => DoneP w b sz v id seq d L e w' := by
  obtain ⟨ao, n, c, rfl⟩ := hu.one
  have hKz : Kept [] w (w.alloc (.cells #[.int .i64 d.c, .int .i64 d.s, .int .i64 d.r, .string (str d.p), .int .u64 d.d, .slice ao n c, .int .i64 d.m] 31)) := (Kept.refl [] w).alloc _
  have HKz := hide hKz
  have HZ := hide (heap_alloc_new w (.cells #[.int .i64 d.c, .int .i64 d.s, .int .i64 d.r, .string (str d.p), .int .u64 d.d, .slice ao n c, .int .i64 d.m] 31))
  have hT1 := h.kept hKz
  have cI := byI_call hT1 hl id
  obtain ⟨vao, vc, hve, hvc, hvm, _, hat⟩ := h.row.shape
  subst hve
  unfold maxLen at hvm
  have HT := hide h
  have hblt := lt_of_at h.at_
  unfold vtV
  cases hI : byI id L with
  | none =>
    have HD : Hid (doneI id seq L = none) := by show _ = _; unfold doneI; rw [hI]
    have HL : Hid (doneL id seq d L = L) := by show _ = _; unfold doneL; rw [HD.out]
    rw [hI] at cI
    simp only [plV] at cI
    clear hT1 h hat
    go_enter Try.func18, Try.ntmps18
    go_wp2_with fail
    refine cI.mono ?_
    rintro _ w2 ⟨rfl, hK2⟩
    have HK2 := hide (HKz.out.trans hK2 (by simp))
    clear hK2 cI hKz
    go_wp2_with fail
    go_ret
    exact ⟨by rw [HD.out]; rfl, _, X, by rw [HL.out]; exact HT.out.kept HK2.out, HK2.out.mono (by simp), fun k hk => .inl hk⟩
  | some i =>
    obtain ⟨hi, _⟩ := byI_lt hI
    have hiX : i < X.length := by rw [h.len]; exact hi
    obtain ⟨g, he, hx⟩ := hat i hiX
    subst he
    have hCk := fst_get h.ses hiX hi
    obtain ⟨mo, mm, mc, hm2⟩ := (h.own _ (List.getElem_mem hiX)).ko.one
    have hxc : ∀ W, Kept [] w W → SeAt W g (i * 10) (L[i], .slice mo mm mc) := fun W hk => by
      have h1 := hx.kept hk (by simp)
      have e : X[i] = (L[i], .slice mo mm mc) := Prod.ext hCk hm2
      rw [e] at h1; exact h1
    have HXc := hide hxc
    have HD0 : Hid (doneI id seq L = if L[i].q < seq then some i else none) := by show _ = _; unfold doneI; rw [hI]; simp only [getD_get hi]
    have HL0 : Hid (doneI id seq L = some i → doneL id seq d L = L.set i (doneS seq d L[i])) := fun e => by unfold doneL; rw [e]; simp only [getD_get hi]
    obtain ⟨x, hxe⟩ : ∃ x, x = L[i] := ⟨_, rfl⟩
    rw [← hxe] at HXc HD0 HL0
    rw [hI] at cI
    simp only [plV] at cI
    have hii : (i : Int) < X.length := by omega
    have hic : i ≤ vc := by omega
    have hi0 : ¬ (i : Int) < 0 := by omega
    clear hT1 h hx hCk hm2 hxc hxe hat
    by_cases hq : x.q < seq
    · have HD : Hid (doneI id seq L = some i) := by show _ = _; rw [HD0.out, if_pos hq]
      have HL := hide (HL0.out HD.out)
      have hq' : ¬ seq ≤ x.q := by omega
      have HH1 : Hid (∀ y ∈ X, y.2.oneCell' = true) := fun y hy => by obtain ⟨_, _, _, e⟩ := (HT.out.own y hy).ko.one; rw [e]; rfl
      go_enter Try.func18, Try.ntmps18
      go_wp2_with fail
      refine cI.mono ?_
      rintro _ w2 ⟨rfl, hK2⟩
      have HK2 := hide (HKz.out.trans hK2 (by simp))
      have HZ2 := hide (hK2.at HZ.out (by simp))
      have hT2 := HT.out.kept HK2.out
      obtain ⟨c0, c1⟩ := hT2.cells
      obtain ⟨h0, h1, h2, h3, h4, h5, h6, h7, h8, h9⟩ := HXc.out w2 HK2.out
      have hKa : Kept [] w2 (w2.alloc (.cells #[.int .i64 x.i, .int .i64 x.q, .string (str x.n), .int .i64 x.v.c, .int .i64 x.v.s, .int .i64 x.v.r, .string (str x.v.p), .int .u64 x.v.d, .slice mo mm mc, .int .i64 x.v.m] 44)) := (Kept.refl [] w2).alloc _
      have HKa := hide hKa
      have HB3 := hide (heap_alloc_new w2 (.cells #[.int .i64 x.i, .int .i64 x.q, .string (str x.n), .int .i64 x.v.c, .int .i64 x.v.s, .int .i64 x.v.r, .string (str x.v.p), .int .u64 x.v.d, .slice mo mm mc, .int .i64 x.v.m] 44))
      have hZ3 := hKa.at HZ2.out (by simp)
      have z0 := cell_inC (k := 0) hZ3 rfl
      have z1 := cell_inC (k := 1) hZ3 rfl
      have z2 := cell_inC (k := 2) hZ3 rfl
      have z3 := cell_inC (k := 3) hZ3 rfl
      have z4 := cell_inC (k := 4) hZ3 rfl
      have z5 := cell_inC (k := 5) hZ3 rfl
      have z6 := cell_inC (k := 6) hZ3 rfl
      have cV := copyVerdict_call (w2.alloc (.cells #[.int .i64 x.i, .int .i64 x.q, .string (str x.n), .int .i64 x.v.c, .int .i64 x.v.s, .int .i64 x.v.r, .string (str x.v.p), .int .u64 x.v.d, .slice mo mm mc, .int .i64 x.v.m] 44)) d _ ((hu.kept HK2.out).kept hKa) hd
      unfold vtV at cV
      clear hK2 cI hT2 hKa hZ3 hKz
      go_wp2_with fail
      refine cV.mono ?_
      rintro _ w4 ⟨u4, rfl, hO4, hK4⟩
      obtain ⟨a4, n4, c4, rfl⟩ := hO4.ko.one
      clear h0 h1 h2 h3 h4 h5 h6 h7 h8 h9 z0 z1 z2 z3 z4 z5 z6 cV c0 c1
      have hB4 := hK4.at HB3.out (by simp)
      have q1 := cell_inC (k := 1) hB4 rfl
      have q3 := cell_inC (k := 3) hB4 rfl
      have q4 := cell_inC (k := 4) hB4 rfl
      have q5 := cell_inC (k := 5) hB4 rfl
      have q6 := cell_inC (k := 6) hB4 rfl
      have q7 := cell_inC (k := 7) hB4 rfl
      have q8 := cell_inC (k := 8) hB4 rfl
      have q9 := cell_inC (k := 9) hB4 rfl
      have fq1 := froz3 hB4 1
      have fq3 := froz3 hB4 3
      have fq4 := froz3 hB4 4
      have fq5 := froz3 hB4 5
      have fq6 := froz3 hB4 6
      have fq7 := froz3 hB4 7
      have fq8 := froz3 hB4 8
      have fq9 := froz3 hB4 9
      obtain ⟨w5, hw5⟩ : ∃ w5, w5 = ((((((((w4.setCell ⟨w2.heap.size, 1, none⟩ (.int .i64 seq)).setCell ⟨w2.heap.size, 3, none⟩ (.int .i64 d.c)).setCell ⟨w2.heap.size, 4, none⟩ (.int .i64 d.s)).setCell ⟨w2.heap.size, 5, none⟩ (.int .i64 d.r)).setCell ⟨w2.heap.size, 6, none⟩ (.string (str d.p))).setCell ⟨w2.heap.size, 7, none⟩ (.int .u64 d.d)).setCell ⟨w2.heap.size, 8, none⟩ (.slice a4 n4 c4)).setCell ⟨w2.heap.size, 9, none⟩ (.int .i64 d.m)) := ⟨_, rfl⟩
      have HB5 : Hid (w5.heap[w2.heap.size]? = some (.cells #[.int .i64 x.i, .int .i64 seq, .string (str x.n), .int .i64 d.c, .int .i64 d.s, .int .i64 d.r, .string (str d.p), .int .u64 d.d, .slice a4 n4 c4, .int .i64 d.m] 44 (0, 0))) := by
        show _ = _
        rw [hw5]; exact setB7_at (heap_setCell_same w4 _ 1 _ _ _ hB4) _ _ _ _ _ _ _
      have hK5b : Kept [w2.heap.size] w4 w5 := by rw [hw5]; exact setB7_kept ((Kept.refl _ w4).setCell (by simp) _) (by simp) _ _ _ _ _ _ _
      have hs2 : w.heap.size ≤ w2.heap.size := HK2.out.size
      have HK4 := hide ((HK2.out.trans HKa.out (by simp)).trans hK4 (by simp))
      have HK5 : Hid (Kept [] w w5) := HK4.out.trans hK5b (fun k hk => .inr (by simp at hk; omega))
      have HO5 : Hid (KoO 0 w5 (.slice a4 n4 c4) d.k) := (hO4.mono (Nat.zero_le _)).keep hK5b (typed1 hB4) (by decide) (by decide)
      have HS2 : Hid (w2.heap.size < w5.heap.size) := lt_of_at HB5.out
      clear hB4 hK4 hO4
      go_upto_region 6 with fail
      rw [← hw5]
      clear hw5 q1 q3 q4 q5 q6 q7 q8 q9 fq1 fq3 fq4 fq5 fq6 fq7 fq8 fq9 hK5b
      have hT5 := HT.out.kept HK5.out
      have t1 := hT5.cells.2
      have HR5 := hide hT5.row
      have HT5 := hide hT5
      clear hT5
      have b0 := cell_inC (k := 0) HB5.out rfl
      have b1 := cell_inC (k := 1) HB5.out rfl
      have b2 := cell_inC (k := 2) HB5.out rfl
      have b3 := cell_inC (k := 3) HB5.out rfl
      have b4 := cell_inC (k := 4) HB5.out rfl
      have b5 := cell_inC (k := 5) HB5.out rfl
      have b6 := cell_inC (k := 6) HB5.out rfl
      have b7 := cell_inC (k := 7) HB5.out rfl
      have b8 := cell_inC (k := 8) HB5.out rfl
      have b9 := cell_inC (k := 9) HB5.out rfl
      have cB := fun W (hk : Kept [] w5 W) => behind_own W _ _ ((HR5.out.kept hk).part (k := i) (by omega)) (doneS seq d x) (.slice a4 n4 c4) ⟨_, _, _, rfl⟩ (by simp; omega)
      unfold seV doneS at cB
      simp only at cB
      have HE : Hid (∀ w8 v8, Kept [] w5 w8 → TRow w8 v8 (X.take i ++ [(doneS seq d x, .slice a4 n4 c4)] ++ X.drop (i + 1)) → TbA (w8.setCell ⟨b, 1, none⟩ v8) b sz v8 (X.take i ++ [(doneS seq d x, .slice a4 n4 c4)] ++ X.drop (i + 1)) (doneL id seq d L)) := fun w8 v8 hK8 hR8 => by
        refine HT5.out.store hK8 hR8 (fun y hy => ?_) ?_
        · rcases List.mem_append.1 hy with hy | hy
          · rcases List.mem_append.1 hy with hy | hy
            · exact (HT5.out.own y (List.mem_of_mem_take hy)).kept hK8
            · simp at hy; subst hy; exact HO5.out.kept hK8
          · exact (HT5.out.own y (List.mem_of_mem_drop hy)).kept hK8
        · rw [HL.out, ← set_parts hiX, List.map_set, HT5.out.ses]
      obtain ⟨i0, hi0i, _⟩ := info_parts info_session
      have HI0 := hide hi0i
      have qc : (i : Int) ≤ vc := by omega
      have qa : (0 : Int) ≤ (i : Int) + 1 := by omega
      have hw : IntKind.i64.wrap ((i : Int) + 1) = ((i + 1 : Nat) : Int) := by rw [IntWalk.i64_in _ (by omega)]; omega
      clear hi0i
      have hXl : X.length ≤ 100000 := by rw [HT5.out.len]; exact hl
      by_cases hlast : i + 1 = X.length
      · have HDr : Hid (X.drop (i + 1) = []) := List.drop_of_length_le (by omega)
        have qb : (i : Int) + 1 ≤ X.length := by omega
        have qz : X.length - (i + 1) = 0 := by omega
        by_cases hcap : vc = i + 1
        · have hcapT : (vc = i + 1) = True := eq_true hcap
          have qv : vc - (i + 1) = 0 := by omega
          clear hlast hcap
          refine wp_region_held_drew (S := fun w' => w'.cell? ⟨w2.heap.size, 0, none⟩ = some (.int .i64 x.i) ∧ w'.cell? ⟨w2.heap.size, 1, none⟩ = some (.int .i64 seq) ∧ w'.cell? ⟨w2.heap.size, 2, none⟩ = some (.string (str x.n)) ∧ w'.cell? ⟨w2.heap.size, 3, none⟩ = some (.int .i64 d.c) ∧ w'.cell? ⟨w2.heap.size, 4, none⟩ = some (.int .i64 d.s) ∧ w'.cell? ⟨w2.heap.size, 5, none⟩ = some (.int .i64 d.r) ∧ w'.cell? ⟨w2.heap.size, 6, none⟩ = some (.string (str d.p)) ∧ w'.cell? ⟨w2.heap.size, 7, none⟩ = some (.int .u64 d.d) ∧ w'.cell? ⟨w2.heap.size, 8, none⟩ = some (.slice a4 n4 c4) ∧ w'.cell? ⟨w2.heap.size, 9, none⟩ = some (.int .i64 d.m)) (by kernel_rfl) ⟨b0, b1, b2, b3, b4, b5, b6, b7, b8, b9⟩ (fun hHeld => ?_)
          refine wpAnyH_take (i := 0) (v := ?_) rfl (by kernel_rfl) (by kernel_rfl) (by kernel_rfl) (fun _ _ _ h => h) (Or.inl ⟨by rfl, ?_⟩) hHeld ?_
          rotate_left
          · intro w9 hSw; (try dsimp only at hSw); go_simp; (try with_reducible rfl)
          try simp only [List.getElem_toArray, List.getElem_cons_succ, List.getElem_cons_zero, Act.put, List.setIfInBounds_toArray, List.set_cons_zero, List.set_cons_succ]
          refine wpAnyH_take (i := 1) (v := ?_) rfl (by kernel_rfl) (by kernel_rfl) (by kernel_rfl) (fun _ _ _ h => h) (Or.inl ⟨by rfl, ?_⟩) hHeld ?_
          rotate_left
          · intro w9 hSw; (try dsimp only at hSw); go_simp; (try with_reducible rfl)
          try simp only [List.getElem_toArray, List.getElem_cons_succ, List.getElem_cons_zero, Act.put, List.setIfInBounds_toArray, List.set_cons_zero, List.set_cons_succ]
          refine wpAnyH_take (i := 2) (v := ?_) rfl (by kernel_rfl) (by kernel_rfl) (by kernel_rfl) (fun _ _ _ h => h) (Or.inl ⟨by rfl, ?_⟩) hHeld ?_
          rotate_left
          · intro w9 hSw; (try dsimp only at hSw); go_simp; (try with_reducible rfl)
          try simp only [List.getElem_toArray, List.getElem_cons_succ, List.getElem_cons_zero, Act.put, List.setIfInBounds_toArray, List.set_cons_zero, List.set_cons_succ]
          refine wpAnyH_take (i := 3) (v := ?_) rfl (by kernel_rfl) (by kernel_rfl) (by kernel_rfl) (fun _ _ _ h => h) (Or.inl ⟨by rfl, ?_⟩) hHeld ?_
          rotate_left
          · intro w9 hSw; (try dsimp only at hSw); go_simp; (try with_reducible rfl)
          try simp only [List.getElem_toArray, List.getElem_cons_succ, List.getElem_cons_zero, Act.put, List.setIfInBounds_toArray, List.set_cons_zero, List.set_cons_succ]
          refine wpAnyH_take (i := 5) (v := ?_) rfl (by kernel_rfl) (by kernel_rfl) (by kernel_rfl) (fun _ _ _ h => h) (Or.inl ⟨by rfl, ?_⟩) hHeld ?_
          rotate_left
          · intro w9 hSw; (try dsimp only at hSw); go_simp; (try with_reducible rfl)
          try simp only [List.getElem_toArray, List.getElem_cons_succ, List.getElem_cons_zero, Act.put, List.setIfInBounds_toArray, List.set_cons_zero, List.set_cons_succ]
          refine wpAnyH_take (i := 7) (v := ?_) rfl (by kernel_rfl) (by kernel_rfl) (by kernel_rfl) (fun _ _ _ h => h) (Or.inl ⟨by rfl, ?_⟩) hHeld ?_
          rotate_left
          · intro w9 hSw; (try dsimp only at hSw); go_simp; (try with_reducible rfl)
          try simp only [List.getElem_toArray, List.getElem_cons_succ, List.getElem_cons_zero, Act.put, List.setIfInBounds_toArray, List.set_cons_zero, List.set_cons_succ]
          refine wpAnyH_take (i := 9) (v := ?_) rfl (by kernel_rfl) (by kernel_rfl) (by kernel_rfl) (fun _ _ _ h => h) (Or.inl ⟨by rfl, ?_⟩) hHeld ?_
          rotate_left
          · intro w9 hSw; (try dsimp only at hSw); go_simp; (try with_reducible rfl)
          try simp only [List.getElem_toArray, List.getElem_cons_succ, List.getElem_cons_zero, Act.put, List.setIfInBounds_toArray, List.set_cons_zero, List.set_cons_succ]
          refine wpAnyH_take (i := 10) (v := ?_) rfl (by kernel_rfl) (by kernel_rfl) (by kernel_rfl) (fun _ _ _ h => h) (Or.inl ⟨by rfl, ?_⟩) hHeld ?_
          rotate_left
          · intro w9 hSw; (try dsimp only at hSw); go_simp; (try with_reducible rfl)
          try simp only [List.getElem_toArray, List.getElem_cons_succ, List.getElem_cons_zero, Act.put, List.setIfInBounds_toArray, List.set_cons_zero, List.set_cons_succ]
          refine wpAnyH_take (i := 11) (v := ?_) rfl (by kernel_rfl) (by kernel_rfl) (by kernel_rfl) (fun _ _ _ h => h) (Or.inl ⟨by rfl, ?_⟩) hHeld ?_
          rotate_left
          · intro w9 hSw; (try dsimp only at hSw); go_simp; (try with_reducible rfl)
          try simp only [List.getElem_toArray, List.getElem_cons_succ, List.getElem_cons_zero, Act.put, List.setIfInBounds_toArray, List.set_cons_zero, List.set_cons_succ]
          refine wpAnyH_take (i := 13) (v := ?_) rfl (by kernel_rfl) (by kernel_rfl) (by kernel_rfl) (fun _ _ _ h => h) (Or.inl ⟨by rfl, ?_⟩) hHeld ?_
          rotate_left
          · intro w9 hSw; (try dsimp only at hSw); go_simp; (try with_reducible rfl)
          try simp only [List.getElem_toArray, List.getElem_cons_succ, List.getElem_cons_zero, Act.put, List.setIfInBounds_toArray, List.set_cons_zero, List.set_cons_succ]
          refine wpAnyH_take (i := 14) (v := ?_) rfl (by kernel_rfl) (by kernel_rfl) (by kernel_rfl) (fun _ _ _ h => h) (Or.inl ⟨by rfl, ?_⟩) hHeld ?_
          rotate_left
          · intro w9 hSw; (try dsimp only at hSw); go_simp; (try with_reducible rfl)
          try simp only [List.getElem_toArray, List.getElem_cons_succ, List.getElem_cons_zero, Act.put, List.setIfInBounds_toArray, List.set_cons_zero, List.set_cons_succ]
          refine wpAnyH_ready (rs := [4, 12]) (by kernel_rfl) (by simp) (AllReadyH.cons rfl (fun K0 hK0 => ?_) (AllReadyH.cons rfl (fun K0 hK0 => ?_) AllReadyH.nil))
          · go_simp
            refine hK0.out _ _ hHeld (fun hHeld => ?_)
            clear hK0 K0
            try simp only [List.getElem_toArray, List.getElem_cons_succ, List.getElem_cons_zero, Act.put, List.setIfInBounds_toArray, List.set_cons_zero, List.set_cons_succ]
            refine wpAnyH_take (i := 6) (v := ?_) rfl (by kernel_rfl) (by kernel_rfl) (by kernel_rfl) (fun _ _ _ h => h) (Or.inl ⟨by rfl, ?_⟩) hHeld ?_
            rotate_left
            · intro w9 hSw; (try dsimp only at hSw); go_simp; (try with_reducible rfl)
            try simp only [List.getElem_toArray, List.getElem_cons_succ, List.getElem_cons_zero, Act.put, List.setIfInBounds_toArray, List.set_cons_zero, List.set_cons_succ]
            refine wpAnyH_ready (rs := [8, 12]) (by kernel_rfl) (by simp) (AllReadyH.cons rfl (fun K0 hK0 => ?_) (AllReadyH.cons rfl (fun K0 hK0 => ?_) AllReadyH.nil))
            · go_simp
              refine (cB _ (Kept.refl [] _).drew).mono ?_
              rintro _ w6 ⟨v6, rfl, hR6, hK6⟩
              replace hR6 : RowS w5.heap.size w6 v6 (X.take i ++ [(doneS seq d x, .slice a4 n4 c4)]) := hR6
              replace hK6 := (Kept.refl [] w5).drew.trans hK6 (by simp)
              obtain ⟨g6, n6, c6, rfl⟩ := row_form hR6 (by simp)
              have HR6 := hide hR6
              have HK6 := hide hK6
              have hT6 := HT5.out.kept hK6
              have t6 := hT6.cells.2
              clear hR6 hK6 hT6
              go_wp2_with fail
              refine hK0.out _ _ ⟨HK6.out.cell b0 (by simp), HK6.out.cell b1 (by simp), HK6.out.cell b2 (by simp), HK6.out.cell b3 (by simp), HK6.out.cell b4 (by simp), HK6.out.cell b5 (by simp), HK6.out.cell b6 (by simp), HK6.out.cell b7 (by simp), HK6.out.cell b8 (by simp), HK6.out.cell b9 (by simp)⟩ (fun hHeld => ?_)
              clear hK0 K0
              try simp only [List.getElem_toArray, List.getElem_cons_succ, List.getElem_cons_zero, Act.put, List.setIfInBounds_toArray, List.set_cons_zero, List.set_cons_succ]
              refine wpAnyH_ready (rs := [12]) (by kernel_rfl) (by simp) (AllReadyH.cons rfl (fun K0 hK0 => ?_) AllReadyH.nil)
              go_simp
              refine hK0.out _ _ hHeld (fun hHeld => ?_)
              clear hK0 K0
              try simp only [List.getElem_toArray, List.getElem_cons_succ, List.getElem_cons_zero, Act.put, List.setIfInBounds_toArray, List.set_cons_zero, List.set_cons_succ]
              refine wpAnyH_take (i := 15) (v := ?_) rfl (by kernel_rfl) (by kernel_rfl) (by kernel_rfl) (fun _ _ _ h => h) (Or.inl ⟨by rfl, ?_⟩) hHeld ?_
              rotate_left
              · intro w9 hSw; (try dsimp only at hSw); go_simp; (try with_reducible rfl)
              try simp only [List.getElem_toArray, List.getElem_cons_succ, List.getElem_cons_zero, Act.put, List.setIfInBounds_toArray, List.set_cons_zero, List.set_cons_succ]
              refine wpAnyH_ready (rs := [16]) (by kernel_rfl) (by simp) (AllReadyH.cons rfl (fun K0 hK0 => ?_) AllReadyH.nil)
              refine step_appNo (by rfl) _ _ 49 (by rfl) 44 i0 Try.underlying49 HI0.out (some ⟨g6, 0, none⟩) n6 c6 (own_le HR6.out) (by simp [Act.eval]) ⟨g, 0, none⟩ 0 (by simp [Act.eval, qz, qv]) ?_
              refine hK0.out _ _ ⟨HK6.out.cell b0 (by simp), HK6.out.cell b1 (by simp), HK6.out.cell b2 (by simp), HK6.out.cell b3 (by simp), HK6.out.cell b4 (by simp), HK6.out.cell b5 (by simp), HK6.out.cell b6 (by simp), HK6.out.cell b7 (by simp), HK6.out.cell b8 (by simp), HK6.out.cell b9 (by simp)⟩ (fun hHeld => ?_)
              have HE7 := hide (HE.out w6 _ HK6.out (by rw [HDr.out, List.append_nil]; exact HR6.out.t))
              have HK7 := HK6
              have HB7 : Hid (w5.heap.size ≤ g6) := (World.ownsRow.lt HR6.out g6 rfl).1
              clear hK0 K0
              try simp only [List.getElem_toArray, List.getElem_cons_succ, List.getElem_cons_zero, Act.put, List.setIfInBounds_toArray, List.set_cons_zero, List.set_cons_succ]
              refine wpAnyH_take (i := 17) (v := ?_) rfl (by kernel_rfl) (by kernel_rfl) (by kernel_rfl) (fun _ _ _ h => h) (Or.inl ⟨by rfl, ?_⟩) hHeld ?_
              rotate_left
              · intro w9 hSw; (try dsimp only at hSw); go_simp; (try with_reducible rfl)
              try simp only [List.getElem_toArray, List.getElem_cons_succ, List.getElem_cons_zero, Act.put, List.setIfInBounds_toArray, List.set_cons_zero, List.set_cons_succ]
              refine wpAnyH_take (i := 18) (v := ?_) rfl (by kernel_rfl) (by kernel_rfl) (by kernel_rfl) (fun _ _ _ h => h) (Or.inl ⟨by rfl, ?_⟩) hHeld ?_
              rotate_left
              · intro w9 hSw; (try dsimp only at hSw); go_simp; (try with_reducible rfl)
              try simp only [List.getElem_toArray, List.getElem_cons_succ, List.getElem_cons_zero, Act.put, List.setIfInBounds_toArray, List.set_cons_zero, List.set_cons_succ]
              have fz := froz3 (HK7.out.at HT5.out.at_ (by simp)) 1
              refine wpAnyH_ready (rs := [19]) (by kernel_rfl) (by simp) (AllReadyH.cons rfl (fun K0 hK0 => ?_) AllReadyH.nil)
              go_simp
              have hK8 : Kept [b] w5 (w6.setCell ⟨b, 1, none⟩ (.slice (some ⟨g6, 0, none⟩) n6 c6)) := (HK7.out.mono (by simp)).setCell (by simp) _
              refine hK0.out _ _ ⟨hK8.cell b0 (by simp; omega), hK8.cell b1 (by simp; omega), hK8.cell b2 (by simp; omega), hK8.cell b3 (by simp; omega), hK8.cell b4 (by simp; omega), hK8.cell b5 (by simp; omega), hK8.cell b6 (by simp; omega), hK8.cell b7 (by simp; omega), hK8.cell b8 (by simp; omega), hK8.cell b9 (by simp; omega)⟩ (fun hHeld => ?_)
              refine wpAnyH_done (by kernel_rfl) ?_ _
              clear hK0 K0
              all_goals go_wp2_with fail
              all_goals go_ret
              all_goals exact done_end HD.out HE7.out HK5.out hK8 HB7.out
            · go_simp
              refine hK0.out _ _ hHeld (fun hHeld => ?_)
              clear hK0 K0
              try simp only [List.getElem_toArray, List.getElem_cons_succ, List.getElem_cons_zero, Act.put, List.setIfInBounds_toArray, List.set_cons_zero, List.set_cons_succ]
              refine wpAnyH_take (i := 15) (v := ?_) rfl (by kernel_rfl) (by kernel_rfl) (by kernel_rfl) (fun _ _ _ h => h) (Or.inl ⟨by rfl, ?_⟩) hHeld ?_
              rotate_left
              · intro w9 hSw; (try dsimp only at hSw); go_simp; (try with_reducible rfl)
              try simp only [List.getElem_toArray, List.getElem_cons_succ, List.getElem_cons_zero, Act.put, List.setIfInBounds_toArray, List.set_cons_zero, List.set_cons_succ]
              refine wpAnyH_ready (rs := [8]) (by kernel_rfl) (by simp) (AllReadyH.cons rfl (fun K0 hK0 => ?_) AllReadyH.nil)
              go_simp
              refine (cB _ (Kept.refl [] _).drew).mono ?_
              rintro _ w6 ⟨v6, rfl, hR6, hK6⟩
              replace hR6 : RowS w5.heap.size w6 v6 (X.take i ++ [(doneS seq d x, .slice a4 n4 c4)]) := hR6
              replace hK6 := (Kept.refl [] w5).drew.trans hK6 (by simp)
              obtain ⟨g6, n6, c6, rfl⟩ := row_form hR6 (by simp)
              have HR6 := hide hR6
              have HK6 := hide hK6
              have hT6 := HT5.out.kept hK6
              have t6 := hT6.cells.2
              clear hR6 hK6 hT6
              go_wp2_with fail
              refine hK0.out _ _ ⟨HK6.out.cell b0 (by simp), HK6.out.cell b1 (by simp), HK6.out.cell b2 (by simp), HK6.out.cell b3 (by simp), HK6.out.cell b4 (by simp), HK6.out.cell b5 (by simp), HK6.out.cell b6 (by simp), HK6.out.cell b7 (by simp), HK6.out.cell b8 (by simp), HK6.out.cell b9 (by simp)⟩ (fun hHeld => ?_)
              clear hK0 K0
              try simp only [List.getElem_toArray, List.getElem_cons_succ, List.getElem_cons_zero, Act.put, List.setIfInBounds_toArray, List.set_cons_zero, List.set_cons_succ]
              refine wpAnyH_ready (rs := [16]) (by kernel_rfl) (by simp) (AllReadyH.cons rfl (fun K0 hK0 => ?_) AllReadyH.nil)
              refine step_appNo (by rfl) _ _ 49 (by rfl) 44 i0 Try.underlying49 HI0.out (some ⟨g6, 0, none⟩) n6 c6 (own_le HR6.out) (by simp [Act.eval]) ⟨g, 0, none⟩ 0 (by simp [Act.eval, qz, qv]) ?_
              refine hK0.out _ _ ⟨HK6.out.cell b0 (by simp), HK6.out.cell b1 (by simp), HK6.out.cell b2 (by simp), HK6.out.cell b3 (by simp), HK6.out.cell b4 (by simp), HK6.out.cell b5 (by simp), HK6.out.cell b6 (by simp), HK6.out.cell b7 (by simp), HK6.out.cell b8 (by simp), HK6.out.cell b9 (by simp)⟩ (fun hHeld => ?_)
              have HE7 := hide (HE.out w6 _ HK6.out (by rw [HDr.out, List.append_nil]; exact HR6.out.t))
              have HK7 := HK6
              have HB7 : Hid (w5.heap.size ≤ g6) := (World.ownsRow.lt HR6.out g6 rfl).1
              clear hK0 K0
              try simp only [List.getElem_toArray, List.getElem_cons_succ, List.getElem_cons_zero, Act.put, List.setIfInBounds_toArray, List.set_cons_zero, List.set_cons_succ]
              refine wpAnyH_take (i := 17) (v := ?_) rfl (by kernel_rfl) (by kernel_rfl) (by kernel_rfl) (fun _ _ _ h => h) (Or.inl ⟨by rfl, ?_⟩) hHeld ?_
              rotate_left
              · intro w9 hSw; (try dsimp only at hSw); go_simp; (try with_reducible rfl)
              try simp only [List.getElem_toArray, List.getElem_cons_succ, List.getElem_cons_zero, Act.put, List.setIfInBounds_toArray, List.set_cons_zero, List.set_cons_succ]
              refine wpAnyH_take (i := 18) (v := ?_) rfl (by kernel_rfl) (by kernel_rfl) (by kernel_rfl) (fun _ _ _ h => h) (Or.inl ⟨by rfl, ?_⟩) hHeld ?_
              rotate_left
              · intro w9 hSw; (try dsimp only at hSw); go_simp; (try with_reducible rfl)
              try simp only [List.getElem_toArray, List.getElem_cons_succ, List.getElem_cons_zero, Act.put, List.setIfInBounds_toArray, List.set_cons_zero, List.set_cons_succ]
              have fz := froz3 (HK7.out.at HT5.out.at_ (by simp)) 1
              refine wpAnyH_ready (rs := [19]) (by kernel_rfl) (by simp) (AllReadyH.cons rfl (fun K0 hK0 => ?_) AllReadyH.nil)
              go_simp
              have hK8 : Kept [b] w5 (w6.setCell ⟨b, 1, none⟩ (.slice (some ⟨g6, 0, none⟩) n6 c6)) := (HK7.out.mono (by simp)).setCell (by simp) _
              refine hK0.out _ _ ⟨hK8.cell b0 (by simp; omega), hK8.cell b1 (by simp; omega), hK8.cell b2 (by simp; omega), hK8.cell b3 (by simp; omega), hK8.cell b4 (by simp; omega), hK8.cell b5 (by simp; omega), hK8.cell b6 (by simp; omega), hK8.cell b7 (by simp; omega), hK8.cell b8 (by simp; omega), hK8.cell b9 (by simp; omega)⟩ (fun hHeld => ?_)
              refine wpAnyH_done (by kernel_rfl) ?_ _
              clear hK0 K0
              all_goals go_wp2_with fail
              all_goals go_ret
              all_goals exact done_end HD.out HE7.out HK5.out hK8 HB7.out
          · go_simp
            refine hK0.out _ _ hHeld (fun hHeld => ?_)
            clear hK0 K0
            try simp only [List.getElem_toArray, List.getElem_cons_succ, List.getElem_cons_zero, Act.put, List.setIfInBounds_toArray, List.set_cons_zero, List.set_cons_succ]
            refine wpAnyH_take (i := 15) (v := ?_) rfl (by kernel_rfl) (by kernel_rfl) (by kernel_rfl) (fun _ _ _ h => h) (Or.inl ⟨by rfl, ?_⟩) hHeld ?_
            rotate_left
            · intro w9 hSw; (try dsimp only at hSw); go_simp; (try with_reducible rfl)
            try simp only [List.getElem_toArray, List.getElem_cons_succ, List.getElem_cons_zero, Act.put, List.setIfInBounds_toArray, List.set_cons_zero, List.set_cons_succ]
            refine wpAnyH_ready (rs := [4]) (by kernel_rfl) (by simp) (AllReadyH.cons rfl (fun K0 hK0 => ?_) AllReadyH.nil)
            go_simp
            refine hK0.out _ _ hHeld (fun hHeld => ?_)
            clear hK0 K0
            try simp only [List.getElem_toArray, List.getElem_cons_succ, List.getElem_cons_zero, Act.put, List.setIfInBounds_toArray, List.set_cons_zero, List.set_cons_succ]
            refine wpAnyH_take (i := 6) (v := ?_) rfl (by kernel_rfl) (by kernel_rfl) (by kernel_rfl) (fun _ _ _ h => h) (Or.inl ⟨by rfl, ?_⟩) hHeld ?_
            rotate_left
            · intro w9 hSw; (try dsimp only at hSw); go_simp; (try with_reducible rfl)
            try simp only [List.getElem_toArray, List.getElem_cons_succ, List.getElem_cons_zero, Act.put, List.setIfInBounds_toArray, List.set_cons_zero, List.set_cons_succ]
            refine wpAnyH_ready (rs := [8]) (by kernel_rfl) (by simp) (AllReadyH.cons rfl (fun K0 hK0 => ?_) AllReadyH.nil)
            go_simp
            refine (cB _ (Kept.refl [] _).drew).mono ?_
            rintro _ w6 ⟨v6, rfl, hR6, hK6⟩
            replace hR6 : RowS w5.heap.size w6 v6 (X.take i ++ [(doneS seq d x, .slice a4 n4 c4)]) := hR6
            replace hK6 := (Kept.refl [] w5).drew.trans hK6 (by simp)
            obtain ⟨g6, n6, c6, rfl⟩ := row_form hR6 (by simp)
            have HR6 := hide hR6
            have HK6 := hide hK6
            have hT6 := HT5.out.kept hK6
            have t6 := hT6.cells.2
            clear hR6 hK6 hT6
            go_wp2_with fail
            refine hK0.out _ _ ⟨HK6.out.cell b0 (by simp), HK6.out.cell b1 (by simp), HK6.out.cell b2 (by simp), HK6.out.cell b3 (by simp), HK6.out.cell b4 (by simp), HK6.out.cell b5 (by simp), HK6.out.cell b6 (by simp), HK6.out.cell b7 (by simp), HK6.out.cell b8 (by simp), HK6.out.cell b9 (by simp)⟩ (fun hHeld => ?_)
            clear hK0 K0
            try simp only [List.getElem_toArray, List.getElem_cons_succ, List.getElem_cons_zero, Act.put, List.setIfInBounds_toArray, List.set_cons_zero, List.set_cons_succ]
            refine wpAnyH_ready (rs := [16]) (by kernel_rfl) (by simp) (AllReadyH.cons rfl (fun K0 hK0 => ?_) AllReadyH.nil)
            refine step_appNo (by rfl) _ _ 49 (by rfl) 44 i0 Try.underlying49 HI0.out (some ⟨g6, 0, none⟩) n6 c6 (own_le HR6.out) (by simp [Act.eval]) ⟨g, 0, none⟩ 0 (by simp [Act.eval, qz, qv]) ?_
            refine hK0.out _ _ ⟨HK6.out.cell b0 (by simp), HK6.out.cell b1 (by simp), HK6.out.cell b2 (by simp), HK6.out.cell b3 (by simp), HK6.out.cell b4 (by simp), HK6.out.cell b5 (by simp), HK6.out.cell b6 (by simp), HK6.out.cell b7 (by simp), HK6.out.cell b8 (by simp), HK6.out.cell b9 (by simp)⟩ (fun hHeld => ?_)
            have HE7 := hide (HE.out w6 _ HK6.out (by rw [HDr.out, List.append_nil]; exact HR6.out.t))
            have HK7 := HK6
            have HB7 : Hid (w5.heap.size ≤ g6) := (World.ownsRow.lt HR6.out g6 rfl).1
            clear hK0 K0
            try simp only [List.getElem_toArray, List.getElem_cons_succ, List.getElem_cons_zero, Act.put, List.setIfInBounds_toArray, List.set_cons_zero, List.set_cons_succ]
            refine wpAnyH_take (i := 17) (v := ?_) rfl (by kernel_rfl) (by kernel_rfl) (by kernel_rfl) (fun _ _ _ h => h) (Or.inl ⟨by rfl, ?_⟩) hHeld ?_
            rotate_left
            · intro w9 hSw; (try dsimp only at hSw); go_simp; (try with_reducible rfl)
            try simp only [List.getElem_toArray, List.getElem_cons_succ, List.getElem_cons_zero, Act.put, List.setIfInBounds_toArray, List.set_cons_zero, List.set_cons_succ]
            refine wpAnyH_take (i := 18) (v := ?_) rfl (by kernel_rfl) (by kernel_rfl) (by kernel_rfl) (fun _ _ _ h => h) (Or.inl ⟨by rfl, ?_⟩) hHeld ?_
            rotate_left
            · intro w9 hSw; (try dsimp only at hSw); go_simp; (try with_reducible rfl)
            try simp only [List.getElem_toArray, List.getElem_cons_succ, List.getElem_cons_zero, Act.put, List.setIfInBounds_toArray, List.set_cons_zero, List.set_cons_succ]
            have fz := froz3 (HK7.out.at HT5.out.at_ (by simp)) 1
            refine wpAnyH_ready (rs := [19]) (by kernel_rfl) (by simp) (AllReadyH.cons rfl (fun K0 hK0 => ?_) AllReadyH.nil)
            go_simp
            have hK8 : Kept [b] w5 (w6.setCell ⟨b, 1, none⟩ (.slice (some ⟨g6, 0, none⟩) n6 c6)) := (HK7.out.mono (by simp)).setCell (by simp) _
            refine hK0.out _ _ ⟨hK8.cell b0 (by simp; omega), hK8.cell b1 (by simp; omega), hK8.cell b2 (by simp; omega), hK8.cell b3 (by simp; omega), hK8.cell b4 (by simp; omega), hK8.cell b5 (by simp; omega), hK8.cell b6 (by simp; omega), hK8.cell b7 (by simp; omega), hK8.cell b8 (by simp; omega), hK8.cell b9 (by simp; omega)⟩ (fun hHeld => ?_)
            refine wpAnyH_done (by kernel_rfl) ?_ _
            clear hK0 K0
            all_goals go_wp2_with fail
            all_goals go_ret
            all_goals exact done_end HD.out HE7.out HK5.out hK8 HB7.out
        · clear hlast
          refine wp_region_held_drew (S := fun w' => w'.cell? ⟨w2.heap.size, 0, none⟩ = some (.int .i64 x.i) ∧ w'.cell? ⟨w2.heap.size, 1, none⟩ = some (.int .i64 seq) ∧ w'.cell? ⟨w2.heap.size, 2, none⟩ = some (.string (str x.n)) ∧ w'.cell? ⟨w2.heap.size, 3, none⟩ = some (.int .i64 d.c) ∧ w'.cell? ⟨w2.heap.size, 4, none⟩ = some (.int .i64 d.s) ∧ w'.cell? ⟨w2.heap.size, 5, none⟩ = some (.int .i64 d.r) ∧ w'.cell? ⟨w2.heap.size, 6, none⟩ = some (.string (str d.p)) ∧ w'.cell? ⟨w2.heap.size, 7, none⟩ = some (.int .u64 d.d) ∧ w'.cell? ⟨w2.heap.size, 8, none⟩ = some (.slice a4 n4 c4) ∧ w'.cell? ⟨w2.heap.size, 9, none⟩ = some (.int .i64 d.m)) (by kernel_rfl) ⟨b0, b1, b2, b3, b4, b5, b6, b7, b8, b9⟩ (fun hHeld => ?_)
          refine wpAnyH_take (i := 0) (v := ?_) rfl (by kernel_rfl) (by kernel_rfl) (by kernel_rfl) (fun _ _ _ h => h) (Or.inl ⟨by rfl, ?_⟩) hHeld ?_
          rotate_left
          · intro w9 hSw; (try dsimp only at hSw); go_simp; (try with_reducible rfl)
          try simp only [List.getElem_toArray, List.getElem_cons_succ, List.getElem_cons_zero, Act.put, List.setIfInBounds_toArray, List.set_cons_zero, List.set_cons_succ]
          refine wpAnyH_take (i := 1) (v := ?_) rfl (by kernel_rfl) (by kernel_rfl) (by kernel_rfl) (fun _ _ _ h => h) (Or.inl ⟨by rfl, ?_⟩) hHeld ?_
          rotate_left
          · intro w9 hSw; (try dsimp only at hSw); go_simp; (try with_reducible rfl)
          try simp only [List.getElem_toArray, List.getElem_cons_succ, List.getElem_cons_zero, Act.put, List.setIfInBounds_toArray, List.set_cons_zero, List.set_cons_succ]
          refine wpAnyH_take (i := 2) (v := ?_) rfl (by kernel_rfl) (by kernel_rfl) (by kernel_rfl) (fun _ _ _ h => h) (Or.inl ⟨by rfl, ?_⟩) hHeld ?_
          rotate_left
          · intro w9 hSw; (try dsimp only at hSw); go_simp; (try with_reducible rfl)
          try simp only [List.getElem_toArray, List.getElem_cons_succ, List.getElem_cons_zero, Act.put, List.setIfInBounds_toArray, List.set_cons_zero, List.set_cons_succ]
          refine wpAnyH_take (i := 3) (v := ?_) rfl (by kernel_rfl) (by kernel_rfl) (by kernel_rfl) (fun _ _ _ h => h) (Or.inl ⟨by rfl, ?_⟩) hHeld ?_
          rotate_left
          · intro w9 hSw; (try dsimp only at hSw); go_simp; (try with_reducible rfl)
          try simp only [List.getElem_toArray, List.getElem_cons_succ, List.getElem_cons_zero, Act.put, List.setIfInBounds_toArray, List.set_cons_zero, List.set_cons_succ]
          refine wpAnyH_take (i := 5) (v := ?_) rfl (by kernel_rfl) (by kernel_rfl) (by kernel_rfl) (fun _ _ _ h => h) (Or.inl ⟨by rfl, ?_⟩) hHeld ?_
          rotate_left
          · intro w9 hSw; (try dsimp only at hSw); go_simp; (try with_reducible rfl)
          try simp only [List.getElem_toArray, List.getElem_cons_succ, List.getElem_cons_zero, Act.put, List.setIfInBounds_toArray, List.set_cons_zero, List.set_cons_succ]
          refine wpAnyH_take (i := 7) (v := ?_) rfl (by kernel_rfl) (by kernel_rfl) (by kernel_rfl) (fun _ _ _ h => h) (Or.inl ⟨by rfl, ?_⟩) hHeld ?_
          rotate_left
          · intro w9 hSw; (try dsimp only at hSw); go_simp; (try with_reducible rfl)
          try simp only [List.getElem_toArray, List.getElem_cons_succ, List.getElem_cons_zero, Act.put, List.setIfInBounds_toArray, List.set_cons_zero, List.set_cons_succ]
          refine wpAnyH_take (i := 9) (v := ?_) rfl (by kernel_rfl) (by kernel_rfl) (by kernel_rfl) (fun _ _ _ h => h) (Or.inl ⟨by rfl, ?_⟩) hHeld ?_
          rotate_left
          · intro w9 hSw; (try dsimp only at hSw); go_simp; (try with_reducible rfl)
          try simp only [List.getElem_toArray, List.getElem_cons_succ, List.getElem_cons_zero, Act.put, List.setIfInBounds_toArray, List.set_cons_zero, List.set_cons_succ]
          refine wpAnyH_take (i := 10) (v := ?_) rfl (by kernel_rfl) (by kernel_rfl) (by kernel_rfl) (fun _ _ _ h => h) (Or.inl ⟨by rfl, ?_⟩) hHeld ?_
          rotate_left
          · intro w9 hSw; (try dsimp only at hSw); go_simp; (try with_reducible rfl)
          try simp only [List.getElem_toArray, List.getElem_cons_succ, List.getElem_cons_zero, Act.put, List.setIfInBounds_toArray, List.set_cons_zero, List.set_cons_succ]
          refine wpAnyH_take (i := 11) (v := ?_) rfl (by kernel_rfl) (by kernel_rfl) (by kernel_rfl) (fun _ _ _ h => h) (Or.inl ⟨by rfl, ?_⟩) hHeld ?_
          rotate_left
          · intro w9 hSw; (try dsimp only at hSw); go_simp; (try with_reducible rfl)
          try simp only [List.getElem_toArray, List.getElem_cons_succ, List.getElem_cons_zero, Act.put, List.setIfInBounds_toArray, List.set_cons_zero, List.set_cons_succ]
          refine wpAnyH_take (i := 13) (v := ?_) rfl (by kernel_rfl) (by kernel_rfl) (by kernel_rfl) (fun _ _ _ h => h) (Or.inl ⟨by rfl, ?_⟩) hHeld ?_
          rotate_left
          · intro w9 hSw; (try dsimp only at hSw); go_simp; (try with_reducible rfl)
          try simp only [List.getElem_toArray, List.getElem_cons_succ, List.getElem_cons_zero, Act.put, List.setIfInBounds_toArray, List.set_cons_zero, List.set_cons_succ]
          refine wpAnyH_take (i := 14) (v := ?_) rfl (by kernel_rfl) (by kernel_rfl) (by kernel_rfl) (fun _ _ _ h => h) (Or.inl ⟨by rfl, ?_⟩) hHeld ?_
          rotate_left
          · intro w9 hSw; (try dsimp only at hSw); go_simp; (try with_reducible rfl)
          try simp only [List.getElem_toArray, List.getElem_cons_succ, List.getElem_cons_zero, Act.put, List.setIfInBounds_toArray, List.set_cons_zero, List.set_cons_succ]
          refine wpAnyH_ready (rs := [4, 12]) (by kernel_rfl) (by simp) (AllReadyH.cons rfl (fun K0 hK0 => ?_) (AllReadyH.cons rfl (fun K0 hK0 => ?_) AllReadyH.nil))
          · go_simp
            refine hK0.out _ _ hHeld (fun hHeld => ?_)
            clear hK0 K0
            try simp only [List.getElem_toArray, List.getElem_cons_succ, List.getElem_cons_zero, Act.put, List.setIfInBounds_toArray, List.set_cons_zero, List.set_cons_succ]
            refine wpAnyH_take (i := 6) (v := ?_) rfl (by kernel_rfl) (by kernel_rfl) (by kernel_rfl) (fun _ _ _ h => h) (Or.inl ⟨by rfl, ?_⟩) hHeld ?_
            rotate_left
            · intro w9 hSw; (try dsimp only at hSw); go_simp; (try with_reducible rfl)
            try simp only [List.getElem_toArray, List.getElem_cons_succ, List.getElem_cons_zero, Act.put, List.setIfInBounds_toArray, List.set_cons_zero, List.set_cons_succ]
            refine wpAnyH_ready (rs := [8, 12]) (by kernel_rfl) (by simp) (AllReadyH.cons rfl (fun K0 hK0 => ?_) (AllReadyH.cons rfl (fun K0 hK0 => ?_) AllReadyH.nil))
            · go_simp
              refine (cB _ (Kept.refl [] _).drew).mono ?_
              rintro _ w6 ⟨v6, rfl, hR6, hK6⟩
              replace hR6 : RowS w5.heap.size w6 v6 (X.take i ++ [(doneS seq d x, .slice a4 n4 c4)]) := hR6
              replace hK6 := (Kept.refl [] w5).drew.trans hK6 (by simp)
              obtain ⟨g6, n6, c6, rfl⟩ := row_form hR6 (by simp)
              have HR6 := hide hR6
              have HK6 := hide hK6
              have hT6 := HT5.out.kept hK6
              have t6 := hT6.cells.2
              clear hR6 hK6 hT6
              go_wp2_with fail
              refine hK0.out _ _ ⟨HK6.out.cell b0 (by simp), HK6.out.cell b1 (by simp), HK6.out.cell b2 (by simp), HK6.out.cell b3 (by simp), HK6.out.cell b4 (by simp), HK6.out.cell b5 (by simp), HK6.out.cell b6 (by simp), HK6.out.cell b7 (by simp), HK6.out.cell b8 (by simp), HK6.out.cell b9 (by simp)⟩ (fun hHeld => ?_)
              clear hK0 K0
              try simp only [List.getElem_toArray, List.getElem_cons_succ, List.getElem_cons_zero, Act.put, List.setIfInBounds_toArray, List.set_cons_zero, List.set_cons_succ]
              refine wpAnyH_ready (rs := [12]) (by kernel_rfl) (by simp) (AllReadyH.cons rfl (fun K0 hK0 => ?_) AllReadyH.nil)
              go_simp
              refine hK0.out _ _ hHeld (fun hHeld => ?_)
              clear hK0 K0
              try simp only [List.getElem_toArray, List.getElem_cons_succ, List.getElem_cons_zero, Act.put, List.setIfInBounds_toArray, List.set_cons_zero, List.set_cons_succ]
              refine wpAnyH_take (i := 15) (v := ?_) rfl (by kernel_rfl) (by kernel_rfl) (by kernel_rfl) (fun _ _ _ h => h) (Or.inl ⟨by rfl, ?_⟩) hHeld ?_
              rotate_left
              · intro w9 hSw; (try dsimp only at hSw); go_simp; (try with_reducible rfl)
              try simp only [List.getElem_toArray, List.getElem_cons_succ, List.getElem_cons_zero, Act.put, List.setIfInBounds_toArray, List.set_cons_zero, List.set_cons_succ]
              refine wpAnyH_ready (rs := [16]) (by kernel_rfl) (by simp) (AllReadyH.cons rfl (fun K0 hK0 => ?_) AllReadyH.nil)
              refine step_appNo (by rfl) _ _ 49 (by rfl) 44 i0 Try.underlying49 HI0.out (some ⟨g6, 0, none⟩) n6 c6 (own_le HR6.out) (by simp [Act.eval]) ⟨g, (i + 1) * 10, none⟩ (vc - (i + 1)) (by simp [Act.eval, qz]) ?_
              refine hK0.out _ _ ⟨HK6.out.cell b0 (by simp), HK6.out.cell b1 (by simp), HK6.out.cell b2 (by simp), HK6.out.cell b3 (by simp), HK6.out.cell b4 (by simp), HK6.out.cell b5 (by simp), HK6.out.cell b6 (by simp), HK6.out.cell b7 (by simp), HK6.out.cell b8 (by simp), HK6.out.cell b9 (by simp)⟩ (fun hHeld => ?_)
              have HE7 := hide (HE.out w6 _ HK6.out (by rw [HDr.out, List.append_nil]; exact HR6.out.t))
              have HK7 := HK6
              have HB7 : Hid (w5.heap.size ≤ g6) := (World.ownsRow.lt HR6.out g6 rfl).1
              clear hK0 K0
              try simp only [List.getElem_toArray, List.getElem_cons_succ, List.getElem_cons_zero, Act.put, List.setIfInBounds_toArray, List.set_cons_zero, List.set_cons_succ]
              refine wpAnyH_take (i := 17) (v := ?_) rfl (by kernel_rfl) (by kernel_rfl) (by kernel_rfl) (fun _ _ _ h => h) (Or.inl ⟨by rfl, ?_⟩) hHeld ?_
              rotate_left
              · intro w9 hSw; (try dsimp only at hSw); go_simp; (try with_reducible rfl)
              try simp only [List.getElem_toArray, List.getElem_cons_succ, List.getElem_cons_zero, Act.put, List.setIfInBounds_toArray, List.set_cons_zero, List.set_cons_succ]
              refine wpAnyH_take (i := 18) (v := ?_) rfl (by kernel_rfl) (by kernel_rfl) (by kernel_rfl) (fun _ _ _ h => h) (Or.inl ⟨by rfl, ?_⟩) hHeld ?_
              rotate_left
              · intro w9 hSw; (try dsimp only at hSw); go_simp; (try with_reducible rfl)
              try simp only [List.getElem_toArray, List.getElem_cons_succ, List.getElem_cons_zero, Act.put, List.setIfInBounds_toArray, List.set_cons_zero, List.set_cons_succ]
              have fz := froz3 (HK7.out.at HT5.out.at_ (by simp)) 1
              refine wpAnyH_ready (rs := [19]) (by kernel_rfl) (by simp) (AllReadyH.cons rfl (fun K0 hK0 => ?_) AllReadyH.nil)
              go_simp
              have hK8 : Kept [b] w5 (w6.setCell ⟨b, 1, none⟩ (.slice (some ⟨g6, 0, none⟩) n6 c6)) := (HK7.out.mono (by simp)).setCell (by simp) _
              refine hK0.out _ _ ⟨hK8.cell b0 (by simp; omega), hK8.cell b1 (by simp; omega), hK8.cell b2 (by simp; omega), hK8.cell b3 (by simp; omega), hK8.cell b4 (by simp; omega), hK8.cell b5 (by simp; omega), hK8.cell b6 (by simp; omega), hK8.cell b7 (by simp; omega), hK8.cell b8 (by simp; omega), hK8.cell b9 (by simp; omega)⟩ (fun hHeld => ?_)
              refine wpAnyH_done (by kernel_rfl) ?_ _
              clear hK0 K0
              all_goals go_wp2_with fail
              all_goals go_ret
              all_goals exact done_end HD.out HE7.out HK5.out hK8 HB7.out
            · go_simp
              refine hK0.out _ _ hHeld (fun hHeld => ?_)
              clear hK0 K0
              try simp only [List.getElem_toArray, List.getElem_cons_succ, List.getElem_cons_zero, Act.put, List.setIfInBounds_toArray, List.set_cons_zero, List.set_cons_succ]
              refine wpAnyH_take (i := 15) (v := ?_) rfl (by kernel_rfl) (by kernel_rfl) (by kernel_rfl) (fun _ _ _ h => h) (Or.inl ⟨by rfl, ?_⟩) hHeld ?_
              rotate_left
              · intro w9 hSw; (try dsimp only at hSw); go_simp; (try with_reducible rfl)
              try simp only [List.getElem_toArray, List.getElem_cons_succ, List.getElem_cons_zero, Act.put, List.setIfInBounds_toArray, List.set_cons_zero, List.set_cons_succ]
              refine wpAnyH_ready (rs := [8]) (by kernel_rfl) (by simp) (AllReadyH.cons rfl (fun K0 hK0 => ?_) AllReadyH.nil)
              go_simp
              refine (cB _ (Kept.refl [] _).drew).mono ?_
              rintro _ w6 ⟨v6, rfl, hR6, hK6⟩
              replace hR6 : RowS w5.heap.size w6 v6 (X.take i ++ [(doneS seq d x, .slice a4 n4 c4)]) := hR6
              replace hK6 := (Kept.refl [] w5).drew.trans hK6 (by simp)
              obtain ⟨g6, n6, c6, rfl⟩ := row_form hR6 (by simp)
              have HR6 := hide hR6
              have HK6 := hide hK6
              have hT6 := HT5.out.kept hK6
              have t6 := hT6.cells.2
              clear hR6 hK6 hT6
              go_wp2_with fail
              refine hK0.out _ _ ⟨HK6.out.cell b0 (by simp), HK6.out.cell b1 (by simp), HK6.out.cell b2 (by simp), HK6.out.cell b3 (by simp), HK6.out.cell b4 (by simp), HK6.out.cell b5 (by simp), HK6.out.cell b6 (by simp), HK6.out.cell b7 (by simp), HK6.out.cell b8 (by simp), HK6.out.cell b9 (by simp)⟩ (fun hHeld => ?_)
              clear hK0 K0
              try simp only [List.getElem_toArray, List.getElem_cons_succ, List.getElem_cons_zero, Act.put, List.setIfInBounds_toArray, List.set_cons_zero, List.set_cons_succ]
              refine wpAnyH_ready (rs := [16]) (by kernel_rfl) (by simp) (AllReadyH.cons rfl (fun K0 hK0 => ?_) AllReadyH.nil)
              refine step_appNo (by rfl) _ _ 49 (by rfl) 44 i0 Try.underlying49 HI0.out (some ⟨g6, 0, none⟩) n6 c6 (own_le HR6.out) (by simp [Act.eval]) ⟨g, (i + 1) * 10, none⟩ (vc - (i + 1)) (by simp [Act.eval, qz]) ?_
              refine hK0.out _ _ ⟨HK6.out.cell b0 (by simp), HK6.out.cell b1 (by simp), HK6.out.cell b2 (by simp), HK6.out.cell b3 (by simp), HK6.out.cell b4 (by simp), HK6.out.cell b5 (by simp), HK6.out.cell b6 (by simp), HK6.out.cell b7 (by simp), HK6.out.cell b8 (by simp), HK6.out.cell b9 (by simp)⟩ (fun hHeld => ?_)
              have HE7 := hide (HE.out w6 _ HK6.out (by rw [HDr.out, List.append_nil]; exact HR6.out.t))
              have HK7 := HK6
              have HB7 : Hid (w5.heap.size ≤ g6) := (World.ownsRow.lt HR6.out g6 rfl).1
              clear hK0 K0
              try simp only [List.getElem_toArray, List.getElem_cons_succ, List.getElem_cons_zero, Act.put, List.setIfInBounds_toArray, List.set_cons_zero, List.set_cons_succ]
              refine wpAnyH_take (i := 17) (v := ?_) rfl (by kernel_rfl) (by kernel_rfl) (by kernel_rfl) (fun _ _ _ h => h) (Or.inl ⟨by rfl, ?_⟩) hHeld ?_
              rotate_left
              · intro w9 hSw; (try dsimp only at hSw); go_simp; (try with_reducible rfl)
              try simp only [List.getElem_toArray, List.getElem_cons_succ, List.getElem_cons_zero, Act.put, List.setIfInBounds_toArray, List.set_cons_zero, List.set_cons_succ]
              refine wpAnyH_take (i := 18) (v := ?_) rfl (by kernel_rfl) (by kernel_rfl) (by kernel_rfl) (fun _ _ _ h => h) (Or.inl ⟨by rfl, ?_⟩) hHeld ?_
              rotate_left
              · intro w9 hSw; (try dsimp only at hSw); go_simp; (try with_reducible rfl)
              try simp only [List.getElem_toArray, List.getElem_cons_succ, List.getElem_cons_zero, Act.put, List.setIfInBounds_toArray, List.set_cons_zero, List.set_cons_succ]
              have fz := froz3 (HK7.out.at HT5.out.at_ (by simp)) 1
              refine wpAnyH_ready (rs := [19]) (by kernel_rfl) (by simp) (AllReadyH.cons rfl (fun K0 hK0 => ?_) AllReadyH.nil)
              go_simp
              have hK8 : Kept [b] w5 (w6.setCell ⟨b, 1, none⟩ (.slice (some ⟨g6, 0, none⟩) n6 c6)) := (HK7.out.mono (by simp)).setCell (by simp) _
              refine hK0.out _ _ ⟨hK8.cell b0 (by simp; omega), hK8.cell b1 (by simp; omega), hK8.cell b2 (by simp; omega), hK8.cell b3 (by simp; omega), hK8.cell b4 (by simp; omega), hK8.cell b5 (by simp; omega), hK8.cell b6 (by simp; omega), hK8.cell b7 (by simp; omega), hK8.cell b8 (by simp; omega), hK8.cell b9 (by simp; omega)⟩ (fun hHeld => ?_)
              refine wpAnyH_done (by kernel_rfl) ?_ _
              clear hK0 K0
              all_goals go_wp2_with fail
              all_goals go_ret
              all_goals exact done_end HD.out HE7.out HK5.out hK8 HB7.out
          · go_simp
            refine hK0.out _ _ hHeld (fun hHeld => ?_)
            clear hK0 K0
            try simp only [List.getElem_toArray, List.getElem_cons_succ, List.getElem_cons_zero, Act.put, List.setIfInBounds_toArray, List.set_cons_zero, List.set_cons_succ]
            refine wpAnyH_take (i := 15) (v := ?_) rfl (by kernel_rfl) (by kernel_rfl) (by kernel_rfl) (fun _ _ _ h => h) (Or.inl ⟨by rfl, ?_⟩) hHeld ?_
            rotate_left
            · intro w9 hSw; (try dsimp only at hSw); go_simp; (try with_reducible rfl)
            try simp only [List.getElem_toArray, List.getElem_cons_succ, List.getElem_cons_zero, Act.put, List.setIfInBounds_toArray, List.set_cons_zero, List.set_cons_succ]
            refine wpAnyH_ready (rs := [4]) (by kernel_rfl) (by simp) (AllReadyH.cons rfl (fun K0 hK0 => ?_) AllReadyH.nil)
            go_simp
            refine hK0.out _ _ hHeld (fun hHeld => ?_)
            clear hK0 K0
            try simp only [List.getElem_toArray, List.getElem_cons_succ, List.getElem_cons_zero, Act.put, List.setIfInBounds_toArray, List.set_cons_zero, List.set_cons_succ]
            refine wpAnyH_take (i := 6) (v := ?_) rfl (by kernel_rfl) (by kernel_rfl) (by kernel_rfl) (fun _ _ _ h => h) (Or.inl ⟨by rfl, ?_⟩) hHeld ?_
            rotate_left
            · intro w9 hSw; (try dsimp only at hSw); go_simp; (try with_reducible rfl)
            try simp only [List.getElem_toArray, List.getElem_cons_succ, List.getElem_cons_zero, Act.put, List.setIfInBounds_toArray, List.set_cons_zero, List.set_cons_succ]
            refine wpAnyH_ready (rs := [8]) (by kernel_rfl) (by simp) (AllReadyH.cons rfl (fun K0 hK0 => ?_) AllReadyH.nil)
            go_simp
            refine (cB _ (Kept.refl [] _).drew).mono ?_
            rintro _ w6 ⟨v6, rfl, hR6, hK6⟩
            replace hR6 : RowS w5.heap.size w6 v6 (X.take i ++ [(doneS seq d x, .slice a4 n4 c4)]) := hR6
            replace hK6 := (Kept.refl [] w5).drew.trans hK6 (by simp)
            obtain ⟨g6, n6, c6, rfl⟩ := row_form hR6 (by simp)
            have HR6 := hide hR6
            have HK6 := hide hK6
            have hT6 := HT5.out.kept hK6
            have t6 := hT6.cells.2
            clear hR6 hK6 hT6
            go_wp2_with fail
            refine hK0.out _ _ ⟨HK6.out.cell b0 (by simp), HK6.out.cell b1 (by simp), HK6.out.cell b2 (by simp), HK6.out.cell b3 (by simp), HK6.out.cell b4 (by simp), HK6.out.cell b5 (by simp), HK6.out.cell b6 (by simp), HK6.out.cell b7 (by simp), HK6.out.cell b8 (by simp), HK6.out.cell b9 (by simp)⟩ (fun hHeld => ?_)
            clear hK0 K0
            try simp only [List.getElem_toArray, List.getElem_cons_succ, List.getElem_cons_zero, Act.put, List.setIfInBounds_toArray, List.set_cons_zero, List.set_cons_succ]
            refine wpAnyH_ready (rs := [16]) (by kernel_rfl) (by simp) (AllReadyH.cons rfl (fun K0 hK0 => ?_) AllReadyH.nil)
            refine step_appNo (by rfl) _ _ 49 (by rfl) 44 i0 Try.underlying49 HI0.out (some ⟨g6, 0, none⟩) n6 c6 (own_le HR6.out) (by simp [Act.eval]) ⟨g, (i + 1) * 10, none⟩ (vc - (i + 1)) (by simp [Act.eval, qz]) ?_
            refine hK0.out _ _ ⟨HK6.out.cell b0 (by simp), HK6.out.cell b1 (by simp), HK6.out.cell b2 (by simp), HK6.out.cell b3 (by simp), HK6.out.cell b4 (by simp), HK6.out.cell b5 (by simp), HK6.out.cell b6 (by simp), HK6.out.cell b7 (by simp), HK6.out.cell b8 (by simp), HK6.out.cell b9 (by simp)⟩ (fun hHeld => ?_)
            have HE7 := hide (HE.out w6 _ HK6.out (by rw [HDr.out, List.append_nil]; exact HR6.out.t))
            have HK7 := HK6
            have HB7 : Hid (w5.heap.size ≤ g6) := (World.ownsRow.lt HR6.out g6 rfl).1
            clear hK0 K0
            try simp only [List.getElem_toArray, List.getElem_cons_succ, List.getElem_cons_zero, Act.put, List.setIfInBounds_toArray, List.set_cons_zero, List.set_cons_succ]
            refine wpAnyH_take (i := 17) (v := ?_) rfl (by kernel_rfl) (by kernel_rfl) (by kernel_rfl) (fun _ _ _ h => h) (Or.inl ⟨by rfl, ?_⟩) hHeld ?_
            rotate_left
            · intro w9 hSw; (try dsimp only at hSw); go_simp; (try with_reducible rfl)
            try simp only [List.getElem_toArray, List.getElem_cons_succ, List.getElem_cons_zero, Act.put, List.setIfInBounds_toArray, List.set_cons_zero, List.set_cons_succ]
            refine wpAnyH_take (i := 18) (v := ?_) rfl (by kernel_rfl) (by kernel_rfl) (by kernel_rfl) (fun _ _ _ h => h) (Or.inl ⟨by rfl, ?_⟩) hHeld ?_
            rotate_left
            · intro w9 hSw; (try dsimp only at hSw); go_simp; (try with_reducible rfl)
            try simp only [List.getElem_toArray, List.getElem_cons_succ, List.getElem_cons_zero, Act.put, List.setIfInBounds_toArray, List.set_cons_zero, List.set_cons_succ]
            have fz := froz3 (HK7.out.at HT5.out.at_ (by simp)) 1
            refine wpAnyH_ready (rs := [19]) (by kernel_rfl) (by simp) (AllReadyH.cons rfl (fun K0 hK0 => ?_) AllReadyH.nil)
            go_simp
            have hK8 : Kept [b] w5 (w6.setCell ⟨b, 1, none⟩ (.slice (some ⟨g6, 0, none⟩) n6 c6)) := (HK7.out.mono (by simp)).setCell (by simp) _
            refine hK0.out _ _ ⟨hK8.cell b0 (by simp; omega), hK8.cell b1 (by simp; omega), hK8.cell b2 (by simp; omega), hK8.cell b3 (by simp; omega), hK8.cell b4 (by simp; omega), hK8.cell b5 (by simp; omega), hK8.cell b6 (by simp; omega), hK8.cell b7 (by simp; omega), hK8.cell b8 (by simp; omega), hK8.cell b9 (by simp; omega)⟩ (fun hHeld => ?_)
            refine wpAnyH_done (by kernel_rfl) ?_ _
            clear hK0 K0
            all_goals go_wp2_with fail
            all_goals go_ret
            all_goals exact done_end HD.out HE7.out HK5.out hK8 HB7.out
      · have hne : ¬ vc = i + 1 := by omega
        have qb : (i : Int) + 1 ≤ X.length := by omega
        refine wp_region_held_drew (S := fun w' => w'.cell? ⟨w2.heap.size, 0, none⟩ = some (.int .i64 x.i) ∧ w'.cell? ⟨w2.heap.size, 1, none⟩ = some (.int .i64 seq) ∧ w'.cell? ⟨w2.heap.size, 2, none⟩ = some (.string (str x.n)) ∧ w'.cell? ⟨w2.heap.size, 3, none⟩ = some (.int .i64 d.c) ∧ w'.cell? ⟨w2.heap.size, 4, none⟩ = some (.int .i64 d.s) ∧ w'.cell? ⟨w2.heap.size, 5, none⟩ = some (.int .i64 d.r) ∧ w'.cell? ⟨w2.heap.size, 6, none⟩ = some (.string (str d.p)) ∧ w'.cell? ⟨w2.heap.size, 7, none⟩ = some (.int .u64 d.d) ∧ w'.cell? ⟨w2.heap.size, 8, none⟩ = some (.slice a4 n4 c4) ∧ w'.cell? ⟨w2.heap.size, 9, none⟩ = some (.int .i64 d.m)) (by kernel_rfl) ⟨b0, b1, b2, b3, b4, b5, b6, b7, b8, b9⟩ (fun hHeld => ?_)
        refine wpAnyH_take (i := 0) (v := ?_) rfl (by kernel_rfl) (by kernel_rfl) (by kernel_rfl) (fun _ _ _ h => h) (Or.inl ⟨by rfl, ?_⟩) hHeld ?_
        rotate_left
        · intro w9 hSw; (try dsimp only at hSw); go_simp; (try with_reducible rfl)
        try simp only [List.getElem_toArray, List.getElem_cons_succ, List.getElem_cons_zero, Act.put, List.setIfInBounds_toArray, List.set_cons_zero, List.set_cons_succ]
        refine wpAnyH_take (i := 1) (v := ?_) rfl (by kernel_rfl) (by kernel_rfl) (by kernel_rfl) (fun _ _ _ h => h) (Or.inl ⟨by rfl, ?_⟩) hHeld ?_
        rotate_left
        · intro w9 hSw; (try dsimp only at hSw); go_simp; (try with_reducible rfl)
        try simp only [List.getElem_toArray, List.getElem_cons_succ, List.getElem_cons_zero, Act.put, List.setIfInBounds_toArray, List.set_cons_zero, List.set_cons_succ]
        refine wpAnyH_take (i := 2) (v := ?_) rfl (by kernel_rfl) (by kernel_rfl) (by kernel_rfl) (fun _ _ _ h => h) (Or.inl ⟨by rfl, ?_⟩) hHeld ?_
        rotate_left
        · intro w9 hSw; (try dsimp only at hSw); go_simp; (try with_reducible rfl)
        try simp only [List.getElem_toArray, List.getElem_cons_succ, List.getElem_cons_zero, Act.put, List.setIfInBounds_toArray, List.set_cons_zero, List.set_cons_succ]
        refine wpAnyH_take (i := 3) (v := ?_) rfl (by kernel_rfl) (by kernel_rfl) (by kernel_rfl) (fun _ _ _ h => h) (Or.inl ⟨by rfl, ?_⟩) hHeld ?_
        rotate_left
        · intro w9 hSw; (try dsimp only at hSw); go_simp; (try with_reducible rfl)
        try simp only [List.getElem_toArray, List.getElem_cons_succ, List.getElem_cons_zero, Act.put, List.setIfInBounds_toArray, List.set_cons_zero, List.set_cons_succ]
        refine wpAnyH_take (i := 5) (v := ?_) rfl (by kernel_rfl) (by kernel_rfl) (by kernel_rfl) (fun _ _ _ h => h) (Or.inl ⟨by rfl, ?_⟩) hHeld ?_
        rotate_left
        · intro w9 hSw; (try dsimp only at hSw); go_simp; (try with_reducible rfl)
        try simp only [List.getElem_toArray, List.getElem_cons_succ, List.getElem_cons_zero, Act.put, List.setIfInBounds_toArray, List.set_cons_zero, List.set_cons_succ]
        refine wpAnyH_take (i := 7) (v := ?_) rfl (by kernel_rfl) (by kernel_rfl) (by kernel_rfl) (fun _ _ _ h => h) (Or.inl ⟨by rfl, ?_⟩) hHeld ?_
        rotate_left
        · intro w9 hSw; (try dsimp only at hSw); go_simp; (try with_reducible rfl)
        try simp only [List.getElem_toArray, List.getElem_cons_succ, List.getElem_cons_zero, Act.put, List.setIfInBounds_toArray, List.set_cons_zero, List.set_cons_succ]
        refine wpAnyH_take (i := 9) (v := ?_) rfl (by kernel_rfl) (by kernel_rfl) (by kernel_rfl) (fun _ _ _ h => h) (Or.inl ⟨by rfl, ?_⟩) hHeld ?_
        rotate_left
        · intro w9 hSw; (try dsimp only at hSw); go_simp; (try with_reducible rfl)
        try simp only [List.getElem_toArray, List.getElem_cons_succ, List.getElem_cons_zero, Act.put, List.setIfInBounds_toArray, List.set_cons_zero, List.set_cons_succ]
        refine wpAnyH_take (i := 10) (v := ?_) rfl (by kernel_rfl) (by kernel_rfl) (by kernel_rfl) (fun _ _ _ h => h) (Or.inl ⟨by rfl, ?_⟩) hHeld ?_
        rotate_left
        · intro w9 hSw; (try dsimp only at hSw); go_simp; (try with_reducible rfl)
        try simp only [List.getElem_toArray, List.getElem_cons_succ, List.getElem_cons_zero, Act.put, List.setIfInBounds_toArray, List.set_cons_zero, List.set_cons_succ]
        refine wpAnyH_take (i := 11) (v := ?_) rfl (by kernel_rfl) (by kernel_rfl) (by kernel_rfl) (fun _ _ _ h => h) (Or.inl ⟨by rfl, ?_⟩) hHeld ?_
        rotate_left
        · intro w9 hSw; (try dsimp only at hSw); go_simp; (try with_reducible rfl)
        try simp only [List.getElem_toArray, List.getElem_cons_succ, List.getElem_cons_zero, Act.put, List.setIfInBounds_toArray, List.set_cons_zero, List.set_cons_succ]
        refine wpAnyH_take (i := 13) (v := ?_) rfl (by kernel_rfl) (by kernel_rfl) (by kernel_rfl) (fun _ _ _ h => h) (Or.inl ⟨by rfl, ?_⟩) hHeld ?_
        rotate_left
        · intro w9 hSw; (try dsimp only at hSw); go_simp; (try with_reducible rfl)
        try simp only [List.getElem_toArray, List.getElem_cons_succ, List.getElem_cons_zero, Act.put, List.setIfInBounds_toArray, List.set_cons_zero, List.set_cons_succ]
        refine wpAnyH_take (i := 14) (v := ?_) rfl (by kernel_rfl) (by kernel_rfl) (by kernel_rfl) (fun _ _ _ h => h) (Or.inl ⟨by rfl, ?_⟩) hHeld ?_
        rotate_left
        · intro w9 hSw; (try dsimp only at hSw); go_simp; (try with_reducible rfl)
        try simp only [List.getElem_toArray, List.getElem_cons_succ, List.getElem_cons_zero, Act.put, List.setIfInBounds_toArray, List.set_cons_zero, List.set_cons_succ]
        refine wpAnyH_ready (rs := [4, 12]) (by kernel_rfl) (by simp) (AllReadyH.cons rfl (fun K0 hK0 => ?_) (AllReadyH.cons rfl (fun K0 hK0 => ?_) AllReadyH.nil))
        · go_simp
          refine hK0.out _ _ hHeld (fun hHeld => ?_)
          clear hK0 K0
          try simp only [List.getElem_toArray, List.getElem_cons_succ, List.getElem_cons_zero, Act.put, List.setIfInBounds_toArray, List.set_cons_zero, List.set_cons_succ]
          refine wpAnyH_take (i := 6) (v := ?_) rfl (by kernel_rfl) (by kernel_rfl) (by kernel_rfl) (fun _ _ _ h => h) (Or.inl ⟨by rfl, ?_⟩) hHeld ?_
          rotate_left
          · intro w9 hSw; (try dsimp only at hSw); go_simp; (try with_reducible rfl)
          try simp only [List.getElem_toArray, List.getElem_cons_succ, List.getElem_cons_zero, Act.put, List.setIfInBounds_toArray, List.set_cons_zero, List.set_cons_succ]
          refine wpAnyH_ready (rs := [8, 12]) (by kernel_rfl) (by simp) (AllReadyH.cons rfl (fun K0 hK0 => ?_) (AllReadyH.cons rfl (fun K0 hK0 => ?_) AllReadyH.nil))
          · go_simp
            refine (cB _ (Kept.refl [] _).drew).mono ?_
            rintro _ w6 ⟨v6, rfl, hR6, hK6⟩
            replace hR6 : RowS w5.heap.size w6 v6 (X.take i ++ [(doneS seq d x, .slice a4 n4 c4)]) := hR6
            replace hK6 := (Kept.refl [] w5).drew.trans hK6 (by simp)
            obtain ⟨g6, n6, c6, rfl⟩ := row_form hR6 (by simp)
            have HR6 := hide hR6
            have HK6 := hide hK6
            have hT6 := HT5.out.kept hK6
            have t6 := hT6.cells.2
            clear hR6 hK6 hT6
            go_wp2_with fail
            refine hK0.out _ _ ⟨HK6.out.cell b0 (by simp), HK6.out.cell b1 (by simp), HK6.out.cell b2 (by simp), HK6.out.cell b3 (by simp), HK6.out.cell b4 (by simp), HK6.out.cell b5 (by simp), HK6.out.cell b6 (by simp), HK6.out.cell b7 (by simp), HK6.out.cell b8 (by simp), HK6.out.cell b9 (by simp)⟩ (fun hHeld => ?_)
            clear hK0 K0
            try simp only [List.getElem_toArray, List.getElem_cons_succ, List.getElem_cons_zero, Act.put, List.setIfInBounds_toArray, List.set_cons_zero, List.set_cons_succ]
            refine wpAnyH_ready (rs := [12]) (by kernel_rfl) (by simp) (AllReadyH.cons rfl (fun K0 hK0 => ?_) AllReadyH.nil)
            go_simp
            refine hK0.out _ _ hHeld (fun hHeld => ?_)
            clear hK0 K0
            try simp only [List.getElem_toArray, List.getElem_cons_succ, List.getElem_cons_zero, Act.put, List.setIfInBounds_toArray, List.set_cons_zero, List.set_cons_succ]
            refine wpAnyH_take (i := 15) (v := ?_) rfl (by kernel_rfl) (by kernel_rfl) (by kernel_rfl) (fun _ _ _ h => h) (Or.inl ⟨by rfl, ?_⟩) hHeld ?_
            rotate_left
            · intro w9 hSw; (try dsimp only at hSw); go_simp; (try with_reducible rfl)
            try simp only [List.getElem_toArray, List.getElem_cons_succ, List.getElem_cons_zero, Act.put, List.setIfInBounds_toArray, List.set_cons_zero, List.set_cons_succ]
            refine wpAnyH_ready (rs := [16]) (by kernel_rfl) (by simp) (AllReadyH.cons rfl (fun K0 hK0 => ?_) AllReadyH.nil)
            refine step_appS (by rfl) _ _ (by rfl) w5.heap.size _ (X.take i ++ [(doneS seq d x, .slice a4 n4 c4)]) (by simp [Act.eval]) HR6.out ⟨g, (i + 1) * 10, none⟩ (X.length - (i + 1)) (vc - (i + 1)) (X.drop (i + 1)) (by simp [Act.eval]) (by simp) ((HR5.out.kept HK6.out).runs (i + 1)) (fun y hy => HH1.out y (List.mem_of_mem_drop hy)) (by omega) (by simp; omega) HK6.out.size ?_
            intro g7 n7 c7 w7 hR7 hg7 hat7
            have HK7 : Hid (Kept [] w5 w7) := HK6.out.grown hg7 fun k hk => .inr (World.ownsRow.lt HR6.out k hk).1
            have HE7 := hide (HE.out w7 _ HK7.out hR7.t)
            have HB7 : Hid (w5.heap.size ≤ g7) := (World.ownsRow.lt hR7 g7 rfl).1
            have t7 := (HT5.out.kept HK7.out).cells.2
            refine hK0.out _ _ ⟨HK7.out.cell b0 (by simp), HK7.out.cell b1 (by simp), HK7.out.cell b2 (by simp), HK7.out.cell b3 (by simp), HK7.out.cell b4 (by simp), HK7.out.cell b5 (by simp), HK7.out.cell b6 (by simp), HK7.out.cell b7 (by simp), HK7.out.cell b8 (by simp), HK7.out.cell b9 (by simp)⟩ (fun hHeld => ?_)
            clear hK0 K0 hR7 hg7 hat7
            try simp only [List.getElem_toArray, List.getElem_cons_succ, List.getElem_cons_zero, Act.put, List.setIfInBounds_toArray, List.set_cons_zero, List.set_cons_succ]
            refine wpAnyH_take (i := 17) (v := ?_) rfl (by kernel_rfl) (by kernel_rfl) (by kernel_rfl) (fun _ _ _ h => h) (Or.inl ⟨by rfl, ?_⟩) hHeld ?_
            rotate_left
            · intro w9 hSw; (try dsimp only at hSw); go_simp; (try with_reducible rfl)
            try simp only [List.getElem_toArray, List.getElem_cons_succ, List.getElem_cons_zero, Act.put, List.setIfInBounds_toArray, List.set_cons_zero, List.set_cons_succ]
            refine wpAnyH_take (i := 18) (v := ?_) rfl (by kernel_rfl) (by kernel_rfl) (by kernel_rfl) (fun _ _ _ h => h) (Or.inl ⟨by rfl, ?_⟩) hHeld ?_
            rotate_left
            · intro w9 hSw; (try dsimp only at hSw); go_simp; (try with_reducible rfl)
            try simp only [List.getElem_toArray, List.getElem_cons_succ, List.getElem_cons_zero, Act.put, List.setIfInBounds_toArray, List.set_cons_zero, List.set_cons_succ]
            have fz := froz3 (HK7.out.at HT5.out.at_ (by simp)) 1
            refine wpAnyH_ready (rs := [19]) (by kernel_rfl) (by simp) (AllReadyH.cons rfl (fun K0 hK0 => ?_) AllReadyH.nil)
            go_simp
            have hK8 : Kept [b] w5 (w7.setCell ⟨b, 1, none⟩ (.slice (some ⟨g7, 0, none⟩) n7 c7)) := (HK7.out.mono (by simp)).setCell (by simp) _
            refine hK0.out _ _ ⟨hK8.cell b0 (by simp; omega), hK8.cell b1 (by simp; omega), hK8.cell b2 (by simp; omega), hK8.cell b3 (by simp; omega), hK8.cell b4 (by simp; omega), hK8.cell b5 (by simp; omega), hK8.cell b6 (by simp; omega), hK8.cell b7 (by simp; omega), hK8.cell b8 (by simp; omega), hK8.cell b9 (by simp; omega)⟩ (fun hHeld => ?_)
            refine wpAnyH_done (by kernel_rfl) ?_ _
            clear hK0 K0
            all_goals go_wp2_with fail
            all_goals go_ret
            all_goals exact done_end HD.out HE7.out HK5.out hK8 HB7.out
          · go_simp
            refine hK0.out _ _ hHeld (fun hHeld => ?_)
            clear hK0 K0
            try simp only [List.getElem_toArray, List.getElem_cons_succ, List.getElem_cons_zero, Act.put, List.setIfInBounds_toArray, List.set_cons_zero, List.set_cons_succ]
            refine wpAnyH_take (i := 15) (v := ?_) rfl (by kernel_rfl) (by kernel_rfl) (by kernel_rfl) (fun _ _ _ h => h) (Or.inl ⟨by rfl, ?_⟩) hHeld ?_
            rotate_left
            · intro w9 hSw; (try dsimp only at hSw); go_simp; (try with_reducible rfl)
            try simp only [List.getElem_toArray, List.getElem_cons_succ, List.getElem_cons_zero, Act.put, List.setIfInBounds_toArray, List.set_cons_zero, List.set_cons_succ]
            refine wpAnyH_ready (rs := [8]) (by kernel_rfl) (by simp) (AllReadyH.cons rfl (fun K0 hK0 => ?_) AllReadyH.nil)
            go_simp
            refine (cB _ (Kept.refl [] _).drew).mono ?_
            rintro _ w6 ⟨v6, rfl, hR6, hK6⟩
            replace hR6 : RowS w5.heap.size w6 v6 (X.take i ++ [(doneS seq d x, .slice a4 n4 c4)]) := hR6
            replace hK6 := (Kept.refl [] w5).drew.trans hK6 (by simp)
            obtain ⟨g6, n6, c6, rfl⟩ := row_form hR6 (by simp)
            have HR6 := hide hR6
            have HK6 := hide hK6
            have hT6 := HT5.out.kept hK6
            have t6 := hT6.cells.2
            clear hR6 hK6 hT6
            go_wp2_with fail
            refine hK0.out _ _ ⟨HK6.out.cell b0 (by simp), HK6.out.cell b1 (by simp), HK6.out.cell b2 (by simp), HK6.out.cell b3 (by simp), HK6.out.cell b4 (by simp), HK6.out.cell b5 (by simp), HK6.out.cell b6 (by simp), HK6.out.cell b7 (by simp), HK6.out.cell b8 (by simp), HK6.out.cell b9 (by simp)⟩ (fun hHeld => ?_)
            clear hK0 K0
            try simp only [List.getElem_toArray, List.getElem_cons_succ, List.getElem_cons_zero, Act.put, List.setIfInBounds_toArray, List.set_cons_zero, List.set_cons_succ]
            refine wpAnyH_ready (rs := [16]) (by kernel_rfl) (by simp) (AllReadyH.cons rfl (fun K0 hK0 => ?_) AllReadyH.nil)
            refine step_appS (by rfl) _ _ (by rfl) w5.heap.size _ (X.take i ++ [(doneS seq d x, .slice a4 n4 c4)]) (by simp [Act.eval]) HR6.out ⟨g, (i + 1) * 10, none⟩ (X.length - (i + 1)) (vc - (i + 1)) (X.drop (i + 1)) (by simp [Act.eval]) (by simp) ((HR5.out.kept HK6.out).runs (i + 1)) (fun y hy => HH1.out y (List.mem_of_mem_drop hy)) (by omega) (by simp; omega) HK6.out.size ?_
            intro g7 n7 c7 w7 hR7 hg7 hat7
            have HK7 : Hid (Kept [] w5 w7) := HK6.out.grown hg7 fun k hk => .inr (World.ownsRow.lt HR6.out k hk).1
            have HE7 := hide (HE.out w7 _ HK7.out hR7.t)
            have HB7 : Hid (w5.heap.size ≤ g7) := (World.ownsRow.lt hR7 g7 rfl).1
            have t7 := (HT5.out.kept HK7.out).cells.2
            refine hK0.out _ _ ⟨HK7.out.cell b0 (by simp), HK7.out.cell b1 (by simp), HK7.out.cell b2 (by simp), HK7.out.cell b3 (by simp), HK7.out.cell b4 (by simp), HK7.out.cell b5 (by simp), HK7.out.cell b6 (by simp), HK7.out.cell b7 (by simp), HK7.out.cell b8 (by simp), HK7.out.cell b9 (by simp)⟩ (fun hHeld => ?_)
            clear hK0 K0 hR7 hg7 hat7
            try simp only [List.getElem_toArray, List.getElem_cons_succ, List.getElem_cons_zero, Act.put, List.setIfInBounds_toArray, List.set_cons_zero, List.set_cons_succ]
            refine wpAnyH_take (i := 17) (v := ?_) rfl (by kernel_rfl) (by kernel_rfl) (by kernel_rfl) (fun _ _ _ h => h) (Or.inl ⟨by rfl, ?_⟩) hHeld ?_
            rotate_left
            · intro w9 hSw; (try dsimp only at hSw); go_simp; (try with_reducible rfl)
            try simp only [List.getElem_toArray, List.getElem_cons_succ, List.getElem_cons_zero, Act.put, List.setIfInBounds_toArray, List.set_cons_zero, List.set_cons_succ]
            refine wpAnyH_take (i := 18) (v := ?_) rfl (by kernel_rfl) (by kernel_rfl) (by kernel_rfl) (fun _ _ _ h => h) (Or.inl ⟨by rfl, ?_⟩) hHeld ?_
            rotate_left
            · intro w9 hSw; (try dsimp only at hSw); go_simp; (try with_reducible rfl)
            try simp only [List.getElem_toArray, List.getElem_cons_succ, List.getElem_cons_zero, Act.put, List.setIfInBounds_toArray, List.set_cons_zero, List.set_cons_succ]
            have fz := froz3 (HK7.out.at HT5.out.at_ (by simp)) 1
            refine wpAnyH_ready (rs := [19]) (by kernel_rfl) (by simp) (AllReadyH.cons rfl (fun K0 hK0 => ?_) AllReadyH.nil)
            go_simp
            have hK8 : Kept [b] w5 (w7.setCell ⟨b, 1, none⟩ (.slice (some ⟨g7, 0, none⟩) n7 c7)) := (HK7.out.mono (by simp)).setCell (by simp) _
            refine hK0.out _ _ ⟨hK8.cell b0 (by simp; omega), hK8.cell b1 (by simp; omega), hK8.cell b2 (by simp; omega), hK8.cell b3 (by simp; omega), hK8.cell b4 (by simp; omega), hK8.cell b5 (by simp; omega), hK8.cell b6 (by simp; omega), hK8.cell b7 (by simp; omega), hK8.cell b8 (by simp; omega), hK8.cell b9 (by simp; omega)⟩ (fun hHeld => ?_)
            refine wpAnyH_done (by kernel_rfl) ?_ _
            clear hK0 K0
            all_goals go_wp2_with fail
            all_goals go_ret
            all_goals exact done_end HD.out HE7.out HK5.out hK8 HB7.out
        · go_simp
          refine hK0.out _ _ hHeld (fun hHeld => ?_)
          clear hK0 K0
          try simp only [List.getElem_toArray, List.getElem_cons_succ, List.getElem_cons_zero, Act.put, List.setIfInBounds_toArray, List.set_cons_zero, List.set_cons_succ]
          refine wpAnyH_take (i := 15) (v := ?_) rfl (by kernel_rfl) (by kernel_rfl) (by kernel_rfl) (fun _ _ _ h => h) (Or.inl ⟨by rfl, ?_⟩) hHeld ?_
          rotate_left
          · intro w9 hSw; (try dsimp only at hSw); go_simp; (try with_reducible rfl)
          try simp only [List.getElem_toArray, List.getElem_cons_succ, List.getElem_cons_zero, Act.put, List.setIfInBounds_toArray, List.set_cons_zero, List.set_cons_succ]
          refine wpAnyH_ready (rs := [4]) (by kernel_rfl) (by simp) (AllReadyH.cons rfl (fun K0 hK0 => ?_) AllReadyH.nil)
          go_simp
          refine hK0.out _ _ hHeld (fun hHeld => ?_)
          clear hK0 K0
          try simp only [List.getElem_toArray, List.getElem_cons_succ, List.getElem_cons_zero, Act.put, List.setIfInBounds_toArray, List.set_cons_zero, List.set_cons_succ]
          refine wpAnyH_take (i := 6) (v := ?_) rfl (by kernel_rfl) (by kernel_rfl) (by kernel_rfl) (fun _ _ _ h => h) (Or.inl ⟨by rfl, ?_⟩) hHeld ?_
          rotate_left
          · intro w9 hSw; (try dsimp only at hSw); go_simp; (try with_reducible rfl)
          try simp only [List.getElem_toArray, List.getElem_cons_succ, List.getElem_cons_zero, Act.put, List.setIfInBounds_toArray, List.set_cons_zero, List.set_cons_succ]
          refine wpAnyH_ready (rs := [8]) (by kernel_rfl) (by simp) (AllReadyH.cons rfl (fun K0 hK0 => ?_) AllReadyH.nil)
          go_simp
          refine (cB _ (Kept.refl [] _).drew).mono ?_
          rintro _ w6 ⟨v6, rfl, hR6, hK6⟩
          replace hR6 : RowS w5.heap.size w6 v6 (X.take i ++ [(doneS seq d x, .slice a4 n4 c4)]) := hR6
          replace hK6 := (Kept.refl [] w5).drew.trans hK6 (by simp)
          obtain ⟨g6, n6, c6, rfl⟩ := row_form hR6 (by simp)
          have HR6 := hide hR6
          have HK6 := hide hK6
          have hT6 := HT5.out.kept hK6
          have t6 := hT6.cells.2
          clear hR6 hK6 hT6
          go_wp2_with fail
          refine hK0.out _ _ ⟨HK6.out.cell b0 (by simp), HK6.out.cell b1 (by simp), HK6.out.cell b2 (by simp), HK6.out.cell b3 (by simp), HK6.out.cell b4 (by simp), HK6.out.cell b5 (by simp), HK6.out.cell b6 (by simp), HK6.out.cell b7 (by simp), HK6.out.cell b8 (by simp), HK6.out.cell b9 (by simp)⟩ (fun hHeld => ?_)
          clear hK0 K0
          try simp only [List.getElem_toArray, List.getElem_cons_succ, List.getElem_cons_zero, Act.put, List.setIfInBounds_toArray, List.set_cons_zero, List.set_cons_succ]
          refine wpAnyH_ready (rs := [16]) (by kernel_rfl) (by simp) (AllReadyH.cons rfl (fun K0 hK0 => ?_) AllReadyH.nil)
          refine step_appS (by rfl) _ _ (by rfl) w5.heap.size _ (X.take i ++ [(doneS seq d x, .slice a4 n4 c4)]) (by simp [Act.eval]) HR6.out ⟨g, (i + 1) * 10, none⟩ (X.length - (i + 1)) (vc - (i + 1)) (X.drop (i + 1)) (by simp [Act.eval]) (by simp) ((HR5.out.kept HK6.out).runs (i + 1)) (fun y hy => HH1.out y (List.mem_of_mem_drop hy)) (by omega) (by simp; omega) HK6.out.size ?_
          intro g7 n7 c7 w7 hR7 hg7 hat7
          have HK7 : Hid (Kept [] w5 w7) := HK6.out.grown hg7 fun k hk => .inr (World.ownsRow.lt HR6.out k hk).1
          have HE7 := hide (HE.out w7 _ HK7.out hR7.t)
          have HB7 : Hid (w5.heap.size ≤ g7) := (World.ownsRow.lt hR7 g7 rfl).1
          have t7 := (HT5.out.kept HK7.out).cells.2
          refine hK0.out _ _ ⟨HK7.out.cell b0 (by simp), HK7.out.cell b1 (by simp), HK7.out.cell b2 (by simp), HK7.out.cell b3 (by simp), HK7.out.cell b4 (by simp), HK7.out.cell b5 (by simp), HK7.out.cell b6 (by simp), HK7.out.cell b7 (by simp), HK7.out.cell b8 (by simp), HK7.out.cell b9 (by simp)⟩ (fun hHeld => ?_)
          clear hK0 K0 hR7 hg7 hat7
          try simp only [List.getElem_toArray, List.getElem_cons_succ, List.getElem_cons_zero, Act.put, List.setIfInBounds_toArray, List.set_cons_zero, List.set_cons_succ]
          refine wpAnyH_take (i := 17) (v := ?_) rfl (by kernel_rfl) (by kernel_rfl) (by kernel_rfl) (fun _ _ _ h => h) (Or.inl ⟨by rfl, ?_⟩) hHeld ?_
          rotate_left
          · intro w9 hSw; (try dsimp only at hSw); go_simp; (try with_reducible rfl)
          try simp only [List.getElem_toArray, List.getElem_cons_succ, List.getElem_cons_zero, Act.put, List.setIfInBounds_toArray, List.set_cons_zero, List.set_cons_succ]
          refine wpAnyH_take (i := 18) (v := ?_) rfl (by kernel_rfl) (by kernel_rfl) (by kernel_rfl) (fun _ _ _ h => h) (Or.inl ⟨by rfl, ?_⟩) hHeld ?_
          rotate_left
          · intro w9 hSw; (try dsimp only at hSw); go_simp; (try with_reducible rfl)
          try simp only [List.getElem_toArray, List.getElem_cons_succ, List.getElem_cons_zero, Act.put, List.setIfInBounds_toArray, List.set_cons_zero, List.set_cons_succ]
          have fz := froz3 (HK7.out.at HT5.out.at_ (by simp)) 1
          refine wpAnyH_ready (rs := [19]) (by kernel_rfl) (by simp) (AllReadyH.cons rfl (fun K0 hK0 => ?_) AllReadyH.nil)
          go_simp
          have hK8 : Kept [b] w5 (w7.setCell ⟨b, 1, none⟩ (.slice (some ⟨g7, 0, none⟩) n7 c7)) := (HK7.out.mono (by simp)).setCell (by simp) _
          refine hK0.out _ _ ⟨hK8.cell b0 (by simp; omega), hK8.cell b1 (by simp; omega), hK8.cell b2 (by simp; omega), hK8.cell b3 (by simp; omega), hK8.cell b4 (by simp; omega), hK8.cell b5 (by simp; omega), hK8.cell b6 (by simp; omega), hK8.cell b7 (by simp; omega), hK8.cell b8 (by simp; omega), hK8.cell b9 (by simp; omega)⟩ (fun hHeld => ?_)
          refine wpAnyH_done (by kernel_rfl) ?_ _
          clear hK0 K0
          all_goals go_wp2_with fail
          all_goals go_ret
          all_goals exact done_end HD.out HE7.out HK5.out hK8 HB7.out
    · have HD : Hid (doneI id seq L = none) := by show _ = _; rw [HD0.out, if_neg hq]
      have HL : Hid (doneL id seq d L = L) := by show _ = _; unfold doneL; rw [HD.out]
      have hq' : seq ≤ x.q := by omega
      go_enter Try.func18, Try.ntmps18
      go_wp2_with fail
      refine cI.mono ?_
      rintro _ w2 ⟨rfl, hK2⟩
      have HK2 := hide (HKz.out.trans hK2 (by simp))
      have hT2 := HT.out.kept HK2.out
      obtain ⟨c0, c1⟩ := hT2.cells
      have h1 := (HXc.out w2 HK2.out).c1
      clear hK2 cI hT2 hKz
      go_wp2_with fail
      go_ret
      exact ⟨by rw [HD.out]; rfl, _, X, by rw [HL.out]; exact HT.out.kept HK2.out, HK2.out.mono (by simp), fun k hk => .inl hk⟩

end Go.Proofs.Ytajkmhepedlmmaa
