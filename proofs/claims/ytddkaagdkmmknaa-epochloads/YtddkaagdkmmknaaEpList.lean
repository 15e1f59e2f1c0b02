/-
  (*Epochs).List.
-/
import Derived.Test.YtddkaagdkmmknaaEpEach
import Derived.Test.YtddkaagdkmmknaaEpApi
import Derived.Test.YtddkaagdkmmknaaEpStep
namespace Go.Proofs.Ytddkaagdkmmknaa
open Go.RowKit Go.Shelf
attribute [local go_sem] Oper.semAt_some

/-- Cells stay where only what is no cells turns. -/
theorem row_calm {B e size n : Nat} {X Y : World} {row : Option Nat} {v : Value} {xs : List Value} (h : X.ownsRow B e size v n xs) (hg : X.grownBy Y row) (hr : ∀ r, row = some r → ∃ o : Obj, X.heap[r]? = some o ∧ o.isCells = false) : Y.ownsRow B e size v n xs := by
  refine h.kept hg ?_
  rcases h.2 with ⟨rfl, _⟩ | ⟨g, cap, cur, rfl, _, hgb, _⟩
  · exact .inl rfl
  · refine .inr fun e' => ?_
    obtain ⟨o, ho, hc⟩ := hr g (by simpa [Value.ownBlock] using e'.symm)
    rw [hgb] at ho; cases ho; cases hc

def tellE (x : Ep) : Ep := ⟨x.f, told (setB x.m)⟩

theorem tellE_ok {L : List Ep} (h : ∀ x ∈ L, May x.m) : L.map tellE = L := by
  rw [List.map_congr_left (g := id) (fun x hx => by unfold tellE; rw [told_may (h x hx)]; rfl), List.map_id]

theorem listI_own (w : World) : OwnFrom (w.heap.size + 2) (fun (pre : List Ep) W => (∃ v X, Boxed W w.heap.size 41 v ∧ W.ownsRow w.heap.size 48 2 v X.length (X.flatMap aeC) ∧ X.map Prod.fst = pre.map tellE ∧ OwnA w.heap.size W X) ∧ Below w.heap.size w W) :=
  OwnFrom.and (fun pre X Y row ⟨v, Z, h1, h2, h3, h4⟩ hg hr => ⟨v, Z, Own.from (boxed_own (β := Unit) w.heap.size 41 (fun _ => v)) (w.heap.size + 2) () X Y row h1 hg hr, row_calm h2 hg (fun r e => (hr r e).2), h3, fun y hy => row_calm (h4 y hy) hg (fun r e => (hr r e).2)⟩) (ownFrom_below (Nat.le_refl _) (by omega))

set_option linter.unusedSimpArgs false in
set_option maxRecDepth 100000 in
set_option maxHeartbeats 8000000 in
theorem list_call (B : Nat) (w : World) (p : Nat) (al : Int) (L : List Ep) (h : EpA B w p al L) (hok : OkL L) (hl : L.length ≤ 1000000) :
    Calls Try.prog 21 #[.pointer (some ⟨p, 0, none⟩)] w fun e w' => ∃ v X, e = .returned v ∧ RowA w.heap.size w' v X ∧ OwnA w.heap.size w' X ∧ X.map Prod.fst = L ∧ Kept [] w w' := by
  obtain ⟨g, cap, h1, h2, h3, h4⟩ := h.open hok.1
  have hpl := lt_of_at h1
  have hgl : g < w.heap.size := by
    have hpos := List.length_pos_iff.2 hok.1
    have hc := spC_from (h4 0 hpos)
    exact block_lt_of_cell hc
  have HT : Hid (L.map tellE = L) := tellE_ok fun x hx => (hok.2.2 x hx).1
  refine (callsIn_wide (n := 3)).1 ?_
  refine callsIn_of_wp_marks Try.func21 rfl trivial ?_ rfl
  simp only [Try.ntmps21, List.size_toArray, List.length_cons, List.length_nil, Nat.reduceAdd, Nat.reduceSub, Array.replicate_succ, Array.replicate_zero, List.push_toArray, List.append_toArray, List.nil_append, List.cons_append]
  gi_wp2_with (refine ⟨trivial, ?_⟩; gi_at_call 42; refine (eachE_in _ _ _).mono ?_; rintro e w' ⟨rfl, rfl⟩)
  obtain ⟨W0, hW0⟩ : ∃ W0, ((w.alloc (.cells #[.slice none 0 0] 41)).alloc (.cells #[.pointer (some ⟨p, 0, none⟩)] 23)) = W0 := ⟨_, rfl⟩
  have hsz : W0.heap.size = w.heap.size + 2 := by rw [← hW0]; simp
  have hK0 : Kept [] w W0 := by rw [← hW0]; exact ((Kept.refl _ _).alloc _).alloc _
  have bO : Boxed W0 w.heap.size 41 (.slice none 0 0) := by rw [← hW0]; exact (Boxed.new w _ _).alloc _
  have bP : Boxed W0 (w.heap.size + 1) 23 (.pointer (some ⟨p, 0, none⟩)) := by
    rw [← hW0]
    have := Boxed.new (w.alloc (.cells #[.slice none 0 0] 41)) 23 (.pointer (some ⟨p, 0, none⟩))
    rwa [World.size_alloc] at this
  rw [hW0]
  clear hW0
  have hB0 : Below w.heap.size w W0 := hK0.below (Nat.le_refl _) (by simp)
  refine wpIn_rangeFunc_ownH rfl (by omega) (gf := 46) (lb := #[.pointer (some ⟨w.heap.size + 1, 0, none⟩)]) rfl trivial (enters_of Try.func46 (by kernel_rfl) rfl)
    (eachE_stops _ w.heap.size (w.heap.size + 1) p g cap L hl W0 (by omega) (by omega) (by omega) bP.cell (cell_inC (k := 1) (hK0.at h1 (by simp)) rfl) hgl (fun i hi j v hv => hK0.cell (h4 i hi j v hv) (by simp))) belowK_t (belowK_b (by omega)) (Below.refl _ _) (fun _ => rfl)
    (fun (pre : List Ep) W => (∃ v X, Boxed W w.heap.size 41 v ∧ W.ownsRow w.heap.size 48 2 v X.length (X.flatMap aeC) ∧ X.map Prod.fst = pre.map tellE ∧ OwnA w.heap.size W X) ∧ Below w.heap.size w W)
    (fun _ _ _ => False)
    (by rw [hsz]; exact listI_own w)
    (fun _ _ _ _ _ h _ _ => h)
    ⟨⟨_, [], bO, World.ownsRow_nil _ _ _ _, rfl, fun _ h => by cases h⟩, hB0⟩
    (fun x a' W => ∃ Bx, w.heap.size < Bx ∧ SpAt W Bx x.f (setB x.m) ∧ a' = { tmps := #[.pointer (some ⟨p, 0, none⟩), undef, .slice none 0 0, .pointer (some ⟨w.heap.size, 0, none⟩), .pointer (some ⟨Bx, 0, none⟩), .pointer (some ⟨p, 0, none⟩), .func (.func 46) #[] #[.pointer (some ⟨w.heap.size + 1, 0, none⟩)], epV x, undef, undef, undef, undef, undef, undef, undef, undef, undef, undef], defers := [] })
    (fun x a' _ X Y row ⟨Bx, h1, h2, h3⟩ hg hr => ⟨Bx, h1, (hg.block Bx (lt_of_at h2) (fun e => by obtain ⟨_, o, ho, hc'⟩ := hr Bx e.symm; rw [show X.heap[Bx]? = _ from h2] at ho; cases ho; cases hc')).trans h2, h3⟩)
    ?assign ?body ?done ?stop
  case assign =>
    rintro l pre x W K ⟨⟨v, X, hv, hrow, hmap, hown⟩, hB⟩ hK
    unfold epV
    have hX : SpAt (W.alloc (.cells #[.int .i64 0, .bool false, .bool false, .bool false, .bool false, .bool false, .bool false, .bool false, .bool false, .bool false, .bool false, .bool false, .bool false, .bool false, .bool false, .bool false] 64)) W.heap.size 0 (fun _ => false) := heap_alloc_new W _
    gi_wp2_with ((with_reducible refine wi_store_span x.f (setB x.m) ?_ ?_ hX ?_); rfl; rfl; intro w5 HS5 HK5)
    have hk : Kept [] W w5 := ((Kept.refl [] W).alloc _).trans HK5.out (by simp)
    exact hK _ _ ((keepsOthers_kept hk).from _) (hk.below hB.size (by simp)) ⟨⟨v, X, boxed_keep hv hk, hk.ownsRow hrow (by simp), hmap, fun y hy => hk.ownsRow (hown y hy) (by simp)⟩, hB.trans (hk.below hB.size (by simp))⟩ ⟨W.heap.size, hv.lt, HS5.out, rfl⟩
  case body =>
    rintro l pre x a' W hl' _ ⟨⟨v, X, hv, hrow, hmap, hown⟩, hB⟩ ⟨Bx, hBx, bX, rfl⟩ hlt
    have hX := bX.range
    have hcb := hv.cell
    have HBx := hide bX
    have HXl : Hid (X.length ≤ 1000000) := by
      have : (X.map Prod.fst).length = (pre.map tellE).length := by rw [hmap]
      simp at this
      show _ ≤ _
      omega
    have HBn : Hid (Bx ≠ w.heap.size) := by show _ ≠ _; omega
    unfold epV
    clear bX
    gi_wp2_with fail
    refine region_in (S := fun w' => w'.rangeAt Bx 0 (spC x.f (setB x.m))) (by kernel_rfl) (by kernel_rfl) hX (fun hHeld => ?_)
    refine wpAnyH_take (i := 1) (v := ?_) rfl (by kernel_rfl) (by kernel_rfl) (by kernel_rfl) (fun _ _ _ h => h) (Or.inl ⟨by rfl, ?_⟩) hHeld ?_
    rotate_left
    · intro w9 hSw; (try dsimp only at hSw); go_simp; (try with_reducible rfl)
    try simp only [List.getElem_toArray, List.getElem_cons_succ, List.getElem_cons_zero, Act.put, List.setIfInBounds_toArray, List.set_cons_zero, List.set_cons_succ]
    refine wpAnyH_take (i := 2) (v := ?_) rfl (by kernel_rfl) (by kernel_rfl) (by kernel_rfl) (fun _ _ _ h => h) (Or.inl ⟨by rfl, ?_⟩) hHeld ?_
    rotate_left
    · intro w9 hSw; (try dsimp only at hSw); have hq9 := spC_from hSw; go_simp; (try with_reducible rfl)
    try simp only [List.getElem_toArray, List.getElem_cons_succ, List.getElem_cons_zero, Act.put, List.setIfInBounds_toArray, List.set_cons_zero, List.set_cons_succ]
    refine wpAnyH_take (i := 3) (v := ?_) rfl (by kernel_rfl) (by kernel_rfl) (by kernel_rfl) (fun _ _ _ h => h) (Or.inl ⟨by rfl, ?_⟩) hHeld ?_
    rotate_left
    · intro w9 hSw; (try dsimp only at hSw); go_simp; (try with_reducible rfl)
    try simp only [List.getElem_toArray, List.getElem_cons_succ, List.getElem_cons_zero, Act.put, List.setIfInBounds_toArray, List.set_cons_zero, List.set_cons_succ]
    refine wpAnyH_take (i := 4) (v := .agg (setC (setB x.m)).toArray) rfl (by kernel_rfl) (by kernel_rfl) (by kernel_rfl) (fun _ _ _ h => h) (yieldsIf_load_mid (by rfl) _ _ rfl Bx (1) rfl (setC (setB x.m)) _ (fun w9 hSw => spC_set hSw) Try.underlying59 rfl size_set) hHeld ?_
    try simp only [List.getElem_toArray, List.getElem_cons_succ, List.getElem_cons_zero, Act.put, List.setIfInBounds_toArray, List.set_cons_zero, List.set_cons_succ]
    refine wpAnyH_ready (rs := [0, 5]) (by kernel_rfl) (by simp) (AllReadyH.cons rfl (fun K0 hK0 => ?_) (AllReadyH.cons rfl (fun K0 hK0 => ?_) (AllReadyH.nil)))
    · go_simp
      go_wp2_with fail
      refine hK0.out _ _ (hX) (fun hHeld => ?_)
      clear hK0 K0
      try simp only [List.getElem_toArray, List.getElem_cons_succ, List.getElem_cons_zero, Act.put, List.setIfInBounds_toArray, List.set_cons_zero, List.set_cons_succ]
      refine wpAnyH_ready (rs := [5]) (by kernel_rfl) (by simp) (AllReadyH.cons rfl (fun K0 hK0 => ?_) AllReadyH.nil)
      go_simp
      refine (tell_call _ (setB x.m)).mono ?_
      rintro _ w2 ⟨u2, rfl, hR2a, hK2a⟩
      have HK2 : Hid (Kept [] W w2) := (Kept.refl [] W).drew.trans hK2a (by simp)
      have HR2 : Hid (RowI w.heap.size w2 u2 (told (setB x.m))) := row_mono hR2a hB.size
      clear hR2a hK2a
      obtain ⟨so, sc, rfl, hsl2⟩ := HR2.out.sl
      clear hsl2
      obtain ⟨sn, hsn⟩ : ∃ sn, sn = (told (setB x.m)).length := ⟨_, rfl⟩
      rw [← hsn] at HR2 ⊢
      clear hsn
      go_wp2_with fail
      refine hK0.out _ _ (fun j v hv => HK2.out.cell (hX j v hv) (by simp)) (fun hHeld => ?_)
      clear hK0 K0
      try simp only [List.getElem_toArray, List.getElem_cons_succ, List.getElem_cons_zero, Act.put, List.setIfInBounds_toArray, List.set_cons_zero, List.set_cons_succ]
      refine wpAnyH_take (i := 6) (v := ?_) rfl (by kernel_rfl) (by kernel_rfl) (by kernel_rfl) (fun _ _ _ h => h) (Or.inl ⟨by rfl, ?_⟩) hHeld ?_
      rotate_left
      · intro w9 hSw; (try dsimp only at hSw); go_simp; (try with_reducible rfl)
      try simp only [List.getElem_toArray, List.getElem_cons_succ, List.getElem_cons_zero, Act.put, List.setIfInBounds_toArray, List.set_cons_zero, List.set_cons_succ]
      refine wpAnyH_ready (rs := [7]) (by kernel_rfl) (by simp) (AllReadyH.cons rfl (fun K0 hK0 => ?_) AllReadyH.nil)
      obtain ⟨w3, hw3⟩ : ∃ w3, w3 = w2.alloc (.cells #[.int .i64 x.f, .slice so sn sc] 48) := ⟨_, rfl⟩
      go_simp
      go_wp2_with fail
      rw [← hw3]
      have HK3 : Hid (Kept [] W w3) := by show Kept _ _ _; rw [hw3]; exact HK2.out.alloc _
      have HW3 := hide hw3
      clear hw3
      refine hK0.out _ _ (fun j v hv => HK3.out.cell (hX j v hv) (by simp)) (fun hHeld => ?_)
      clear hK0 K0
      try simp only [List.getElem_toArray, List.getElem_cons_succ, List.getElem_cons_zero, Act.put, List.setIfInBounds_toArray, List.set_cons_zero, List.set_cons_succ]
      refine wpAnyH_ready (rs := [8]) (by kernel_rfl) (by simp) (AllReadyH.cons rfl (fun K0 hK0 => ?_) AllReadyH.nil)
      refine step_appA w.heap.size v X x.f so sn sc w2.heap.size rfl (HK3.out.ownsRow hrow (by simp)) rfl (by rw [HW3.out]; exact heap_alloc_new w2 _) HXl.out (Nat.le_trans hB.size HK3.out.size) ?_
      intro g' n' cap' w4 HR4 HG4
      have hgr : (w2.alloc (.cells #[.int .i64 x.f, .slice so sn sc] 48)).grownBy w4 v.ownBlock := by rw [← HW3.out]; exact HG4.out
      have hapd := (boxed_keep hv HK2.out).appended (by decide) (HK2.out.ownsRow hrow (by simp)) (Nat.le_trans hB.size HK2.out.size) (Nat.le_refl _) (HR4.out (told (setB x.m))) hgr
      obtain ⟨hv2, hv3, hr3, hk3, hb3⟩ := hapd
      have hk34 : Kept v.ownBlock.toList w2 w4 := (((Kept.refl v.ownBlock.toList w2).alloc _).grown hgr (fun k hk => .inl (by simp [hk])))
      have ht2 : Typed w2 v.ownBlock.toList [48] := fun k hk cur t mk hh => by
        obtain ⟨cur', hh'⟩ := row_block (HK2.out.ownsRow hrow (by simp)) (mem_own.1 hk)
        rw [hh'] at hh; cases hh; simp
      have HB4 : Hid (∀ (u : Value) (m : List Int), RowI w.heap.size w2 u m → RowI w.heap.size (w4.setCell ⟨w.heap.size, 0, none⟩ (.slice (some ⟨g', 0, none⟩) n' cap')) u m) := fun u m hu => by
        have h1 : RowI w.heap.size w4 u m := row_typed hk34 ht2 hu (by decide)
        exact ((Kept.refl [w.heap.size] w4).setCell (by simp) _).ownsRow h1 fun k hk hm => by
          simp at hm; subst hm
          obtain ⟨cur, hh⟩ := row_block h1 hk
          have h2 : w4.heap[w.heap.size]? = _ := hv2
          rw [h2] at hh; cases hh
      have hS4 : w4.rangeAt Bx 0 (spC x.f (setB x.m)) := fun j u hu => hk34.cell (HK2.out.cell (hX j u hu) (by simp)) (fun hm => by
        obtain ⟨cur, hh⟩ := row_block (HK2.out.ownsRow hrow (by simp)) (mem_own.1 hm)
        rw [HK2.out.at HBx.out (by simp)] at hh; cases hh)
      have HV3 := hide hv3
      have HR3 := hide hr3
      have HK3f := hide hk3
      have HB3 := hide hb3
      have hc2 := hv2.cell
      have hf2 := hv2.frozen
      clear hv2 hv3 hr3 hk3 hb3 hk34 ht2 hgr
      refine hK0.out _ _ hS4 (fun hHeld => ?_)
      clear hK0 K0
      try simp only [List.getElem_toArray, List.getElem_cons_succ, List.getElem_cons_zero, Act.put, List.setIfInBounds_toArray, List.set_cons_zero, List.set_cons_succ]
      refine wpAnyH_ready (rs := [9]) (by kernel_rfl) (by simp) (AllReadyH.cons rfl (fun K0 hK0 => ?_) AllReadyH.nil)
      go_simp
      go_wp2_with fail
      refine hK0.out _ _ (fun j u hu => ((Kept.refl [w.heap.size] w4).setCell (by simp) _).cell (hS4 j u hu) (by simpa using HBn.out)) (fun hHeld => ?_)
      clear hK0 K0
      try simp only [List.getElem_toArray, List.getElem_cons_succ, List.getElem_cons_zero, Act.put, List.setIfInBounds_toArray, List.set_cons_zero, List.set_cons_succ]
      refine wpAnyH_done (by kernel_rfl) ?_ _
      clear hHeld
      refine ⟨rfl, ?_⟩
      gi_wp2_with fail
      refine ⟨((keepsOthers_kept HK2.out).trans HK3f.out).from _, (HK2.out.below hB.size (by simp)).trans HB3.out, ⟨_, _, HV3.out, HR3.out, ?_, fun y hy => ?_⟩, hB.trans ((HK2.out.below hB.size (by simp)).trans HB3.out)⟩
      · rw [List.map_append, List.map_append, hmap]; rfl
      · rcases List.mem_append.1 hy with hy | hy
        · exact HB4.out _ _ (HK2.out.ownsRow (hown y hy) (by simp))
        · rw [show y = (⟨x.f, told (setB x.m)⟩, .slice so sn sc) by simpa using hy]; exact HB4.out _ _ HR2.out
    · go_simp
      refine (tell_call _ (setB x.m)).mono ?_
      rintro _ w2 ⟨u2, rfl, hR2a, hK2a⟩
      have HK2 : Hid (Kept [] W w2) := (Kept.refl [] W).drew.trans hK2a (by simp)
      have HR2 : Hid (RowI w.heap.size w2 u2 (told (setB x.m))) := row_mono hR2a hB.size
      clear hR2a hK2a
      obtain ⟨so, sc, rfl, hsl2⟩ := HR2.out.sl
      clear hsl2
      obtain ⟨sn, hsn⟩ : ∃ sn, sn = (told (setB x.m)).length := ⟨_, rfl⟩
      rw [← hsn] at HR2 ⊢
      clear hsn
      go_wp2_with fail
      refine hK0.out _ _ (fun j v hv => HK2.out.cell (hX j v hv) (by simp)) (fun hHeld => ?_)
      clear hK0 K0
      try simp only [List.getElem_toArray, List.getElem_cons_succ, List.getElem_cons_zero, Act.put, List.setIfInBounds_toArray, List.set_cons_zero, List.set_cons_succ]
      refine wpAnyH_take (i := 6) (v := ?_) rfl (by kernel_rfl) (by kernel_rfl) (by kernel_rfl) (fun _ _ _ h => h) (Or.inl ⟨by rfl, ?_⟩) hHeld ?_
      rotate_left
      · intro w9 hSw; (try dsimp only at hSw); go_simp; (try with_reducible rfl)
      try simp only [List.getElem_toArray, List.getElem_cons_succ, List.getElem_cons_zero, Act.put, List.setIfInBounds_toArray, List.set_cons_zero, List.set_cons_succ]
      refine wpAnyH_ready (rs := [0, 7]) (by kernel_rfl) (by simp) (AllReadyH.cons rfl (fun K0 hK0 => ?_) (AllReadyH.cons rfl (fun K0 hK0 => ?_) (AllReadyH.nil)))
      · have hcb2 := HK2.out.cell hcb (by simp)
        go_simp
        go_wp2_with fail
        refine hK0.out _ _ (fun j v hv => HK2.out.cell (hX j v hv) (by simp)) (fun hHeld => ?_)
        clear hK0 K0
        try simp only [List.getElem_toArray, List.getElem_cons_succ, List.getElem_cons_zero, Act.put, List.setIfInBounds_toArray, List.set_cons_zero, List.set_cons_succ]
        refine wpAnyH_ready (rs := [7]) (by kernel_rfl) (by simp) (AllReadyH.cons rfl (fun K0 hK0 => ?_) AllReadyH.nil)
        obtain ⟨w3, hw3⟩ : ∃ w3, w3 = w2.alloc (.cells #[.int .i64 x.f, .slice so sn sc] 48) := ⟨_, rfl⟩
        go_simp
        go_wp2_with fail
        rw [← hw3]
        have HK3 : Hid (Kept [] W w3) := by show Kept _ _ _; rw [hw3]; exact HK2.out.alloc _
        have HW3 := hide hw3
        clear hw3
        refine hK0.out _ _ (fun j v hv => HK3.out.cell (hX j v hv) (by simp)) (fun hHeld => ?_)
        clear hK0 K0
        try simp only [List.getElem_toArray, List.getElem_cons_succ, List.getElem_cons_zero, Act.put, List.setIfInBounds_toArray, List.set_cons_zero, List.set_cons_succ]
        refine wpAnyH_ready (rs := [8]) (by kernel_rfl) (by simp) (AllReadyH.cons rfl (fun K0 hK0 => ?_) AllReadyH.nil)
        refine step_appA w.heap.size v X x.f so sn sc w2.heap.size rfl (HK3.out.ownsRow hrow (by simp)) rfl (by rw [HW3.out]; exact heap_alloc_new w2 _) HXl.out (Nat.le_trans hB.size HK3.out.size) ?_
        intro g' n' cap' w4 HR4 HG4
        have hgr : (w2.alloc (.cells #[.int .i64 x.f, .slice so sn sc] 48)).grownBy w4 v.ownBlock := by rw [← HW3.out]; exact HG4.out
        have hapd := (boxed_keep hv HK2.out).appended (by decide) (HK2.out.ownsRow hrow (by simp)) (Nat.le_trans hB.size HK2.out.size) (Nat.le_refl _) (HR4.out (told (setB x.m))) hgr
        obtain ⟨hv2, hv3, hr3, hk3, hb3⟩ := hapd
        have hk34 : Kept v.ownBlock.toList w2 w4 := (((Kept.refl v.ownBlock.toList w2).alloc _).grown hgr (fun k hk => .inl (by simp [hk])))
        have ht2 : Typed w2 v.ownBlock.toList [48] := fun k hk cur t mk hh => by
          obtain ⟨cur', hh'⟩ := row_block (HK2.out.ownsRow hrow (by simp)) (mem_own.1 hk)
          rw [hh'] at hh; cases hh; simp
        have HB4 : Hid (∀ (u : Value) (m : List Int), RowI w.heap.size w2 u m → RowI w.heap.size (w4.setCell ⟨w.heap.size, 0, none⟩ (.slice (some ⟨g', 0, none⟩) n' cap')) u m) := fun u m hu => by
          have h1 : RowI w.heap.size w4 u m := row_typed hk34 ht2 hu (by decide)
          exact ((Kept.refl [w.heap.size] w4).setCell (by simp) _).ownsRow h1 fun k hk hm => by
            simp at hm; subst hm
            obtain ⟨cur, hh⟩ := row_block h1 hk
            have h2 : w4.heap[w.heap.size]? = _ := hv2
            rw [h2] at hh; cases hh
        have hS4 : w4.rangeAt Bx 0 (spC x.f (setB x.m)) := fun j u hu => hk34.cell (HK2.out.cell (hX j u hu) (by simp)) (fun hm => by
          obtain ⟨cur, hh⟩ := row_block (HK2.out.ownsRow hrow (by simp)) (mem_own.1 hm)
          rw [HK2.out.at HBx.out (by simp)] at hh; cases hh)
        have HV3 := hide hv3
        have HR3 := hide hr3
        have HK3f := hide hk3
        have HB3 := hide hb3
        have hc2 := hv2.cell
        have hf2 := hv2.frozen
        clear hv2 hv3 hr3 hk3 hb3 hk34 ht2 hgr
        refine hK0.out _ _ hS4 (fun hHeld => ?_)
        clear hK0 K0
        try simp only [List.getElem_toArray, List.getElem_cons_succ, List.getElem_cons_zero, Act.put, List.setIfInBounds_toArray, List.set_cons_zero, List.set_cons_succ]
        refine wpAnyH_ready (rs := [9]) (by kernel_rfl) (by simp) (AllReadyH.cons rfl (fun K0 hK0 => ?_) AllReadyH.nil)
        go_simp
        go_wp2_with fail
        refine hK0.out _ _ (fun j u hu => ((Kept.refl [w.heap.size] w4).setCell (by simp) _).cell (hS4 j u hu) (by simpa using HBn.out)) (fun hHeld => ?_)
        clear hK0 K0
        try simp only [List.getElem_toArray, List.getElem_cons_succ, List.getElem_cons_zero, Act.put, List.setIfInBounds_toArray, List.set_cons_zero, List.set_cons_succ]
        refine wpAnyH_done (by kernel_rfl) ?_ _
        clear hHeld
        refine ⟨rfl, ?_⟩
        gi_wp2_with fail
        refine ⟨((keepsOthers_kept HK2.out).trans HK3f.out).from _, (HK2.out.below hB.size (by simp)).trans HB3.out, ⟨_, _, HV3.out, HR3.out, ?_, fun y hy => ?_⟩, hB.trans ((HK2.out.below hB.size (by simp)).trans HB3.out)⟩
        · rw [List.map_append, List.map_append, hmap]; rfl
        · rcases List.mem_append.1 hy with hy | hy
          · exact HB4.out _ _ (HK2.out.ownsRow (hown y hy) (by simp))
          · rw [show y = (⟨x.f, told (setB x.m)⟩, .slice so sn sc) by simpa using hy]; exact HB4.out _ _ HR2.out
      · obtain ⟨w3, hw3⟩ : ∃ w3, w3 = w2.alloc (.cells #[.int .i64 x.f, .slice so sn sc] 48) := ⟨_, rfl⟩
        go_simp
        go_wp2_with fail
        rw [← hw3]
        have HK3 : Hid (Kept [] W w3) := by show Kept _ _ _; rw [hw3]; exact HK2.out.alloc _
        have HW3 := hide hw3
        clear hw3
        refine hK0.out _ _ (fun j v hv => HK3.out.cell (hX j v hv) (by simp)) (fun hHeld => ?_)
        clear hK0 K0
        try simp only [List.getElem_toArray, List.getElem_cons_succ, List.getElem_cons_zero, Act.put, List.setIfInBounds_toArray, List.set_cons_zero, List.set_cons_succ]
        have hcb3 := HK3.out.cell hcb (by simp)
        refine wpAnyH_ready (rs := [0]) (by kernel_rfl) (by simp) (AllReadyH.cons rfl (fun K0 hK0 => ?_) AllReadyH.nil)
        go_simp
        go_wp2_with fail
        refine hK0.out _ _ (fun j v hv => HK3.out.cell (hX j v hv) (by simp)) (fun hHeld => ?_)
        clear hK0 K0
        try simp only [List.getElem_toArray, List.getElem_cons_succ, List.getElem_cons_zero, Act.put, List.setIfInBounds_toArray, List.set_cons_zero, List.set_cons_succ]
        refine wpAnyH_ready (rs := [8]) (by kernel_rfl) (by simp) (AllReadyH.cons rfl (fun K0 hK0 => ?_) AllReadyH.nil)
        refine step_appA w.heap.size v X x.f so sn sc w2.heap.size rfl (HK3.out.ownsRow hrow (by simp)) rfl (by rw [HW3.out]; exact heap_alloc_new w2 _) HXl.out (Nat.le_trans hB.size HK3.out.size) ?_
        intro g' n' cap' w4 HR4 HG4
        have hgr : (w2.alloc (.cells #[.int .i64 x.f, .slice so sn sc] 48)).grownBy w4 v.ownBlock := by rw [← HW3.out]; exact HG4.out
        have hapd := (boxed_keep hv HK2.out).appended (by decide) (HK2.out.ownsRow hrow (by simp)) (Nat.le_trans hB.size HK2.out.size) (Nat.le_refl _) (HR4.out (told (setB x.m))) hgr
        obtain ⟨hv2, hv3, hr3, hk3, hb3⟩ := hapd
        have hk34 : Kept v.ownBlock.toList w2 w4 := (((Kept.refl v.ownBlock.toList w2).alloc _).grown hgr (fun k hk => .inl (by simp [hk])))
        have ht2 : Typed w2 v.ownBlock.toList [48] := fun k hk cur t mk hh => by
          obtain ⟨cur', hh'⟩ := row_block (HK2.out.ownsRow hrow (by simp)) (mem_own.1 hk)
          rw [hh'] at hh; cases hh; simp
        have HB4 : Hid (∀ (u : Value) (m : List Int), RowI w.heap.size w2 u m → RowI w.heap.size (w4.setCell ⟨w.heap.size, 0, none⟩ (.slice (some ⟨g', 0, none⟩) n' cap')) u m) := fun u m hu => by
          have h1 : RowI w.heap.size w4 u m := row_typed hk34 ht2 hu (by decide)
          exact ((Kept.refl [w.heap.size] w4).setCell (by simp) _).ownsRow h1 fun k hk hm => by
            simp at hm; subst hm
            obtain ⟨cur, hh⟩ := row_block h1 hk
            have h2 : w4.heap[w.heap.size]? = _ := hv2
            rw [h2] at hh; cases hh
        have hS4 : w4.rangeAt Bx 0 (spC x.f (setB x.m)) := fun j u hu => hk34.cell (HK2.out.cell (hX j u hu) (by simp)) (fun hm => by
          obtain ⟨cur, hh⟩ := row_block (HK2.out.ownsRow hrow (by simp)) (mem_own.1 hm)
          rw [HK2.out.at HBx.out (by simp)] at hh; cases hh)
        have HV3 := hide hv3
        have HR3 := hide hr3
        have HK3f := hide hk3
        have HB3 := hide hb3
        have hc2 := hv2.cell
        have hf2 := hv2.frozen
        clear hv2 hv3 hr3 hk3 hb3 hk34 ht2 hgr
        refine hK0.out _ _ hS4 (fun hHeld => ?_)
        clear hK0 K0
        try simp only [List.getElem_toArray, List.getElem_cons_succ, List.getElem_cons_zero, Act.put, List.setIfInBounds_toArray, List.set_cons_zero, List.set_cons_succ]
        refine wpAnyH_ready (rs := [9]) (by kernel_rfl) (by simp) (AllReadyH.cons rfl (fun K0 hK0 => ?_) AllReadyH.nil)
        go_simp
        go_wp2_with fail
        refine hK0.out _ _ (fun j u hu => ((Kept.refl [w.heap.size] w4).setCell (by simp) _).cell (hS4 j u hu) (by simpa using HBn.out)) (fun hHeld => ?_)
        clear hK0 K0
        try simp only [List.getElem_toArray, List.getElem_cons_succ, List.getElem_cons_zero, Act.put, List.setIfInBounds_toArray, List.set_cons_zero, List.set_cons_succ]
        refine wpAnyH_done (by kernel_rfl) ?_ _
        clear hHeld
        refine ⟨rfl, ?_⟩
        gi_wp2_with fail
        refine ⟨((keepsOthers_kept HK2.out).trans HK3f.out).from _, (HK2.out.below hB.size (by simp)).trans HB3.out, ⟨_, _, HV3.out, HR3.out, ?_, fun y hy => ?_⟩, hB.trans ((HK2.out.below hB.size (by simp)).trans HB3.out)⟩
        · rw [List.map_append, List.map_append, hmap]; rfl
        · rcases List.mem_append.1 hy with hy | hy
          · exact HB4.out _ _ (HK2.out.ownsRow (hown y hy) (by simp))
          · rw [show y = (⟨x.f, told (setB x.m)⟩, .slice so sn sc) by simpa using hy]; exact HB4.out _ _ HR2.out
  case done =>
    rintro D ys W hD rfl ⟨⟨v, X, hv, hrow, hmap, hown⟩, hB⟩ hK
    have hc := hv.cell
    gi_wp2_with fail
    refine ⟨by simp, .inl ⟨_, _, rfl, run_takeDeferred hK, ?_⟩⟩
    refine ⟨_, results_tmp rfl _ _ _, v, X, rfl, ownsRow_putObj hrow _ hK rfl, fun y hy => ownsRow_putObj (hown y hy) _ hK rfl, by rw [hmap, HT.out], Kept.of_below (hB.trans (belowK_b (w := w) (Nat.le_refl _) W D _ _ (by omega) hK rfl rfl))⟩
  case stop =>
    rintro D c pre W _ _ h _
    exact h.elim

end Go.Proofs.Ytddkaagdkmmknaa
