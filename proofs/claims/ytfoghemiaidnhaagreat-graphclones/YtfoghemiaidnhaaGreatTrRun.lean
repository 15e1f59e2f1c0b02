/-
  run: the leaves from a path on, up to the first that is not in.
-/
import Derived.Test.YtfoghemiaidnhaaGreatTrWalk
import Derived.RangeFuncBox
import Derived.Maps.AppendAt
namespace Go.Proofs.YtfoghemiaidnhaaGreat
open Go.RowKit Go.Shelf
attribute [local go_sem] Oper.semAt_some

/-- A leaf's cells. -/
def lfC (x : Lf) : List Value := [.string (str x.p), .int .u64 x.d, .int .i64 x.r, .bool x.g]

/-- The row is the leaves L, in a block that is new since B. -/
def OwnL (B : Nat) (w : World) (v : Value) (L : List Lf) : Prop := w.ownsRow B 79 4 v L.length (L.flatMap lfC)

theorem OwnL.nil (B : Nat) (w : World) : OwnL B w (.slice none 0 0) [] := World.ownsRow_nil w B 79 4

theorem info_leaf : (Tryz.prog.info? 79).map (fun i => (i.zero, i.size, i.bytes)) = some (some (.agg #[.string ⟨#[]⟩, .int .u64 0, .int .i64 0, .bool false]), 4, 40) := by kernel_rfl

theorem block_own {β : Type} (B' b : Nat) (f : β → Obj) (hc : ∀ s, (f s).isCells = true) : OwnFrom B' (fun s W => W.heap[b]? = some (f s)) := fun s X Y row hs hg hr =>
  (hg.block b (lt_of_at hs) (fun e => by obtain ⟨_, o, ho, hc'⟩ := hr b e.symm; rw [hs] at ho; cases ho; rw [hc] at hc'; cases hc')).trans hs

theorem ge_length (f : List UInt8) (t : Tr) : (t.ge f).length ≤ t.size := by
  induction t with
  | nil => simp [Tr.ge, Tr.size]
  | node l x r h1 h2 =>
    simp only [Tr.ge, Tr.size]
    split
    · omega
    · simp; omega

theorem take_all {P : Lf → Bool} {L : List Lf} (h : L.all P = true) : L.takeWhile P = L := by
  induction L with
  | nil => rfl
  | cons x L ih => simp only [List.all_cons, Bool.and_eq_true] at h; rw [List.takeWhile_cons, if_pos h.1, ih h.2]

theorem take_stop {P : Lf → Bool} {L q : List Lf} {x : Lf} (h : q ++ [x] <+: L) (hq : q.all P = true) (hx : P x = false) : L.takeWhile P = q := by
  obtain ⟨r, rfl⟩ := h
  rw [List.append_assoc, List.takeWhile_append_of_pos (by simpa using hq), List.singleton_append, List.takeWhile_cons, hx]
  simp

theorem boxed_keep {a w : World} {b : Nat} {t : TypeId} {v : Value} (h : Boxed a b t v) (k : Kept [] a w) : Boxed w b t v := k.at h (by simp)

theorem owns_keep {a w : World} {B : Nat} {e : TypeId} {size n : Nat} {v : Value} {xs : List Value} (h : a.ownsRow B e size v n xs) (k : Kept [] a w) : w.ownsRow B e size v n xs := k.ownsRow h (by simp)

theorem keepsOthers_kept {a w : World} (k : Kept [] a w) : KeepsOthers a w := ⟨k.size, fun i _ hi _ => k.at hi (by simp)⟩

theorem adr_add (b o i : Nat) : (⟨b, o, none⟩ : Addr).add i = ⟨b, o + i, none⟩ := by
  by_cases h : i = 0 <;> simp [Addr.add, h]

theorem leaf_new (w : World) (x : Lf) (t : TypeId) : ∀ (j : Nat) (u : Value), (lfC x)[j]? = some u → (w.alloc (.cells #[.string (str x.p), .int .u64 x.d, .int .i64 x.r, .bool x.g] t)).cell? ((⟨w.heap.size, 0, none⟩ : Addr).add j) = some u := by
  intro j u hj
  rw [adr_add, Nat.zero_add]
  exact cell_in (heap_alloc_new w (.cells #[.string (str x.p), .int .u64 x.d, .int .i64 x.r, .bool x.g] t)) (by simpa [lfC] using hj)

theorem vals_snoc (q : List SLf) (x : SLf) : vals (q ++ [x]) = vals q ++ [x.1] := by simp [vals]

theorem vals_length (q : List SLf) : (vals q).length = q.length := by simp [vals]

set_option maxRecDepth 100000 in
set_option maxHeartbeats 4000000 in
theorem runAll_call (B : Nat) (w : World) (p : Option Addr) (t : Tr) (h : TAt B w p t) (hs : t.size ≤ 100000000000) (f : List UInt8) (hf : f.length ≤ 140737488355328) (P : Lf → Bool)
    (hin : ∀ (x : SLf) W, Below w.heap.size w W → Calls Tryz.prog 95 #[.string (str x.1.p)] W fun e W' => e = .returned (.bool (P x.1)) ∧ Kept [] W W') :
    Calls Tryz.prog 94 #[.pointer p, .string (str f), .func (.func 95) #[] #[]] w fun e w' => ∃ v, e = .returned v ∧ OwnL w.heap.size w' v ((t.ge f).takeWhile P) ∧ Kept [] w w' := by
  obtain ⟨i0, hi, hz0, hz1, hz2⟩ := info_parts info_leaf
  have hge := ge_length f t
  refine (callsIn_wide (n := 3)).1 ?_
  refine callsIn_of_wp_marks Tryz.func94 rfl trivial ?_ rfl
  simp only [Tryz.ntmps94, List.size_toArray, List.length_cons, List.length_nil, Nat.reduceAdd, Nat.reduceSub, Array.replicate_succ, Array.replicate_zero, List.push_toArray, List.append_toArray, List.nil_append, List.cons_append]
  gi_wp2_with (refine ⟨trivial, ?_⟩; gi_at_call 119; refine (from_in _ _ _ _).mono ?_; rintro e w' ⟨rfl, rfl⟩)
  obtain ⟨W0, hW0⟩ : ∃ W0, (((w.alloc (.cells #[.func (.func 95) #[] #[]] 89)).alloc (.cells #[.slice none 0 0] 41)).alloc (.cells #[.pointer p] 65)).alloc (.cells #[.string (str f)] 9) = W0 := ⟨_, rfl⟩
  have hsz : W0.heap.size = w.heap.size + 4 := by rw [← hW0]; simp
  have hK0 : Kept [] w W0 := by rw [← hW0]; exact ((((Kept.refl _ _).alloc _).alloc _).alloc _).alloc _
  have bI : Boxed W0 w.heap.size 89 (.func (.func 95) #[] #[]) := by rw [← hW0]; exact (((Boxed.new w _ _).alloc _).alloc _).alloc _
  have bO : Boxed W0 (w.heap.size + 1) 41 (.slice none 0 0) := by
    rw [← hW0]
    have := Boxed.new (w.alloc (.cells #[.func (.func 95) #[] #[]] 89)) 41 (.slice none 0 0)
    rw [World.size_alloc] at this
    exact (this.alloc _).alloc _
  have bP : Boxed W0 (w.heap.size + 1 + 1) 65 (.pointer p) := by
    rw [← hW0]
    have := Boxed.new ((w.alloc (.cells #[.func (.func 95) #[] #[]] 89)).alloc (.cells #[.slice none 0 0] 41)) 65 (.pointer p)
    rw [World.size_alloc, World.size_alloc] at this
    exact this.alloc _
  have bF : Boxed W0 (w.heap.size + 1 + 1 + 1) 9 (.string (str f)) := by
    rw [← hW0]
    have := Boxed.new (((w.alloc (.cells #[.func (.func 95) #[] #[]] 89)).alloc (.cells #[.slice none 0 0] 41)).alloc (.cells #[.pointer p] 65)) 9 (.string (str f))
    rw [World.size_alloc, World.size_alloc, World.size_alloc] at this
    exact this
  rw [hW0]
  have hB0 : Below w.heap.size w W0 := hK0.below (Nat.le_refl _) (by simp)
  refine wpIn_rangeFunc_ownH rfl (by omega) (gf := 141) (lb := #[.pointer (some ⟨w.heap.size + 1 + 1, 0, none⟩), .pointer (some ⟨w.heap.size + 1 + 1 + 1, 0, none⟩)]) rfl trivial (enters_of Tryz.func141 (by kernel_rfl) rfl)
    (from_stops _ w.heap.size (w.heap.size + 1 + 1) (w.heap.size + 1 + 1 + 1) f hf p t W0 (by omega) (by omega) (by omega) bP.cell bF.cell (h.full.kept hK0)) belowK_t (belowK_b (by omega)) (Below.refl _ _) (fun _ => rfl)
    (fun pre W => ((∃ v, Boxed W (w.heap.size + 1) 41 v ∧ W.ownsRow w.heap.size 79 4 v (vals pre).length ((vals pre).flatMap lfC) ∧ (vals pre).all P = true) ∧ Boxed W w.heap.size 89 (.func (.func 95) #[] #[])) ∧ Below w.heap.size w W)
    (fun c pre W => (c = .exit 0 ∧ ∃ (q : List SLf) (x : SLf), pre = q ++ [x] ∧ P x.1 = false ∧ (∃ v, Boxed W (w.heap.size + 1) 41 v ∧ W.ownsRow w.heap.size 79 4 v (vals q).length ((vals q).flatMap lfC) ∧ (vals q).all P = true)) ∧ Below w.heap.size w W)
    (OwnFrom.and (OwnFrom.and (Own.from (holdsRow_own w.heap.size (w.heap.size + 1) 41 79 4 (fun pre => (vals pre).length) (fun pre => (vals pre).flatMap lfC) (fun pre _ => (vals pre).all P = true)) _) (Own.from (boxed_own w.heap.size 89 (fun _ => .func (.func 95) #[] #[])) _)) (ownFrom_below (Nat.le_refl _) (by omega)))
    (fun c => OwnFrom.and (fun pre X Y row ⟨hc, q, x, e1, e2, e3⟩ hg hr => ⟨hc, q, x, e1, e2, Own.from (holdsRow_own w.heap.size (w.heap.size + 1) 41 79 4 (fun pre => (vals pre).length) (fun pre => (vals pre).flatMap lfC) (fun pre _ => (vals pre).all P = true)) _ q X Y row e3 hg hr⟩) (ownFrom_below (Nat.le_refl _) (by omega)))
    ⟨⟨⟨_, bO, World.ownsRow_nil _ _ _ _, rfl⟩, bI⟩, hB0⟩
    (fun x a' W => ∃ Bx, w.heap.size + 1 < Bx ∧ W.heap[Bx]? = some (.cells #[.string (str x.1.p), .int .u64 x.1.d, .int .i64 x.1.r, .bool x.1.g] 79 (0, 0)) ∧ a' = { tmps := #[.pointer p, .string (str f), .func (.func 95) #[] #[], undef, undef, .pointer (some ⟨w.heap.size, 0, none⟩), .slice none 0 0, .pointer (some ⟨w.heap.size + 1, 0, none⟩), .pointer (some ⟨Bx, 0, none⟩), .pointer p, .string (str f), .func (.func 141) #[] #[.pointer (some ⟨w.heap.size + 1 + 1, 0, none⟩), .pointer (some ⟨w.heap.size + 1 + 1 + 1, 0, none⟩)], lfV x.1, undef, undef, undef, undef, undef, undef, undef, undef, undef, undef], defers := [] })
    (fun x a' _ X Y row ⟨Bx, h1, h2, h3⟩ hg hr => ⟨Bx, h1, block_own (β := Unit) _ Bx (fun _ => .cells #[.string (str x.1.p), .int .u64 x.1.d, .int .i64 x.1.r, .bool x.1.g] 79 (0, 0)) (fun _ => rfl) () X Y row h2 hg hr, h3⟩)
    ?assign ?body ?done ?stop
  case assign =>
    rintro l pre x W K ⟨⟨⟨v, hv, hrow, hall⟩, hfv⟩, hB⟩ hK
    unfold lfV
    gi_wp2
    exact hK _ _ ((KeepsOthers.alloc _ _).from _) ((Below.refl _ W).alloc hB.size _) ⟨⟨⟨v, hv.alloc _, hrow.alloc _, hall⟩, hfv.alloc _⟩, hB.trans ((Below.refl _ W).alloc hB.size _)⟩ ⟨W.heap.size, hv.lt, heap_alloc_new W _, rfl⟩
  case body =>
    rintro l pre x a' W hl _ ⟨⟨⟨v, hv, hrow, hall⟩, hfv⟩, hB⟩ ⟨Bx, hBx, bX, rfl⟩ hlt
    have hc := hv.cell
    have hfc := hfv.cell
    obtain ⟨c0, c1, c2, c3⟩ := cells4 bX
    have hi1 := hin x W hB
    have hpl := vals_length pre
    cases hP : P x.1 with
    | false =>
      rw [hP] at hi1
      gi_wp2_with (refine ⟨trivial, ?_⟩; gi_at_call 95; refine (CallsIn.inRound l (callsIn_wide.2 hi1)).mono ?_; rintro e W1 ⟨rfl, hK1⟩)
      exact ⟨(keepsOthers_kept hK1).from _, ⟨rfl, pre, x, rfl, hP, v, boxed_keep hv hK1, owns_keep hrow hK1, hall⟩, hB.trans (hK1.below hB.size (by simp))⟩
    | true =>
      rw [hP] at hi1
      gi_wp2_with (first
        | (refine ⟨trivial, ?_⟩; gi_at_call 95; refine (CallsIn.inRound l (callsIn_wide.2 hi1)).mono ?_; rintro e W1 ⟨rfl, hK1⟩; have hv1 := boxed_keep hv hK1; have hc1 := hv1.cell; have hrow1 := owns_keep hrow hK1; have m0 := hK1.cell c0 (by simp); have m1 := hK1.cell c1 (by simp); have m2 := hK1.cell c2 (by simp); have m3 := hK1.cell c3 (by simp); have hsz1 := hK1.size)
        | (gi_at_builtin; refine wpListIn_append_own _ rfl _ _ 41 rfl w.heap.size 79 i0 (.agg #[.string ⟨#[]⟩, .int .u64 0, .int .i64 0, .bool false]) 4 40 Tryz.underlying41 hi hz0 hz1 hz2 rfl (by decide) _ _ _ rfl (hrow1.alloc _) ⟨W1.heap.size, 0, none⟩ 1 1 (lfC x.1) rfl rfl ?n1 (by simp [lfC, Value.oneCell']) (by unfold maxLen; omega) (by omega) (by have := hB.size; simp; omega) ?n2))
      case n1 => exact leaf_new W1 x.1 _
      case n2 =>
        intro v' w1 hown' hgrow _
        obtain ⟨g', cap', rfl⟩ := ownsRow_succ hown'
        have hn1 : w.heap.size ≤ W1.heap.size := Nat.le_trans hB.size hsz1
        obtain ⟨hv2, hv3, hr3, hk3, hb3⟩ := hv1.appended (by decide) hrow1 hn1 (Nat.le_succ _) hown' hgrow
        have hc2 := hv2.cell
        have hf2 := hv2.frozen
        have hfv1 := boxed_keep hfv hK1
        have hfv2 : Boxed w1 w.heap.size 89 (.func (.func 95) #[] #[]) := (hfv1.alloc _).kept hgrow (hfv1.not_row (by decide) hrow1)
        have hbW := hK1.below hB.size (by simp)
        gi_wp2_with fail
        refine ⟨((keepsOthers_kept hK1).trans hk3).from _, hbW.trans hb3, ⟨⟨_, hv3, ?_, ?_⟩, hfv2.other (by omega) _⟩, (hB.trans hbW).trans hb3⟩
        · rw [vals_snoc, List.flatMap_append, List.length_append, vals_length]
          simpa using hr3
        · rw [vals_snoc, List.all_append, hall]
          simp [hP]
  case done =>
    rintro D ys W hD hS ⟨⟨⟨v, hv, hrow, hall⟩, hfv⟩, hB⟩ hK
    have hc := hv.cell
    gi_wp2_with fail
    refine ⟨by simp, .inl ⟨_, _, rfl, run_takeDeferred hK, ?_⟩⟩
    refine ⟨_, results_tmp rfl _ _ _, v, rfl, ?_, Kept.of_below (hB.trans (belowK_b (w := w) (Nat.le_refl _) W D _ _ (by omega) hK rfl rfl))⟩
    have hS' : vals ys = t.ge f := hS
    rw [← hS', take_all hall]
    exact ownsRow_putObj hrow _ hK rfl
  case stop =>
    rintro D c pre W hD hS ⟨⟨rfl, q, x, rfl, hx, v, hv, hrow, hall⟩, hB⟩ hK
    have hc := hv.cell
    gi_wp2_with fail
    refine ⟨by simp, .inl ⟨_, _, rfl, run_takeDeferred hK, ?_⟩⟩
    refine ⟨_, results_tmp rfl _ _ _, v, rfl, ?_, Kept.of_below (hB.trans (belowK_b (w := w) (Nat.le_refl _) W D _ _ (by omega) hK rfl rfl))⟩
    have hS' : vals (q ++ [x]) <+: t.ge f := hS
    rw [vals_snoc] at hS'
    rw [take_stop hS' hall hx]
    exact ownsRow_putObj hrow _ hK rfl

end Go.Proofs.YtfoghemiaidnhaaGreat
