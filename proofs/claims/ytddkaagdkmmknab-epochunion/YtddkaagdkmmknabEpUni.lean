/-
  (*Epochs).Union.
-/
import Derived.Test.YtddkaagdkmmknabEpEach
namespace Go.Proofs.Ytddkaagdkmmknab
open Go.RowKit Go.Shelf
attribute [local go_sem] Oper.semAt_some

theorem SetAt.congr {w : World} {b : Nat} {S T : Nat → Bool} (h : SetAt w b S) (e : ∀ k, k < 15 → S k = T k) : SetAt w b T := by
  unfold SetAt at *
  rw [← setC_congr e]
  exact h

theorem block_ownU {β : Type} (B' b : Nat) (f : β → Obj) (hc : ∀ s, (f s).isCells = true) : OwnFrom B' (fun s W => W.heap[b]? = some (f s)) := fun s X Y row hs hg hr =>
  (hg.block b (lt_of_at hs) (fun e => by obtain ⟨_, o, ho, hc'⟩ := hr b e.symm; rw [hs] at ho; cases ho; rw [hc] at hc'; cases hc')).trans hs

/-- A set, with these numbers set. -/
def insB (S : Nat → Bool) (l : List Rep) (k : Nat) : Bool := S k || l.any fun y => decide (y.1 = k)

theorem ins_nil (S : Nat → Bool) : insB S [] = S := by funext k; simp [insB]

theorem ins_snoc (S : Nat → Bool) (l : List Rep) (x : Rep) : insB S (l ++ [x]) = updB (insB S l) x.1 true := by
  funext k
  unfold insB updB
  by_cases e : k = x.1
  · simp [e]
  · have e' : ¬ x.1 = k := fun h => e h.symm
    simp [e, e']

theorem mem_reps (S : Nat → Bool) (y : Rep) : ∀ K, K ≤ 15 → (y ∈ reps S K ↔ y.1 < K ∧ S y.1 = true)
  | 0, _ => by simp [reps]
  | K + 1, h => by
    have ih := mem_reps S y K (by omega)
    simp only [reps, dif_pos (show K < 15 by omega)]
    cases hs : S K with
    | true =>
      simp only [if_true, List.mem_append, List.mem_singleton, ih]
      constructor
      · rintro (⟨h1, h2⟩ | rfl)
        · exact ⟨by omega, h2⟩
        · exact ⟨by simp, hs⟩
      · rintro ⟨h1, h2⟩
        by_cases e : y.1 = K
        · exact .inr (Fin.ext e)
        · exact .inl ⟨by omega, h2⟩
    | false =>
      simp only [Bool.false_eq_true, if_false, ih]
      constructor
      · rintro ⟨h1, h2⟩; exact ⟨by omega, h2⟩
      · rintro ⟨h1, h2⟩
        refine ⟨?_, h2⟩
        by_cases e : y.1 = K
        · rw [e, hs] at h2; cases h2
        · omega

theorem ins_all (pre : List Ep) (x : Ep) {k : Nat} (hk : k < 15) : insB (uniB pre) (reps (setB x.m) 15) k = uniB (pre ++ [x]) k := by
  have h : ((reps (setB x.m) 15).any fun y => decide (y.1 = k)) = setB x.m k := by
    rw [Bool.eq_iff_iff, List.any_eq_true]
    constructor
    · rintro ⟨y, hy, e⟩
      obtain ⟨_, h2⟩ := (mem_reps _ y 15 (Nat.le_refl _)).1 hy
      rw [← show y.1 = k by simpa using e]
      exact h2
    · intro h
      exact ⟨⟨k, hk⟩, (mem_reps _ _ 15 (Nat.le_refl _)).2 ⟨hk, h⟩, by simp⟩
  unfold insB uniB
  rw [h, List.any_append]
  simp

theorem unI_own (w : World) (B : Nat) (hB : w.heap.size ≤ B) : OwnFrom B (fun (pre : List Ep) W => SetAt W w.heap.size (uniB pre) ∧ Below w.heap.size w W) :=
  OwnFrom.and (block_ownU B w.heap.size (fun pre => .cells (setC (uniB pre)).toArray 38 (0, 0)) (fun _ => rfl)) (ownFrom_below (Nat.le_refl _) hB)

set_option maxRecDepth 100000 in
set_option maxHeartbeats 8000000 in
theorem union_call (B : Nat) (w : World) (p : Nat) (al : Int) (L : List Ep) (h : EpA B w p al L) (hn : L ≠ []) (hl : L.length ≤ 1000000) :
    Calls Try.prog 8 #[.pointer (some ⟨p, 0, none⟩)] w fun e w' => ∃ v, e = .returned v ∧ RowI w.heap.size w' v (told (uniB L)) ∧ Kept [] w w' := by
  obtain ⟨g, cap, h1, h2, h3, h4⟩ := h.open hn
  have hpl := lt_of_at h1
  have hgl : g < w.heap.size := block_lt_of_cell (spC_from (h4 0 (List.length_pos_iff.2 hn)))
  refine (callsIn_wide (n := 6)).1 ?_
  refine callsIn_of_wp_marks Try.func8 rfl trivial ?_ rfl
  simp only [Try.ntmps8, List.size_toArray, List.length_cons, List.length_nil, Nat.reduceAdd, Nat.reduceSub, Array.replicate_succ, Array.replicate_zero, List.push_toArray, List.append_toArray, List.nil_append, List.cons_append]
  gi_wp2_with (refine ⟨trivial, ?_⟩; gi_at_call 17; refine (eachE_in _ _ _).mono ?_; rintro e w' ⟨rfl, rfl⟩)
  obtain ⟨W0, hW0⟩ : ∃ W0, ((w.alloc (.cells #[.bool false, .bool false, .bool false, .bool false, .bool false, .bool false, .bool false, .bool false, .bool false, .bool false, .bool false, .bool false, .bool false, .bool false, .bool false] 38)).alloc (.cells #[.pointer (some ⟨p, 0, none⟩)] 24)) = W0 := ⟨_, rfl⟩
  have hsz : W0.heap.size = w.heap.size + 2 := by rw [← hW0]; simp
  have hK0 : Kept [] w W0 := by rw [← hW0]; exact ((Kept.refl _ _).alloc _).alloc _
  have bA : SetAt W0 w.heap.size (uniB []) := by rw [← hW0]; exact (Below.heap_alloc _ _ _ (by simp)).trans (heap_alloc_new w _)
  have bP : Boxed W0 (w.heap.size + 1) 24 (.pointer (some ⟨p, 0, none⟩)) := by
    rw [← hW0]
    have := Boxed.new (w.alloc (.cells #[.bool false, .bool false, .bool false, .bool false, .bool false, .bool false, .bool false, .bool false, .bool false, .bool false, .bool false, .bool false, .bool false, .bool false, .bool false] 38)) 24 (.pointer (some ⟨p, 0, none⟩))
    rwa [World.size_alloc] at this
  rw [hW0]
  clear hW0
  have hB0 : Below w.heap.size w W0 := hK0.below (Nat.le_refl _) (by simp)
  refine wpIn_rangeFunc_ownH rfl (by omega) (gf := 22) (lb := #[.pointer (some ⟨w.heap.size + 1, 0, none⟩)]) rfl trivial (enters_of Try.func22 (by kernel_rfl) rfl)
    (eachE_stops _ w.heap.size (w.heap.size + 1) p g cap L hl W0 (by omega) (by omega) (by omega) bP.cell (cell_inC (k := 1) (hK0.at h1 (by simp)) rfl) hgl (fun i hi j v hv => hK0.cell (h4 i hi j v hv) (by simp))) belowK_t (belowK_b (by omega)) (Below.refl _ _) (fun _ => rfl)
    (fun (pre : List Ep) W => SetAt W w.heap.size (uniB pre) ∧ Below w.heap.size w W)
    (fun _ _ _ => False)
    (unI_own w _ (by omega))
    (fun _ _ _ _ _ h _ _ => h)
    ⟨bA, hB0⟩
    (fun x a' W => ∃ Bx, w.heap.size < Bx ∧ SpAt W Bx x.f (setB x.m) ∧ a' = { tmps := #[.pointer (some ⟨p, 0, none⟩), undef, .slice none 0 0, .pointer (some ⟨w.heap.size, 0, none⟩), .pointer (some ⟨Bx, 0, none⟩), undef, .pointer (some ⟨p, 0, none⟩), .func (.func 22) #[] #[.pointer (some ⟨w.heap.size + 1, 0, none⟩)], epV x, undef, undef, undef, undef, undef, undef, undef, undef], defers := [] })
    (fun x a' _ X Y row ⟨Bx, h1, h2, h3⟩ hg hr => ⟨Bx, h1, (hg.block Bx (lt_of_at h2) (fun e => by obtain ⟨_, o, ho, hc'⟩ := hr Bx e.symm; rw [show X.heap[Bx]? = _ from h2] at ho; cases ho; cases hc')).trans h2, h3⟩)
    ?assign ?body ?done ?stop
  case assign =>
    rintro l pre x W K ⟨hA, hB⟩ hK
    unfold epV
    have hX : SpAt (W.alloc (.cells #[.int .i64 0, .bool false, .bool false, .bool false, .bool false, .bool false, .bool false, .bool false, .bool false, .bool false, .bool false, .bool false, .bool false, .bool false, .bool false, .bool false] 43)) W.heap.size 0 (fun _ => false) := heap_alloc_new W _
    gi_wp2_with ((with_reducible refine wi_store_span x.f (setB x.m) ?_ ?_ hX ?_); rfl; rfl; intro w5 HS5 HK5)
    have hk : Kept [] W w5 := ((Kept.refl [] W).alloc _).trans HK5.out (by simp)
    exact hK _ _ ((keepsOthers_kept hk).from _) (hk.below hB.size (by simp)) ⟨hA.kept hk (by simp), hB.trans (hk.below hB.size (by simp))⟩ ⟨W.heap.size, lt_of_at hA, HS5.out, rfl⟩
  case body =>
    rintro l pre x a' W hl' ⟨r, hr⟩ ⟨hA, hB⟩ ⟨Bx, hBx, bX, rfl⟩ hlt
    have hX := spC_set bX.range
    rw [Nat.zero_add] at hX
    unfold epV
    gi_wp2_with (first | ((with_reducible refine wi_load_set (S := setB x.m) ?_ hX ?_); rfl) | (refine ⟨trivial, ?_⟩; gi_at_call 18; refine (CallsIn.inRound l (each_in _ (setB x.m) _)).mono ?_; rintro e w' ⟨rfl, rfl⟩))
    have hsW : w.heap.size ≤ W.heap.size := hB.size
    have hr' : (W.alloc (.cells (setC (setB x.m)).toArray 38)).heap[l]? = some (.loop r) := (Below.heap_alloc W _ l (Array.getElem?_eq_some_iff.1 hr).1).trans hr
    refine wpIn_rangeFunc_ownN (l₀ := l) (r₀ := r) rfl hr' (by omega) (gf := 23) (lb := #[.pointer (some ⟨W.heap.size, 0, none⟩)]) rfl trivial (enters_of Try.func23 (by kernel_rfl) rfl)
      ((each_stops _ w.heap.size W.heap.size (setB x.m) _ (heap_alloc_new W _)).inRound l) belowK_t (belowK_b (by simp; omega)) (Below.refl _ _) (fun _ => rfl)
      (fun (pre' : List Rep) W' => SetAt W' w.heap.size (insB (uniB pre) pre') ∧ (Below w.heap.size W W' ∧ KeepsFrom W0.heap.size W W'))
      (fun _ _ _ => False)
      (OwnFrom.and (block_ownU _ w.heap.size (fun pre' => .cells (setC (insB (uniB pre) pre')).toArray 38 (0, 0)) (fun _ => rfl)) (OwnFrom.and (ownFrom_below hsW (by simp; omega)) (ownFrom_keepsFrom (by simp))))
      (fun _ _ _ _ _ hs _ _ => hs)
      ⟨by rw [ins_nil]; exact hA.kept ((Kept.refl [] W).alloc _) (by simp), (Below.refl _ W).alloc hsW _, (KeepsOthers.alloc _ _).from _⟩
      (fun y a'' _ => a'' = { tmps := #[.pointer (some ⟨p, 0, none⟩), undef, .slice none 0 0, .pointer (some ⟨w.heap.size, 0, none⟩), .pointer (some ⟨Bx, 0, none⟩), .int .i64 (repI y), .pointer (some ⟨p, 0, none⟩), .func (.func 22) #[] #[.pointer (some ⟨w.heap.size + 1, 0, none⟩)], spV x.f (setB x.m), .pointer (some ⟨Bx, 1, none⟩), setV (setB x.m), .func (.func 23) #[] #[.pointer (some ⟨W.heap.size, 0, none⟩)], .int .i64 (repI y), undef, undef, undef, undef], defers := [] })
      (fun _ _ _ _ _ _ hs _ _ => hs)
      ?assign2 ?body2 ?done2 ?stop2
    case assign2 =>
      rintro l2 pre' y W' K hi hK
      gi_wp2
      exact hK _ _ (KeepsFrom.refl _ _) (Below.refl _ _) hi rfl
    case body2 =>
      rintro l2 pre' y a'' W' _ _ ⟨hA2, hBW, hKF⟩ rfl _
      have hy15 : (y.1 : Int) < 15 := by have := y.2; omega
      have c2 := hA2.cell y.2
      have f2 := froz3 hA2 y.1
      unfold repI
      gi_wp2_with fail
      exact ⟨(KeepsOthers.setCell _ _ _).from _, (Below.refl _ W').setCell (p := ⟨w.heap.size, y.1, none⟩) (by simp) _,
        ⟨by rw [ins_snoc]; exact hA2.set true y.2, hBW.setCell (p := ⟨w.heap.size, y.1, none⟩) (by simp) _, hKF.trans ((KeepsOthers.setCell _ _ _).from _)⟩⟩
    case done2 =>
      rintro ys' W' rfl ⟨hA2, hBW, hKF⟩
      gi_wp2
      exact ⟨hKF, hBW, hA2.congr (fun k hk => ins_all pre x hk), hB.trans hBW⟩
    case stop2 =>
      rintro c pre' W' _ h
      exact h.elim
  case done =>
    rintro D ys W hD rfl ⟨hA, hB⟩ hK
    have cT := tell_call W (uniB ys)
    gi_wp2_with (first | ((with_reducible refine wi_load_set (S := uniB ys) ?_ hA.range ?_); rfl) | (refine ⟨trivial, ?_⟩; gi_at_call 19; refine (callsIn_wide.2 cT).mono ?_; clear cT; rintro e w2 ⟨v, rfl, hR, hK2⟩))
    have hKd : w2.heap[D]? = some (.deferred (some [])) := hK2.at hK (by simp)
    refine ⟨by simp, .inl ⟨_, _, rfl, run_takeDeferred hKd, ?_⟩⟩
    refine ⟨_, results_tmp rfl _ _ _, v, rfl, ownsRow_putObj (row_mono hR hB.size) _ hKd rfl, Kept.of_below ((hB.trans (hK2.below hB.size (by simp))).trans (belowK_b (w := w) (Nat.le_refl _) w2 D _ _ (by omega) hKd rfl rfl))⟩
  case stop =>
    rintro D c pre W _ _ h _
    exact h.elim

end Go.Proofs.Ytddkaagdkmmknab
