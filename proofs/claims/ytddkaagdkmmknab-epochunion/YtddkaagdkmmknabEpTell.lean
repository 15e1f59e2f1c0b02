/-
  (set).each, (set).tell: the numbers of a set, one by one, rising; as a list.
-/
import Derived.Test.YtddkaagdkmmknabEpOps
import Derived.RangeFuncNested
import Derived.RangeFuncBound
import Derived.RangeFuncCalls
import Derived.RangeFuncLeaves
import Derived.RangeFuncBox
import Derived.Shelf.Abstract
import Derived.Shelf.RegionOpen
import Derived.WalkKit
import Derived.OwnWalkIn
import Derived.TacticsInMore
import Derived.LoopNIn
import Derived.LoopIn
import Derived.Maps.AppendAt
namespace Go.Proofs.Ytddkaagdkmmknab
open Go.RowKit Go.Shelf
attribute [local go_sem] Oper.semAt_some

theorem Kept.grow {a w : World} (h : Kept [] a w) : a.grownBy w none := ⟨h.os, h.tape, h.output, h.size, fun k hk _ => h.block k hk (by simp)⟩

theorem wide_room (k : Nat) : Fence.wide.depth.isSome = true → 1 ≤ k := fun h => by cases h

theorem abides_kept {α : Type} {n : Nat} {J : List α → World → Prop} (h : AbidesFrom n J) : ∀ pre W W', J pre W → Kept [] W W' → J pre W' :=
  fun pre W W' hj hk => h pre W W' none hj hk.grow (fun r e => by cases e)

/-- An operation that is no call, inside a fence: its value. -/
theorem in_value {F : Fence} {n : Nat} {ops : Array Oper} {rest : List Oper} {o : Oper} {a : Act} {w w' : World} {v : Value} {Q : Exit → Act → World → Prop} (hg : o.guard = none) (hc : ∀ c, o.op ≠ .call c) (hd : ∀ c, o.op ≠ .defer c)
    (hr : (execOp a.eval o).run Try.prog w = .ok (.value v) w') (h : wpListIn F n Try.prog ops Q rest (a.put o.dst v) w') : wpListIn F n Try.prog ops Q (o :: rest) a w := by
  refine wpListIn_plain hg fun K hK => ?_
  unfold Oper.wpIn
  refine ⟨fun f hf => ?_, ?_⟩
  · unfold Oper.about at hf
    split at hf
    · rename_i c hc'; exact absurd hc' (hc c)
    · cases hf
  · rw [Oper.semAt_plain F _ _ hd, hr, Oper.uponIn_value]
    exact hK _ _ h

theorem in_skip {F : Fence} {n : Nat} {ops : Array Oper} {rest : List Oper} {o : Oper} {a : Act} {w w' : World} {Q : Exit → Act → World → Prop} (hg : o.guard = none) (hc : ∀ c, o.op ≠ .call c) (hd : ∀ c, o.op ≠ .defer c)
    (hr : (execOp a.eval o).run Try.prog w = .ok .skip w') (h : wpListIn F n Try.prog ops Q rest (a.put o.dst undef) w') : wpListIn F n Try.prog ops Q (o :: rest) a w := by
  refine wpListIn_plain hg fun K hK => ?_
  unfold Oper.wpIn
  refine ⟨fun f hf => ?_, ?_⟩
  · unfold Oper.about at hf
    split at hf
    · rename_i c hc'; exact absurd hc' (hc c)
    · cases hf
  · rw [Oper.semAt_plain F _ _ hd, hr, Oper.uponIn_skip]
    exact hK _ _ h

theorem wi_load_set {F : Fence} {n : Nat} {ops : Array Oper} {rest : List Oper} {a : Act} {w : World} {Q : Exit → Act → World → Prop} {d : Option Tmp} {x : Operand} {ty : TypeId} {ps : String} {af : Array Edge}
    {b o : Nat} {S : Nat → Bool} (hx : a.eval x = .pointer (some ⟨b, o, none⟩)) (hc : w.rangeAt b o (setC S)) (h : wpListIn F n Try.prog ops Q rest (a.put d (setV S)) w) : wpListIn F n Try.prog ops Q (⟨d, .load 38 x, ty, ps, af, none⟩ :: rest) a w :=
  in_value rfl (fun _ e => by cases e) (fun _ e => by cases e) (by simp only [execOp, hx, Sem.run_bind, load_setm hc, Result.andThen_ok, Sem.run_pure]) h

theorem wi_load_span {F : Fence} {n : Nat} {ops : Array Oper} {rest : List Oper} {a : Act} {w : World} {Q : Exit → Act → World → Prop} {d : Option Tmp} {x : Operand} {ty : TypeId} {ps : String} {af : Array Edge}
    {b o : Nat} {f : Int} {S : Nat → Bool} (hx : a.eval x = .pointer (some ⟨b, o, none⟩)) (hc : w.rangeAt b o (spC f S)) (h : wpListIn F n Try.prog ops Q rest (a.put d (spV f S)) w) : wpListIn F n Try.prog ops Q (⟨d, .load 43 x, ty, ps, af, none⟩ :: rest) a w :=
  in_value rfl (fun _ e => by cases e) (fun _ e => by cases e) (by simp only [execOp, hx, Sem.run_bind, load_span hc, Result.andThen_ok, Sem.run_pure]) h

theorem store_span {w : World} {b : Nat} {f : Int} {S : Nat → Bool} (h : SpAt w b f S) (g : Int) (T : Nat → Bool) : (Instr.storeAt 43 (.pointer (some ⟨b, 0, none⟩)) (spV g T)).run Try.prog w = .ok () (w.setCells b 0 (spC g T)) := by
  have := run_storeAt_mid (P := Try.prog) w b 0 43 (spC g T).toArray (by simpa [spC_len] using h.there) size_span (all_oneCell_toArray (spC_one g T))
  simpa [spV] using this

theorem wi_store_span {F : Fence} {n : Nat} {ops : Array Oper} {rest : List Oper} {a : Act} {w : World} {Q : Exit → Act → World → Prop} {d : Option Tmp} {x y : Operand} {ty : TypeId} {ps : String} {af : Array Edge}
    (g : Int) (T : Nat → Bool) {b : Nat} (hx : a.eval x = .pointer (some ⟨b, 0, none⟩)) (hy : a.eval y = spV g T) {f : Int} {S : Nat → Bool} (hc : SpAt w b f S) (h : ∀ w', Hid (SpAt w' b g T) → Hid (Kept [b] w w') → wpListIn F n Try.prog ops Q rest (a.put d undef) w') : wpListIn F n Try.prog ops Q (⟨d, .store 43 x y, ty, ps, af, none⟩ :: rest) a w :=
  in_skip rfl (fun _ e => by cases e) (fun _ e => by cases e) (by simp only [execOp, hx, hy, Sem.run_bind, store_span hc g T, Result.andThen_ok, Sem.run_pure]) (h _ hc.store (setCells_kept (by simp) _ _ (Kept.refl _ _)))

theorem wi_index_set {F : Fence} {n : Nat} {ops : Array Oper} {rest : List Oper} {a : Act} {w : World} {Q : Exit → Act → World → Prop} {d : Option Tmp} {x y : Operand} {ty : TypeId} {ps : String} {af : Array Edge}
    {S : Nat → Bool} {i : Nat} (hx : a.eval x = setV S) (hy : a.eval y = .int .i64 (i : Int)) (hi : i < 15) (h : wpListIn F n Try.prog ops Q rest (a.put d (.bool (S i))) w) : wpListIn F n Try.prog ops Q (⟨d, .index 38 x y, ty, ps, af, none⟩ :: rest) a w :=
  in_value rfl (fun _ e => by cases e) (fun _ e => by cases e) (by simp only [execOp, hx, hy, Sem.run_bind, index_set w S hi, Result.andThen_ok, Sem.run_pure]) h

/-- A number of a replica. -/
abbrev Rep := Fin 15

def repI (x : Rep) : Int := ((x.1 : Nat) : Int)

/-- The numbers of a set below a place, rising. -/
def reps (S : Nat → Bool) : Nat → List Rep
  | 0 => []
  | k + 1 => if h : k < 15 then (if S k then reps S k ++ [⟨k, h⟩] else reps S k) else reps S k

theorem reps_told (S : Nat → Bool) : ∀ k, k ≤ 15 → (reps S k).map repI = ((List.range k).filter S).map fun k : Nat => (k : Int)
  | 0, _ => rfl
  | k + 1, h => by
    rw [List.range_succ, List.filter_append, List.map_append, ← reps_told S k (by omega)]
    simp only [reps, dif_pos (show k < 15 by omega)]
    cases hs : S k with
    | false => simp [hs]
    | true => simp [hs, repI]

theorem reps_all (S : Nat → Bool) : (reps S 15).map repI = told S := reps_told S 15 (Nat.le_refl _)

theorem reps_len (S : Nat → Bool) : ∀ k, (reps S k).length ≤ k
  | 0 => Nat.le_refl _
  | k + 1 => by
    have := reps_len S k
    simp only [reps]
    split
    · split
      · simp; omega
      · omega
    · omega

theorem reps_pre (S : Nat → Bool) (k : Nat) : ∀ j, reps S k <+: reps S (k + j)
  | 0 => List.prefix_refl _
  | j + 1 => (reps_pre S k j).trans (by
      rw [show k + (j + 1) = (k + j) + 1 by omega]
      conv => rhs; rw [reps]
      split
      · split
        · exact List.prefix_append _ _
        · exact List.prefix_refl _
      · exact List.prefix_refl _)

set_option maxHeartbeats 1000000 in
theorem each_in (n : Nat) (S : Nat → Bool) (w : World) :
    CallsIn Fence.wide n Try.prog 18 #[setV S] w fun e w' => e = .returned (.func (.func 23) #[] #[.pointer (some ⟨w.heap.size, 0, none⟩)]) ∧ w' = w.alloc (.cells (setC S).toArray 38) := by
  unfold setV
  refine callsIn_of_wp Try.func18 rfl trivial ?_ rfl
  simp only [Try.ntmps18, List.size_toArray, List.length_cons, List.length_nil, Nat.reduceAdd, Nat.reduceSub, Array.replicate_succ, Array.replicate_zero, List.push_toArray, List.append_toArray, List.nil_append, List.cons_append]
  gi_wp2
  go_ret
  exact ⟨rfl, rfl⟩

set_option maxRecDepth 100000 in
set_option maxHeartbeats 4000000 in
theorem each1_in (l B n b : Nat) (S : Nat → Bool) (J Jx : List Rep → World → Prop)
    (hY : ∀ pre (x : Rep) W, J pre W → pre.length < 15 → YieldAt Fence.wide (n - 1) Try.prog l #[.int .i64 (repI x)] W fun e W' =>
      (e = .returned (.bool true) ∧ J (pre ++ [x]) W' ∧ Below B W W') ∨ (e = .returned (.bool false) ∧ Jx (pre ++ [x]) W'))
    (W : World) (hb : SetAt W b S) (h0 : J [] W) :
    CallsIn Fence.wide n Try.prog 23 #[.func (.yield l) #[] #[], .pointer (some ⟨b, 0, none⟩)] W fun e W' => (∃ v, e = .returned v) ∧
      ((∃ ys, ys = reps S 15 ∧ J ys W') ∨ (∃ pre, pre <+: reps S 15 ∧ Jx pre W')) := by
  have HR := hide hb.range
  clear hb
  refine callsIn_of_wp Try.func23 rfl trivial ?_ rfl
  simp only [Try.ntmps23, List.size_toArray, List.length_cons, List.length_nil, Nat.reduceAdd, Nat.reduceSub, Array.replicate_succ, Array.replicate_zero, List.push_toArray, List.append_toArray, List.nil_append, List.cons_append]
  gi_wp2_with ((with_reducible refine wi_load_set ?_ HR.out ?_); rfl)
  clear HR
  gi_loopw [6] (fun i wr => ∃ k : Nat, k ≤ 15 ∧ i = .int .i64 k ∧ Hid (J (reps S k) wr))
    (fun i _ => 15 - (intOf i).toNat)
  case atStart => exact ⟨0, Nat.zero_le _, rfl, h0⟩
  case round =>
    obtain ⟨k, hk, rfl, HJ⟩ := hrel
    by_cases hlt : k < 15
    · have hlt' : (k : Int) < 15 := by omega
      cases hs : S k with
      | true =>
        have HE : Hid (reps S (k + 1) = reps S k ++ [⟨k, hlt⟩]) := by show _ = _; simp only [reps, dif_pos hlt, hs]; simp
        obtain ⟨fn, tmps, assign, body, hy, hR⟩ := hY (reps S k) ⟨k, hlt⟩ wr HJ.out (by have := reps_len S k; omega)
        unfold repI at hy
        clear hY
        gi_wp2_with ((with_reducible refine wi_index_set (S := S) (i := k) ?_ ?_ hlt ?_); rfl; rfl; rw [hs])
        refine ⟨wide_room _, hR.mono ?_⟩
        clear hR
        rintro e W3 (⟨rfl, hJ3, hk3⟩ | ⟨rfl, hJx3⟩)
        · gi_wp2_with fail
          go_roundw
          case rel => exact ⟨k + 1, by omega, by go_num, by show J _ _; rw [HE.out]; exact hJ3⟩
          case measure => simp [intOf]; omega
        · gi_wp2_with fail
          refine bodyPost_ret (results_none rfl _ _ _) rfl ?_
          exact ⟨⟨_, rfl⟩, .inr ⟨_, by rw [← HE.out, show (15 : Nat) = (k + 1) + (14 - k) by omega]; exact reps_pre S _ _, hJx3⟩⟩
      | false =>
        have HE : Hid (reps S (k + 1) = reps S k) := by show _ = _; simp only [reps, dif_pos hlt, hs]; simp
        gi_wp2_with ((with_reducible refine wi_index_set (S := S) (i := k) ?_ ?_ hlt ?_); rfl; rfl; rw [hs])
        refine ⟨fun _ h => (by cases h), ?_⟩
        gi_wp2_with fail
        go_roundw
        case rel => exact ⟨k + 1, by omega, by go_num, by show J _ _; rw [HE.out]; exact HJ.out⟩
        case measure => simp [intOf]; omega
    · obtain rfl : k = 15 := by omega
      gi_wp2_with fail
      go_end0
      exact ⟨⟨_, rfl⟩, .inl ⟨_, rfl, HJ.out⟩⟩

theorem each_stops (n B b : Nat) (S : Nat → Bool) (w : World) (hb : SetAt w b S) :
    SeqStopsK Fence.wide n Try.prog 23 #[.pointer (some ⟨b, 0, none⟩)] (fun x : Rep => #[.int .i64 (repI x)]) (Below B) (fun ys => ys = reps S 15) (fun pre => pre <+: reps S 15) 15 w :=
  fun l J Jx W hW _ _ hY h0 => each1_in l B n b S J Jx hY W ((hW.block b (lt_of_at hb)).trans hb) h0

theorem boxed_keep {a w : World} {b : Nat} {t : TypeId} {v : Value} (h : Boxed a b t v) (k : Kept [] a w) : Boxed w b t v := k.at h (by simp)

theorem keepsOthers_kept {a w : World} (k : Kept [] a w) : KeepsOthers a w := ⟨k.size, fun i _ hi _ => k.at hi (by simp)⟩

def repC (l : List Rep) : List Value := l.map fun x => .int .i64 (repI x)

set_option maxRecDepth 100000 in
set_option maxHeartbeats 4000000 in
theorem tell_call (w : World) (S : Nat → Bool) :
    Calls Try.prog 19 #[setV S] w fun e w' => ∃ v, e = .returned v ∧ RowI w.heap.size w' v (told S) ∧ Kept [] w w' := by
  obtain ⟨i0, hi, hz0, hz1, hz2⟩ := info_parts info_int
  refine (callsIn_wide (n := 3)).1 ?_
  refine callsIn_of_wp_marks Try.func19 rfl trivial ?_ rfl
  unfold setV
  simp only [Try.ntmps19, List.size_toArray, List.length_cons, List.length_nil, Nat.reduceAdd, Nat.reduceSub, Array.replicate_succ, Array.replicate_zero, List.push_toArray, List.append_toArray, List.nil_append, List.cons_append]
  have hL : SetAt ((w.alloc (.cells (setC S).toArray 38)).alloc (.cells #[.slice none 0 0] 28)) w.heap.size S := (Below.heap_alloc _ _ _ (by simp)).trans (heap_alloc_new w _)
  gi_wp2_with (first | ((with_reducible refine wi_load_set ?_ hL.range ?_); rfl) | (refine ⟨trivial, ?_⟩; gi_at_call 18; refine (each_in _ S _).mono ?_; rintro e w' ⟨rfl, rfl⟩))
  obtain ⟨W0, hW0⟩ : ∃ W0, (((w.alloc (.cells (setC S).toArray 38)).alloc (.cells #[.slice none 0 0] 28)).alloc (.cells (setC S).toArray 38)) = W0 := ⟨_, rfl⟩
  have hsz : W0.heap.size = w.heap.size + 3 := by rw [← hW0]; simp
  have hK0 : Kept [] w W0 := by rw [← hW0]; exact (((Kept.refl _ _).alloc _).alloc _).alloc _
  have bO : Boxed W0 (w.heap.size + 1) 28 (.slice none 0 0) := by
    rw [← hW0]
    have := Boxed.new (w.alloc (.cells (setC S).toArray 38)) 28 (.slice none 0 0)
    rw [World.size_alloc] at this
    exact this.alloc _
  have bS : SetAt W0 (w.heap.size + 1 + 1) S := by
    rw [← hW0]
    have := heap_alloc_new ((w.alloc (.cells (setC S).toArray 38)).alloc (.cells #[.slice none 0 0] 28)) (.cells (setC S).toArray 38)
    rw [World.size_alloc, World.size_alloc] at this
    exact this
  rw [hW0]
  clear hL hW0
  have hB0 : Below w.heap.size w W0 := hK0.below (Nat.le_refl _) (by simp)
  refine wpIn_rangeFunc_ownF rfl (by omega) (gf := 23) (lb := #[.pointer (some ⟨w.heap.size + 1 + 1, 0, none⟩)]) rfl trivial (enters_of Try.func23 (by kernel_rfl) rfl)
    (each_stops _ w.heap.size (w.heap.size + 1 + 1) S W0 bS) belowK_t (belowK_b (by omega)) (Below.refl _ _) (fun _ => rfl)
    (fun pre W => (∃ v, Boxed W (w.heap.size + 1) 28 v ∧ W.ownsRow w.heap.size 3 1 v pre.length (repC pre) ∧ True) ∧ Below w.heap.size w W)
    (fun _ _ _ => False)
    (OwnFrom.and (Own.from (holdsRow_own w.heap.size (w.heap.size + 1) 28 3 1 (fun pre : List Rep => pre.length) (fun pre => repC pre) (fun _ _ => True)) _) (ownFrom_below (Nat.le_refl _) (by omega)))
    (fun _ _ _ _ _ h _ _ => h)
    ⟨⟨_, bO, World.ownsRow_nil _ _ _ _, trivial⟩, hB0⟩
    (fun x => { tmps := #[.agg (setC S).toArray, .pointer (some ⟨w.heap.size, 0, none⟩), .slice none 0 0, .pointer (some ⟨w.heap.size + 1, 0, none⟩), .int .i64 (repI x), setV S, .func (.func 23) #[] #[.pointer (some ⟨w.heap.size + 1 + 1, 0, none⟩)], .int .i64 (repI x), undef, undef, undef, undef, undef], defers := [] })
    ?assign ?body ?done ?stop
  case assign =>
    intro l x W K hK
    gi_wp2
    exact hK
  case body =>
    rintro l pre x W ⟨⟨v, hv, hrow, _⟩, hB⟩ hlt
    have hc := hv.cell
    gi_wp2_with (gi_at_builtin; refine wpListIn_append_own _ rfl _ _ 28 rfl w.heap.size 3 i0 (.int .i64 0) 1 8 Try.underlying28 hi hz0 hz1 hz2 rfl (by decide) _ _ _ rfl (hrow.alloc _) ⟨W.heap.size, 0, none⟩ 1 1 [.int .i64 (repI x)] rfl rfl ?n1 (by simp [Value.oneCell']) (by unfold maxLen; omega) (by omega) (by have := hB.size; simp; omega) ?n2)
    case n1 => exact cell_one_new _ _ _
    case n2 =>
      intro v' w1 hown' hgrow _
      obtain ⟨g', cap', rfl⟩ := ownsRow_succ hown'
      obtain ⟨hv2, hv3, hr3, hk3, hb3⟩ := hv.appended (by decide) hrow hB.size (Nat.le_succ _) hown' hgrow
      have hc2 := hv2.cell
      have hf2 := hv2.frozen
      gi_wp2_with fail
      refine ⟨hk3, hb3, ⟨_, hv3, ?_, trivial⟩, hB.trans hb3⟩
      unfold repC at hr3 ⊢
      rw [List.length_append, List.map_append]
      simpa using hr3
  case done =>
    rintro D ys W hD rfl ⟨⟨v, hv, hrow, _⟩, hB⟩ hK
    have hc := hv.cell
    gi_wp2_with fail
    refine ⟨by simp, .inl ⟨_, _, rfl, run_takeDeferred hK, ?_⟩⟩
    refine ⟨_, results_tmp rfl _ _ _, v, rfl, ?_, Kept.of_below (hB.trans (belowK_b (w := w) (Nat.le_refl _) W D _ _ (by omega) hK rfl rfl))⟩
    have h1 := ownsRow_putObj hrow (.deferred none) hK rfl
    unfold RowI
    rw [← reps_all S, List.length_map, List.map_map]
    exact h1
  case stop =>
    rintro D c pre W _ _ h _
    exact h.elim

end Go.Proofs.Ytddkaagdkmmknab
