/-
  walk: the leaves that are not ahead of a path, handed out one by one.
-/
import Derived.Test.YtfoghemiaidnhaaGreatTrGet
import Derived.RangeFuncNested
import Derived.RangeFuncBound
import Derived.RangeFuncCalls
import Derived.RangeFuncLeaves
import Derived.Shelf.Abstract
import Derived.Shelf.RegionOpen
import Derived.WalkKit
import Derived.OwnWalkIn
import Derived.TacticsInMore
import Derived.LoopNIn
import Derived.LoopIn
namespace Go.Proofs.YtfoghemiaidnhaaGreat
open Go.RowKit Go.Shelf
attribute [local go_sem] Oper.semAt_some

/-- A leaf whose path is no longer than a text may be. -/
abbrev SLf := { x : Lf // x.p.length ≤ 140737488355328 }

theorem Kept.grow {a w : World} (h : Kept [] a w) : a.grownBy w none := ⟨h.os, h.tape, h.output, h.size, fun k hk _ => h.block k hk (by simp)⟩

theorem roundIn_any {m m' : Nat} {P : Program} {l : Nat} {f : FuncId} {tmps : Array Value} {assign body : Code} {w : World} {R : Ending → World → Prop}
    (h : RoundIn Fence.wide m P l f tmps assign body w R) : RoundIn Fence.wide m' P l f tmps assign body w R := ⟨h.1, fun c cs _ => h.2 c cs (fun d h => by cases h)⟩

theorem yield_any {m : Nat} (m' : Nat) {P : Program} {l : Nat} {args : Array Value} {W : World} {R : Ending → World → Prop} (h : YieldAt Fence.wide m P l args W R) : YieldAt Fence.wide m' P l args W R := by
  obtain ⟨fn, tmps, assign, body, hy, hR⟩ := h
  exact ⟨fn, tmps, assign, body, hy, roundIn_any hR⟩

theorem wide_room (k : Nat) : Fence.wide.depth.isSome = true → 1 ≤ k := fun h => by cases h

def vals (q : List SLf) : List Lf := q.map (·.1)

set_option maxRecDepth 100000 in
set_option maxHeartbeats 4000000 in
theorem walk_in (l B N : Nat) (f : List UInt8) (hf : f.length ≤ 140737488355328) (J Jx : List SLf → World → Prop)
    (hJ : ∀ pre W W', J pre W → Kept [] W W' → J pre W')
    (hY : ∀ m pre (x : SLf) W, J pre W → pre.length < N → YieldAt Fence.wide m Tryz.prog l #[lfV x.1] W fun e W' =>
      (e = .returned (.bool true) ∧ J (pre ++ [x]) W' ∧ Below B W W') ∨ (e = .returned (.bool false) ∧ Jx (pre ++ [x]) W')) (t : Tr) :
    ∀ (n : Nat) (p : Option Addr) (pre : List SLf) (W : World), NAt B W p t → B ≤ W.heap.size → J pre W → pre.length + (t.ge f).length ≤ N →
      CallsIn Fence.wide n Tryz.prog 142 #[.pointer p, .string (str f), .func (.yield l) #[] #[]] W fun e W' =>
        (e = .returned (.bool true) ∧ ∃ q, vals q = t.ge f ∧ J (pre ++ q) W' ∧ Below B W W') ∨ (e = .returned (.bool false) ∧ ∃ q, vals q <+: t.ge f ∧ Jx (pre ++ q) W') := by
  induction t with
  | nil =>
    intro n p pre W ht _ hJ0 _
    obtain rfl : p = none := ht
    refine callsIn_of_wp Tryz.func142 rfl trivial ?_ rfl
    simp only [Tryz.ntmps142, List.size_toArray, List.length_cons, List.length_nil, Nat.reduceAdd, Nat.reduceSub, Array.replicate_succ, Array.replicate_zero, List.push_toArray, List.append_toArray, List.nil_append, List.cons_append]
    gi_wp2
    go_ret
    exact .inl ⟨rfl, [], rfl, by simpa using hJ0, Below.refl _ _⟩
  | node tl x tr ihl ihr =>
    intro n p pre W ht hB hJ0 hN
    obtain ⟨b, pl, pr, rfl, hb, h0, hx, hl, hr⟩ := ht
    obtain ⟨c0, c1, c2, c3, c4, c5, _, _⟩ := cells8 h0
    have cc : CallsIn Fence.wide (n - 1) Tryz.prog 60 #[.string (str x.p), .string (str f)] W fun e w' => e = .returned (.int .i64 (cmpT x.p f)) ∧ Kept [] W w' := callsIn_wide.2 (compare_call x.p f W hx hf)
    by_cases hc : cmpT x.p f < 0
    · have ev : (Tr.node tl x tr).ge f = tr.ge f := by simp only [Tr.ge]; rw [if_pos hc]
      rw [ev] at hN ⊢
      have j1 := fun W1 (hk : Kept [] W W1) => ihr (n - 1) pr pre W1 (hr.kept hk) (Nat.le_trans hB hk.size) (hJ _ _ _ hJ0 hk) hN
      clear ihl ihr hl hr h0 ev hN
      generalize cmpT x.p f = cv at *
      refine callsIn_of_wp Tryz.func142 rfl trivial ?_ rfl
      simp only [Tryz.ntmps142, List.size_toArray, List.length_cons, List.length_nil, Nat.reduceAdd, Nat.reduceSub, Array.replicate_succ, Array.replicate_zero, List.push_toArray, List.append_toArray, List.nil_append, List.cons_append]
      gi_wp2_with (first
        | (refine ⟨trivial, wide_room _, ?_⟩; gi_at_call 60; refine cc.mono ?_; clear cc; rintro e W1 ⟨rfl, hK1⟩; have m5 := hK1.cell c5 (by simp); have j2 := j1 W1 hK1)
        | (refine ⟨trivial, wide_room _, ?_⟩; gi_at_call 142; refine j2.mono ?_; clear j2; rintro e W2 (⟨rfl, q, hq, hJ2, hb2⟩ | ⟨rfl, q, hq, hJ2⟩)))
      · go_ret
        exact .inl ⟨rfl, q, hq, hJ2, (hK1.below hB (by simp)).trans hb2⟩
      · go_ret
        exact .inr ⟨rfl, q, hq, hJ2⟩
    · have ev : (Tr.node tl x tr).ge f = tl.ge f ++ x :: tr.ge f := by simp only [Tr.ge]; rw [if_neg hc]
      rw [ev] at hN ⊢
      rw [List.length_append, List.length_cons] at hN
      obtain ⟨sx, hsx⟩ : ∃ sx : SLf, sx.1 = x := ⟨⟨x, hx⟩, rfl⟩
      have lfx : lfV sx.1 = .agg #[.string (str x.p), .int .u64 x.d, .int .i64 x.r, .bool x.g] := by rw [hsx]; rfl
      generalize cmpT x.p f = cv at *
      refine callsIn_of_wp Tryz.func142 rfl trivial ?_ rfl
      simp only [Tryz.ntmps142, List.size_toArray, List.length_cons, List.length_nil, Nat.reduceAdd, Nat.reduceSub, Array.replicate_succ, Array.replicate_zero, List.push_toArray, List.append_toArray, List.nil_append, List.cons_append]
      gi_wp2_with (first
        | (refine ⟨trivial, wide_room _, ?_⟩; gi_at_call 60; refine cc.mono ?_; clear cc; rintro e W1 ⟨rfl, hK1⟩; have m4 := hK1.cell c4 (by simp)))
      have m0 := hK1.cell c0 (by simp)
      have m1 := hK1.cell c1 (by simp)
      have m2 := hK1.cell c2 (by simp)
      have m3 := hK1.cell c3 (by simp)
      have m5 := hK1.cell c5 (by simp)
      have hJ1 := hJ _ _ _ hJ0 hK1
      have hB1 : B ≤ W1.heap.size := Nat.le_trans hB hK1.size
      have hl1 := hl.kept hK1
      have hr1 := hr.kept hK1
      have hbW := hK1.below hB (by simp)
      clear c0 c1 c2 c3 c4 c5 hl hr h0 ev hJ0 hK1
      -- what the walk wants next, beside each callee's word
      have hy2 : ∀ W2 q, vals q = tl.ge f → J (pre ++ q) W2 → Below B W1 W2 → YieldAt Fence.wide (n - 1) Tryz.prog l #[.agg #[.string (str x.p), .int .u64 x.d, .int .i64 x.r, .bool x.g]] W2 fun e W3 =>
          (e = .returned (.bool true) ∧ J (pre ++ q ++ [sx]) W3 ∧ Below B W1 W3 ∧ W3.cell? ⟨b, 5, none⟩ = some (.pointer pr) ∧ NAt B W3 pr tr) ∨ (e = .returned (.bool false) ∧ Jx (pre ++ q ++ [sx]) W3) := fun W2 q hq hj hb1 => by
        rw [← lfx]
        exact YieldAt.mono (hY (n - 1) _ sx W2 hj (by
          have : q.length = (tl.ge f).length := by rw [← hq]; simp [vals]
          simp; omega)) fun e W3 h => h.elim
          (fun ⟨he, hj, hb2⟩ => .inl ⟨he, hj, hb1.trans hb2, ((hb1.trans hb2).cell (p := ⟨b, 5, none⟩) hb).trans m5, hr1.below (hb1.trans hb2)⟩) .inr
      have ih1 := (ihl (n - 1) pl pre W1 hl1 hB1 hJ1 (by omega)).mono (R' := fun e W2 =>
          (e = .returned (.bool true) ∧ ∃ q, vals q = tl.ge f ∧ W2.cell? ⟨b, 0, none⟩ = some (.string (str x.p)) ∧ W2.cell? ⟨b, 1, none⟩ = some (.int .u64 x.d) ∧ W2.cell? ⟨b, 2, none⟩ = some (.int .i64 x.r) ∧ W2.cell? ⟨b, 3, none⟩ = some (.bool x.g) ∧
            YieldAt Fence.wide (n - 1) Tryz.prog l #[.agg #[.string (str x.p), .int .u64 x.d, .int .i64 x.r, .bool x.g]] W2 fun e W3 =>
              (e = .returned (.bool true) ∧ J (pre ++ q ++ [sx]) W3 ∧ Below B W1 W3 ∧ W3.cell? ⟨b, 5, none⟩ = some (.pointer pr) ∧ NAt B W3 pr tr) ∨ (e = .returned (.bool false) ∧ Jx (pre ++ q ++ [sx]) W3)) ∨
          (e = .returned (.bool false) ∧ ∃ q, vals q <+: tl.ge f ∧ Jx (pre ++ q) W2))
        (fun e W2 h => h.elim (fun ⟨he, q, hq, hj, hb1⟩ => .inl ⟨he, q, hq, (hb1.cell (p := ⟨b, 0, none⟩) hb).trans m0, (hb1.cell (p := ⟨b, 1, none⟩) hb).trans m1, (hb1.cell (p := ⟨b, 2, none⟩) hb).trans m2, (hb1.cell (p := ⟨b, 3, none⟩) hb).trans m3, hy2 W2 q hq hj hb1⟩) .inr)
      clear hy2 ihl hl1 hJ1
      gi_wp2_with (first
        | (refine ⟨trivial, wide_room _, ?_⟩; gi_at_call 142; refine ih1.mono ?_; clear ih1; rintro e W2 (⟨rfl, q, hq, k0, k1, k2, k3, fn, tmps, assign, body, hy, hR⟩ | ⟨rfl, q, hq, hx1⟩)))
      · refine ⟨wide_room _, hR.mono ?_⟩
        clear hR
        rintro e W3 (⟨rfl, hJ3, hb3, k5, hr3⟩ | ⟨rfl, hx2⟩)
        · have ih2 := ihr (n - 1) pr _ _ hr3 (Nat.le_trans hB1 hb3.size) hJ3 (by
            have : q.length = (tl.ge f).length := by rw [← hq]; simp [vals]
            simp; omega)
          clear ihr
          gi_wp2_with (first
            | (refine ⟨trivial, wide_room _, ?_⟩; gi_at_call 142; refine ih2.mono ?_; clear ih2; rintro e W4 (⟨rfl, q4, hq4, hJ4, hb4⟩ | ⟨rfl, q4, hq4, hx4⟩)))
          · go_ret
            exact .inl ⟨rfl, q ++ sx :: q4, by simp only [vals, List.map_append, List.map_cons] at hq hq4 ⊢; rw [hq, hq4, hsx], by simpa [List.append_assoc] using hJ4, (hbW.trans hb3).trans hb4⟩
          · go_ret
            obtain ⟨r', hr'⟩ := hq4
            exact .inr ⟨rfl, q ++ sx :: q4, ⟨r', by simp only [vals, List.map_append, List.map_cons] at hq hr' ⊢; rw [hq, hsx, ← hr']; simp⟩, by simpa [List.append_assoc] using hx4⟩
        · gi_wp2_with fail
          refine ⟨trivial, ?_⟩
          gi_wp2_with fail
          go_ret
          exact .inr ⟨rfl, q ++ [sx], ⟨tr.ge f, by simp only [vals, List.map_append, List.map_cons, List.map_nil] at hq ⊢; rw [hq, hsx]; simp⟩, by simpa [List.append_assoc] using hx2⟩
      · refine ⟨fun _ h => (by cases h), ?_⟩
        gi_wp2_with fail
        refine ⟨trivial, ?_⟩
        gi_wp2_with fail
        go_ret
        exact .inr ⟨rfl, q, hq.trans (by simp), hx1⟩

set_option maxHeartbeats 1000000 in
theorem from_in (n : Nat) (p : Option Addr) (f : List UInt8) (w : World) :
    CallsIn Fence.wide n Tryz.prog 119 #[.pointer p, .string (str f)] w fun e w' => e = .returned (.func (.func 141) #[] #[.pointer (some ⟨w.heap.size, 0, none⟩), .pointer (some ⟨w.heap.size + 1, 0, none⟩)]) ∧ w' = (w.alloc (.cells #[.pointer p] 65)).alloc (.cells #[.string (str f)] 9) := by
  refine callsIn_of_wp Tryz.func119 rfl trivial ?_ rfl
  simp only [Tryz.ntmps119, List.size_toArray, List.length_cons, List.length_nil, Nat.reduceAdd, Nat.reduceSub, Array.replicate_succ, Array.replicate_zero, List.push_toArray, List.append_toArray, List.nil_append, List.cons_append]
  gi_wp2
  go_ret
  exact ⟨rfl, rfl⟩

set_option maxRecDepth 100000 in
set_option maxHeartbeats 4000000 in
theorem from1_in (l B n b1 b2 : Nat) (f : List UInt8) (hf : f.length ≤ 140737488355328) (p : Option Addr) (t : Tr) (J Jx : List SLf → World → Prop)
    (hJ : ∀ pre W W', J pre W → Kept [] W W' → J pre W')
    (hY : ∀ pre (x : SLf) W, J pre W → pre.length < (t.ge f).length → YieldAt Fence.wide (n - 1) Tryz.prog l #[lfV x.1] W fun e W' =>
      (e = .returned (.bool true) ∧ J (pre ++ [x]) W' ∧ Below B W W') ∨ (e = .returned (.bool false) ∧ Jx (pre ++ [x]) W'))
    (W : World) (hB : B ≤ W.heap.size) (h1 : W.cell? ⟨b1, 0, none⟩ = some (.pointer p)) (h2 : W.cell? ⟨b2, 0, none⟩ = some (.string (str f))) (hT : TAt B W p t) (h0 : J [] W) :
    CallsIn Fence.wide n Tryz.prog 141 #[.func (.yield l) #[] #[], .pointer (some ⟨b1, 0, none⟩), .pointer (some ⟨b2, 0, none⟩)] W fun e W' => (∃ v, e = .returned v) ∧
      ((∃ ys, vals ys = t.ge f ∧ J ys W') ∨ (∃ pre, vals pre <+: t.ge f ∧ Jx pre W')) := by
  have ct : ∀ W1, Kept [] W W1 → CallsIn Fence.wide (n - 1) Tryz.prog 66 #[.pointer p] W1 fun e w' => (∃ q, e = .returned (.pointer q) ∧ NAt B W1 q t) ∧ w' = W1 := fun W1 hk => callsIn_wide.2 (top_call B W1 p t (hT.kept hk))
  have cw : ∀ q W1, Kept [] W W1 → NAt B W1 q t → CallsIn Fence.wide (n - 1) Tryz.prog 142 #[.pointer q, .string (str f), .func (.yield l) #[] #[]] W1 fun e W' => ∃ bv, e = .returned (.bool bv) ∧ ((∃ ys, vals ys = t.ge f ∧ J ys W') ∨ (∃ pre, vals pre <+: t.ge f ∧ Jx pre W')) := fun q W1 hk hq =>
    (walk_in l B (t.ge f).length f hf J Jx hJ (fun m pre x W hj hl => yield_any m (hY pre x W hj hl)) t (n - 1) q [] W1 hq (Nat.le_trans hB hk.size) (hJ _ _ _ h0 hk) (by simp)).mono (by
      rintro e W' (⟨rfl, ys, h1, h2, _⟩ | ⟨rfl, ys, h1, h2⟩)
      · exact ⟨_, rfl, .inl ⟨ys, h1, by simpa using h2⟩⟩
      · exact ⟨_, rfl, .inr ⟨ys, h1, by simpa using h2⟩⟩)
  have hmx : Tryz.prog.follows .mixedOrders = true := by kernel_rfl
  clear hY hT h0
  refine callsIn_of_wp Tryz.func141 rfl trivial ?_ rfl
  simp only [Tryz.ntmps141, List.size_toArray, List.length_cons, List.length_nil, Nat.reduceAdd, Nat.reduceSub, Array.replicate_succ, Array.replicate_zero, List.push_toArray, List.append_toArray, List.nil_append, List.cons_append]
  gi_wp2_with fail
  gi_region_with_o (first
    | (refine ⟨trivial, wide_room _, ?_⟩; gi_at_call 66; refine (ct _ ?_).mono ?_; exact (Kept.refl _ _).drew; rintro e w' ⟨⟨q, rfl, hq⟩, rfl⟩)
    | (refine ⟨trivial, wide_room _, ?_⟩; gi_at_call 142; refine (cw q _ ?_ ?_).mono ?_; exact (Kept.refl _ _).drew; exact hq; rintro e W2 ⟨bv, rfl, hE⟩))
  all_goals gi_wp2_with fail
  all_goals go_end0
  all_goals exact ⟨⟨_, rfl⟩, hE⟩

theorem abides_kept {n : Nat} {J : List SLf → World → Prop} (h : AbidesFrom n J) : ∀ pre W W', J pre W → Kept [] W W' → J pre W' :=
  fun pre W W' hj hk => h pre W W' none hj hk.grow (fun r e => by cases e)

theorem from_stops (n B b1 b2 : Nat) (f : List UInt8) (hf : f.length ≤ 140737488355328) (p : Option Addr) (t : Tr) (w : World) (hB : B ≤ w.heap.size) (hb1 : b1 < w.heap.size) (hb2 : b2 < w.heap.size)
    (h1 : w.cell? ⟨b1, 0, none⟩ = some (.pointer p)) (h2 : w.cell? ⟨b2, 0, none⟩ = some (.string (str f))) (hT : TAt B w p t) :
    SeqStopsK Fence.wide n Tryz.prog 141 #[.pointer (some ⟨b1, 0, none⟩), .pointer (some ⟨b2, 0, none⟩)] (fun x : SLf => #[lfV x.1]) (Below B) (fun ys => vals ys = t.ge f) (fun pre => vals pre <+: t.ge f) (t.ge f).length w :=
  fun l J Jx W hW hA _ hY h0 => from1_in l B n b1 b2 f hf p t J Jx (abides_kept hA) hY W (Nat.le_trans hB hW.size) ((hW.cell (p := ⟨b1, 0, none⟩) hb1).trans h1) ((hW.cell (p := ⟨b2, 0, none⟩) hb2).trans h2) (hT.below (hW.mono hB)) h0

end Go.Proofs.YtfoghemiaidnhaaGreat
