/-
  Rows of trees, rows of rows of leaves; what turns is of another type.
-/
import Derived.Test.YtcaimaofbakjcaaTrRef3
import Derived.Test.YtcaimaofbakjcaaTrTold2
import Derived.Test.YtcaimaofbakjcaaTrAwake
import Derived.Deep.CutRange
import Derived.Deep.RegionLaw
import Derived.Deep.AppendLies
namespace Go.Proofs.Ytcaimaofbakjcaa
open Go.RowKit

theorem info_ptr : (Try.prog.info? 23).map (fun i => (i.zero, i.size, i.bytes)) = some (some (.pointer none), 1, 8) := by kernel_rfl
theorem info_row : (Try.prog.info? 29).map (fun i => (i.zero, i.size, i.bytes)) = some (some (.slice none 0 0), 1, 24) := by kernel_rfl

/-- The row is the pointers P, in a block that is new since B. -/
def OwnP (B : Nat) (w : World) (v : Value) (P : List (Option Addr)) : Prop := w.ownsRow B 23 1 v P.length (P.map Value.pointer)

def slV (s : Option Addr × Nat × Nat) : Value := .slice s.1 s.2.1 s.2.2

/-- The row is the slices V, in a block that is new since B. -/
def OwnW (B : Nat) (w : World) (v : Value) (V : List (Option Addr × Nat × Nat)) : Prop := w.ownsRow B 29 1 v V.length (V.map slV)

/-- Only blocks of one element type turn. -/
structure Turn (e : TypeId) (w w' : World) : Prop where
  size : w.heap.size ≤ w'.heap.size
  same : ∀ {k : Nat} {cur : Array Value} {t : TypeId} {mk : Nat × Nat}, w.heap[k]? = some (.cells cur t mk) → t ≠ e → w'.heap[k]? = some (.cells cur t mk)

theorem Turn.trans {e : TypeId} {a b c : World} (h : Turn e a b) (k : Turn e b c) : Turn e a c :=
  ⟨Nat.le_trans h.size k.size, fun hc hne => k.same (h.same hc hne) hne⟩

theorem turn_row {B e size n : Nat} {w w' : World} {v : Value} {xs : List Value} (h : w.ownsRow B e size v n xs) (hg : w.grownBy w' v.ownBlock) : Turn e w w' := by
  refine ⟨hg.size, fun {k cur t mk} hk hne => (hg.block k (lt_of_at hk) (fun he => ?_)).trans hk⟩
  rcases h.2 with ⟨hv, _⟩ | ⟨g, cap, cur', hv, _, hh, _⟩
  · rw [hv] at he; simp [Value.ownBlock] at he
  · rw [hv] at he
    simp [Value.ownBlock] at he
    subst he
    rw [hk] at hh
    cases hh
    exact hne rfl

theorem turn_kept {e : TypeId} {w w' : World} (h : Kept [] w w') : Turn e w w' := ⟨h.size, fun hk _ => h.at hk (by simp)⟩

theorem Turn.nat {e : TypeId} {w w' : World} (h : Turn e w w') (hne : 64 ≠ e) {B : Nat} : ∀ {p : Option Addr} {t : Tr}, NAt B w p t → NAt B w' p t
  | _, .nil, ht => ht
  | _, .node _ _ _, ⟨b, pl, pr, hp, hb, h0, h1, hl, hr⟩ => ⟨b, pl, pr, hp, hb, h.same h0 hne, h1, Turn.nat h hne hl, Turn.nat h hne hr⟩

theorem Turn.tree {e : TypeId} {w w' : World} (h : Turn e w w') (h1 : 64 ≠ e) (h2 : 50 ≠ e) {B : Nat} {p : Option Addr} {t : Tr} (ht : TAt B w p t) : TAt w'.heap.size w' p t := by
  rcases ht with ht | ⟨b, q, e1, e2, e3, e4⟩
  · exact .inl ht
  · exact TAt.full (B := B) (.inr ⟨b, q, e1, e2, h.same e3 h2, h.nat h1 e4⟩)

theorem Turn.row {e : TypeId} {w w' : World} (h : Turn e w w') {B t size n : Nat} {v : Value} {xs : List Value} (hr : w.ownsRow B t size v n xs) (hne : t ≠ e) : w'.ownsRow B t size v n xs := by
  obtain ⟨h1, h2⟩ := hr
  refine ⟨h1, ?_⟩
  rcases h2 with h2 | ⟨g, cap, cur, hv, hg, hh, r⟩
  · exact .inl h2
  · exact .inr ⟨g, cap, cur, hv, hg, h.same hh hne, r⟩

/-- A row of one cell an element, as a slice. -/
theorem row_at {B e n : Nat} {w : World} {v : Value} {xs : List Value} (h : w.ownsRow B e 1 v n xs) (hn : 0 < n) : ∃ g c, v = .slice (some ⟨g, 0, none⟩) n c ∧ n ≤ c ∧ c ≤ maxLen ∧ ∀ i, i < n → w.cell? ⟨g, i, none⟩ = xs[i]? := by
  have h' := h
  obtain ⟨h1, h2⟩ := h
  rcases h2 with ⟨_, h0⟩ | ⟨g, cap, cur, hv, hg, hh, h3, h4, h5, h6⟩
  · omega
  · refine ⟨g, cap, hv, h3, h4, fun i hi => ?_⟩
    rw [hv] at h'
    exact World.ownsRow.cellAt h' i (by omega)

/-- append of one row to a row of rows. -/
theorem wp_appW {w : World} {ops : Array Oper} {rest : List Oper} {o : Oper} {a : Act} {Q : Exit → Act → World → Prop} (hgd : o.guard = none) (s x : Operand)
    (hop : o.op = .call { callee := .builtin .append, args := #[s, x], argTypes := #[43, 43] })
    (B : Nat) (v : Value) (V : List (Option Addr × Nat × Nat)) (hs : a.eval s = v) (hO : OwnW B w v V) (g : Nat) (y : Option Addr × Nat × Nat) (hx : a.eval x = .slice (some ⟨g, 0, none⟩) 1 1) (hc : w.cell? ⟨g, 0, none⟩ = some (slV y))
    (hlen : V.length ≤ 1000000000) (hB : B ≤ w.heap.size)
    (h : ∀ v' w', OwnW B w' v' (V ++ [y]) → w.grownBy w' v.ownBlock → wpList Try.prog ops Q rest (a.put o.dst v') w') : wpList Try.prog ops Q (o :: rest) a w := by
  obtain ⟨i0, hi, hz0, hz1, hz2⟩ := info_parts info_row
  refine wpList_append_own w hgd s x 43 hop B 29 i0 (.slice none 0 0) 1 24 Try.underlying43 hi hz0 hz1 hz2 rfl (by decide) v V.length (V.map slV) hs hO ⟨g, 0, none⟩ 1 1 [slV y] hx rfl ?_ ?_ (by unfold maxLen; omega) (by omega) hB ?_
  · intro j u hj
    match j, hj with
    | 0, hj => simp at hj; subst hj; simpa [Addr.add] using hc
  · intro u hu; simp at hu; subst hu; rfl
  · intro v' w' h1 h2 _
    refine h v' w' ?_ h2
    unfold OwnW
    rw [List.length_append, List.map_append]
    exact h1

/-- append of one tree to a row of trees, as a step of a region that draws its order. -/
theorem step_appP {w : World} {ops : Array Oper} {o : Oper} {a : Act} {K : Act → World → Prop} {Q : Exit → Act → World → Prop} {E : Prop} (hgd : o.guard = none) (s x : Operand)
    (hop : o.op = .call { callee := .builtin .append, args := #[s, x], argTypes := #[42, 42] })
    (B : Nat) (v : Value) (P : List (Option Addr)) (hs : a.eval s = v) (hO : OwnP B w v P) (g : Nat) (p : Option Addr) (hx : a.eval x = .slice (some ⟨g, 0, none⟩) 1 1) (hc : w.cell? ⟨g, 0, none⟩ = some (.pointer p))
    (hlen : P.length ≤ 1000000000) (hB : B ≤ w.heap.size)
    (h : ∀ v' w', OwnP B w' v' (P ++ [p]) → w.grownBy w' v.ownBlock → K (a.put o.dst v') w') :
    if Region.wanted o (yielded ops a.tmps) = true then Oper.wp Try.prog o a w K Q else E := by
  obtain ⟨i0, hi, hz0, hz1, hz2⟩ := info_parts info_ptr
  refine step_append_lies w hgd s x 42 hop B 23 i0 (.pointer none) 1 8 Try.underlying42 hi hz0 hz1 hz2 rfl (by decide) v P.length (P.map Value.pointer) hs hO ⟨g, 0, none⟩ 1 1 [.pointer p] hx rfl ?_ ?_ (by decide) (by unfold maxLen; omega) (by omega) hB _ rfl ?_
  · intro j u hj
    match j, hj with
    | 0, hj => simp at hj; subst hj; simpa [Addr.add] using hc
  · intro u hu; simp at hu; subst hu; rfl
  · intro g' cap w' h1 h2 _ _
    refine h _ w' ?_ h2
    unfold OwnP
    rw [List.length_append, List.map_append]
    exact h1

/-- The tree behind so many puts. -/
def tk (L : List Lf) : Nat → Tr
  | 0 => .nil
  | k + 1 => if h : k < L.length then (tk L k).put L[k] else tk L k

theorem tk_succ {L : List Lf} {k : Nat} (h : k < L.length) : tk L (k + 1) = (tk L k).put L[k] := by simp only [tk]; rw [dif_pos h]

theorem tk_good (L : List Lf) (k : Nat) : Good (tk L k) := by
  induction k with
  | zero => exact good_nil
  | succ k ih => simp only [tk]; split; exact ih.put _; exact ih

theorem tk_size (L : List Lf) (k : Nat) : (tk L k).size ≤ k := by
  induction k with
  | zero => exact Nat.le_refl _
  | succ k ih =>
    simp only [tk]
    split
    · rename_i h; have := (put_size L[k] (tk L k)).2; omega
    · omega

end Go.Proofs.Ytcaimaofbakjcaa
