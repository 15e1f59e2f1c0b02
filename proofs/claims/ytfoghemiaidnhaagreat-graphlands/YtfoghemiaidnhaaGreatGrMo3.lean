/-
  The document's own graph: Land.
-/
import Derived.Test.YtfoghemiaidnhaaGreatGrMo2
import Derived.Test.YtfoghemiaidnhaaGreatChRefC
import Derived.Test.YtfoghemiaidnhaaGreatChRefS
import Derived.Test.YtfoghemiaidnhaaGreatM6
import Derived.Test.YtfoghemiaidnhaaGreatGrRead
import Derived.Deep.CutRange
import Derived.Deep.AppendLies
namespace Go.Proofs.YtfoghemiaidnhaaGreat
open Go.RowKit

/-- What is behind a landing. -/
def MLand (w : World) (b : Nat) (S : List Nat) (G : Gr) (w' : World) : Prop := ∃ S', MAt w' b S' G ∧ Kept S w w' ∧ ∀ k ∈ S', k ∈ S ∨ w.heap.size ≤ k

theorem mland_end {w w2 w3 : World} {b : Nat} {v vL vR : Value} {K : List (Com × Value)} {G : Gr} {vs : Array Value} (h : MA w2 b v vL vR K G) (hnl : G.ls = [] → vL = .slice none 0 0) {S : List Nat} (hS : ∀ k ∈ S, k < w.heap.size) (hv : ∀ k ∈ ownM b v, k ∈ S ∨ w.heap.size < k)
    (hB : w2.heap[w.heap.size]? = some (.cells vs 28 (0, 0))) (hK2 : Kept S w w2) (hK3 : Kept [w.heap.size] w2 w3) : MLand w b S G w3 := by
  have hT : Typed w2 [w.heap.size] [28] := fun k hk cur t' mk hh => by
    simp at hk; subst hk; rw [hB] at hh; cases hh; simp
  refine ⟨ownM b v, ⟨v, vL, vR, K, h.keep hK3 (fun i hi hm => ?_) hT (by decide) (by decide) (by decide), hnl, rfl⟩, hK2.trans hK3 (by simp), fun k hk => ?_⟩
  · simp at hm; subst hm
    rcases hv _ hi with h1 | h1
    · have := hS _ h1; omega
    · omega
  · rcases hv k hk with h1 | h1
    · exact .inl h1
    · exact .inr (by omega)

theorem leaf_box0 {w w1 : World} {v0 v1 v2 v3 : Value} {t : TypeId} (h : Kept [] (w.alloc (.cells #[v0, v1, v2, v3] t)).drew w1) :
    w1.cell? ⟨w.heap.size, 0, none⟩ = some v0 ∧ w1.cell? ⟨w.heap.size, 1, none⟩ = some v1 ∧ w1.cell? ⟨w.heap.size, 2, none⟩ = some v2 ∧ w1.cell? ⟨w.heap.size, 3, none⟩ = some v3 ∧
    w1.frozen? ⟨w.heap.size, 0, none⟩ = false ∧ w1.frozen? ⟨w.heap.size, 1, none⟩ = false ∧ w1.frozen? ⟨w.heap.size, 2, none⟩ = false ∧ w1.frozen? ⟨w.heap.size, 3, none⟩ = false ∧ Hid (w1.heap[w.heap.size]? = some (.cells #[v0, v1, v2, v3] t (0, 0))) := by
  have h2 : w1.heap[w.heap.size]? = some (.cells #[v0, v1, v2, v3] t (0, 0)) := h.at (heap_alloc_new w _) (by simp)
  obtain ⟨m0, m1, m2, m3⟩ := cells4 h2
  exact ⟨m0, m1, m2, m3, frozen_in h2 0, frozen_in h2 1, frozen_in h2 2, frozen_in h2 3, h2⟩

theorem lt_of_heap {w : World} {k : Nat} {o : Obj} (h : w.heap[k]? = some o) : k < w.heap.size := by
  by_cases hl : k < w.heap.size
  · exact hl
  · rw [Array.getElem?_eq_none (by omega)] at h; cases h

/-- append of one commit. -/
theorem wp_appK1 {w : World} {ops : Array Oper} {rest : List Oper} {o : Oper} {a : Act} {Q : Exit → Act → World → Prop} (hgd : o.guard = none) (s x : Operand)
    (hop : o.op = .call { callee := .builtin .append, args := #[s, x], argTypes := #[26, 26] })
    (v : Value) (K : List (Com × Value)) (hs : a.eval s = v) (hO : RowK 0 w v K) (g : Nat) (y : Com × Value) (hx : a.eval x = .slice (some ⟨g, 0, none⟩) 1 1) (hc : w.heap[g]? = some (.cells #[.int .i64 y.1.r, .int .i64 y.1.b, .string (str y.1.n), y.2] 54 (0, 0)))
    (h1 : y.2.oneCell' = true) (hlen : K.length ≤ 1000000000)
    (h : ∀ g cap w', RowK 0 w' (.slice (some ⟨g, 0, none⟩) (K.length + 1) cap) (K ++ [y]) → w.grownBy w' v.ownBlock → (v.ownBlock = some g ∨ g = w.heap.size) → g < w'.heap.size → wpList Tryz.prog ops Q rest (a.put o.dst (.slice (some ⟨g, 0, none⟩) (K.length + 1) cap)) w') : wpList Tryz.prog ops Q (o :: rest) a w := by
  obtain ⟨i0, hi, hz0, hz1, hz2⟩ := info_parts info_commit
  refine wpList_append_lies w hgd s x 26 hop 0 54 i0 (.agg #[.int .i64 0, .int .i64 0, .string ⟨#[]⟩, .slice none 0 0]) 4 56 Tryz.underlying26 hi hz0 hz1 hz2 rfl (by decide) v K.length (K.flatMap coC) hs hO ⟨g, 0, none⟩ 1 1 (coC y) hx rfl (World.news_of_block hc) ?_ (by decide) (by unfold maxLen; omega) (by omega) (Nat.zero_le _) _ rfl ?_
  · intro u hu; simp [coC] at hu; rcases hu with rfl | rfl | rfl | rfl <;> first | rfl | exact h1
  · intro g' cap w' h2 h3 h4 h5
    refine h g' cap w' ?_ h3 h4 h5
    unfold RowK
    rw [List.length_append, List.flatMap_append]
    simpa using h2

theorem mset_off {w : World} {b g o : Nat} {v u0 u1 u2 u3 u4 u5 u6 : Value} (hne : g ≠ b) (h : w.cell? ⟨g, o, none⟩ = some v) : (set7w w b u0 u1 u2 u3 u4 u5 u6).drew.cell? ⟨g, o, none⟩ = some v :=
  (set7_kept (Kept.refl [b] w) (.inl (by simp)) u0 u1 u2 u3 u4 u5 u6).drew.cell h (by simpa using hne)

theorem drewM_at {w : World} {k : Nat} {o : Option Obj} (h : w.heap[k]? = o) : w.drew.heap[k]? = o := h

theorem mset_at {w : World} {b : Nat} {v0 v1 v2 v3 v4 v5 v6 : Value} {t : TypeId} (h : w.heap[b]? = some (.cells #[v0, v1, v2, v3, v4, v5, v6] t (0, 0))) (u0 u1 u2 u3 u4 u5 u6 : Value) :
    Hid ((set7w w b u0 u1 u2 u3 u4 u5 u6).drew.heap[b]? = some (.cells #[u0, u1, u2, u3, u4, u5, u6] t (0, 0))) := drewM_at (set7 h u0 u1 u2 u3 u4 u5 u6)

theorem MA.grown {w : World} {b : Nat} {v vL vR : Value} {K : List (Com × Value)} {G : Gr} (h : MA w b v vL vR K G) {w' : World} (hg : w.grownBy w' v.ownBlock) : w'.heap[b]? = some (.cells #[v, vL, vR] 46 (0, 0)) := by
  refine ((Kept.refl v.ownBlock.toList w).grown hg fun k hk => .inl (mem_own.2 hk)).at h.at_ fun hm => ?_
  obtain ⟨c2, h2⟩ := row_block h.row (mem_own.1 hm)
  rw [h.at_] at h2; cases h2

theorem madd_first {w wr w2 : World} {b : Nat} {v : Value} {o ob : Obj} {g n cap : Nat} (hS : ∀ k ∈ ownM b v, k < w.heap.size) (hK : Kept [] w wr) (hB : wr.heap[w.heap.size]? = some o) (hg : (wr.alloc ob).grownBy w2 v.ownBlock) (hat : v.ownBlock = some g ∨ g = (wr.alloc ob).heap.size) :
    Kept (ownM b v) w (w2.setCell ⟨b, 0, none⟩ (.slice (some ⟨g, 0, none⟩) n cap)) ∧ (∀ k ∈ ownM b (.slice (some ⟨g, 0, none⟩) n cap), k ∈ ownM b v ∨ w.heap.size < k) ∧
      (w2.setCell ⟨b, 0, none⟩ (.slice (some ⟨g, 0, none⟩) n cap)).heap[w.heap.size]? = some o := by
  have hlt := lt_of_heap hB
  refine ⟨(((hK.mono (by simp)).alloc _).grown hg (fun k hk => .inl (by simp [ownM, hk]))).setCell (.inl (by simp [ownM])) _, fun k hk => ?_, ?_⟩
  · rcases List.mem_cons.1 hk with rfl | hk
    · exact .inl (by simp [ownM])
    · simp [Value.ownBlock] at hk
      subst hk
      rcases hat with h | h
      · exact .inl (by simp [ownM, h])
      · refine .inr ?_
        rw [h, World.size_alloc]; omega
  · have hb := hS b (by simp [ownM])
    have h1 : (wr.alloc ob).heap[w.heap.size]? = some o := (Below.heap_alloc _ _ _ hlt).trans hB
    have h2 : w2.heap[w.heap.size]? = some o := ((Kept.refl v.ownBlock.toList _).grown hg fun k hk => .inl (mem_own.2 hk)).at h1 fun hm => by
      have := hS w.heap.size (by simp [ownM, mem_own.1 hm])
      omega
    exact (show Kept [b] w2 _ from (Kept.refl _ _).setCell (by simp) _).at h2 (by simp; omega)

/-- The walk's second half: the leaves, one behind the other. -/
def MLI (w : World) (b : Nat) (S : List Nat) (v vR : Value) (K : List (Com × Value)) (cs : List Com) (ls : List Lf) (rs : List (List UInt8 × Int)) (r : Int) (L : List Ch) (vs : Array Value) (iv : Value) (wr : World) : Prop :=
  ∃ (i : Nat) (vL : Value), iv = .int .i64 (i : Int) ∧ i ≤ L.length ∧ Hid (MA wr b v vL vR K ⟨cs, putC r ls (L.take i), rs⟩) ∧ Hid (putC r ls (L.take i) = [] → vL = .slice none 0 0) ∧ Hid (Kept S w wr) ∧ Hid (wr.heap[w.heap.size]? = some (.cells vs 28 (0, 0)))

end Go.Proofs.YtfoghemiaidnhaaGreat
