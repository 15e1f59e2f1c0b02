/-
  append of changes; slices.Clone.
-/
import Derived.Test.YtajkmhepedlmmaaChMem
import Derived.Laws.AppendOwn
import Derived.OwnWalk
import Derived.WalkSmall
namespace Go.Proofs.Ytajkmhepedlmmaa
open Go.RowKit

theorem info_change : (Try.prog.info? 89).map (fun i => (i.zero, i.size, i.bytes)) = some (some (.agg #[.string ⟨#[]⟩, .bool false, .int .u64 0]), 3, 32) := by kernel_rfl

theorem one_cellsC (L : List Ch) : ∀ u ∈ L.flatMap chC, u.oneCell' = true := by
  intro u hu
  simp only [List.mem_flatMap, chC] at hu
  obtain ⟨x, _, hx⟩ := hu
  simp at hx
  rcases hx with rfl | rfl | rfl <;> rfl

theorem adr_addC (b o i : Nat) : (⟨b, o, none⟩ : Addr).add i = ⟨b, o + i, none⟩ := by
  by_cases h : i = 0 <;> simp [Addr.add, h]

theorem cells_runC {w : World} {b o : Nat} {L : List Ch} (h : ∀ i (hi : i < L.length), ChAt w b (o + i * 3) L[i]) : ∀ (j : Nat) (u : Value), (L.flatMap chC)[j]? = some u → w.cell? ⟨b, o + j, none⟩ = some u := by
  intro j u hj
  have hlt : j < (L.flatMap chC).length := by
    by_cases hl : j < (L.flatMap chC).length
    · exact hl
    · rw [List.getElem?_eq_none (by omega)] at hj; cases hj
  rw [chC_length] at hlt
  have hi : j / 3 < L.length := by omega
  have e := chC_get L (j / 3) hi (j % 3) (by omega)
  have e2 : j / 3 * 3 + j % 3 = j := by omega
  rw [e2, hj] at e
  obtain ⟨c0, c1, c2⟩ := h (j / 3) hi
  have h3 : j % 3 = 0 ∨ j % 3 = 1 ∨ j % 3 = 2 := by omega
  generalize j / 3 = q at *
  rcases h3 with h3 | h3 | h3 <;> rw [h3] at e e2 <;> simp [chC] at e <;> subst e <;> subst e2
  · exact c0
  · rw [← Nat.add_assoc]; exact c1
  · rw [← Nat.add_assoc]; exact c2

theorem SlC.runs {w : World} {b o n c : Nat} {L : List Ch} (h : SlC w (Option.some ⟨b, o, none⟩) n c L) : ∀ (j : Nat) (u : Value), (L.flatMap chC)[j]? = Option.some u → w.cell? ((⟨b, o, none⟩ : Addr).add j) = Option.some u := by
  intro j u hj
  rw [adr_addC]
  refine cells_runC (fun i hi => ?_) j u hj
  obtain ⟨b', o', e, h1⟩ := h.2.2.2 i hi
  cases e
  exact h1

/-- append of changes to a row that is owned. -/
theorem wp_appC {w : World} {ops : Array Oper} {rest : List Oper} {o : Oper} {a : Act} {Q : Exit → Act → World → Prop} (hgd : o.guard = none) (s x : Operand)
    (hop : o.op = .call { callee := .builtin .append, args := #[s, x], argTypes := #[63, 63] })
    (B : Nat) (v : Value) (M : List Ch) (hs : a.eval s = v) (hO : OwnC B w v M) (ad : Addr) (m c : Nat) (N : List Ch) (hx : a.eval x = .slice (some ad) m c) (hm : m = N.length) (hc : ∀ (j : Nat) (u : Value), (N.flatMap chC)[j]? = some u → w.cell? (ad.add j) = some u)
    (hlen : M.length + N.length ≤ 4398046511104) (hB : B ≤ w.heap.size)
    (h : ∀ v' w', OwnC B w' v' (M ++ N) → w.grownBy w' v.ownBlock → wpList Try.prog ops Q rest (a.put o.dst v') w') : wpList Try.prog ops Q (o :: rest) a w := by
  subst hm
  obtain ⟨i0, hi, hz0, hz1, hz2⟩ := info_parts info_change
  refine wpList_append_own w hgd s x 63 hop B 89 i0 (.agg #[.string ⟨#[]⟩, .bool false, .int .u64 0]) 3 32 Try.underlying63 hi hz0 hz1 hz2 rfl (by decide) v M.length (M.flatMap chC) hs hO ad N.length c (N.flatMap chC) hx (chC_length N) hc (one_cellsC N) (by unfold maxLen; omega) (by omega) hB ?_
  intro v' w' h1 h2 _
  refine h v' w' ?_ h2
  unfold OwnC
  rw [List.length_append, List.flatMap_append]
  exact h1

theorem grown_keptC {B : Nat} {a w w' : World} {v : Value} {L : List Ch} (h : Kept [] a w) (hO : OwnC B w v L) (hB : a.heap.size ≤ B) (hg : w.grownBy w' v.ownBlock) : Kept [] a w' :=
  h.grown hg fun k hk => .inr (Nat.le_trans hB (World.ownsRow.lt hO k hk).1)

theorem OwnC.nil (B : Nat) (w : World) : OwnC B w (.slice none 0 0) [] := World.ownsRow_nil w B 89 3

theorem own_voidC (w : World) (B : Nat) (hB : B ≤ w.heap.size) : OwnC B (w.alloc (.cells #[] 89)) (.slice (some ⟨w.heap.size, 0, none⟩) 0 0) [] :=
  ⟨rfl, .inr ⟨w.heap.size, 0, #[], rfl, hB, heap_alloc_new w _, Nat.le_refl _, Nat.zero_le _, rfl, rfl⟩⟩

theorem OwnC.kept {B : Nat} {a w : World} {v : Value} {L : List Ch} (h : OwnC B a v L) (k : Kept [] a w) : OwnC B w v L := k.ownsRow h (by simp)

theorem SlC.runs' {w : World} {ad : Addr} {n c : Nat} {L : List Ch} (h : SlC w (Option.some ad) n c L) : ∀ (j : Nat) (u : Value), (L.flatMap chC)[j]? = Option.some u → w.cell? (ad.add j) = Option.some u := by
  cases L with
  | nil => intro j u hj; simp at hj
  | cons x L =>
    obtain ⟨b, o, e, _⟩ := h.2.2.2 0 (by simp)
    cases e
    exact h.runs

theorem SlC.drop {w : World} {b o n c : Nat} {L : List Ch} (h : SlC w (Option.some ⟨b, o, none⟩) n c L) {k : Nat} (hk : k ≤ n) : SlC w (Option.some ⟨b, o + k * 3, none⟩) (n - k) (c - k) (L.drop k) := by
  refine ⟨by rw [List.length_drop, h.1], by have := h.2.1; omega, by have := h.2.2.1; omega, fun i hi => ⟨b, o + k * 3, rfl, ?_⟩⟩
  rw [List.length_drop] at hi
  obtain ⟨b', o', e, h1⟩ := h.2.2.2 (k + i) (by omega)
  cases e
  rw [List.getElem_drop]
  have e : o + k * 3 + i * 3 = o + (k + i) * 3 := by omega
  rw [e]
  exact h1

theorem OwnC.mono {B C : Nat} {w : World} {v : Value} {L : List Ch} (h : OwnC C w v L) (hB : B ≤ C) : OwnC B w v L := by
  obtain ⟨h1, h2⟩ := h
  refine ⟨h1, ?_⟩
  rcases h2 with h2 | ⟨g, cap, cur, hv, hg, r⟩
  · exact .inl h2
  · exact .inr ⟨g, cap, cur, hv, Nat.le_trans hB hg, r⟩

theorem OwnC.slice {B : Nat} {w : World} {ao : Option Addr} {n c : Nat} {L : List Ch} (h : OwnC B w (.slice ao n c) L) : SlC w ao n c L := by
  obtain ⟨ao', c', e, hS⟩ := h.sl
  cases e
  exact hS

theorem cell_inC {w : World} {b k : Nat} {vs : Array Value} {t : TypeId} {v : Value} (h : w.heap[b]? = some (.cells vs t (0, 0))) (hv : vs[k]? = some v) : w.cell? ⟨b, k, none⟩ = some v := by
  simp [World.cell?, h, hv]

theorem SlC.lit (w : World) (L : List Ch) {n : Nat} (hn : n = L.length) (hm : n ≤ maxLen) {vs : Array Value} (hv : vs = (L.flatMap chC).toArray) : SlC (w.alloc (.cells vs 89)) (Option.some ⟨w.heap.size, 0, none⟩) n n L := by
  subst hn
  subst hv
  have h := heap_alloc_new w (.cells (L.flatMap chC).toArray 89)
  refine ⟨rfl, Nat.le_refl _, hm, fun i hi => ⟨w.heap.size, 0, rfl, ?_⟩⟩
  have e : ∀ j, j < 3 → (L.flatMap chC).toArray[i * 3 + j]? = (chC L[i])[j]? := fun j hj => by
    rw [List.getElem?_toArray]; exact chC_get L i hi j hj
  rw [Nat.zero_add]
  exact ⟨cell_inC h (e 0 (by omega)), cell_inC h (e 1 (by omega)), cell_inC h (e 2 (by omega))⟩

theorem drewN_kept (w : World) (n : Nat) : Kept [] w (w.drewN n) := ⟨rfl, rfl, rfl, Nat.le_refl _, fun _ _ _ => rfl⟩

end Go.Proofs.Ytajkmhepedlmmaa
