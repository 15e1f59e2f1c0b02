/-
  Rows of texts that are owned: one more at the end.
-/
import Derived.Test.YtdmlcgmajpjmdaaPaWith
import Derived.Laws.AppendOwn
import Derived.OwnWalk
import Derived.WalkSmall
namespace Go.Proofs.Ytdmlcgmajpjmdaa
open Go.RowKit

theorem info_str : (Try.prog.info? 9).map (fun i => (i.zero, i.size, i.bytes)) = some (some (.string ⟨#[]⟩), 1, 16) := by kernel_rfl

/-- The row is the texts l, in a block that is new since B. -/
def OwnS (B : Nat) (w : World) (v : Value) (l : List (List UInt8)) : Prop := w.ownsRow B 9 1 v l.length (l.map fun x => .string (str x))

theorem OwnS.nil (B : Nat) (w : World) : OwnS B w (.slice none 0 0) [] := World.ownsRow_nil w B 9 1

/-- append of one text. -/
theorem wp_push {w : World} {ops : Array Oper} {rest : List Oper} {o : Oper} {a : Act} {Q : Exit → Act → World → Prop} (hgd : o.guard = none) (s x : Operand)
    (hop : o.op = .call { callee := .builtin .append, args := #[s, x], argTypes := #[46, 46] })
    (B : Nat) (v : Value) (l : List (List UInt8)) (hs : a.eval s = v) (hO : OwnS B w v l) (g : Nat) (y : List UInt8) (hx : a.eval x = .slice (some ⟨g, 0, none⟩) 1 1) (hc : w.cell? ⟨g, 0, none⟩ = some (.string (str y)))
    (hlen : l.length ≤ 1000000000000) (hB : B ≤ w.heap.size)
    (h : ∀ v' w', OwnS B w' v' (l ++ [y]) → w.grownBy w' v.ownBlock → wpList Try.prog ops Q rest (a.put o.dst v') w') : wpList Try.prog ops Q (o :: rest) a w := by
  obtain ⟨i0, hi, hz0, hz1, hz2⟩ := info_parts info_str
  refine wpList_append_own w hgd s x 46 hop B 9 i0 (.string ⟨#[]⟩) 1 16 Try.underlying46 hi hz0 hz1 hz2 rfl (by decide) v l.length (l.map fun x => .string (str x)) hs hO ⟨g, 0, none⟩ 1 1 [.string (str y)] hx rfl ?_ ?_ (by unfold maxLen; omega) (by omega) hB ?_
  · intro j u hj
    match j, hj with
    | 0, hj => simp at hj; subst hj; simpa [Addr.add] using hc
  · intro u hu; simp at hu; subst hu; rfl
  · intro v' w' h1 h2 _
    refine h v' w' ?_ h2
    unfold OwnS
    rw [List.length_append, List.map_append]
    exact h1

theorem OwnS.kept {S : List Nat} {B : Nat} {w w' : World} {v : Value} {l : List (List UInt8)} (h : OwnS B w v l) (k : Kept S w w') (hS : ∀ i ∈ S, i < B ∨ w.heap.size ≤ i) : OwnS B w' v l := by
  refine k.ownsRow h ?_
  intro b hb hm
  have := World.ownsRow.lt h b hb
  rcases hS b hm with h1 | h1 <;> omega

/-- What is owned, as a slice. -/
theorem OwnS.slice {B : Nat} {w : World} {v : Value} {l : List (List UInt8)} (h : OwnS B w v l) :
    ∃ ao c, v = .slice ao l.length c ∧ l.length ≤ c ∧ (∀ (j : Nat) x, l[j]? = some x → ∃ g, ao = some ⟨g, 0, none⟩ ∧ w.cell? ⟨g, j, none⟩ = some (.string (str x))) := by
  have h' := h
  obtain ⟨h1, h2⟩ := h
  rcases h2 with ⟨hv, hn⟩ | ⟨g, cap, cur, hv, hg, hh, h3, h4, h5, h6⟩
  · refine ⟨none, 0, by rw [hv, hn], by omega, fun j x hx => ?_⟩
    have : l = [] := by simpa using hn
    subst this; cases hx
  · refine ⟨some ⟨g, 0, none⟩, cap, hv, h3, fun j x hx => ⟨g, rfl, ?_⟩⟩
    have hj : j < l.length := by
      by_cases e : j < l.length
      · exact e
      · rw [List.getElem?_eq_none (by omega)] at hx; cases hx
    unfold OwnS at h'
    rw [hv] at h'
    rw [World.ownsRow.cellAt h' j (by omega), List.getElem?_map, hx]; rfl

theorem grown_kept {B : Nat} {a w w' : World} {v : Value} {l : List (List UInt8)} (h : Kept [] a w) (hO : OwnS B w v l) (hB : a.heap.size ≤ B) (hg : w.grownBy w' v.ownBlock) : Kept [] a w' :=
  h.grown hg fun k hk => .inr (Nat.le_trans hB (World.ownsRow.lt hO k hk).1)

end Go.Proofs.Ytdmlcgmajpjmdaa
