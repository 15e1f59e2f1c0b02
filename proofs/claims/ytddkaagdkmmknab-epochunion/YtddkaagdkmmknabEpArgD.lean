/-
  Deeds that came in.
-/
import Derived.Test.YtddkaagdkmmknabRowsG
import Derived.Test.YtddkaagdkmmknabInts
namespace Go.Proofs.Ytddkaagdkmmknab
open Go.ChangeShapes Go.WideShapes Go.ChangeAt Go.RowKit Go.Deep

/-- A deed. -/
structure Dd where
  k : Int
  z : Int
  q : Int
  a : Bool

def ddC (d : Dd) : List Value := [.int .i64 d.k, .int .i64 d.z, .int .i64 d.q, .bool d.a]

/-- Slots and members that an int can be. -/
def okD (d : Dd) : Prop := (Lit.int .i64 d.z).wf = true ∧ (Lit.int .i64 d.q).wf = true

theorem cellsOf_Deed : Try.prog.cellsOf 30 = 4 := by kernel_rfl

set_option maxRecDepth 100000 in
theorem open_deed7 {H : Type} {enc : TypeId × Value → H} {W : World} {base : Nat} {sp : Nat → Bool} {held : Bool} {fuel : Nat} {cs : List Value} {x : DataW H × List MemPlace}
    (h : DataW.trod enc Try.prog W base sp held fuel 30 cs = some x) : ∃ d : Dd, cs = ddC d ∧ okD d := by
  obtain ⟨xs, n, rfl, rfl, hlen, hxs, hf⟩ := DataW.trod_struct Try.underlying30 h
  rw [cellsOf_Deed] at hlen
  match cs, hlen with
  | [v0, v1, v2, v3], _ =>
    match xs, hxs with
    | [y0, y1, y2, y3], _ =>
      have f0 : DataW.trod enc Try.prog W base sp held n 3 [v0] = some y0 := by
        have h : DataW.trod enc Try.prog W base sp held n 3 (([v0, v1, v2, v3].drop 0).take (Try.prog.cellsOf 3)) = some y0 := hf 0 _ rfl
        rw [cellsI] at h
        exact h
      have f1 : DataW.trod enc Try.prog W base sp held n 3 [v1] = some y1 := by
        have h : DataW.trod enc Try.prog W base sp held n 3 (([v0, v1, v2, v3].drop 1).take (Try.prog.cellsOf 3)) = some y1 := hf 1 _ rfl
        rw [cellsI] at h
        exact h
      have f2 : DataW.trod enc Try.prog W base sp held n 3 [v2] = some y2 := by
        have h : DataW.trod enc Try.prog W base sp held n 3 (([v0, v1, v2, v3].drop 2).take (Try.prog.cellsOf 3)) = some y2 := hf 2 _ rfl
        rw [cellsI] at h
        exact h
      have f3 : DataW.trod enc Try.prog W base sp held n 4 [v3] = some y3 := by
        have h : DataW.trod enc Try.prog W base sp held n 4 (([v0, v1, v2, v3].drop 3).take (Try.prog.cellsOf 4)) = some y3 := hf 3 _ rfl
        rw [cellsF] at h
        exact h
      obtain ⟨d0, e0, _, _⟩ := DataW.trod_int Try.underlying3 f0
      obtain ⟨d1, e1, _, w1⟩ := DataW.trod_int Try.underlying3 f1
      obtain ⟨d2, e2, _, w2⟩ := DataW.trod_int Try.underlying3 f2
      obtain ⟨d3, e3, _⟩ := DataW.trod_bool Try.underlying4 f3
      simp at e0 e1 e2 e3
      subst e0; subst e1; subst e2; subst e3
      exact ⟨⟨d0, d1, d2, d3⟩, rfl, w1, w2⟩

/-- Deeds that are read. -/
def SlD (w : World) (ao : Option Addr) (n c : Nat) (D : List Dd) : Prop :=
  D.length = n ∧ n ≤ c ∧ c ≤ maxLen ∧ (∀ i (h : i < D.length), ∃ b o, ao = some ⟨b, o, none⟩ ∧ w.cell? ⟨b, o + i * 4, none⟩ = some (.int .i64 D[i].k) ∧ w.cell? ⟨b, o + i * 4 + 1, none⟩ = some (.int .i64 D[i].z) ∧ w.cell? ⟨b, o + i * 4 + 2, none⟩ = some (.int .i64 D[i].q) ∧ w.cell? ⟨b, o + i * 4 + 3, none⟩ = some (.bool D[i].a)) ∧ ∀ d ∈ D, okD d

theorem SlD.kept {a w : World} {ao : Option Addr} {n c : Nat} {D : List Dd} (h : SlD a ao n c D) (k : Kept [] a w) : SlD w ao n c D :=
  ⟨h.1, h.2.1, h.2.2.1, fun i hi => by obtain ⟨b, o, e, h0, h1, h2, h3⟩ := h.2.2.2.1 i hi; exact ⟨b, o, e, k.cell h0 (by simp), k.cell h1 (by simp), k.cell h2 (by simp), k.cell h3 (by simp)⟩, h.2.2.2.2⟩

theorem open_deeds7 {H : Type} {enc : TypeId × Value → H} {W : World} {base : Nat} {sp : Nat → Bool} {held : Bool} {fuel : Nat} {a : Option Addr} {len cap : Nat} {x : DataW H × List MemPlace}
    (h : DataW.trod enc Try.prog W base sp held fuel 22 [.slice a len cap] = some x) (hw : ∀ m ∈ x.1.weights Try.prog 22, m ≤ reachBytes) : ∃ D, SlD W a len cap D := by
  obtain ⟨L, h1, h2, h3, h4, _, h6⟩ := open_rows Try.underlying22 cellsOf_Deed (by omega) (⟨0, 0, 0, false⟩ : Dd) (fun t cs => cs = ddC t ∧ okD t) (fun _ _ _ h _ => by obtain ⟨d, e, hd⟩ := open_deed7 h; exact ⟨d, ⟨e, hd⟩, by rw [e]; rfl⟩) h hw
  refine ⟨L, h1, h2, h3, fun i hi => ?_, fun d hd => ?_⟩
  · obtain ⟨b, o, cs, e, ⟨rfl, _⟩, hc⟩ := h6 i hi
    exact ⟨b, o, e, hc 0 (by omega), hc 1 (by omega), hc 2 (by omega), hc 3 (by omega)⟩
  · obtain ⟨i, hi, rfl⟩ := List.getElem_of_mem hd
    obtain ⟨b, o, cs, e, ⟨_, hd⟩, hc⟩ := h6 i hi
    exact hd

end Go.Proofs.Ytddkaagdkmmknab
