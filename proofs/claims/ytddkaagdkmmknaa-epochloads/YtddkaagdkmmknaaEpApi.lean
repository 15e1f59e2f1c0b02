/-
  Rows of api.Epoch.
-/
import Derived.Test.YtddkaagdkmmknaaEpPure
import Derived.Test.YtddkaagdkmmknaaInts
import Derived.Deep.AppendLies
namespace Go.Proofs.Ytddkaagdkmmknaa
open Go.RowKit

/-- The cells of an epoch, its members at a value. -/
def aeC (x : Ep × Value) : List Value := [.int .i64 x.1.f, x.2]

theorem aeC_len (X : List (Ep × Value)) : (X.flatMap aeC).length = X.length * 2 := by
  induction X with
  | nil => rfl
  | cons x X ih => rw [List.flatMap_cons, List.length_append, ih, List.length_cons]; simp only [aeC, List.length_cons, List.length_nil]; omega

theorem aeC_get (X : List (Ep × Value)) (i : Nat) (h : i < X.length) (j : Nat) (hj : j < 2) : (X.flatMap aeC)[i * 2 + j]? = (aeC X[i])[j]? := by
  induction X generalizing i with
  | nil => simp at h
  | cons x X ih =>
    rw [List.flatMap_cons]
    cases i with
    | zero => rw [List.getElem?_append_left (by simp [aeC]; omega)]; simp
    | succ i =>
      rw [List.getElem?_append_right (by simp [aeC]; omega)]
      simp only [aeC, List.length_cons, List.length_nil, List.getElem_cons_succ]
      rw [show (i + 1) * 2 + j - (0 + 1 + 1) = i * 2 + j by omega]
      exact ih i (by simpa using h)

/-- A value that is a slice of these numbers. -/
def IsI (w : World) (v : Value) (m : List Int) : Prop := ∃ ao c, v = .slice ao m.length c ∧ SlI w ao m.length c m

theorem IsI.kept {a w : World} {v : Value} {m : List Int} (h : IsI a v m) (k : Kept [] a w) : IsI w v m := by
  obtain ⟨ao, c, e, h1⟩ := h
  exact ⟨ao, c, e, h1.kept k⟩

theorem RowI.is {B : Nat} {w : World} {v : Value} {m : List Int} (h : RowI B w v m) : IsI w v m := h.sl

/-- A slice of epochs that is read. -/
def SlE (w : World) (ao : Option Addr) (n c : Nat) (X : List (Ep × Value)) : Prop :=
  X.length = n ∧ n ≤ c ∧ c ≤ maxLen ∧ (∀ i (h : i < X.length), ∃ b o, ao = some ⟨b, o, none⟩ ∧ w.cell? ⟨b, o + i * 2, none⟩ = some (.int .i64 X[i].1.f) ∧ w.cell? ⟨b, o + i * 2 + 1, none⟩ = some X[i].2) ∧ ∀ x ∈ X, IsI w x.2 x.1.m

theorem SlE.kept {a w : World} {ao : Option Addr} {n c : Nat} {X : List (Ep × Value)} (h : SlE a ao n c X) (k : Kept [] a w) : SlE w ao n c X :=
  ⟨h.1, h.2.1, h.2.2.1, fun i hi => by obtain ⟨b, o, e, h1, h2⟩ := h.2.2.2.1 i hi; exact ⟨b, o, e, k.cell h1 (by simp), k.cell h2 (by simp)⟩, fun x hx => (h.2.2.2.2 x hx).kept k⟩

/-- A row of epochs that is owned. -/
def RowA (B : Nat) (w : World) (v : Value) (X : List (Ep × Value)) : Prop := w.ownsRow B 48 2 v X.length (X.flatMap aeC)

/-- And their members are rows of their own. -/
def OwnA (B : Nat) (w : World) (X : List (Ep × Value)) : Prop := ∀ x ∈ X, RowI B w x.2 x.1.m

theorem RowA.sl {B C : Nat} {w : World} {v : Value} {X : List (Ep × Value)} (h : RowA B w v X) (ho : OwnA C w X) : ∃ ao c, v = .slice ao X.length c ∧ SlE w ao X.length c X := by
  have h' := h
  obtain ⟨h1, h2⟩ := h
  rcases h2 with ⟨hv, hn⟩ | ⟨g, cap, cur, hv, hg, hh, h3, h4, h5, h6⟩
  · have : X = [] := by simpa using hn
    subst this
    exact ⟨none, 0, by rw [hv]; rfl, rfl, Nat.le_refl _, Nat.zero_le _, fun i hi => by simp at hi, fun x hx => by simp at hx⟩
  · refine ⟨some ⟨g, 0, none⟩, cap, hv, rfl, h3, h4, fun i hi => ⟨g, 0, rfl, ?_, ?_⟩, fun x hx => (ho x hx).is⟩
    · unfold RowA at h'
      rw [hv] at h'
      have := World.ownsRow.cellAt h' (i * 2 + 0) (by omega)
      rw [aeC_get X i hi 0 (by omega)] at this
      simpa [aeC] using this
    · unfold RowA at h'
      rw [hv] at h'
      have := World.ownsRow.cellAt h' (i * 2 + 1) (by omega)
      rw [aeC_get X i hi 1 (by omega)] at this
      simpa [aeC] using this

theorem info_ae : (Try.prog.info? 48).map (fun i => (i.zero, i.size, i.bytes)) = some (some (.agg #[.int .i64 0, .slice none 0 0]), 2, 32) := by kernel_rfl

/-- One epoch more. -/
theorem step_appA {ops : Array Oper} {a : Act} {w : World} {K : Act → World → Prop} {Q : Exit → Act → World → Prop} {E : Prop} {d : Option Tmp} {s x : Operand} {ty : TypeId} {ps : String} {af : Array Edge}
    (B : Nat) (v : Value) (X : List (Ep × Value)) (f : Int) (so : Option Addr) (sn sc : Nat) (g : Nat) (hs : a.eval s = v) (hO : RowA B w v X) (hx : a.eval x = .slice (some ⟨g, 0, none⟩) 1 1) (hc : w.heap[g]? = some (.cells #[.int .i64 f, .slice so sn sc] 48 (0, 0))) (hlen : X.length ≤ 1000000) (hB : B ≤ w.heap.size)
    (h : ∀ g' n cap w', Hid (∀ m, RowA B w' (.slice (some ⟨g', 0, none⟩) n cap) (X ++ [(⟨f, m⟩, .slice so sn sc)])) → Hid (w.grownBy w' v.ownBlock) → K (a.put d (.slice (some ⟨g', 0, none⟩) n cap)) w') :
    if Region.wanted (⟨d, .call { callee := .builtin .append, args := #[s, x], argTypes := #[41, 41] }, ty, ps, af, none⟩ : Oper) (yielded ops a.tmps) = true then Oper.wp Try.prog ⟨d, .call { callee := .builtin .append, args := #[s, x], argTypes := #[41, 41] }, ty, ps, af, none⟩ a w K Q else E := by
  obtain ⟨i0, hi, hz0, hz1, hz2⟩ := info_parts info_ae
  refine step_append_lies w rfl s x 41 rfl B 48 i0 _ 2 32 Try.underlying41 hi hz0 hz1 hz2 rfl (by decide) v X.length (X.flatMap aeC) hs hO ⟨g, 0, none⟩ 1 1 [.int .i64 f, .slice so sn sc] hx rfl ?_ ?_ (by decide) (by unfold maxLen; omega) (by omega) hB _ rfl ?_
  · intro j u hj
    rw [adr_addC, Nat.zero_add]
    exact cell_inC hc (by simpa using hj)
  · intro u hu
    simp at hu
    rcases hu with rfl | rfl <;> rfl
  · intro g' cap w' h2 h3 _ _
    refine h g' _ cap w' (fun m => ?_) h3
    unfold RowA
    rw [List.length_append, List.flatMap_append]
    simpa [aeC] using h2

end Go.Proofs.Ytddkaagdkmmknaa
