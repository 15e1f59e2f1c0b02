/-
  Leaves that came in, as they are read.
-/
import Derived.Test.YtcaimaofbakjcaaRows
import Derived.Test.YtcaimaofbakjcaaTrRow
import Derived.ProofKit
import Derived.OpenShut
import Derived.ShutString
import Derived.ChangeMaps5
import Derived.ChangeOld
import Derived.SizedLaws
import Derived.Deep.Slices
namespace Go.Proofs.Ytcaimaofbakjcaa
open Go.ChangeShapes Go.WideShapes Go.ChangeAt Go.RowKit Go.Deep

theorem ownK : ownKnob Try.prog.godebug = none := by kernel_rfl
theorem laidOut : laidOutB Try.prog = true := by kernel_rfl
theorem cellsLeaf : Try.prog.cellsOf 28 = 4 := by kernel_rfl
theorem cellsI : Try.prog.cellsOf 3 = 1 := by kernel_rfl
theorem cellsU : Try.prog.cellsOf 26 = 1 := by kernel_rfl
theorem cellsS : Try.prog.cellsOf 9 = 1 := by kernel_rfl
theorem cellsF : Try.prog.cellsOf 4 = 1 := by kernel_rfl

theorem open_leaf {H : Type} {enc : TypeId × Value → H} {W : World} {base : Nat} {sp : Nat → Bool} {held : Bool} {fuel : Nat} {cs : List Value} {x : DataW H × List MemPlace}
    (h : DataW.trod enc Try.prog W base sp held fuel 28 cs = some x) : ∃ t : Lf, cs = lfC t := by
  obtain ⟨xs, n, rfl, _, hlen, hxs, hf⟩ := DataW.trod_struct Try.underlying28 h
  rw [cellsLeaf] at hlen
  match cs, hlen with
  | [v0, v1, v2, v3], _ =>
    match xs, hxs with
    | [y0, y1, y2, y3], _ =>
      have f0 : DataW.trod enc Try.prog W base sp held n 9 [v0] = some y0 := by
        have h : DataW.trod enc Try.prog W base sp held n 9 (([v0, v1, v2, v3].drop 0).take (Try.prog.cellsOf 9)) = some y0 := hf 0 _ rfl
        rw [cellsS] at h
        exact h
      have f1 : DataW.trod enc Try.prog W base sp held n 26 [v1] = some y1 := by
        have h : DataW.trod enc Try.prog W base sp held n 26 (([v0, v1, v2, v3].drop 1).take (Try.prog.cellsOf 26)) = some y1 := hf 1 _ rfl
        rw [cellsU] at h
        exact h
      have f2 : DataW.trod enc Try.prog W base sp held n 3 [v2] = some y2 := by
        have h : DataW.trod enc Try.prog W base sp held n 3 (([v0, v1, v2, v3].drop 2).take (Try.prog.cellsOf 3)) = some y2 := hf 2 _ rfl
        rw [cellsI] at h
        exact h
      have f3 : DataW.trod enc Try.prog W base sp held n 4 [v3] = some y3 := by
        have h : DataW.trod enc Try.prog W base sp held n 4 (([v0, v1, v2, v3].drop 3).take (Try.prog.cellsOf 4)) = some y3 := hf 3 _ rfl
        rw [cellsF] at h
        exact h
      obtain ⟨s, e0, _, _⟩ := DataW.trod_string Try.underlying9 f0
      obtain ⟨d, e1, _, _⟩ := DataW.trod_int Try.underlying26 f1
      obtain ⟨r, e2, _, _⟩ := DataW.trod_int Try.underlying3 f2
      obtain ⟨b, e3, _⟩ := DataW.trod_bool Try.underlying4 f3
      simp at e0 e1 e2 e3
      subst e0; subst e1; subst e2; subst e3
      exact ⟨⟨s.data.toList, d, r, b⟩, by simp only [lfC]; rw [← str_of s]⟩

/-- A slice of leaves that came in, as it is read. -/
theorem open_leaves {H : Type} {enc : TypeId × Value → H} {W : World} {base : Nat} {sp : Nat → Bool} {held : Bool} {fuel : Nat} {a : Option Addr} {len cap : Nat} {x : DataW H × List MemPlace}
    (h : DataW.trod enc Try.prog W base sp held fuel 29 [.slice a len cap] = some x) : ∃ L, SlL W a len cap L := by
  rcases open_slice Try.underlying29 h with ⟨hcs, _⟩ | ⟨ad, l, c, m, n, D, Pl, hcs, _, hl, hm, hmm, _, hx⟩
  · simp at hcs
    obtain ⟨rfl, rfl, rfl⟩ := hcs
    exact ⟨[], rfl, Nat.le_refl _, Nat.zero_le _, fun i hi => by simp at hi⟩
  · simp at hcs
    obtain ⟨rfl, rfl, rfl⟩ := hcs
    have hle : len ≤ m := by rw [hmm]; split <;> omega
    rw [cellsLeaf] at hx
    have each : ∀ i, i < len → ∃ t : Lf, ∃ b o, some ad = some (⟨b, o, none⟩ : Addr) ∧ LfAt W b (o + i * 4) t := by
      intro i hi
      obtain ⟨cs, h1, h2⟩ := hx i (by omega)
      obtain ⟨t, rfl⟩ := open_leaf h2
      obtain ⟨_, _, hc⟩ := World.cells?_some h1
      obtain ⟨b, o, spot⟩ := ad
      have hspot : spot = none := by
        have h3 := hc 0 (by omega)
        have h4 := World.cell?_spot h3
        by_cases h0 : i = 0
        · subst h0; simpa [Addr.add] using h4
        · obtain ⟨cs0, h5, h6⟩ := hx 0 (by omega)
          obtain ⟨t0, rfl⟩ := open_leaf h6
          obtain ⟨_, _, hc0⟩ := World.cells?_some h5
          have h7 := World.cell?_spot (hc0 0 (by omega))
          simpa [Addr.add] using h7
      subst hspot
      have e : ∀ j, j < 4 → W.cell? ⟨b, o + i * 4 + j, none⟩ = (lfC t)[j]? := by
        intro j hj
        have h8 := hc j hj
        rw [adr_add, adr_add] at h8
        exact h8
      exact ⟨t, b, o, rfl, ⟨e 0 (by omega), e 1 (by omega), e 2 (by omega), e 3 (by omega)⟩⟩
    obtain ⟨f, hf⟩ : ∃ f : Nat → Lf, ∀ i, i < len → ∃ b o, some ad = some (⟨b, o, none⟩ : Addr) ∧ LfAt W b (o + i * 4) (f i) := by
      refine ⟨fun i => if hi : i < len then Classical.choose (each i hi) else ⟨[], 0, 0, false⟩, fun i hi => ?_⟩
      simp only [dif_pos hi]
      exact Classical.choose_spec (each i hi)
    refine ⟨(List.range len).map f, by simp, hl, hm, fun i hi => ?_⟩
    simp at hi
    obtain ⟨b, o, h9, h10⟩ := hf i hi
    exact ⟨b, o, h9, by simpa using h10⟩

end Go.Proofs.Ytcaimaofbakjcaa
