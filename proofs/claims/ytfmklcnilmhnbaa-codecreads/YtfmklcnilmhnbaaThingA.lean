/-
  Things that came in, as they are read.
-/
import Derived.Test.YtfmklcnilmhnbaaThing0
import Derived.Test.YtfmklcnilmhnbaaArgs
import Derived.Deep.Slices
namespace Go.Proofs.Ytfmklcnilmhnbaa
open Go.ChangeShapes Go.WideShapes Go.ChangeAt Go.RowKit Go.Deep

theorem cellsThing : Try.prog.cellsOf 45 = 6 := by kernel_rfl
theorem cellsI : Try.prog.cellsOf 3 = 1 := by kernel_rfl
theorem cellsU : Try.prog.cellsOf 43 = 1 := by kernel_rfl
theorem cellsS : Try.prog.cellsOf 9 = 1 := by kernel_rfl
theorem cellsB : Try.prog.cellsOf 25 = 1 := by kernel_rfl
theorem cellsF : Try.prog.cellsOf 4 = 1 := by kernel_rfl

theorem wf_i64 {x : Int} (h : (Lit.int .i64 x).wf = true) : -9223372036854775808 ≤ x ∧ x ≤ 9223372036854775807 := by
  simp [Lit.wf, IntKind.min, IntKind.max, IntKind.bits, IntKind.signed] at h
  omega

theorem wf_u64 {x : Int} (h : (Lit.int .u64 x).wf = true) : 0 ≤ x ∧ x ≤ 18446744073709551615 := by
  simp [Lit.wf, IntKind.min, IntKind.max, IntKind.bits, IntKind.signed] at h
  omega

theorem open_thing {H : Type} {enc : TypeId × Value → H} {W : World} {base : Nat} {sp : Nat → Bool} {held : Bool} {fuel : Nat} {cs : List Value} {x : DataW H × List MemPlace}
    (h : DataW.trod enc Try.prog W base sp held fuel 45 cs = some x) :
    ∃ t : Th, cs = [.int .i64 t.d, .int .i64 t.n, .int .u64 t.x, .string t.s, .slice t.bo t.bn t.bc, .bool t.f] ∧ Sl W t.bo t.bn t.bc t.bl ∧ Oct t.bl ∧ 0 ≤ t.x ∧ t.x ≤ 18446744073709551615 ∧ -9223372036854775808 ≤ t.n ∧ t.n ≤ 9223372036854775807 ∧ -9223372036854775808 ≤ t.d ∧ t.d ≤ 9223372036854775807 ∧ t.s.size ≤ 9223372036854775807 := by
  obtain ⟨xs, n, rfl, _, hlen, hxs, hf⟩ := DataW.trod_struct Try.underlying45 h
  rw [cellsThing] at hlen
  match cs, hlen with
  | [v0, v1, v2, v3, v4, v5], _ =>
    match xs, hxs with
    | [y0, y1, y2, y3, y4, y5], _ =>
      have f0 : DataW.trod enc Try.prog W base sp held n 3 [v0] = some y0 := by
        have h : DataW.trod enc Try.prog W base sp held n 3 (([v0, v1, v2, v3, v4, v5].drop 0).take (Try.prog.cellsOf 3)) = some y0 := hf 0 _ rfl
        rw [cellsI] at h
        exact h
      have f1 : DataW.trod enc Try.prog W base sp held n 3 [v1] = some y1 := by
        have h : DataW.trod enc Try.prog W base sp held n 3 (([v0, v1, v2, v3, v4, v5].drop 1).take (Try.prog.cellsOf 3)) = some y1 := hf 1 _ rfl
        rw [cellsI] at h
        exact h
      have f2 : DataW.trod enc Try.prog W base sp held n 43 [v2] = some y2 := by
        have h : DataW.trod enc Try.prog W base sp held n 43 (([v0, v1, v2, v3, v4, v5].drop 2).take (Try.prog.cellsOf 43)) = some y2 := hf 2 _ rfl
        rw [cellsU] at h
        exact h
      have f3 : DataW.trod enc Try.prog W base sp held n 9 [v3] = some y3 := by
        have h : DataW.trod enc Try.prog W base sp held n 9 (([v0, v1, v2, v3, v4, v5].drop 3).take (Try.prog.cellsOf 9)) = some y3 := hf 3 _ rfl
        rw [cellsS] at h
        exact h
      have f4 : DataW.trod enc Try.prog W base sp held n 25 [v4] = some y4 := by
        have h : DataW.trod enc Try.prog W base sp held n 25 (([v0, v1, v2, v3, v4, v5].drop 4).take (Try.prog.cellsOf 25)) = some y4 := hf 4 _ rfl
        rw [cellsB] at h
        exact h
      have f5 : DataW.trod enc Try.prog W base sp held n 4 [v5] = some y5 := by
        have h : DataW.trod enc Try.prog W base sp held n 4 (([v0, v1, v2, v3, v4, v5].drop 5).take (Try.prog.cellsOf 4)) = some y5 := hf 5 _ rfl
        rw [cellsF] at h
        exact h
      obtain ⟨d, e0, _, w0⟩ := DataW.trod_int Try.underlying3 f0
      obtain ⟨nn, e1, _, w1⟩ := DataW.trod_int Try.underlying3 f1
      obtain ⟨xx, e2, _, w2⟩ := DataW.trod_int Try.underlying43 f2
      obtain ⟨s, e3, _, w3⟩ := DataW.trod_string Try.underlying9 f3
      obtain ⟨b, e5, _⟩ := DataW.trod_bool Try.underlying4 f5
      simp at e0 e1 e2 e3 e5
      subst e0; subst e1; subst e2; subst e3; subst e5
      have hv4 : ∃ a l c, v4 = .slice a l c := by
        rcases DataW.trod_slice Try.underlying25 f4 with ⟨h0, _⟩ | ⟨a, l, c, _, _, _, _, h0, _⟩
        · simp at h0; exact ⟨_, _, _, h0⟩
        · simp at h0; exact ⟨_, _, _, h0⟩
      obtain ⟨a, l, c, rfl⟩ := hv4
      obtain ⟨bl, hs, ho, _⟩ := open_bytes (show DataW.trod enc Try.prog W base sp held n 25 [.slice a l c] = some y4 from f4)
      have r1 := wf_i64 w0
      have r2 := wf_i64 w1
      have r3 := wf_u64 w2
      unfold maxLen at w3
      exact ⟨⟨d, nn, xx, s, a, l, c, bl, b⟩, rfl, hs, ho, r3.1, r3.2, r2.1, r2.2, r1.1, r1.2, by simp only; omega⟩

theorem open_things {H : Type} {enc : TypeId × Value → H} {W : World} {base : Nat} {sp : Nat → Bool} {held : Bool} {fuel : Nat} {a : Option Addr} {len cap : Nat} {x : DataW H × List MemPlace}
    (h : DataW.trod enc Try.prog W base sp held fuel 35 [.slice a len cap] = some x) : ∃ L, Things W a len cap L := by
  rcases open_slice Try.underlying35 h with ⟨hcs, _⟩ | ⟨ad, l, c, m, n, D, Pl, hcs, _, hl, hm, hmm, _, hx⟩
  · simp at hcs
    obtain ⟨rfl, rfl, rfl⟩ := hcs
    exact ⟨[], rfl, Nat.le_refl _, by omega, fun i hi => by simp at hi⟩
  · simp at hcs
    obtain ⟨rfl, rfl, rfl⟩ := hcs
    have hle : len ≤ m := by rw [hmm]; split <;> omega
    rw [cellsThing] at hx
    have each : ∀ i, i < len → ∃ t : Th, ∃ b o, some ad = some (⟨b, o, none⟩ : Addr) ∧ ThAt W b (o + i * 6) t := by
      intro i hi
      obtain ⟨cs, h1, h2⟩ := hx i (by omega)
      obtain ⟨t, rfl, hs, ho, r1, r2, r3, r4, r5, r6, r7⟩ := open_thing h2
      obtain ⟨_, _, hc⟩ := World.cells?_some h1
      obtain ⟨b, o, spot⟩ := ad
      have hspot : spot = none := by
        have h3 := hc 0 (by omega)
        have h4 := World.cell?_spot h3
        by_cases h0 : i = 0
        · subst h0; simpa [Addr.add] using h4
        · obtain ⟨cs0, h5, h6⟩ := hx 0 (by omega)
          obtain ⟨t0, rfl, _⟩ := open_thing h6
          obtain ⟨_, _, hc0⟩ := World.cells?_some h5
          have h7 := World.cell?_spot (hc0 0 (by omega))
          simpa [Addr.add] using h7
      subst hspot
      have e : ∀ j, j < 6 → W.cell? ⟨b, o + i * 6 + j, none⟩ = [Value.int .i64 t.d, .int .i64 t.n, .int .u64 t.x, .string t.s, .slice t.bo t.bn t.bc, .bool t.f][j]? := by
        intro j hj
        have h8 := hc j hj
        rw [addr_add, addr_add] at h8
        exact h8
      exact ⟨t, b, o, rfl, ⟨e 0 (by omega), e 1 (by omega), e 2 (by omega), e 3 (by omega), e 4 (by omega), e 5 (by omega), hs, ho, r1, r2, r3, r4, r5, r6, r7⟩⟩
    obtain ⟨f, hf⟩ : ∃ f : Nat → Th, ∀ i, i < len → ∃ b o, some ad = some (⟨b, o, none⟩ : Addr) ∧ ThAt W b (o + i * 6) (f i) := by
      refine ⟨fun i => if hi : i < len then Classical.choose (each i hi) else ⟨0, 0, 0, ByteArray.empty, none, 0, 0, [], false⟩, fun i hi => ?_⟩
      simp only [dif_pos hi]
      exact Classical.choose_spec (each i hi)
    unfold maxLen at hm
    refine ⟨(List.range len).map f, by simp, hl, by omega, fun i hi => ?_⟩
    simp at hi
    obtain ⟨b, o, h9, h10⟩ := hf i hi
    exact ⟨b, o, h9, by simpa using h10⟩

end Go.Proofs.Ytfmklcnilmhnbaa
