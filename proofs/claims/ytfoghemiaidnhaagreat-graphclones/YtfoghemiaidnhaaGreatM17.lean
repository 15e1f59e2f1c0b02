/-
  Texts of this claim that are laid as one: ArgB, ChArgs, GrArgs, GrArgC.
-/
import Derived.Test.YtfoghemiaidnhaaGreatRows
import Derived.Test.YtfoghemiaidnhaaGreatProg
import Derived.ProofKit
import Derived.OpenShut
import Derived.ShutString
import Derived.ChangeMaps5
import Derived.ChangeOld
import Derived.SizedLaws
import Derived.Deep.Slices
import Derived.Test.YtfoghemiaidnhaaGreatChApp
import Derived.Test.YtfoghemiaidnhaaGreatM16
/-
  What is asked of the program itself when arguments are opened.
-/
namespace Go.Proofs.YtfoghemiaidnhaaGreat
open Go.ChangeShapes Go.WideShapes Go.ChangeAt Go.RowKit Go.Deep

theorem ownK : ownKnob Tryz.prog.godebug = none := by kernel_rfl
theorem laidOut : laidOutB Tryz.prog = true := by kernel_rfl
theorem cellsI : Tryz.prog.cellsOf 3 = 1 := by kernel_rfl
theorem cellsU : Tryz.prog.cellsOf 25 = 1 := by kernel_rfl
theorem cellsS : Tryz.prog.cellsOf 9 = 1 := by kernel_rfl
theorem cellsF : Tryz.prog.cellsOf 4 = 1 := by kernel_rfl

end Go.Proofs.YtfoghemiaidnhaaGreat

/-
  Changes that came in, as they are read.
-/
namespace Go.Proofs.YtfoghemiaidnhaaGreat
open Go.ChangeShapes Go.WideShapes Go.ChangeAt Go.RowKit Go.Deep

theorem cellsChange : Tryz.prog.cellsOf 31 = 3 := by kernel_rfl

set_option maxRecDepth 100000 in
theorem open_change {H : Type} {enc : TypeId × Value → H} {W : World} {base : Nat} {sp : Nat → Bool} {held : Bool} {fuel : Nat} {cs : List Value} {x : DataW H × List MemPlace}
    (h : DataW.trod enc Tryz.prog W base sp held fuel 31 cs = some x) : ∃ t : Ch, cs = chC t := by
  obtain ⟨xs, n, rfl, _, hlen, hxs, hf⟩ := DataW.trod_struct Tryz.underlying31 h
  rw [cellsChange] at hlen
  match cs, hlen with
  | [v0, v1, v2], _ =>
    match xs, hxs with
    | [y0, y1, y2], _ =>
      have f0 : DataW.trod enc Tryz.prog W base sp held n 9 [v0] = some y0 := by
        have h : DataW.trod enc Tryz.prog W base sp held n 9 (([v0, v1, v2].drop 0).take (Tryz.prog.cellsOf 9)) = some y0 := hf 0 _ rfl
        rw [cellsS] at h
        exact h
      have f1 : DataW.trod enc Tryz.prog W base sp held n 4 [v1] = some y1 := by
        have h : DataW.trod enc Tryz.prog W base sp held n 4 (([v0, v1, v2].drop 1).take (Tryz.prog.cellsOf 4)) = some y1 := hf 1 _ rfl
        rw [cellsF] at h
        exact h
      have f2 : DataW.trod enc Tryz.prog W base sp held n 25 [v2] = some y2 := by
        have h : DataW.trod enc Tryz.prog W base sp held n 25 (([v0, v1, v2].drop 2).take (Tryz.prog.cellsOf 25)) = some y2 := hf 2 _ rfl
        rw [cellsU] at h
        exact h
      obtain ⟨s, e0, _, _⟩ := DataW.trod_string Tryz.underlying9 f0
      obtain ⟨b, e1, _⟩ := DataW.trod_bool Tryz.underlying4 f1
      obtain ⟨d, e2, _, _⟩ := DataW.trod_int Tryz.underlying25 f2
      simp at e0 e1 e2
      subst e0; subst e1; subst e2
      exact ⟨⟨s.data.toList, b, d⟩, by simp only [chC]; rw [← str_of s]⟩

set_option maxRecDepth 100000 in
/-- A slice of changes that came in, as it is read. -/
theorem open_changes {H : Type} {enc : TypeId × Value → H} {W : World} {base : Nat} {sp : Nat → Bool} {held : Bool} {fuel : Nat} {a : Option Addr} {len cap : Nat} {x : DataW H × List MemPlace}
    (h : DataW.trod enc Tryz.prog W base sp held fuel 32 [.slice a len cap] = some x) : ∃ L, SlC W a len cap L ∧ (a = none → cap = 0) := by
  rcases open_slice Tryz.underlying32 h with ⟨hcs, _⟩ | ⟨ad, l, c, m, n, D, Pl, hcs, _, hl, hm, hmm, _, hx⟩
  · simp at hcs
    obtain ⟨rfl, rfl, rfl⟩ := hcs
    exact ⟨[], ⟨rfl, Nat.le_refl _, Nat.zero_le _, fun i hi => by simp at hi⟩, fun _ => rfl⟩
  · simp at hcs
    obtain ⟨rfl, rfl, rfl⟩ := hcs
    have hle : len ≤ m := by rw [hmm]; split <;> omega
    rw [cellsChange] at hx
    have each : ∀ i, i < len → ∃ t : Ch, ∃ b o, some ad = some (⟨b, o, none⟩ : Addr) ∧ ChAt W b (o + i * 3) t := by
      intro i hi
      obtain ⟨cs, h1, h2⟩ := hx i (by omega)
      obtain ⟨t, rfl⟩ := open_change h2
      obtain ⟨_, _, hc⟩ := World.cells?_some h1
      obtain ⟨b, o, spot⟩ := ad
      have hspot : spot = none := by
        have h3 := hc 0 (by omega)
        have h4 := World.cell?_spot h3
        by_cases h0 : i = 0
        · subst h0; simpa [Addr.add] using h4
        · obtain ⟨cs0, h5, h6⟩ := hx 0 (by omega)
          obtain ⟨t0, rfl⟩ := open_change h6
          obtain ⟨_, _, hc0⟩ := World.cells?_some h5
          have h7 := World.cell?_spot (hc0 0 (by omega))
          simpa [Addr.add] using h7
      subst hspot
      have e : ∀ j, j < 3 → W.cell? ⟨b, o + i * 3 + j, none⟩ = (chC t)[j]? := by
        intro j hj
        have h8 := hc j hj
        rw [adr_addC, adr_addC] at h8
        exact h8
      exact ⟨t, b, o, rfl, ⟨e 0 (by omega), e 1 (by omega), e 2 (by omega)⟩⟩
    obtain ⟨f, hf⟩ : ∃ f : Nat → Ch, ∀ i, i < len → ∃ b o, some ad = some (⟨b, o, none⟩ : Addr) ∧ ChAt W b (o + i * 3) (f i) := by
      refine ⟨fun i => if hi : i < len then Classical.choose (each i hi) else ⟨[], false, 0⟩, fun i hi => ?_⟩
      simp only [dif_pos hi]
      exact Classical.choose_spec (each i hi)
    refine ⟨(List.range len).map f, ⟨by simp, hl, hm, fun i hi => ?_⟩, by simp⟩
    simp at hi
    obtain ⟨b, o, h9, h10⟩ := hf i hi
    exact ⟨b, o, h9, by simpa using h10⟩

end Go.Proofs.YtfoghemiaidnhaaGreat

/-
  Deeds that came in, as they are read.
-/
namespace Go.Proofs.YtfoghemiaidnhaaGreat
open Go.ChangeShapes Go.WideShapes Go.ChangeAt Go.RowKit Go.Deep

theorem cellsDeed : Tryz.prog.cellsOf 48 = 3 := by kernel_rfl
theorem cellsL : Tryz.prog.cellsOf 32 = 1 := by kernel_rfl

set_option maxRecDepth 100000 in
theorem open_deed {H : Type} {enc : TypeId × Value → H} {W : World} {base : Nat} {sp : Nat → Bool} {held : Bool} {fuel : Nat} {cs : List Value} {x : DataW H × List MemPlace}
    (h : DataW.trod enc Tryz.prog W base sp held fuel 48 cs = some x) :
    ∃ t : De, cs = [.int .i64 t.b, .string (str t.n), .slice t.mo t.m t.mc] ∧ SlC W t.mo t.m t.mc t.l ∧ (t.mo = none → t.mc = 0) := by
  obtain ⟨xs, n, rfl, _, hlen, hxs, hf⟩ := DataW.trod_struct Tryz.underlying48 h
  rw [cellsDeed] at hlen
  match cs, hlen with
  | [v0, v1, v2], _ =>
    match xs, hxs with
    | [y0, y1, y2], _ =>
      have f0 : DataW.trod enc Tryz.prog W base sp held n 3 [v0] = some y0 := by
        have h : DataW.trod enc Tryz.prog W base sp held n 3 (([v0, v1, v2].drop 0).take (Tryz.prog.cellsOf 3)) = some y0 := hf 0 _ rfl
        rw [cellsI] at h
        exact h
      have f1 : DataW.trod enc Tryz.prog W base sp held n 9 [v1] = some y1 := by
        have h : DataW.trod enc Tryz.prog W base sp held n 9 (([v0, v1, v2].drop 1).take (Tryz.prog.cellsOf 9)) = some y1 := hf 1 _ rfl
        rw [cellsS] at h
        exact h
      have f2 : DataW.trod enc Tryz.prog W base sp held n 32 [v2] = some y2 := by
        have h : DataW.trod enc Tryz.prog W base sp held n 32 (([v0, v1, v2].drop 2).take (Tryz.prog.cellsOf 32)) = some y2 := hf 2 _ rfl
        rw [cellsL] at h
        exact h
      obtain ⟨d, e0, _, _⟩ := DataW.trod_int Tryz.underlying3 f0
      obtain ⟨s, e1, _, _⟩ := DataW.trod_string Tryz.underlying9 f1
      simp at e0 e1
      subst e0; subst e1
      have hv2 : ∃ a l c, v2 = .slice a l c := by
        rcases DataW.trod_slice Tryz.underlying32 f2 with ⟨h0, _⟩ | ⟨a, l, c, _, _, _, _, h0, _⟩
        · simp at h0; exact ⟨_, _, _, h0⟩
        · simp at h0; exact ⟨_, _, _, h0⟩
      obtain ⟨a, l, c, rfl⟩ := hv2
      obtain ⟨L, hs, hn⟩ := open_changes (show DataW.trod enc Tryz.prog W base sp held n 32 [.slice a l c] = some y2 from f2)
      exact ⟨⟨d, s.data.toList, a, l, c, L⟩, by simp only; rw [← str_of s], hs, hn⟩

set_option maxRecDepth 100000 in
theorem open_deeds {H : Type} {enc : TypeId × Value → H} {W : World} {base : Nat} {sp : Nat → Bool} {held : Bool} {fuel : Nat} {a : Option Addr} {len cap : Nat} {x : DataW H × List MemPlace}
    (h : DataW.trod enc Tryz.prog W base sp held fuel 38 [.slice a len cap] = some x) : ∃ D, SlD W a len cap D := by
  rcases open_slice Tryz.underlying38 h with ⟨hcs, _⟩ | ⟨ad, l, c, m, n, D, Pl, hcs, _, hl, hm, hmm, _, hx⟩
  · simp at hcs
    obtain ⟨rfl, rfl, rfl⟩ := hcs
    exact ⟨[], rfl, Nat.le_refl _, Nat.zero_le _, fun i hi => by simp at hi⟩
  · simp at hcs
    obtain ⟨rfl, rfl, rfl⟩ := hcs
    have hle : len ≤ m := by rw [hmm]; split <;> omega
    rw [cellsDeed] at hx
    have each : ∀ i, i < len → ∃ t : De, ∃ b o, some ad = some (⟨b, o, none⟩ : Addr) ∧ DeAt W b (o + i * 3) t := by
      intro i hi
      obtain ⟨cs, h1, h2⟩ := hx i (by omega)
      obtain ⟨t, rfl, hs, hn⟩ := open_deed h2
      obtain ⟨_, _, hc⟩ := World.cells?_some h1
      obtain ⟨b, o, spot⟩ := ad
      have hspot : spot = none := by
        have h3 := hc 0 (by omega)
        have h4 := World.cell?_spot h3
        by_cases h0 : i = 0
        · subst h0; simpa [Addr.add] using h4
        · obtain ⟨cs0, h5, h6⟩ := hx 0 (by omega)
          obtain ⟨t0, rfl, _⟩ := open_deed h6
          obtain ⟨_, _, hc0⟩ := World.cells?_some h5
          have h7 := World.cell?_spot (hc0 0 (by omega))
          simpa [Addr.add] using h7
      subst hspot
      have e : ∀ j, j < 3 → W.cell? ⟨b, o + i * 3 + j, none⟩ = [Value.int .i64 t.b, .string (str t.n), .slice t.mo t.m t.mc][j]? := by
        intro j hj
        have h8 := hc j hj
        rw [adr_addC, adr_addC] at h8
        exact h8
      exact ⟨t, b, o, rfl, ⟨e 0 (by omega), e 1 (by omega), e 2 (by omega), hs, hn⟩⟩
    obtain ⟨f, hf⟩ : ∃ f : Nat → De, ∀ i, i < len → ∃ b o, some ad = some (⟨b, o, none⟩ : Addr) ∧ DeAt W b (o + i * 3) (f i) := by
      refine ⟨fun i => if hi : i < len then Classical.choose (each i hi) else ⟨0, [], none, 0, 0, []⟩, fun i hi => ?_⟩
      simp only [dif_pos hi]
      exact Classical.choose_spec (each i hi)
    refine ⟨(List.range len).map f, by simp, hl, hm, fun i hi => ?_⟩
    simp at hi
    obtain ⟨b, o, h9, h10⟩ := hf i hi
    exact ⟨b, o, h9, by simpa using h10⟩

end Go.Proofs.YtfoghemiaidnhaaGreat

/-
  Commits that came in, as they are read.
-/
namespace Go.Proofs.YtfoghemiaidnhaaGreat
open Go.ChangeShapes Go.WideShapes Go.ChangeAt Go.RowKit Go.Deep

theorem cellsCom : Tryz.prog.cellsOf 54 = 4 := by kernel_rfl

set_option maxRecDepth 100000 in
theorem open_commit {H : Type} {enc : TypeId × Value → H} {W : World} {base : Nat} {sp : Nat → Bool} {held : Bool} {fuel : Nat} {cs : List Value} {x : DataW H × List MemPlace}
    (h : DataW.trod enc Tryz.prog W base sp held fuel 54 cs = some x) :
    ∃ (t : Com) (mo : Option Addr) (m mc : Nat), cs = [.int .i64 t.r, .int .i64 t.b, .string (str t.n), .slice mo m mc] ∧ SlC W mo m mc t.c ∧ (mo = none → mc = 0) := by
  obtain ⟨xs, n, rfl, _, hlen, hxs, hf⟩ := DataW.trod_struct Tryz.underlying54 h
  rw [cellsCom] at hlen
  match cs, hlen with
  | [v0, v1, v2, v3], _ =>
    match xs, hxs with
    | [y0, y1, y2, y3], _ =>
      have f0 : DataW.trod enc Tryz.prog W base sp held n 3 [v0] = some y0 := by
        have h : DataW.trod enc Tryz.prog W base sp held n 3 (([v0, v1, v2, v3].drop 0).take (Tryz.prog.cellsOf 3)) = some y0 := hf 0 _ rfl
        rw [cellsI] at h
        exact h
      have f1 : DataW.trod enc Tryz.prog W base sp held n 3 [v1] = some y1 := by
        have h : DataW.trod enc Tryz.prog W base sp held n 3 (([v0, v1, v2, v3].drop 1).take (Tryz.prog.cellsOf 3)) = some y1 := hf 1 _ rfl
        rw [cellsI] at h
        exact h
      have f2 : DataW.trod enc Tryz.prog W base sp held n 9 [v2] = some y2 := by
        have h : DataW.trod enc Tryz.prog W base sp held n 9 (([v0, v1, v2, v3].drop 2).take (Tryz.prog.cellsOf 9)) = some y2 := hf 2 _ rfl
        rw [cellsS] at h
        exact h
      have f3 : DataW.trod enc Tryz.prog W base sp held n 32 [v3] = some y3 := by
        have h : DataW.trod enc Tryz.prog W base sp held n 32 (([v0, v1, v2, v3].drop 3).take (Tryz.prog.cellsOf 32)) = some y3 := hf 3 _ rfl
        rw [cellsL] at h
        exact h
      obtain ⟨d, e0, _, _⟩ := DataW.trod_int Tryz.underlying3 f0
      obtain ⟨d1, e1, _, _⟩ := DataW.trod_int Tryz.underlying3 f1
      obtain ⟨s, e2, _, _⟩ := DataW.trod_string Tryz.underlying9 f2
      simp at e0 e1 e2
      subst e0; subst e1; subst e2
      have hv3 : ∃ a l c, v3 = .slice a l c := by
        rcases DataW.trod_slice Tryz.underlying32 f3 with ⟨h0, _⟩ | ⟨a, l, c, _, _, _, _, h0, _⟩
        · simp at h0; exact ⟨_, _, _, h0⟩
        · simp at h0; exact ⟨_, _, _, h0⟩
      obtain ⟨a, l, c, rfl⟩ := hv3
      obtain ⟨L, hs, hn⟩ := open_changes (show DataW.trod enc Tryz.prog W base sp held n 32 [.slice a l c] = some y3 from f3)
      exact ⟨⟨d, d1, s.data.toList, L⟩, a, l, c, by simp only; rw [← str_of s], hs, hn⟩

set_option maxRecDepth 100000 in
theorem open_commits {H : Type} {enc : TypeId × Value → H} {W : World} {base : Nat} {sp : Nat → Bool} {held : Bool} {fuel : Nat} {a : Option Addr} {len cap : Nat} {x : DataW H × List MemPlace}
    (h : DataW.trod enc Tryz.prog W base sp held fuel 26 [.slice a len cap] = some x) : ∃ K, SlK W a len cap K := by
  rcases open_slice Tryz.underlying26 h with ⟨hcs, _⟩ | ⟨ad, l, c, m, n, D, Pl, hcs, _, hl, hm, hmm, _, hx⟩
  · simp at hcs
    obtain ⟨rfl, rfl, rfl⟩ := hcs
    exact ⟨[], rfl, Nat.le_refl _, Nat.zero_le _, fun i hi => by simp at hi, fun x hx => by simp at hx⟩
  · simp at hcs
    obtain ⟨rfl, rfl, rfl⟩ := hcs
    have hle : len ≤ m := by rw [hmm]; split <;> omega
    rw [cellsCom] at hx
    have each : ∀ i, i < len → ∃ t : Com × Value, (∃ b o, some ad = some (⟨b, o, none⟩ : Addr) ∧ CoAt W b (o + i * 4) t) ∧ ∃ mo m mc, t.2 = .slice mo m mc ∧ SlC W mo m mc t.1.c ∧ (mo = none → mc = 0) := by
      intro i hi
      obtain ⟨cs, h1, h2⟩ := hx i (by omega)
      obtain ⟨t, mo, m', mc, rfl, hs, hn⟩ := open_commit h2
      obtain ⟨_, _, hc⟩ := World.cells?_some h1
      obtain ⟨b, o, spot⟩ := ad
      have hspot : spot = none := by
        have h3 := hc 0 (by omega)
        have h4 := World.cell?_spot h3
        by_cases h0 : i = 0
        · subst h0; simpa [Addr.add] using h4
        · obtain ⟨cs0, h5, h6⟩ := hx 0 (by omega)
          obtain ⟨t0, _, _, _, rfl, _⟩ := open_commit h6
          obtain ⟨_, _, hc0⟩ := World.cells?_some h5
          have h7 := World.cell?_spot (hc0 0 (by omega))
          simpa [Addr.add] using h7
      subst hspot
      have e : ∀ j, j < 4 → W.cell? ⟨b, o + i * 4 + j, none⟩ = [Value.int .i64 t.r, .int .i64 t.b, .string (str t.n), .slice mo m' mc][j]? := by
        intro j hj
        have h8 := hc j hj
        rw [adr_addC, adr_addC] at h8
        exact h8
      exact ⟨(t, .slice mo m' mc), ⟨b, o, rfl, ⟨e 0 (by omega), e 1 (by omega), e 2 (by omega), e 3 (by omega)⟩⟩, mo, m', mc, rfl, hs, hn⟩
    obtain ⟨f, hf⟩ : ∃ f : Nat → Com × Value, ∀ i, i < len → (∃ b o, some ad = some (⟨b, o, none⟩ : Addr) ∧ CoAt W b (o + i * 4) (f i)) ∧ ∃ mo m mc, (f i).2 = .slice mo m mc ∧ SlC W mo m mc (f i).1.c ∧ (mo = none → mc = 0) := by
      refine ⟨fun i => if hi : i < len then Classical.choose (each i hi) else (⟨0, 0, [], []⟩, .slice none 0 0), fun i hi => ?_⟩
      simp only [dif_pos hi]
      exact Classical.choose_spec (each i hi)
    refine ⟨(List.range len).map f, by simp, hl, hm, fun i hi => ?_, fun x hx => ?_⟩
    · simp at hi
      obtain ⟨b, o, h9, h10⟩ := (hf i hi).1
      exact ⟨b, o, h9, by simpa using h10⟩
    · obtain ⟨i, hi, rfl⟩ := List.mem_map.1 hx
      exact (hf i (by simpa using hi)).2

end Go.Proofs.YtfoghemiaidnhaaGreat
