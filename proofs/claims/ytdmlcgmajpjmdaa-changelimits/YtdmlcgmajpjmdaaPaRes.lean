/-
  path.resolve: what is left of the parts.
-/
import Derived.Test.YtdmlcgmajpjmdaaPaName
namespace Go.Proofs.Ytdmlcgmajpjmdaa
open Go.RowKit

/-- What a call of the closure told, and what it has left. -/
def Nx (w : World) (m a : Nat) (rs : List (List UInt8)) (P : ByteArray) (M : Bool) : Prop :=
  (rs = [] ∧ P = ByteArray.empty ∧ M = false ∧ PtAt w m a []) ∨ (∃ p ps, rs = p :: ps ∧ P = str p ∧ M = true ∧ PtAt w m a ps)

theorem next_any (w : World) (m a : Nat) (rs : List (List UInt8)) (h : PtAt w m a rs) :
    Calls Try.prog 34 #[.pointer (some ⟨m, 0, none⟩), .pointer (some ⟨a, 0, none⟩)] w fun e w' => ∃ P M, e = .returned (.tuple #[.string P, .bool M]) ∧ Nx w' m a rs P M ∧ Kept [m, a] w w' := by
  cases rs with
  | nil =>
    refine (next_none w m a h).mono ?_
    rintro e w' ⟨rfl, rfl⟩
    exact ⟨_, _, rfl, .inl ⟨rfl, rfl, rfl, h⟩, Kept.refl _ _⟩
  | cons p ps =>
    refine (next_some w m a p ps h).mono ?_
    rintro e w' ⟨rfl, h1, h2⟩
    exact ⟨_, _, rfl, .inr ⟨p, ps, rfl, rfl, rfl, h1⟩, h2⟩

/-- The row of eight holds the parts k, as far as it goes. -/
def KA (w : World) (b : Nat) (k : List (List UInt8)) : Prop :=
  ∃ vs : Array Value, w.heap[b]? = some (.cells vs 60 (0, 0)) ∧ vs.size = 8 ∧ ∀ i, i < 8 → ∃ s : List UInt8, vs[i]? = some (.string (str s)) ∧ ∀ x, k[i]? = some x → s = x

theorem KA.kept {S : List Nat} {w w' : World} {b : Nat} {k : List (List UInt8)} (h : KA w b k) (hk : Kept S w w') (hb : b ∉ S) : KA w' b k := by
  obtain ⟨vs, h1, h2⟩ := h
  exact ⟨vs, hk.at h1 hb, h2⟩

theorem KA.pop {w : World} {b : Nat} {k : List (List UInt8)} (h : KA w b k) : KA w b k.dropLast := by
  obtain ⟨vs, h1, h2, h3⟩ := h
  refine ⟨vs, h1, h2, fun i hi => ?_⟩
  obtain ⟨s, h4, h5⟩ := h3 i hi
  refine ⟨s, h4, fun x hx => h5 x ?_⟩
  rw [List.getElem?_dropLast] at hx
  split at hx
  · exact hx
  · cases hx

theorem KA.far {w : World} {b : Nat} {k : List (List UInt8)} (h : KA w b k) (p : List UInt8) (hk : 8 ≤ k.length) : KA w b (k ++ [p]) := by
  obtain ⟨vs, h1, h2, h3⟩ := h
  refine ⟨vs, h1, h2, fun i hi => ?_⟩
  obtain ⟨s, h4, h5⟩ := h3 i hi
  refine ⟨s, h4, fun x hx => h5 x ?_⟩
  rw [List.getElem?_append_left (by omega)] at hx
  exact hx

/-- Its cells. -/
theorem KA.cell {w : World} {b : Nat} {k : List (List UInt8)} (h : KA w b k) (i : Nat) (hi : i < 8) : (∃ s, w.cell? ⟨b, i, none⟩ = some (.string (str s)) ∧ ∀ x, k[i]? = some x → s = x) ∧ w.frozen? ⟨b, i, none⟩ = false := by
  obtain ⟨vs, h1, h2, h3⟩ := h
  obtain ⟨s, h4, h5⟩ := h3 i hi
  refine ⟨⟨s, ?_, h5⟩, ?_⟩
  · simp [World.cell?, h1, h4]
  · simp [World.frozen?, h1]

theorem KA.push {w : World} {b : Nat} {k : List (List UInt8)} (h : KA w b k) (p : List UInt8) (hk : k.length < 8) : KA (w.setCell ⟨b, k.length, none⟩ (.string (str p))) b (k ++ [p]) := by
  obtain ⟨vs, h1, h2, h3⟩ := h
  have hlt := lt_of_at h1
  refine ⟨vs.setIfInBounds k.length (.string (str p)), ?_, by simp [h2], fun i hi => ?_⟩
  · have h' : w.heap[b] = .cells vs 60 (0, 0) := by simpa [Array.getElem?_eq_getElem hlt] using h1
    show (w.heap.modify b _)[b]? = _
    rw [Array.getElem?_modify]
    simp [h1]
  · by_cases e : i = k.length
    · subst e
      refine ⟨p, by rw [Array.getElem?_setIfInBounds_self_of_lt (by omega)], fun x hx => ?_⟩
      simpa using hx
    · obtain ⟨s, h4, h5⟩ := h3 i hi
      refine ⟨s, by rw [Array.getElem?_setIfInBounds_ne (Ne.symm e)]; exact h4, fun x hx => h5 x ?_⟩
      by_cases e2 : i < k.length
      · rw [List.getElem?_append_left e2] at hx; exact hx
      · rw [List.getElem?_eq_none (by simp; omega)] at hx; cases hx

/-- What resolve hands back. -/
def ResPost (w : World) (r : Option (List (List UInt8))) (e : Ending) (w' : World) : Prop :=
  Kept [] w w' ∧ ((∃ k b, r = some k ∧ k ≠ [] ∧ k.length ≤ 8 ∧ e = .returned (.tuple #[.slice (some ⟨b, 0, none⟩) k.length 8, .bool true]) ∧ b < w'.heap.size ∧ w.heap.size ≤ b ∧ KA w' b k) ∨
    ((∀ k, r = some k → k = [] ∨ 8 < k.length) ∧ e = .returned (.tuple #[.slice none 0 0, .bool false])))

/-- Whether there is one more. -/
def moreOf : Value → Nat
  | .bool true => 1
  | _ => 0

theorem Nx.left {w : World} {m a : Nat} {rs : List (List UInt8)} {P : ByteArray} {M : Bool} (h : Nx w m a rs P M) : leftOf m a w + moreOf (.bool M) = rs.length := by
  rcases h with ⟨rfl, _, rfl, h⟩ | ⟨p, ps, rfl, _, rfl, h⟩
  · rw [h.left]; rfl
  · rw [h.left]; rfl

set_option maxHeartbeats 4000000 in
set_option maxRecDepth 100000 in
theorem resolve_call (l : List UInt8) (w : World) (hl : l.length ≤ 140737488355328) :
    Calls Try.prog 37 #[.string (str l)] w (ResPost w (resB [] (partsB l))) := by
  have hN := partsB_le l
  obtain ⟨R, hR⟩ : ∃ R, R = resB [] (partsB l) := ⟨_, rfl⟩
  rw [← hR]
  have hR0 := hR.symm
  clear hR
  have hKA0 : KA (w.alloc (.cells #[.string ⟨#[]⟩, .string ⟨#[]⟩, .string ⟨#[]⟩, .string ⟨#[]⟩, .string ⟨#[]⟩, .string ⟨#[]⟩, .string ⟨#[]⟩, .string ⟨#[]⟩] 60)) w.heap.size [] := by
    refine ⟨_, heap_alloc_new _ _, rfl, fun i hi => ⟨[], ?_, by simp⟩⟩
    match i, hi with
    | 0, _ => rfl
    | 1, _ => rfl
    | 2, _ => rfl
    | 3, _ => rfl
    | 4, _ => rfl
    | 5, _ => rfl
    | 6, _ => rfl
    | 7, _ => rfl
  go_enter Try.func37, Try.ntmps37
  go_wp2_with fail
  refine (parts_call l _ hl).mono ?_
  rintro e w1 ⟨m1, a1, rfl, hP1, hK1, hm1, ha1⟩
  have hKA1 := hKA0.kept hK1 (by simp)
  have hKw1 : Kept [] w w1 := ((Kept.refl [] w).alloc _).trans hK1 (by simp)
  have hm1' : w.heap.size < m1 := by simp at hm1; omega
  have ha1' : w.heap.size < a1 := by simp at ha1; omega
  have d1 : w.heap.size ∉ [m1, a1] := by simp; omega
  have d2 : ∀ i ∈ [m1, a1], i ∈ ([] : List Nat) ∨ w.heap.size ≤ i := by simp; omega
  clear hKA0 hm1 ha1 hK1
  go_wp2_with fail
  refine (next_any w1 m1 a1 _ hP1).mono ?_
  rintro e w2 ⟨P0, M0, rfl, hN2, hK2⟩
  have hKA2 := hKA1.kept hK2 d1
  have hKw2 := hKw1.trans hK2 d2
  clear hKA1 hKw1 hP1 hK2
  go_wp2_with fail
  go_loopw [5, 7, 8] (fun d pv mv wr => ∃ (k rs : List (List UInt8)) (P : ByteArray) (M : Bool), d = .int .i64 k.length ∧ pv = .string P ∧ mv = .bool M ∧ Nx wr m1 a1 rs P M ∧ KA wr w.heap.size k ∧ resB k rs = R ∧ Kept [] w wr ∧ k.length + rs.length ≤ (partsB l).length) (fun _ _ mv wr => leftOf m1 a1 wr + moreOf mv)
  case atStart => exact ⟨[], partsB l, P0, M0, rfl, rfl, rfl, hN2, hKA2, hR0, hKw2, by simp⟩
  case round =>
    obtain ⟨k, rs, P, M, rfl, rfl, rfl, hNx, hKA, hres, hKw, hlen⟩ := hrel
    clear hN2 hKA2 hR0 hKw2
    have hleft := hNx.left
    rcases hNx with ⟨rfl, rfl, rfl, hP⟩ | ⟨p, ps, rfl, rfl, rfl, hP⟩
    · simp only [resB] at hres
      clear hleft
      by_cases h0 : k = []
      · subst h0
        go_wp2_with fail
        go_ret2
        exact ⟨hKw, .inr ⟨fun k hk => by rw [← hres] at hk; cases hk; exact .inl rfl, rfl⟩⟩
      · have h0' : 0 < k.length := List.length_pos_iff.2 h0
        have h0i : 0 < (k.length : Int) := by omega
        have hz : ((k.length : Int) == 0) = false := by simpa using h0
        by_cases h8 : k.length ≤ 8
        · have h8i : (k.length : Int) ≤ 8 := by omega
          go_wp2_with fail
          go_ret2
          exact ⟨hKw, .inl ⟨k, w.heap.size, hres.symm, h0, h8, by simp, by have := hP.lt; omega, Nat.le_refl _, hKA⟩⟩
        · have h8i : 8 < (k.length : Int) := by omega
          go_wp2_with fail
          go_ret2
          exact ⟨hKw, .inr ⟨fun k' hk => by rw [← hres] at hk; cases hk; exact .inr (by omega), rfl⟩⟩
    · have hkl : (k.length : Int) ≤ 140737488355329 := by simp at hlen; omega
      have hk0 : (0 : Int) ≤ k.length := by omega
      simp only [resB] at hres
      by_cases e0 : p = []
      · subst e0
        have t0 := str_void
        rw [if_pos (.inl rfl)] at hres
        go_wp2_with fail
        refine (next_any _ m1 a1 ps hP).mono ?_
        rintro e w3 ⟨P3, M3, rfl, hN3, hK3⟩
        have hl3 := hN3.left
        go_wp2_with fail
        go_roundw
        case rel => exact ⟨k, ps, P3, M3, rfl, rfl, rfl, hN3, (hKA).kept hK3 d1, hres, (hKw).trans hK3 d2, by simp at hlen ⊢; omega⟩
        case measure => show leftOf m1 a1 w3 + moreOf (Value.bool M3) < leftOf m1 a1 wr + moreOf (Value.bool true); rw [hl3, hleft]; simp
      · have t0 := str_full e0
        by_cases e1 : p = [46]
        · subst e1
          have t1 : ((str [46]).toList == [46]) = true := by rw [str_toList]; rfl
          rw [if_pos (.inr rfl)] at hres
          go_wp2_with fail
          refine (next_any _ m1 a1 ps hP).mono ?_
          rintro e w3 ⟨P3, M3, rfl, hN3, hK3⟩
          have hl3 := hN3.left
          go_wp2_with fail
          go_roundw
          case rel => exact ⟨k, ps, P3, M3, rfl, rfl, rfl, hN3, (hKA).kept hK3 d1, hres, (hKw).trans hK3 d2, by simp at hlen ⊢; omega⟩
          case measure => show leftOf m1 a1 w3 + moreOf (Value.bool M3) < leftOf m1 a1 wr + moreOf (Value.bool true); rw [hl3, hleft]; simp
        · have t1 : ((str p).toList == [46]) = false := by rw [str_toList]; simpa using e1
          rw [if_neg (by simp [e0, e1])] at hres
          by_cases e2 : p = [46, 46]
          · subst e2
            have t2 : ((str [46, 46]).toList == [46, 46]) = true := by rw [str_toList]; rfl
            rw [if_pos rfl] at hres
            by_cases h0 : k = []
            · subst h0
              rw [if_pos rfl] at hres
              go_wp2_with fail
              go_ret2
              exact ⟨hKw, .inr ⟨fun k hk => (by rw [← hres] at hk; cases hk), rfl⟩⟩
            · have h0' : 0 < k.length := List.length_pos_iff.2 h0
              have h0i : 0 < (k.length : Int) := by omega
              rw [if_neg h0] at hres
              go_wp2_with fail
              refine (next_any _ m1 a1 ps hP).mono ?_
              rintro e w3 ⟨P3, M3, rfl, hN3, hK3⟩
              have hl3 := hN3.left
              go_wp2_with fail
              go_roundw
              case rel => exact ⟨k.dropLast, ps, P3, M3, by simp only [List.length_dropLast]; congr 1; omega, rfl, rfl, hN3, (hKA.pop).kept hK3 d1, hres, (hKw).trans hK3 d2, by simp at hlen ⊢; omega⟩
              case measure => show leftOf m1 a1 w3 + moreOf (Value.bool M3) < leftOf m1 a1 wr + moreOf (Value.bool true); rw [hl3, hleft]; simp
          · have t2 : ((str p).toList == [46, 46]) = false := by rw [str_toList]; simpa using e2
            rw [if_neg e2] at hres
            by_cases h8 : k.length < 8
            · have h8i : (k.length : Int) < 8 := by omega
              obtain ⟨⟨s0, hcell, _⟩, hfree⟩ := hKA.cell k.length h8
              go_wp2_with fail
              refine (next_any _ m1 a1 ps (hP.kept ((Kept.refl [w.heap.size] wr).setCell (by simp) _) (by simp; omega) (by simp; omega))).mono ?_
              rintro e w3 ⟨P3, M3, rfl, hN3, hK3⟩
              have hl3 := hN3.left
              go_wp2_with fail
              go_roundw
              case rel => exact ⟨k ++ [p], ps, P3, M3, by simp, rfl, rfl, hN3, (hKA.push p h8).kept hK3 d1, hres, (hKw.setCell (.inr (Nat.le_refl _)) _).trans hK3 d2, by simp at hlen ⊢; omega⟩
              case measure => show leftOf m1 a1 w3 + moreOf (Value.bool M3) < leftOf m1 a1 wr + moreOf (Value.bool true); rw [hl3, hleft]; simp
            · have h8i : ¬ (k.length : Int) < 8 := by omega
              go_wp2_with fail
              refine (next_any _ m1 a1 ps hP).mono ?_
              rintro e w3 ⟨P3, M3, rfl, hN3, hK3⟩
              have hl3 := hN3.left
              go_wp2_with fail
              go_roundw
              case rel => exact ⟨k ++ [p], ps, P3, M3, by simp, rfl, rfl, hN3, (hKA.far p (by omega)).kept hK3 d1, hres, (hKw).trans hK3 d2, by simp at hlen ⊢; omega⟩
              case measure => show leftOf m1 a1 w3 + moreOf (Value.bool M3) < leftOf m1 a1 wr + moreOf (Value.bool true); rw [hl3, hleft]; simp

end Go.Proofs.Ytdmlcgmajpjmdaa
