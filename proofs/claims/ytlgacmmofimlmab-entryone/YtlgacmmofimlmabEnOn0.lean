/-
  EntryOne: what its walk needs.
-/
import Derived.Test.YtlgacmmofimlmabEnBa0
import Derived.Test.YtlgacmmofimlmabF13
namespace Go.Proofs.Ytlgacmmofimlmab
open Go.RowKit

theorem cell_lt {w : World} {b o : Nat} {v : Value} (h : w.cell? ⟨b, o, none⟩ = some v) : b < w.heap.size := by
  unfold World.cell? at h
  by_cases hlt : b < w.heap.size
  · exact hlt
  · rw [show w.heap[(⟨b, o, none⟩ : Addr).block]? = none from Array.getElem?_eq_none (by show w.heap.size ≤ b; omega)] at h
    simp at h

theorem chD_of {w : World} {v : Value} {L : List Ch} (h : ChV w v L) : ChD [] w v L := by
  obtain ⟨ao, n, c, e, hS, h0⟩ := h
  refine ⟨ao, n, c, e, hS, h0, fun hn k hk => ⟨?_, by simp⟩⟩
  obtain ⟨b, o, rfl, hc⟩ := hS.some hn
  simp [blk] at hk
  subst hk
  exact cell_lt (hc 0 (by rw [hS.1]; exact hn)).c0

/-- A verdict that came in, as one that is gone through. -/
theorem vtHy_of {w : World} {v : Vt} {u : Value} (h : KoV w u v.k) (hi : inV v) : VtHy [] w v u := by
  obtain ⟨ao, n, c, K, e, hS, hK, h0⟩ := h
  refine ⟨⟨ao, n, c, K, e, ⟨hS.1, hS.2.1, hS.2.2.1, h0, hS.2.2.2.1, fun hn k hk => ⟨?_, by simp⟩, fun x hx => chD_of (hS.2.2.2.2 x hx)⟩, hK⟩, hi.1, fun y hy => ⟨(hi.2.2.1 y hy).1, fun z hz => ?_⟩⟩
  · obtain ⟨b, o, rfl, hc⟩ := hS.some hn
    simp [blk] at hk
    subst hk
    exact cell_lt (hc 0 (by rw [hS.1]; exact hn)).c0
  · exact ((hi.2.2.1 y hy).2.2 z hz).1

theorem inV_u {v : Vt} (h : inV v) : U64v v := ⟨h.2.2.2.2, fun x hx c hc => ((h.2.2.1 x hx).2.2 c hc).2⟩

theorem enc_mayO {r : Rq} (h : mayR r = true) : putS ([], 0) r = (bR r, 0) := by rw [enc_one, if_pos h]
theorem enc_maynO {r : Rq} (h : ¬ mayR r = true) : putS ([], 0) r = ([], 1) := by rw [enc_one, if_neg h]

theorem encV_may {v : Vt} (h : mayV v = true) : toldS ([], 0) v = (bV v, 0) := by rw [encV_one, if_pos h]
theorem encV_mayn {v : Vt} (h : ¬ mayV v = true) : toldS ([], 0) v = ([], 1) := by rw [encV_one, if_neg h]

/-- Whose bytes are a beginning of whose. -/
theorem begins_iff {a b : Rq} (ha : okReq a) (hb : okReq b) : bR a = (bR b).take (bR a).length ↔ a = b := by
  constructor
  · intro h
    exact bR_begins ha hb (t := (bR b).drop (bR a).length) (by
      have h1 := (List.take_append_drop (bR a).length (bR b)).symm
      rw [← h] at h1
      exact h1)
  · rintro rfl; rw [List.take_length]

theorem bytes_iff {a b : Vt} (ha : okVer a) (hb : okVer b) : bV a = bV b ↔ a = b := ⟨bV_one ha hb, fun h => by rw [h]⟩

theorem min2 {P : Program} (ts : Array TypeId) (t : TypeId) (W : World) (x y : Int) (h : x ≤ y) : (Builtin.min_ ts t #[.int .i64 x, .int .i64 y]).run P W = .ok (.int .i64 x) W := by
  have e : (if y < x then y else x) = x := if_neg (by omega)
  simp [Builtin.min_, Builtin.min2, e]

end Go.Proofs.Ytlgacmmofimlmab
