/-
  New, made, chain, Head.
-/
import Derived.Test.YtfoghemiaidnhaaGreatM7
import Derived.Test.YtfoghemiaidnhaaGreatChKept
namespace Go.Proofs.YtfoghemiaidnhaaGreat
open Go.RowKit

/-- A verdict as a value; k: its commits. -/
def vdW (v : Vd) (k : Value) : Value := .agg #[.int .i64 v.c, .int .i64 0, .int .i64 v.r, .string (str v.p), .int .u64 v.d, k, .int .i64 0]
def vdV (v : Vd) : Value := vdW v (.slice none 0 0)

theorem string_keys : Maps.Keyed Tryz.prog 9 := Maps.string_keyed Tryz.underlying9

set_option maxHeartbeats 1000000 in
theorem tnew_call (w : World) :
    Calls Tryz.prog 25 #[] w fun e w' => ∃ b, e = .returned (.pointer (some ⟨b, 0, none⟩)) ∧ TAt w'.heap.size w' (some ⟨b, 0, none⟩) .nil ∧ Kept [] w w' := by
  go_enter Tryz.func25, Tryz.ntmps25
  go_wp2
  go_ret
  exact ⟨_, rfl, .inr ⟨w.heap.size, none, rfl, by simp, heap_alloc_new w _, rfl⟩, (Kept.refl _ _).alloc _⟩

set_option maxHeartbeats 1000000 in
theorem gnew_call (w : World) :
    Calls Tryz.prog 8 #[] w fun e w' => ∃ b S, e = .returned (.pointer (some ⟨b, 0, none⟩)) ∧ GAt w' b S voidG ∧ Kept [] w w' ∧ ∀ k ∈ S, w.heap.size ≤ k := by
  have hmk : ∀ W : World, (Instr.makeMap 67 none).run Tryz.prog W = .ok (.map (some W.heap.size)) (W.alloc (.map #[] 0)) := fun _ => rfl
  go_enter Tryz.func8, Tryz.ntmps8
  go_wp2_with fail
  refine (tnew_call w).mono ?_
  rintro e w1 ⟨tb, rfl, hT, hK1⟩
  go_wp2
  go_ret
  have hs := hK1.size
  have hK2 : Kept [] w1 (w1.alloc (.map #[] 0)) := (Kept.refl _ _).alloc _
  have hK3 : Kept [] (w1.alloc (.map #[] 0)) ((w1.alloc (.map #[] 0)).alloc (.cells #[.slice none 0 0, .pointer (some ⟨tb, 0, none⟩), .map (some w1.heap.size)] 69)) := (Kept.refl _ _).alloc _
  have hK : Kept [] w1 ((w1.alloc (.map #[] 0)).alloc (.cells #[.slice none 0 0, .pointer (some ⟨tb, 0, none⟩), .map (some w1.heap.size)] 69)) := hK2.trans hK3 (by simp)
  have hnew := heap_alloc_new (w1.alloc (.map #[] 0)) (.cells #[.slice none 0 0, .pointer (some ⟨tb, 0, none⟩), .map (some w1.heap.size)] 69)
  rw [World.size_alloc] at hnew
  refine ⟨_, _, rfl, ⟨_, some ⟨tb, 0, none⟩, .nil, w1.heap.size, [], ⟨hnew, RowK.nil _ _, (fun x hx => by simp at hx), rfl, (hT.kept hK).full, by simp, rfl, good_nil, ?_⟩, rfl⟩, hK1.trans hK (by simp), ?_⟩
  · exact map_kept hK3 (World.ownsMap_made w1 _ _ _) (by simp)
  · intro k hk
    simp [ownS, Value.ownBlock] at hk
    rcases hk with rfl | rfl
    · omega
    · exact hs

set_option maxHeartbeats 1000000 in
theorem made_call {w : World} {b : Nat} {v : Value} {p : Option Addr} {t : Tr} {mb : Nat} {K : List (Com × Value)} {G : Gr} (h : GA w b v p t mb K G) :
    Calls Tryz.prog 26 #[.pointer (some ⟨b, 0, none⟩)] w fun e w' => e = .returned (.bool true) ∧ w' = w := by
  obtain ⟨c0, c1, c2⟩ := cells3 h.at_
  have hp := h.some_
  clear h
  cases p with
  | none => exact absurd rfl hp
  | some ad =>
    clear hp
    go_enter Tryz.func26, Tryz.ntmps26
    go_wp2
    go_ret
    exact ⟨rfl, rfl⟩

set_option maxHeartbeats 1000000 in
theorem chain_call {w : World} {b : Nat} {v : Value} {p : Option Addr} {t : Tr} {mb : Nat} {K : List (Com × Value)} {G : Gr} (h : GA w b v p t mb K G) :
    Calls Tryz.prog 51 #[.pointer (some ⟨b, 0, none⟩)] w fun e w' => e = .returned v ∧ w' = w := by
  obtain ⟨c0, c1, c2⟩ := cells3 h.at_
  clear h
  go_enter Tryz.func51, Tryz.ntmps51
  go_wp2
  go_ret
  exact ⟨rfl, rfl⟩

set_option maxHeartbeats 1000000 in
theorem head_call {w : World} {b : Nat} {v : Value} {p : Option Addr} {t : Tr} {mb : Nat} {K : List (Com × Value)} {G : Gr} (h : GA w b v p t mb K G) :
    Calls Tryz.prog 24 #[.pointer (some ⟨b, 0, none⟩)] w fun e w' => e = .returned (.int .i64 (G.cs.length : Int)) ∧ w' = w := by
  obtain ⟨ao, c, rfl, hs, _⟩ := h.row.sl h.own
  have hl : G.cs.length = K.length := by rw [← h.com]; simp
  rw [hl]
  have cC := chain_call h
  have hm := hs.2.2.1
  have hc := hs.2.1
  clear h hl hs
  generalize K.length = n at *
  go_enter Tryz.func24, Tryz.ntmps24
  go_wp2_with fail
  refine cC.mono ?_
  rintro e w1 ⟨rfl, rfl⟩
  go_wp2
  go_ret
  exact ⟨rfl, rfl⟩

theorem ghead_call {w : World} {b : Nat} {S : List Nat} {G : Gr} (h : GAt w b S G) :
    Calls Tryz.prog 24 #[.pointer (some ⟨b, 0, none⟩)] w fun e w' => e = .returned (.int .i64 (G.cs.length : Int)) ∧ w' = w := by
  obtain ⟨v, p, t, mb, K, hG, rfl⟩ := h
  exact head_call hG

end Go.Proofs.YtfoghemiaidnhaaGreat
