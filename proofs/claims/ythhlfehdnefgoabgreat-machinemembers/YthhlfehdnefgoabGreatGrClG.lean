/-
  Clone of a graph.
-/
import Derived.Test.YthhlfehdnefgoabGreatGrLib
import Derived.Test.YthhlfehdnefgoabGreatQ11
import Derived.Handy
namespace Go.Proofs.YthhlfehdnefgoabGreat
open Go.RowKit

theorem row_slice {B : Nat} {w : World} {v : Value} {K : List (Com × Value)} (h : RowK B w v K) : ∃ ao n c, v = .slice ao n c := by
  obtain ⟨_, h2⟩ := h
  rcases h2 with ⟨h3, _⟩ | ⟨g, cap, cur, h3, _⟩
  · exact ⟨_, _, _, h3⟩
  · exact ⟨_, _, _, h3⟩

/-- A clone that goes its own way. -/
def ClP (w : World) (G : Gr) (e : Ending) (w' : World) : Prop := ∃ b S, e = .returned (.pointer (some ⟨b, 0, none⟩)) ∧ GAt w' b S G ∧ Kept [] w w' ∧ ∀ k ∈ S, w.heap.size ≤ k

theorem clone_end {w w4 : World} {b b2 mb : Nat} {v v' : Value} {p : Option Addr} {t : Tr} {K : List (Com × Value)} {G : Gr} (h : GA w b v p t mb K G) (hK : Kept [] w w4) (hR : RowK w.heap.size w4 v' K) (hm : w4.ownsMap Tryz.prog 9 mapR b2 G.rs.length (rsD G.rs)) (hb2 : w.heap.size ≤ b2) :
    Hid (GAt (w4.alloc (.cells #[v', .pointer p, .map (some b2)] 96)) w4.heap.size (ownS w4.heap.size b2 v') G ∧ Kept [] w (w4.alloc (.cells #[v', .pointer p, .map (some b2)] 96)) ∧ ∀ k ∈ ownS w4.heap.size b2 v', w.heap.size ≤ k) := by
  have ha := (Kept.refl [] w4).alloc (.cells #[v', .pointer p, .map (some b2)] 96)
  have h4 := (h.kept hK).kept ha
  refine ⟨⟨v', p, t, b2, K, ⟨heap_alloc_new _ _, ?_, h4.own, h4.com, h4.tree, h4.some_, h4.list, h4.good, map_kept ha hm (by simp)⟩, rfl⟩, hK.trans ha (by simp), fun k hk => ?_⟩
  · obtain ⟨h1, h2⟩ := ha.ownsRow hR (by simp)
    exact ⟨h1, h2.imp id fun ⟨g, cap, cur, hv, hg, r⟩ => ⟨g, cap, cur, hv, Nat.zero_le _, r⟩⟩
  · rcases List.mem_cons.1 hk with rfl | hk
    · exact hK.size
    rcases List.mem_cons.1 hk with rfl | hk
    · exact hb2
    · exact (World.ownsRow.lt hR k (mem_own.1 hk)).1

set_option maxHeartbeats 4000000 in
theorem gclone_call {w : World} {b : Nat} {v : Value} {p : Option Addr} {t : Tr} {mb : Nat} {K : List (Com × Value)} {G : Gr} (h : GA w b v p t mb K G) (hl : G.cs.length ≤ 10000) :
    Calls Tryz.prog 38 #[.pointer (some ⟨b, 0, none⟩)] w fun e w' => ClP w G e w' := by
  obtain ⟨ao, c, rfl, hs, hnil⟩ := h.row.sl h.own
  have hkl : K.length = G.cs.length := by rw [← h.com]; simp
  have cM := made_call h
  have cK := fun W (hk : Kept [] w W) => cloneK_call W ao K.length c K (hs.kept hk) hnil (by omega)
  have cC := fun W (hk : Kept [] w W) => mclone_call W mb G.rs.length (rsD G.rs) (h.kept hk).map
  obtain ⟨c0, c1, c2⟩ := cells3 h.at_
  have HG : Hid (GA w b (.slice ao K.length c) p t mb K G) := h
  obtain ⟨n, hn⟩ : ∃ n, n = K.length := ⟨_, rfl⟩
  rw [← hn] at c0 cK
  clear h hs hnil hkl hl hn
  go_enter Tryz.func38, Tryz.ntmps38
  go_wp2_with fail
  refine cM.mono ?_
  rintro _ W ⟨rfl, hW0⟩
  obtain rfl := hW0.symm
  go_wp2_with fail
  go_region_held3 (fun w' => w'.cell? ⟨b, 0, none⟩ = some (.slice ao n c) ∧ w'.cell? ⟨b, 1, none⟩ = some (.pointer p) ∧ w'.cell? ⟨b, 2, none⟩ = some (.map (some mb)))
    (first | go_keep | exact ⟨hK4.cell c0 (by simp), hK4.cell c1 (by simp), hK4.cell c2 (by simp)⟩ | exact ⟨hK3.cell c0 (by simp), hK3.cell c1 (by simp), hK3.cell c2 (by simp)⟩)
    (first
      | (go_at_call 62; refine (cK _ ?_).mono ?_; exact (Kept.refl [] _).drew; rintro e w3 ⟨v3, rfl, hR3, hK3⟩; obtain ⟨ao3, n3, c3, rfl⟩ := row_slice hR3; replace hK3 := (Kept.refl [] w).drew.trans hK3 (by simp))
      | (go_at_call 63; refine (cC _ hK3).mono ?_; rintro e w4 ⟨mb4, rfl, hlt4, hm4, hK4'⟩; have hK4 := hK3.trans hK4' (by simp)))
  have HE := clone_end (b2 := mb4) (v' := .slice ao3 n3 c3) HG.out hK4 (hK4'.ownsRow hR3 (by simp)) hm4 (Nat.le_trans hK3.size hlt4)
  clear hR3 hm4 hK4' hK3 hK4
  go_wp2_with fail
  go_ret
  exact ⟨_, _, rfl, HE.out.1, HE.out.2.1, HE.out.2.2⟩

end Go.Proofs.YthhlfehdnefgoabGreat
