/-
  Leaves.
-/
import Derived.Test.YtfoghemiaidnhaaGreatGrAwake
import Derived.Test.YtfoghemiaidnhaaGreatTrTold
namespace Go.Proofs.YtfoghemiaidnhaaGreat
open Go.RowKit

theorem leaves_call {w : World} {b : Nat} {v : Value} {p : Option Addr} {t : Tr} {mb : Nat} {K : List (Com × Value)} {G : Gr} (h : GA w b v p t mb K G) (hl : G.ls.length ≤ 1000000) :
    Calls Tryz.prog 45 #[.pointer (some ⟨b, 0, none⟩)] w fun e w' => ∃ v', e = .returned v' ∧ OwnL w.heap.size w' v' G.ls ∧ Kept [] w w' := by
  have cM := made_call h
  have cA := tAll_call _ w p t h.tree (by rw [← tr_size, h.list]; omega) h.good.1
  rw [h.list] at cA
  obtain ⟨c0, c1, c2⟩ := cells3 h.at_
  clear h
  go_enter Tryz.func45, Tryz.ntmps45
  go_wp2_with fail
  refine cM.mono ?_
  rintro _ _ ⟨rfl, rfl⟩
  go_wp2_with fail
  refine cA.mono ?_
  rintro _ w1 ⟨v1, rfl, hO, hK⟩
  go_wp2_with fail
  go_ret
  exact ⟨v1, rfl, hO, hK⟩

theorem live_leaves {w0 w : World} {b : Nat} {G : Gr} (h : Live w0 w b G) (hl : G.ls.length ≤ 1000000) :
    Calls Tryz.prog 45 #[.pointer (some ⟨b, 0, none⟩)] w fun e w' => ∃ v', e = .returned v' ∧ OwnL w.heap.size w' v' G.ls ∧ Kept [] w w' := by
  obtain ⟨S, ⟨v, p, t, mb, K, hG, rfl⟩, h2, h3⟩ := h
  exact leaves_call hG hl

end Go.Proofs.YtfoghemiaidnhaaGreat
