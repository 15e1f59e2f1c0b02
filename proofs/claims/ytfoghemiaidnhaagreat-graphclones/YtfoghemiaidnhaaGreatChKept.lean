/-
  Rows that were just laid; whether two lists are the same, as what stays.
-/
import Derived.Test.YtfoghemiaidnhaaGreatChSort
import Derived.Test.YtfoghemiaidnhaaGreatChChk
import Derived.Test.YtfoghemiaidnhaaGreatChSame
namespace Go.Proofs.YtfoghemiaidnhaaGreat
open Go.RowKit

theorem SlC.lit (w : World) (L : List Ch) {n : Nat} (hn : n = L.length) (hm : n ≤ maxLen) {vs : Array Value} (hv : vs = (L.flatMap chC).toArray) : SlC (w.alloc (.cells vs 31)) (Option.some ⟨w.heap.size, 0, none⟩) n n L := by
  subst hn
  subst hv
  have h := heap_alloc_new w (.cells (L.flatMap chC).toArray 31)
  refine ⟨rfl, Nat.le_refl _, hm, fun i hi => ⟨w.heap.size, 0, rfl, ?_⟩⟩
  have e : ∀ j, j < 3 → (L.flatMap chC).toArray[i * 3 + j]? = (chC L[i])[j]? := fun j hj => by
    rw [List.getElem?_toArray]; exact chC_get L i hi j hj
  rw [Nat.zero_add]
  exact ⟨cell_inC h (e 0 (by omega)), cell_inC h (e 1 (by omega)), cell_inC h (e 2 (by omega))⟩

theorem drewN_kept (w : World) (n : Nat) : Kept [] w (w.drewN n) := ⟨rfl, rfl, rfl, Nat.le_refl _, fun _ _ _ => rfl⟩

theorem same_kept (w : World) (ao bo : Option Addr) (n m c d : Nat) (L M : List Ch) (hL : SlC w ao n c L) (hM : SlC w bo m d M) :
    Calls Tryz.prog 77 #[.slice ao n c, .slice bo m d] w fun r w' => r = .returned (.bool (decide (L = M))) ∧ Kept [] w w' :=
  (same_callC w ao bo n m c d L M hL hM).mono fun _ _ ⟨h1, q, h2⟩ => ⟨h1, by rw [h2]; exact drewN_kept w q⟩

theorem rsame_kept (w : World) (ao bo : Option Addr) (n m c d : Nat) (L M : List Ch) (hL : SlC w ao n c L) (hM : SlC w bo m d M) :
    Calls Tryz.prog 78 #[.slice ao n c, .slice bo m d] w fun r w' => r = .returned (.bool (decide (L = M))) ∧ Kept [] w w' :=
  (rsame_call w ao bo n m c d L M hL hM).mono fun _ _ ⟨h1, q, h2⟩ => ⟨h1, by rw [h2]; exact drewN_kept w q⟩

end Go.Proofs.YtfoghemiaidnhaaGreat
