/-
  awake; chapter 4's examples.
-/
import Derived.Test.YtdmlcgmajpjmdaaChSort
import Derived.Test.YtdmlcgmajpjmdaaChChk
namespace Go.Proofs.Ytdmlcgmajpjmdaa
open Go.RowKit

/-- Changes that were just laid. -/
theorem SlC.lit (w : World) (L : List Ch) {n : Nat} (hn : n = L.length) (hm : n ≤ maxLen) {vs : Array Value} (hv : vs = (L.flatMap chC).toArray) : SlC (w.alloc (.cells vs 27)) (Option.some ⟨w.heap.size, 0, none⟩) n n L := by
  subst hn
  subst hv
  have h := heap_alloc_new w (.cells (L.flatMap chC).toArray 27)
  refine ⟨rfl, Nat.le_refl _, hm, fun i hi => ⟨w.heap.size, 0, rfl, ?_⟩⟩
  have e : ∀ j, j < 3 → (L.flatMap chC).toArray[i * 3 + j]? = (chC L[i])[j]? := fun j hj => by
    rw [List.getElem?_toArray]; exact chC_get L i hi j hj
  rw [Nat.zero_add]
  exact ⟨cell_inC h (e 0 (by omega)), cell_inC h (e 1 (by omega)), cell_inC h (e 2 (by omega))⟩

theorem drewN_kept (w : World) (n : Nat) : Kept [] w (w.drewN n) := ⟨rfl, rfl, rfl, Nat.le_refl _, fun _ _ _ => rfl⟩

theorem same_kept (w : World) (ao bo : Option Addr) (n m c d : Nat) (L M : List Ch) (hL : SlC w ao n c L) (hM : SlC w bo m d M) :
    Calls Try.prog 14 #[.slice ao n c, .slice bo m d] w fun r w' => r = .returned (.bool (decide (L = M))) ∧ Kept [] w w' :=
  (same_callC w ao bo n m c d L M hL hM).mono fun _ _ ⟨h1, q, h2⟩ => ⟨h1, by rw [h2]; exact drewN_kept w q⟩

theorem rsame_kept (w : World) (ao bo : Option Addr) (n m c d : Nat) (L M : List Ch) (hL : SlC w ao n c L) (hM : SlC w bo m d M) :
    Calls Try.prog 11 #[.slice ao n c, .slice bo m d] w fun r w' => r = .returned (.bool (decide (L = M))) ∧ Kept [] w w' :=
  (rsame_call w ao bo n m c d L M hL hM).mono fun _ _ ⟨h1, q, h2⟩ => ⟨h1, by rw [h2]; exact drewN_kept w q⟩

set_option maxHeartbeats 4000000 in
set_option maxRecDepth 100000 in
theorem awake_callC (w : World) :
    Calls Try.prog 7 #[] w fun e w' => e = .returned (.bool true) ∧ Kept [] w w' := by
  have hK0 := (Kept.refl [] w).alloc (.cells #[.string ⟨#[98]⟩, .bool false, .int .u64 1, .string ⟨#[97]⟩, .bool true, .int .u64 0] 27)
  have hS0 : SlC (w.alloc (.cells #[.string ⟨#[98]⟩, .bool false, .int .u64 1, .string ⟨#[97]⟩, .bool true, .int .u64 0] 27)) (some ⟨w.heap.size, 0, none⟩) 2 2 [⟨[98], false, 1⟩, ⟨[97], true, 0⟩] :=
    SlC.lit w [⟨[98], false, 1⟩, ⟨[97], true, 0⟩] rfl (by simp [maxLen]) rfl
  have hS1 := fun W (h : Kept [] (w.alloc (.cells #[.string ⟨#[98]⟩, .bool false, .int .u64 1, .string ⟨#[97]⟩, .bool true, .int .u64 0] 27)) W) => hS0.kept h (by simp)
  have cS := sorted_call _ _ _ _ _ hS0 (by simp) (by omega) (by simp)
  rw [show sortC [⟨[98], false, 1⟩, ⟨[97], true, 0⟩] = [⟨[97], true, 0⟩, ⟨[98], false, 1⟩] by decide] at cS
  have cC := fun W h => check_call W _ _ _ _ (hS1 W h) (by simp)
  rw [show errC [⟨[98], false, 1⟩, ⟨[97], true, 0⟩] = 0 from errC_ok ((checkOK_iff _).2 (by decide))] at cC
  go_enter Try.func7, Try.ntmps7
  go_wp2_with fail
  refine cS.mono ?_
  rintro e w1 ⟨v, rfl, hO, hK1⟩
  obtain ⟨ao, c, hv, hS2⟩ := hO.sl
  obtain ⟨b, o, rfl, _⟩ := hS2.some (by decide)
  replace hv : v = .slice (some ⟨b, o, none⟩) 2 c := hv
  subst hv
  replace hS2 : SlC w1 (some ⟨b, o, none⟩) 2 c [⟨[97], true, 0⟩, ⟨[98], false, 1⟩] := hS2
  have HS2 : Hid (SlC w1 (some ⟨b, o, none⟩) 2 c [⟨[97], true, 0⟩, ⟨[98], false, 1⟩]) := hS2
  clear hO hS2 hS0 cS
  go_wp2_with fail
  refine (cC _ hK1).mono ?_
  rintro e w2 ⟨rfl, hK2⟩
  have hKw := (hK0.trans hK1 (by simp)).trans hK2 (by simp)
  have HS3 : Hid (SlC w2 (some ⟨b, o, none⟩) 2 c [⟨[97], true, 0⟩, ⟨[98], false, 1⟩]) := HS2.out.kept hK2 (by simp)
  have c0 : w2.cell? ⟨b, o, none⟩ = some (.string ⟨#[97]⟩) := by
    obtain ⟨b', o', e, h⟩ := HS3.out.2.2.2 0 (by decide)
    cases e
    exact h.c0
  have hc2 := HS3.out.2.1
  have e1 := same_callC _ _ _ _ _ _ _ _ _ HS3.out HS3.out
  have e2 := fun n => same_callC _ _ _ _ _ _ _ _ _ (HS3.out.kept (drewN_kept w2 n) (by simp)) (hS1 _ ((hK1.trans hK2 (by simp)).trans (drewN_kept w2 n) (by simp)))
  rw [decide_eq_true rfl] at e1
  replace e2 : ∀ n, Calls Try.prog 14 #[.slice (some ⟨b, o, none⟩) 2 c, .slice (some ⟨w.heap.size, 0, none⟩) 2 2] (w2.drewN n) fun r w' => r = .returned (.bool false) ∧ ∃ q, w' = (w2.drewN n).drewN q := e2
  clear hK0 hK1 hK2 cC HS2 hS1
  go_wp2_with fail
  refine e1.mono ?_
  rintro e w3 ⟨rfl, q, rfl⟩
  go_wp2_with fail
  refine (e2 q).mono ?_
  rintro e w4 ⟨rfl, q', rfl⟩
  have hKf : Kept [] w (w2.drewN (q + q')) := hKw.trans (drewN_kept w2 _) (by simp)
  clear e1 e2 hKw
  go_wp2_with fail
  go_ret
  exact ⟨rfl, hKf⟩

end Go.Proofs.Ytdmlcgmajpjmdaa
