/-
  awake: a member comes, alpha slots later.
-/
import Derived.Test.YtddkaagdkmmknabEpNew
import Derived.Test.YtddkaagdkmmknabEpChange
import Derived.Test.YtddkaagdkmmknabEpAt
namespace Go.Proofs.Ytddkaagdkmmknab
open Go.RowKit

theorem newE_ok (w : World) (ao : Option Addr) (n c : Nat) (m : List Int) (hS : SlI w ao n c m) (al : Int) (hm : May m) (ha : 1 ≤ al ∧ al ≤ 8) :
    Calls Try.prog 5 #[.slice ao n c, .int .i64 al] w fun e w' => ∃ p : Nat, e = .returned (.tuple #[.pointer (some ⟨p, 0, none⟩), .int .i64 0]) ∧ EpA w.heap.size w' p al [⟨0, m⟩] ∧ Kept [] w w' :=
  (newE_call w ao n c m hS al).mono fun e w' h => by
    rcases h with ⟨_, h⟩ | ⟨h, _⟩
    · exact h
    · exact absurd ⟨hm, ha⟩ h

theorem SlI.lit (w : World) (l : List Int) (t : TypeId) (vs : Array Value) (n : Nat) (hn : l.length = n) (hv : vs = (l.map (Value.int .i64)).toArray) (hl : n ≤ 1000) : SlI (w.alloc (.cells vs t)) (some ⟨w.heap.size, 0, none⟩) n n l := by
  subst hn; subst hv
  refine ⟨rfl, Nat.le_refl _, by unfold maxLen; omega, fun i hi => ⟨w.heap.size, 0, rfl, ?_⟩⟩
  rw [Nat.zero_add]
  exact cell_inC (heap_alloc_new w _) (by simp [hi])

/-- A result that is a row of numbers. -/
def RsI (w : World) (l : List Int) (e : Ending) (w' : World) : Prop := ∃ ao c, e = .returned (.slice ao l.length c) ∧ SlI w' ao l.length c l ∧ Kept [] w w'

theorem atR_call (B : Nat) (w : World) (p : Nat) (al : Int) (L : List Ep) (h : EpA B w p al L) (hok : OkL L) (hl : L.length ≤ 1000000) (z : Int) :
    Calls Try.prog 9 #[.pointer (some ⟨p, 0, none⟩), .int .i64 z] w fun e w' => RsI w (atL L z) e w' :=
  (at_call B w p al L h hok hl z).mono fun e w' ⟨v, h1, h2, h3⟩ => by
    obtain ⟨ao, c, rfl, h4⟩ := h2.sl
    exact ⟨ao, c, h1, h4, h3⟩

def L1 : List Ep := [⟨0, [0, 1, 2]⟩]
def L2 : List Ep := [⟨0, [0, 1, 2]⟩, ⟨7, [0, 1, 2, 3]⟩]

theorem may012 : May [0, 1, 2] := by decide
theorem okL1 : OkL L1 := okL_new may012
theorem chE1 : chE 2 L1 5 3 true = 0 := by decide
theorem chL1 : chL 2 L1 5 3 true = L2 := by decide
theorem okL2 : OkL L2 := by rw [← chL1]; exact okL_ch (by omega) okL1 _ _ _
theorem at6 : atL L2 6 = [0, 1, 2] := by decide
theorem at7 : atL L2 7 = [0, 1, 2, 3] := by decide

set_option maxHeartbeats 4000000 in
set_option maxRecDepth 100000 in
theorem awake_call (w : World) : Calls Try.prog 4 #[] w fun e w' => e = .returned (.bool true) ∧ Kept [] w w' := by
  have hSl := SlI.lit w [0, 1, 2] 3 #[.int .i64 0, .int .i64 1, .int .i64 2] 3 rfl rfl (by omega)
  have HK0 : Hid (Kept [] w (w.alloc (.cells #[.int .i64 0, .int .i64 1, .int .i64 2] 3))) := (Kept.refl _ _).alloc _
  have cN := newE_ok _ _ 3 3 [0, 1, 2] hSl 2 may012 (by omega)
  clear hSl
  go_enter Try.func4, Try.ntmps4
  go_wp2_with (first
    | (go_at_call 5; refine cN.mono ?_; clear cN; rintro _ w1 ⟨p, rfl, hE1, hK1⟩
       have cC := changeE_call _ w1 p 2 L1 hE1 okL1 (by omega) (by omega) (by decide) hK1.size 5 3 true
       have HK1 : Hid (Kept [] w w1) := HK0.out.trans hK1 (by simp)
       clear hK1 hE1)
    | (go_at_call 6; refine cC.mono ?_; clear cC; rintro _ w2 ⟨rfl, hE2, hT2⟩
       rw [chE1]
       rw [chL1] at hE2
       have HE2 := hide hE2
       have HK2 : Hid (Kept [] w w2) := Tn.low HK1.out hT2 (by simp)
       have cA := atR_call _ w2 p 2 L2 hE2 okL2 (by decide) 6
       have cB := fun W (hk : Kept [] w2 W) => atR_call _ W p 2 L2 (hE2.kept hk) okL2 (by decide) 7
       rw [at6] at cA
       rw [at7] at cB
       clear hE2 hT2)
    | (go_at_call 9; refine cA.mono ?_; clear cA; rintro _ w3 ⟨ao3, c3, rfl, _, hK3⟩; have cB1 := cB w3 hK3; clear cB)
    | (go_at_call 9; refine cB1.mono ?_; clear cB1; rintro _ w4 ⟨ao4, c4, rfl, _, hK4⟩))
  go_ret
  exact ⟨rfl, (HK2.out.trans hK3 (by simp)).trans hK4 (by simp)⟩

end Go.Proofs.Ytddkaagdkmmknab
