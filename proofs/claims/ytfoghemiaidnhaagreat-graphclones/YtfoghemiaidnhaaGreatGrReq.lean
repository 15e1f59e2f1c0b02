/-
  mustBeRequest: what may not be asked.
-/
import Derived.Test.YtfoghemiaidnhaaGreatGrHead
import Derived.Handy
namespace Go.Proofs.YtfoghemiaidnhaaGreat
open Go.RowKit

/-- A landing's end by a verdict. -/
def pan (x : Vd) : Ending := .panicked [{ v := .iface 28 (vdV x), recovered := false }]


/-- What mustBeRequest comes to. -/
noncomputable def reqV (G : Gr) (base : Int) (n : List UInt8) (L : List Ch) : Option Vd :=
  if badB base n L = true then some ⟨5, 0, [], 0⟩ else if (G.cs.length : Int) < base then some ⟨4, G.cs.length, [], 0⟩ else none

def reqE : Option Vd → Ending
  | some x => pan x
  | none => .returned (.tuple #[])

theorem str_ne_void {n : List UInt8} (h : n ≠ []) : ((str n).toList.isEmpty) = false := by
  rw [str_toList]; cases n with
  | nil => exact absurd rfl h
  | cons c m => rfl

set_option maxHeartbeats 4000000 in
theorem req_call {w : World} {b : Nat} {v : Value} {p : Option Addr} {t : Tr} {mb : Nat} {K : List (Com × Value)} {G : Gr} (h : GA w b v p t mb K G) (base : Int) (n : List UInt8) (hn : n.length ≤ 1000000000) (ao : Option Addr) (m c : Nat) (L : List Ch) (hS : SlC w ao m c L) (hp : ∀ x ∈ L, x.p.length ≤ 1000000000) :
    Calls Tryz.prog 28 #[.pointer (some ⟨b, 0, none⟩), .int .i64 base, .string (str n), .slice ao m c] w fun e w' => e = reqE (reqV G base n L) ∧ Kept [] w w' := by
  have cC := check_call w ao m c L hS (fun x hx => by have := hp x hx; omega)
  have cN := fun W => name_call n W (by omega)
  have HG : Hid (GA w b v p t mb K G) := h
  have hz : errC L = 0 ∨ errC L = 1 := by
    by_cases h : CheckOK L
    · exact .inl (errC_ok h)
    · exact .inr (errC_bad h)
  obtain ⟨R, hR⟩ : ∃ R, R = reqV G base n L := ⟨_, rfl⟩
  have HR : Hid (R = reqV G base n L) := hR
  rw [← hR]
  clear h hS hp hR
  rcases hz with hz | hz
  · rw [hz] at cC
    by_cases h0 : n = []
    · subst h0
      have hE := str_void
      by_cases hlt : base < 0
      · have HE : Hid (R = some ⟨5, 0, [], 0⟩) := by show R = _; rw [HR.out]; simp [reqV, badB, hlt]
        go_enter Tryz.func28, Tryz.ntmps28
        go_wp2_with fail
        refine cC.mono ?_
        rintro e w1 ⟨rfl, hK⟩
        go_wp2
        exact ⟨rfl, by rw [HE.out]; rfl, hK⟩
      · by_cases hlt2 : (G.cs.length : Int) < base
        · have HE : Hid (R = some ⟨4, G.cs.length, [], 0⟩) := by show R = _; rw [HR.out]; simp [reqV, badB, hlt, hz, hlt2]
          go_enter Tryz.func28, Tryz.ntmps28
          go_wp2_with fail
          refine cC.mono ?_
          rintro e w1 ⟨rfl, hK⟩
          have cH := head_call (HG.out.kept hK)
          go_wp2_with fail
          refine cH.mono ?_
          rintro e w2 ⟨rfl, rfl⟩
          go_wp2_with fail
          refine cH.mono ?_
          rintro e w3 ⟨rfl, rfl⟩
          go_wp2
          exact ⟨rfl, by rw [HE.out]; rfl, hK⟩
        · have HE : Hid (R = none) := by show R = _; rw [HR.out]; simp [reqV, badB, hlt, hz, hlt2]
          go_enter Tryz.func28, Tryz.ntmps28
          go_wp2_with fail
          refine cC.mono ?_
          rintro e w1 ⟨rfl, hK⟩
          have cH := head_call (HG.out.kept hK)
          go_wp2_with fail
          refine cH.mono ?_
          rintro e w2 ⟨rfl, rfl⟩
          go_wp2
          go_returns
          exact ⟨by rw [HE.out]; rfl, hK⟩
    · have hE := str_ne_void h0
      cases hw : wordB false n with
      | false =>
        have HE : Hid (R = some ⟨5, 0, [], 0⟩) := by show R = _; rw [HR.out]; simp [reqV, badB, hw, h0]
        rw [hw] at cN
        go_enter Tryz.func28, Tryz.ntmps28
        go_wp2_with fail
        refine cC.mono ?_
        rintro e w1 ⟨rfl, hK⟩
        go_wp2_with fail
        refine (cN _).mono ?_
        rintro e w2 ⟨rfl, rfl⟩
        go_wp2
        exact ⟨rfl, by rw [HE.out]; rfl, hK⟩
      | true =>
        rw [hw] at cN
        by_cases hlt : base < 0
        · have HE : Hid (R = some ⟨5, 0, [], 0⟩) := by show R = _; rw [HR.out]; simp [reqV, badB, hlt]
          go_enter Tryz.func28, Tryz.ntmps28
          go_wp2_with fail
          refine cC.mono ?_
          rintro e w1 ⟨rfl, hK⟩
          go_wp2_with fail
          refine (cN _).mono ?_
          rintro e w2 ⟨rfl, rfl⟩
          go_wp2
          exact ⟨rfl, by rw [HE.out]; rfl, hK⟩
        · by_cases hlt2 : (G.cs.length : Int) < base
          · have HE : Hid (R = some ⟨4, G.cs.length, [], 0⟩) := by show R = _; rw [HR.out]; simp [reqV, badB, hlt, hz, hw, hlt2]
            go_enter Tryz.func28, Tryz.ntmps28
            go_wp2_with fail
            refine cC.mono ?_
            rintro e w1 ⟨rfl, hK⟩
            have cH := head_call (HG.out.kept hK)
            go_wp2_with fail
            refine (cN _).mono ?_
            rintro e w2 ⟨rfl, rfl⟩
            go_wp2_with fail
            refine cH.mono ?_
            rintro e w3 ⟨rfl, rfl⟩
            go_wp2_with fail
            refine cH.mono ?_
            rintro e w4 ⟨rfl, rfl⟩
            go_wp2
            exact ⟨rfl, by rw [HE.out]; rfl, hK⟩
          · have HE : Hid (R = none) := by show R = _; rw [HR.out]; simp [reqV, badB, hlt, hz, hw, hlt2]
            go_enter Tryz.func28, Tryz.ntmps28
            go_wp2_with fail
            refine cC.mono ?_
            rintro e w1 ⟨rfl, hK⟩
            have cH := head_call (HG.out.kept hK)
            go_wp2_with fail
            refine (cN _).mono ?_
            rintro e w2 ⟨rfl, rfl⟩
            go_wp2_with fail
            refine cH.mono ?_
            rintro e w3 ⟨rfl, rfl⟩
            go_wp2
            go_returns
            exact ⟨by rw [HE.out]; rfl, hK⟩
  · have HE : Hid (R = some ⟨5, 0, [], 0⟩) := by show R = _; rw [HR.out]; simp [reqV, badB, hz]
    rw [hz] at cC
    go_enter Tryz.func28, Tryz.ntmps28
    go_wp2_with fail
    refine cC.mono ?_
    rintro e w1 ⟨rfl, hK⟩
    go_wp2
    exact ⟨rfl, by rw [HE.out]; rfl, hK⟩

end Go.Proofs.YtfoghemiaidnhaaGreat
