/-
  Room: are requests few and small?
-/
import Derived.Test.YthhlfehdnefgoabGreatQ18
namespace Go.Proofs.YthhlfehdnefgoabGreat
open Go.RowKit

/-- Few and small. -/
def RoomR (k : Nat) (D : List Rm) : Prop := D.length ≤ k ∧ ∀ x ∈ D, SmR x.r

noncomputable def roomR (k : Nat) (D : List Rm) : Bool := @decide (RoomR k D) (Classical.propDecidable _)

theorem roomR_true {k : Nat} {D : List Rm} : roomR k D = true ↔ RoomR k D := by unfold roomR; exact @decide_eq_true_iff _ (Classical.propDecidable _)
theorem roomR_ok {k : Nat} {D : List Rm} (h : RoomR k D) : roomR k D = true := roomR_true.2 h
theorem roomR_no {k : Nat} {D : List Rm} (h : ¬ RoomR k D) : roomR k D = false := by
  cases e : roomR k D with
  | false => rfl
  | true => exact absurd (roomR_true.1 e) h

def RrI (D : List Rm) (iv : Value) : Prop := ∃ i : Nat, iv = .int .i64 (i : Int) ∧ i ≤ D.length ∧ Hid (∀ j (h : j < D.length), j < i → SmR D[j].r)
def RrJ (x : Rm) (jv : Value) : Prop := ∃ j : Nat, jv = .int .i64 (j : Int) ∧ j ≤ x.r.c.length ∧ Hid (∀ q (h : q < x.r.c.length), q < j → x.r.c[q].p.length ≤ 300)

set_option maxHeartbeats 8000000 in
set_option maxRecDepth 100000 in
theorem roomR_call (w : World) (ao : Option Addr) (n c : Nat) (D : List Rm) (hS : SlR w ao n c D) (mk : Nat) :
    Calls Tryz.prog 7 #[.slice ao n c, .int .i64 (mk : Int)] w fun r w' => r = .returned (.bool (roomR mk D)) ∧ w' = w := by
  have hl := hS.1
  subst hl
  have hc := hS.2.1
  have hm := hS.2.2.1
  unfold maxLen at hm
  obtain ⟨R, hR⟩ : ∃ R, R = roomR mk D := ⟨_, rfl⟩
  rw [← hR]
  have HR : Hid (R = roomR mk D) := hR
  have HS : Hid (SlR w ao D.length c D) := hS
  clear hR hS
  by_cases h1 : mk < D.length
  · have h1' : (mk : Int) < D.length := by omega
    have HE : Hid (R = false) := by show R = _; rw [HR.out]; exact roomR_no fun h => by have := h.1; omega
    go_enter Tryz.func7, Tryz.ntmps7
    go_wp2_with fail
    go_ret
    exact ⟨by rw [HE.out]; rfl, rfl⟩
  · have h1' : ¬ (mk : Int) < D.length := by omega
    go_enter Tryz.func7, Tryz.ntmps7
    go_wp2_with fail
    go_loop [5] (fun iv => RrI D iv) (fun iv => D.length - (intOf iv).toNat)
    case atStart => exact ⟨0, rfl, Nat.zero_le _, fun j h h2 => by omega⟩
    case round =>
      obtain ⟨i, rfl, hi, HI⟩ := hrel
      by_cases hlt : i < D.length
      · have hlt' : (i : Int) < D.length := by omega
        have hic : i ≤ c := by omega
        obtain ⟨g, o, rfl, hx⟩ := HS.out.2.2.2.1 i hlt
        have hsl := (HS.out.2.2.2.2 D[i] (List.getElem_mem hlt)).1
        obtain ⟨x, hxe⟩ : ∃ x, x = D[i] := ⟨_, rfl⟩
        rw [← hxe] at hx hsl
        have HX : Hid (x = D[i]) := hxe
        obtain ⟨c0, c1, c2, c3, c4, c5, c6, c7, c8, c9, c10⟩ := hx
        have hml := hsl.1
        have hmc := hsl.2.1
        have hmm := hsl.2.2.1
        unfold maxLen at hmm
        have HL : Hid (SlC w x.mo x.m x.mc x.r.c) := hsl
        have hsn : (str x.r.n).size = x.r.n.length := str_size _
        have hsf : (str x.r.f).size = x.r.f.length := str_size _
        have hsp : (str x.r.p).size = x.r.p.length := str_size _
        clear hxe hsl c0 c2 c3 c4 c8 c9 c10
        by_cases hn3 : 300 < x.r.n.length
        · have hn3' : (300 : Int) < x.r.n.length := by omega
          have HE : Hid (R = false) := by show R = _; rw [HR.out]; exact roomR_no fun h => by have := (h.2 D[i] (List.getElem_mem hlt)).1; rw [← HX.out] at this; omega
          go_wp2_with fail
          go_ret
          exact ⟨by rw [HE.out]; rfl, rfl⟩
        · have hn3' : ¬ (300 : Int) < x.r.n.length := by omega
          by_cases hf3 : 300 < x.r.f.length
          · have hf3' : (300 : Int) < x.r.f.length := by omega
            have HE : Hid (R = false) := by show R = _; rw [HR.out]; exact roomR_no fun h => by have := (h.2 D[i] (List.getElem_mem hlt)).2.1; rw [← HX.out] at this; omega
            go_wp2_with fail
            go_ret
            exact ⟨by rw [HE.out]; rfl, rfl⟩
          · have hf3' : ¬ (300 : Int) < x.r.f.length := by omega
            by_cases hp3 : 300 < x.r.p.length
            · have hp3' : (300 : Int) < x.r.p.length := by omega
              have HE : Hid (R = false) := by show R = _; rw [HR.out]; exact roomR_no fun h => by have := (h.2 D[i] (List.getElem_mem hlt)).2.2.1; rw [← HX.out] at this; omega
              go_wp2_with fail
              go_ret
              exact ⟨by rw [HE.out]; rfl, rfl⟩
            · have hp3' : ¬ (300 : Int) < x.r.p.length := by omega
              by_cases hl4 : 40 < x.m
              · have hl4' : (40 : Int) < x.m := by omega
                have HE : Hid (R = false) := by show R = _; rw [HR.out]; exact roomR_no fun h => by have := (h.2 D[i] (List.getElem_mem hlt)).2.2.2.1; rw [← HX.out] at this; omega
                go_wp2_with fail
                go_ret
                exact ⟨by rw [HE.out]; rfl, rfl⟩
              · have hl4' : ¬ (40 : Int) < x.m := by omega
                go_wp2_with fail
                go_loop [6] (fun jv => RrJ x jv) (fun jv => x.m - (intOf jv).toNat)
                case atStart => exact ⟨0, rfl, Nat.zero_le _, fun j h h2 => by omega⟩
                case round =>
                  obtain ⟨j, rfl, hj, HJ⟩ := hrel
                  by_cases hjl : j < x.m
                  · have hjl' : (j : Int) < x.m := by omega
                    have hjc : j ≤ x.mc := by omega
                    obtain ⟨g2, o2, hmo, hy⟩ := HL.out.2.2.2 j (by omega)
                    obtain ⟨y, hye⟩ : ∃ y, y = x.r.c[j]'(by omega) := ⟨_, rfl⟩
                    rw [← hye] at hy
                    have HY : Hid (y = x.r.c[j]'(by omega)) := hye
                    obtain ⟨d0, d1, d2⟩ := hy
                    have hsy : (str y.p).size = y.p.length := str_size _
                    rw [hmo] at c6
                    clear hye
                    by_cases hy3 : 300 < y.p.length
                    · have hy3' : (300 : Int) < y.p.length := by omega
                      have HE : Hid (R = false) := by
                        show R = _; rw [HR.out]; exact roomR_no fun h => by
                          have := (h.2 D[i] (List.getElem_mem hlt)).2.2.2.2; rw [← HX.out] at this
                          have h5 := this y (by rw [HY.out]; exact List.getElem_mem _); omega
                      clear hmo
                      go_wp2_with fail
                      go_ret
                      exact ⟨by rw [HE.out]; rfl, rfl⟩
                    · have hy3' : ¬ (300 : Int) < y.p.length := by omega
                      have HJ2 : Hid (∀ q (h : q < x.r.c.length), q < j + 1 → x.r.c[q].p.length ≤ 300) := fun q h h2 => by
                        by_cases e : q = j
                        · subst e; rw [← HY.out]; omega
                        · exact HJ.out q h (by omega)
                      clear hmo
                      go_wp2_with fail
                      go_round
                      case rel => exact ⟨j + 1, by go_num, by omega, HJ2⟩
                      case measure => simp [intOf]; omega
                  · have hjl' : ¬ (j : Int) < x.m := by omega
                    have HI2 : Hid (∀ q (h : q < D.length), q < i + 1 → SmR D[q].r) := fun q h h2 => by
                      by_cases e : q = i
                      · subst e
                        rw [← HX.out]
                        refine ⟨by omega, by omega, by omega, by omega, fun y hy => ?_⟩
                        obtain ⟨r, hr, rfl⟩ := List.getElem_of_mem hy
                        exact HJ.out r hr (by omega)
                      · exact HI.out q h (by omega)
                    go_wp2_with fail
                    go_round
                    case rel => exact ⟨i + 1, by go_num, by omega, HI2⟩
                    case measure => simp [intOf]; omega
      · have hlt' : ¬ (i : Int) < D.length := by omega
        have HE : Hid (R = true) := by
          show R = _; rw [HR.out]
          exact roomR_ok ⟨by omega, fun x hx => by
            obtain ⟨j, hj, rfl⟩ := List.getElem_of_mem hx
            exact HI.out j hj (by omega)⟩
        go_wp2_with fail
        go_ret
        exact ⟨by rw [HE.out]; rfl, rfl⟩

end Go.Proofs.YthhlfehdnefgoabGreat
