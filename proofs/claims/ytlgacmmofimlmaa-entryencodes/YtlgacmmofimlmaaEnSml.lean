/-
  small: has a request few and small parts?
-/
import Derived.Test.YtlgacmmofimlmaaF7
namespace Go.Proofs.Ytlgacmmofimlmaa
open Go.RowKit

def SmQ (r : Rq) : Prop := r.c.length ≤ 200 ∧ r.n.length ≤ 1000 ∧ r.f.length ≤ 1000 ∧ r.p.length ≤ 1000 ∧ ∀ y ∈ r.c, y.p.length ≤ 1000

/-- What is said: small, if true. -/
def SmP (w : World) (P : Prop) (e : Ending) (w' : World) : Prop := ∃ b : Bool, e = .returned (.bool b) ∧ (b = true → P) ∧ Kept [] w w'

def SqJ (x : Rm) (jv : Value) : Prop := ∃ j : Nat, jv = .int .i64 (j : Int) ∧ j ≤ x.r.c.length ∧ Hid (∀ q (h : q < x.r.c.length), q < j → x.r.c[q].p.length ≤ 1000)

set_option maxHeartbeats 8000000 in
set_option maxRecDepth 100000 in
theorem small_call (w : World) (x : Rm) (hS : SlC w x.mo x.m x.mc x.r.c) :
    Calls Try.prog 13 #[rqV x] w (SmP w (SmQ x.r)) := by
  have hml := hS.1
  have hmc := hS.2.1
  have hmm := hS.2.2.1
  unfold maxLen at hmm
  obtain ⟨W, hW⟩ : ∃ W, W = w.alloc (.cells #[.int .i64 x.r.k, .string (str x.r.n), .int .i64 x.r.s, .int .i64 x.r.q, .int .i64 x.r.b, .string (str x.r.f), .slice x.mo x.m x.mc, .string (str x.r.p), .int .i64 x.r.fr, .int .i64 x.r.mn, .int .i64 x.r.mb] 29) := ⟨_, rfl⟩
  have HW := hide hW
  have HK : Hid (Kept [] w W) := by rw [hW]; exact (Kept.refl _ _).alloc _
  have hB : Bx W w.heap.size 29 (rqC x) := by rw [hW]; exact Bx.new w _ (rqC x)
  have c1 : W.cell? ⟨w.heap.size, 1, none⟩ = some (.string (str x.r.n)) := hB.cell 1 rfl
  have c5 : W.cell? ⟨w.heap.size, 5, none⟩ = some (.string (str x.r.f)) := hB.cell 5 rfl
  have c6 : W.cell? ⟨w.heap.size, 6, none⟩ = some (.slice x.mo x.m x.mc) := hB.cell 6 rfl
  have c7 : W.cell? ⟨w.heap.size, 7, none⟩ = some (.string (str x.r.p)) := hB.cell 7 rfl
  have HL := hide (hS.kept HK.out (by simp))
  have HNO : Hid (SmP w (SmQ x.r) (.returned (.bool false)) W) := ⟨false, rfl, by simp, HK.out⟩
  clear hB hW
  have hsn : (str x.r.n).size = x.r.n.length := str_size _
  have hsf : (str x.r.f).size = x.r.f.length := str_size _
  have hsp : (str x.r.p).size = x.r.p.length := str_size _
  clear hS
  unfold rqV
  by_cases hl4 : 200 < x.m
  · have hl4' : (200 : Int) < x.m := by omega
    go_enter Try.func13, Try.ntmps13
    go_upto_region 1 with fail
    rw [← HW.out]
    go_wp2_with fail
    go_ret
    exact HNO.out
  have hl4' : ¬ (200 : Int) < x.m := by omega
  by_cases hn3 : 1000 < x.r.n.length
  · have hn3' : (1000 : Int) < x.r.n.length := by omega
    go_enter Try.func13, Try.ntmps13
    go_upto_region 1 with fail
    rw [← HW.out]
    go_wp2_with fail
    go_ret
    exact HNO.out
  have hn3' : ¬ (1000 : Int) < x.r.n.length := by omega
  by_cases hf3 : 1000 < x.r.f.length
  · have hf3' : (1000 : Int) < x.r.f.length := by omega
    go_enter Try.func13, Try.ntmps13
    go_upto_region 1 with fail
    rw [← HW.out]
    go_wp2_with fail
    go_ret
    exact HNO.out
  have hf3' : ¬ (1000 : Int) < x.r.f.length := by omega
  by_cases hp3 : 1000 < x.r.p.length
  · have hp3' : (1000 : Int) < x.r.p.length := by omega
    go_enter Try.func13, Try.ntmps13
    go_upto_region 1 with fail
    rw [← HW.out]
    go_wp2_with fail
    go_ret
    exact HNO.out
  have hp3' : ¬ (1000 : Int) < x.r.p.length := by omega
  go_enter Try.func13, Try.ntmps13
  go_upto_region 1 with fail
  rw [← HW.out]
  go_wp2_with fail
  go_loop [3] (fun jv => SqJ x jv) (fun jv => x.m - (intOf jv).toNat)
  case atStart => exact ⟨0, rfl, Nat.zero_le _, fun j h h2 => by omega⟩
  case round =>
    obtain ⟨j, rfl, hj, HJ⟩ := hrel
    by_cases hjl : j < x.m
    · have hjl' : (j : Int) < x.m := by omega
      have hjc : j ≤ x.mc := by omega
      obtain ⟨g2, o2, hmo, hy⟩ := HL.out.2.2.2 j (by omega)
      obtain ⟨y, hye⟩ : ∃ y, y = x.r.c[j]'(by omega) := ⟨_, rfl⟩
      rw [← hye] at hy
      have HY : Hid (y = x.r.c[j]'(by omega)) := hye
      obtain ⟨d0, d1, d2⟩ := hy
      have hsy : (str y.p).size = y.p.length := str_size _
      rw [hmo] at c6
      clear hye d1 d2 hmo
      by_cases hy3 : 1000 < y.p.length
      · have hy3' : (1000 : Int) < y.p.length := by omega
        go_wp2_with fail
        go_ret
        exact HNO.out
      · have hy3' : ¬ (1000 : Int) < y.p.length := by omega
        have HJ2 : Hid (∀ q (h : q < x.r.c.length), q < j + 1 → x.r.c[q].p.length ≤ 1000) := fun q h h2 => by
          by_cases e : q = j
          · subst e; rw [← HY.out]; omega
          · exact HJ.out q h (by omega)
        go_wp2_with fail
        go_round
        case rel => exact ⟨j + 1, by go_num, by omega, HJ2⟩
        case measure => simp [intOf]; omega
    · have hjl' : ¬ (j : Int) < x.m := by omega
      have HY : Hid (SmQ x.r) := ⟨by omega, by omega, by omega, by omega, fun y hy => by
        obtain ⟨q, hq, rfl⟩ := List.getElem_of_mem hy
        exact HJ.out q hq (by omega)⟩
      go_wp2_with fail
      go_ret
      exact ⟨true, rfl, fun _ => HY.out, HK.out⟩

end Go.Proofs.Ytlgacmmofimlmaa
