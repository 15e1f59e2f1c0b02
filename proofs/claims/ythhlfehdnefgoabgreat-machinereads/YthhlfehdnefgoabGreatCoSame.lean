/-
  The document's own SameCommit, SameCommits, of what is the same.
-/
import Derived.Test.YthhlfehdnefgoabGreatQ3
import Derived.Test.YthhlfehdnefgoabGreatQ8
import Derived.Deep.RegionHeld3
namespace Go.Proofs.YthhlfehdnefgoabGreat
open Go.RowKit

set_option maxHeartbeats 2000000 in
theorem samec_call (w : World) (x : Com) (ao bo : Option Addr) (n m c d : Nat) (h1 : SlC w ao n c x.c) (h2 : SlC w bo m d x.c) :
    Calls Tryz.prog 33 #[.agg #[.int .i64 x.r, .int .i64 x.b, .string (str x.n), .slice ao n c], .agg #[.int .i64 x.r, .int .i64 x.b, .string (str x.n), .slice bo m d]] w fun e w' => e = .returned (.bool true) ∧ Kept [] w w' := by
  have hKa : Kept [] w ((w.alloc (.cells #[.int .i64 x.r, .int .i64 x.b, .string (str x.n), .slice ao n c] 69)).alloc (.cells #[.int .i64 x.r, .int .i64 x.b, .string (str x.n), .slice bo m d] 69)) := ((Kept.refl [] w).alloc _).alloc _
  have cS := rsame_kept _ ao bo n m c d x.c x.c (h1.kept hKa (by simp)) (h2.kept hKa (by simp))
  rw [decide_eq_true rfl] at cS
  clear h1 h2
  go_enter Tryz.func33, Tryz.ntmps33
  go_wp2_with fail
  refine cS.mono ?_
  rintro _ w1 ⟨rfl, hK⟩
  go_wp2_with fail
  go_ret
  exact ⟨rfl, hKa.trans hK (by simp)⟩

def ScI (w : World) (n : Nat) (iv : Value) (wr : World) : Prop := ∃ i : Nat, iv = .int .i64 (i : Int) ∧ i ≤ n ∧ Hid (Kept [] w wr)

set_option maxHeartbeats 4000000 in
set_option maxRecDepth 100000 in
theorem samecs_call (w : World) (ao bo : Option Addr) (n m c d : Nat) (K M : List (Com × Value)) (hK : SlK w ao n c K) (hM : SlK w bo m d M) (he : K.map Prod.fst = M.map Prod.fst) :
    Calls Tryz.prog 15 #[.slice ao n c, .slice bo m d] w fun e w' => e = .returned (.bool true) ∧ Kept [] w w' := by
  have hl := hK.1
  have hl2 := hM.1
  have hnm : n = m := by have := congrArg List.length he; simp at this; omega
  subst hnm
  have HLK : Hid (K.length = n) := hl
  have HLM : Hid (M.length = n) := hl2
  have hc := hK.2.1
  have hm := hK.2.2.1
  have hd := hM.2.1
  have hm2 := hM.2.2.1
  unfold maxLen at hm hm2
  have HK : Hid (SlK w ao n c K) := hK
  have HM : Hid (SlK w bo n d M) := hM
  have HE : Hid (K.map Prod.fst = M.map Prod.fst) := he
  clear hl hl2 hK hM he
  go_enter Tryz.func15, Tryz.ntmps15
  go_wp2_with fail
  go_loopw [5] (fun iv wr => ScI w n iv wr) (fun iv _ => n - (intOf iv).toNat)
  case atStart => exact ⟨0, rfl, Nat.zero_le _, Kept.refl _ _⟩
  case round =>
    obtain ⟨i, rfl, hi, HW⟩ := hrel
    by_cases hlt : i < n
    · have hlt' : (i : Int) < n := by omega
      have hic : i ≤ c := by omega
      have hid : i ≤ d := by omega
      have hiK : i < K.length := by rw [HLK.out]; exact hlt
      have hiM : i < M.length := by rw [HLM.out]; exact hlt
      have hxy : M[i].1 = K[i].1 := by
        have h1 : (K.map Prod.fst)[i]'(by simpa using hiK) = (M.map Prod.fst)[i]'(by simpa using hiM) := by simp only [HE.out]
        simpa using h1.symm
      obtain ⟨g, o, rfl, hx⟩ := HK.out.2.2.2.1 i hiK
      obtain ⟨g2, o2, rfl, hy⟩ := HM.out.2.2.2.1 i hiM
      obtain ⟨mo, mm, mc, e1, hs1, _⟩ := HK.out.2.2.2.2 _ (List.getElem_mem hiK)
      obtain ⟨mo2, mm2, mc2, e2, hs2, _⟩ := HM.out.2.2.2.2 _ (List.getElem_mem hiM)
      obtain ⟨x0, x1, x2, x3⟩ := hx.kept HW.out (by simp)
      obtain ⟨y0, y1, y2, y3⟩ := hy.kept HW.out (by simp)
      rw [e1] at x3
      rw [e2] at y3
      rw [hxy] at y0 y1 y2 hs2
      have cS := fun W (hk : Kept [] wr W) => samec_call W K[i].1 mo mo2 mm mm2 mc mc2 ((hs1.kept HW.out (by simp)).kept hk (by simp)) ((hs2.kept HW.out (by simp)).kept hk (by simp))
      generalize K[i].1 = x at *
      clear hx hy hs1 hs2 hxy e1 e2
      go_wp2_with fail
      go_region_held3 (fun w' => (w'.cell? ⟨g, o + i * 4, none⟩ = some (.int .i64 x.r) ∧ w'.cell? ⟨g, o + i * 4 + 1, none⟩ = some (.int .i64 x.b) ∧ w'.cell? ⟨g, o + i * 4 + 2, none⟩ = some (.string (str x.n)) ∧ w'.cell? ⟨g, o + i * 4 + 3, none⟩ = some (.slice mo mm mc)) ∧ w'.cell? ⟨g2, o2 + i * 4, none⟩ = some (.int .i64 x.r) ∧ w'.cell? ⟨g2, o2 + i * 4 + 1, none⟩ = some (.int .i64 x.b) ∧ w'.cell? ⟨g2, o2 + i * 4 + 2, none⟩ = some (.string (str x.n)) ∧ w'.cell? ⟨g2, o2 + i * 4 + 3, none⟩ = some (.slice mo2 mm2 mc2))
        (first | go_keep | exact ⟨⟨hK3.cell x0 (by simp), hK3.cell x1 (by simp), hK3.cell x2 (by simp), hK3.cell x3 (by simp)⟩, hK3.cell y0 (by simp), hK3.cell y1 (by simp), hK3.cell y2 (by simp), hK3.cell y3 (by simp)⟩)
        (first
          | (go_at_call 33; refine (cS _ ?_).mono ?_; exact (Kept.refl [] _).drew; rintro e w3 ⟨rfl, hK3⟩; replace hK3 := (Kept.refl [] wr).drew.trans hK3 (by simp)))
      have HW3 : Hid (Kept [] w w3) := HW.out.trans hK3 (by simp)
      clear cS hK3
      go_wp2_with fail
      go_roundw
      case rel => exact ⟨i + 1, by go_num, by omega, HW3⟩
      case measure => simp [intOf]; omega
    · have hlt' : ¬ (i : Int) < n := by omega
      go_wp2_with fail
      go_ret
      exact ⟨rfl, HW.out⟩

theorem slK_nil (w : World) : SlK w none 0 0 [] := ⟨rfl, Nat.le_refl _, Nat.zero_le _, fun i hi => by simp at hi, fun x hx => by simp at hx⟩

end Go.Proofs.YthhlfehdnefgoabGreat
