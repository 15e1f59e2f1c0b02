/-
  The document's own Alike, SameSession, SameSessions, of what is the same.
-/
import Derived.Test.YthhlfehdnefgoabGreatCoSame
import Derived.Test.YthhlfehdnefgoabGreatQ12
namespace Go.Proofs.YthhlfehdnefgoabGreat
open Go.RowKit

set_option maxHeartbeats 2000000 in
set_option maxRecDepth 100000 in
theorem alikeT_call (w : World) (v : Vt) (u1 u2 : Value) (h1 : KoV w u1 v.k) (h2 : KoV w u2 v.k) :
    Calls Tryz.prog 14 #[vtV v u1, vtV v u2] w fun e w' => e = .returned (.bool true) ∧ Kept [] w w' := by
  obtain ⟨ao, n, c, K, rfl, hK, e1, _⟩ := h1
  obtain ⟨bo, m, d, M, rfl, hM, e2, _⟩ := h2
  have hKa : Kept [] w ((w.alloc (.cells #[.int .i64 v.c, .int .i64 v.s, .int .i64 v.r, .string (str v.p), .int .u64 v.d, .slice ao n c, .int .i64 v.m] 30)).alloc (.cells #[.int .i64 v.c, .int .i64 v.s, .int .i64 v.r, .string (str v.p), .int .u64 v.d, .slice bo m d, .int .i64 v.m] 30)) := ((Kept.refl [] w).alloc _).alloc _
  have cS := samecs_call _ ao bo n m c d K M (hK.kept hKa) (hM.kept hKa) (by rw [e1, e2])
  clear hK hM e1 e2
  unfold vtV
  go_enter Tryz.func14, Tryz.ntmps14
  go_wp2_with fail
  refine cS.mono ?_
  rintro _ w1 ⟨rfl, hK⟩
  go_wp2_with fail
  go_ret
  exact ⟨rfl, hKa.trans hK (by simp)⟩

set_option maxHeartbeats 2000000 in
set_option maxRecDepth 100000 in
theorem sameS_call (w : World) (x : Se) (u1 u2 : Value) (h1 : KoV w u1 x.v.k) (h2 : KoV w u2 x.v.k) :
    Calls Tryz.prog 35 #[seV x u1, seV x u2] w fun e w' => e = .returned (.bool true) ∧ Kept [] w w' := by
  obtain ⟨ao, n, c, rfl⟩ := h1.one
  obtain ⟨bo, m, d, rfl⟩ := h2.one
  have hKa : Kept [] w ((w.alloc (.cells #[.int .i64 x.i, .int .i64 x.q, .string (str x.n), .int .i64 x.v.c, .int .i64 x.v.s, .int .i64 x.v.r, .string (str x.v.p), .int .u64 x.v.d, .slice ao n c, .int .i64 x.v.m] 40)).alloc (.cells #[.int .i64 x.i, .int .i64 x.q, .string (str x.n), .int .i64 x.v.c, .int .i64 x.v.s, .int .i64 x.v.r, .string (str x.v.p), .int .u64 x.v.d, .slice bo m d, .int .i64 x.v.m] 40)) := ((Kept.refl [] w).alloc _).alloc _
  have cS := alikeT_call _ x.v _ _ (h1.kept hKa) (h2.kept hKa)
  clear h1 h2
  unfold vtV at cS
  unfold seV
  go_enter Tryz.func35, Tryz.ntmps35
  go_wp2_with fail
  refine cS.mono ?_
  rintro _ w1 ⟨rfl, hK⟩
  go_wp2_with fail
  go_ret
  exact ⟨rfl, hKa.trans hK (by simp)⟩

def SsI (w : World) (n : Nat) (iv : Value) (wr : World) : Prop := ∃ i : Nat, iv = .int .i64 (i : Int) ∧ i ≤ n ∧ Hid (Kept [] w wr)

set_option maxHeartbeats 8000000 in
set_option maxRecDepth 100000 in
theorem sameSs_call (w : World) (ao' bo' : Option Addr) (n' m' c' d' : Nat) (Y Z : List (Se × Value)) (hY : SlS w ao' n' c' Y) (hZ : SlS w bo' m' d' Z) (he : Y.map Prod.fst = Z.map Prod.fst) :
    Calls Tryz.prog 18 #[.slice ao' n' c', .slice bo' m' d'] w fun e w' => e = .returned (.bool true) ∧ Kept [] w w' := by
  have hl := hY.1
  have hl2 := hZ.1
  have hnm : n' = m' := by have := congrArg List.length he; simp at this; omega
  subst hnm
  have HLK := hide hl
  have HLM := hide hl2
  have hc := hY.2.1
  have hm := hY.2.2.1
  have hd := hZ.2.1
  have hm2 := hZ.2.2.1
  unfold maxLen at hm hm2
  have HK := hide hY
  have HM := hide hZ
  have HE := hide he
  clear hl hl2 hY hZ he
  go_enter Tryz.func18, Tryz.ntmps18
  go_wp2_with fail
  go_loopw [5] (fun iv wr => SsI w n' iv wr) (fun iv _ => n' - (intOf iv).toNat)
  case atStart => exact ⟨0, rfl, Nat.zero_le _, Kept.refl _ _⟩
  case round =>
    obtain ⟨i, rfl, hi, HW⟩ := hrel
    by_cases hlt : i < n'
    · have hlt' : (i : Int) < n' := by omega
      have hic : i ≤ c' := by omega
      have hid : i ≤ d' := by omega
      have hiK : i < Y.length := by rw [HLK.out]; exact hlt
      have hiM : i < Z.length := by rw [HLM.out]; exact hlt
      have hxy : Z[i].1 = Y[i].1 := by
        have h1 := fst_get HE.out hiK (by simpa using hiM)
        simpa using h1.symm
      obtain ⟨g, o, rfl, hx⟩ := HK.out.2.2.2.2.1 i hiK
      obtain ⟨g2, o2, rfl, hy⟩ := HM.out.2.2.2.2.1 i hiM
      have hs1 := (HK.out.2.2.2.2.2 _ (List.getElem_mem hiK)).kept HW.out
      have hs2 := (HM.out.2.2.2.2.2 _ (List.getElem_mem hiM)).kept HW.out
      obtain ⟨x0, x1, x2, x3, x4, x5, x6, x7, x8, x9⟩ := hx.kept HW.out (by simp)
      obtain ⟨y0, y1, y2, y3, y4, y5, y6, y7, y8, y9⟩ := hy.kept HW.out (by simp)
      rw [hxy] at y0 y1 y2 y3 y4 y5 y6 y7 y9 hs2
      obtain ⟨ao, n, c, e1⟩ := hs1.one
      obtain ⟨bo, m, d, e2⟩ := hs2.one
      rw [e1] at x8 hs1
      rw [e2] at y8 hs2
      have cS := fun W (hk : Kept [] wr W) => sameS_call W Y[i].1 _ _ (hs1.kept hk) (hs2.kept hk)
      generalize Y[i].1 = x at *
      unfold seV at cS
      clear hx hy hs1 hs2 hxy e1 e2
      go_wp2_with fail
      go_region_held3 (fun w' => (w'.cell? ⟨g, o + i * 10, none⟩ = some (.int .i64 x.i) ∧ w'.cell? ⟨g, o + i * 10 + 1, none⟩ = some (.int .i64 x.q) ∧ w'.cell? ⟨g, o + i * 10 + 2, none⟩ = some (.string (str x.n)) ∧ w'.cell? ⟨g, o + i * 10 + 3, none⟩ = some (.int .i64 x.v.c) ∧ w'.cell? ⟨g, o + i * 10 + 4, none⟩ = some (.int .i64 x.v.s) ∧ w'.cell? ⟨g, o + i * 10 + 5, none⟩ = some (.int .i64 x.v.r) ∧ w'.cell? ⟨g, o + i * 10 + 6, none⟩ = some (.string (str x.v.p)) ∧ w'.cell? ⟨g, o + i * 10 + 7, none⟩ = some (.int .u64 x.v.d) ∧ w'.cell? ⟨g, o + i * 10 + 8, none⟩ = some (.slice ao n c) ∧ w'.cell? ⟨g, o + i * 10 + 9, none⟩ = some (.int .i64 x.v.m)) ∧ w'.cell? ⟨g2, o2 + i * 10, none⟩ = some (.int .i64 x.i) ∧ w'.cell? ⟨g2, o2 + i * 10 + 1, none⟩ = some (.int .i64 x.q) ∧ w'.cell? ⟨g2, o2 + i * 10 + 2, none⟩ = some (.string (str x.n)) ∧ w'.cell? ⟨g2, o2 + i * 10 + 3, none⟩ = some (.int .i64 x.v.c) ∧ w'.cell? ⟨g2, o2 + i * 10 + 4, none⟩ = some (.int .i64 x.v.s) ∧ w'.cell? ⟨g2, o2 + i * 10 + 5, none⟩ = some (.int .i64 x.v.r) ∧ w'.cell? ⟨g2, o2 + i * 10 + 6, none⟩ = some (.string (str x.v.p)) ∧ w'.cell? ⟨g2, o2 + i * 10 + 7, none⟩ = some (.int .u64 x.v.d) ∧ w'.cell? ⟨g2, o2 + i * 10 + 8, none⟩ = some (.slice bo m d) ∧ w'.cell? ⟨g2, o2 + i * 10 + 9, none⟩ = some (.int .i64 x.v.m))
        (first | go_keep | exact ⟨⟨hK3.cell x0 (by simp), hK3.cell x1 (by simp), hK3.cell x2 (by simp), hK3.cell x3 (by simp), hK3.cell x4 (by simp), hK3.cell x5 (by simp), hK3.cell x6 (by simp), hK3.cell x7 (by simp), hK3.cell x8 (by simp), hK3.cell x9 (by simp)⟩, hK3.cell y0 (by simp), hK3.cell y1 (by simp), hK3.cell y2 (by simp), hK3.cell y3 (by simp), hK3.cell y4 (by simp), hK3.cell y5 (by simp), hK3.cell y6 (by simp), hK3.cell y7 (by simp), hK3.cell y8 (by simp), hK3.cell y9 (by simp)⟩)
        (first
          | (go_at_call 35; refine (cS _ ?_).mono ?_; exact (Kept.refl [] _).drew; rintro e w3 ⟨rfl, hK3⟩; replace hK3 := (Kept.refl [] wr).drew.trans hK3 (by simp)))
      have HW3 : Hid (Kept [] w w3) := HW.out.trans hK3 (by simp)
      clear cS hK3
      go_wp2_with fail
      go_roundw
      case rel => exact ⟨i + 1, by go_num, by omega, HW3⟩
      case measure => simp [intOf]; omega
    · have hlt' : ¬ (i : Int) < n' := by omega
      go_wp2_with fail
      go_ret
      exact ⟨rfl, HW.out⟩

end Go.Proofs.YthhlfehdnefgoabGreat
