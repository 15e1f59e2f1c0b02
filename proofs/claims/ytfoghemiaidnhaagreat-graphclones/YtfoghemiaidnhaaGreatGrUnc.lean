/-
  mustBeUnchanged: the first path that was changed behind the base.
-/
import Derived.Test.YtfoghemiaidnhaaGreatGrReq
import Derived.Test.YtfoghemiaidnhaaGreatTrTold
import Derived.Deep.CutRange
namespace Go.Proofs.YtfoghemiaidnhaaGreat
open Go.RowKit

/-- What mustBeUnchanged comes to. -/
def uncE : Option (List UInt8 × Int) → Ending
  | some x => pan ⟨3, x.2, x.1, 0⟩
  | none => .returned (.tuple #[])

def UncI (w : World) (ls : List Lf) (base : Int) (L : List Ch) (R : Option (List UInt8 × Int)) (kv : Value) (wr : World) : Prop :=
  ∃ k : Nat, kv = .int .i64 (k : Int) ∧ k ≤ L.length ∧ Hid (Kept [] w wr) ∧ Hid (confl ls base (L.drop k) = R)

theorem confl_hit {ls : List Lf} {base : Int} {x : Ch} {l : List Ch} {y : Lf} (h : findL x.p ls = some y) (hlt : base < y.r) : confl ls base (x :: l) = some (x.p, y.r) := by
  simp [confl, h, hlt]
theorem confl_old {ls : List Lf} {base : Int} {x : Ch} {l : List Ch} {y : Lf} (h : findL x.p ls = some y) (hlt : ¬ base < y.r) : confl ls base (x :: l) = confl ls base l := by
  simp [confl, h, hlt]
theorem confl_miss {ls : List Lf} {base : Int} {x : Ch} {l : List Ch} (h : findL x.p ls = none) : confl ls base (x :: l) = confl ls base l := by
  simp [confl, h]

theorem getL_form (R : Option Lf) : ∃ y0 y1 y2 y3 y4, tupL R = .tuple #[.agg #[.string y0, .int .u64 y1, .int .i64 y2, .bool y3], .bool y4] := by
  cases R with
  | none => exact ⟨_, _, _, _, _, rfl⟩
  | some x => exact ⟨_, _, _, _, _, rfl⟩

theorem set4 {w : World} {B : Nat} {v0 v1 v2 v3 u0 u1 u2 u3 : Value} {t : TypeId} (h : Hid (w.heap[B]? = some (.cells #[v0, v1, v2, v3] t (0, 0)))) :
    ((((w.setCell ⟨B, 0, none⟩ u0).setCell ⟨B, 1, none⟩ u1).setCell ⟨B, 2, none⟩ u2).setCell ⟨B, 3, none⟩ u3).heap[B]? = some (.cells #[u0, u1, u2, u3] t (0, 0)) :=
  heap_setCell_same _ B 3 _ _ u3 (heap_setCell_same _ B 2 _ _ u2 (heap_setCell_same _ B 1 _ _ u1 (heap_setCell_same w B 0 _ _ u0 h.out)))

/-- A leaf's block that was laid ahead of a call. -/
theorem leaf_box {w w1 : World} {u : Obj} {v0 v1 v2 v3 : Value} {t : TypeId} (h : Kept [] ((w.alloc u).alloc (.cells #[v0, v1, v2, v3] t)).drew w1) :
    w1.cell? ⟨w.heap.size + 1, 0, none⟩ = some v0 ∧ w1.cell? ⟨w.heap.size + 1, 1, none⟩ = some v1 ∧ w1.cell? ⟨w.heap.size + 1, 2, none⟩ = some v2 ∧ w1.cell? ⟨w.heap.size + 1, 3, none⟩ = some v3 ∧
    w1.frozen? ⟨w.heap.size + 1, 0, none⟩ = false ∧ w1.frozen? ⟨w.heap.size + 1, 1, none⟩ = false ∧ w1.frozen? ⟨w.heap.size + 1, 2, none⟩ = false ∧ w1.frozen? ⟨w.heap.size + 1, 3, none⟩ = false ∧ Hid (w1.heap[w.heap.size + 1]? = some (.cells #[v0, v1, v2, v3] t (0, 0))) := by
  have h1 := heap_alloc_new (w.alloc u) (.cells #[v0, v1, v2, v3] t)
  rw [World.size_alloc] at h1
  have h2 : w1.heap[w.heap.size + 1]? = some (.cells #[v0, v1, v2, v3] t (0, 0)) := h.at h1 (by simp)
  obtain ⟨m0, m1, m2, m3⟩ := cells4 h2
  exact ⟨m0, m1, m2, m3, frozen_in h2 0, frozen_in h2 1, frozen_in h2 2, frozen_in h2 3, h2⟩

set_option maxHeartbeats 8000000 in
theorem unc_call {w : World} {b : Nat} {v : Value} {p : Option Addr} {t : Tr} {mb : Nat} {K : List (Com × Value)} {G : Gr} (h : GA w b v p t mb K G) (base : Int) (hb : 0 ≤ base)
    (ao : Option Addr) (m c : Nat) (L : List Ch) (hS : SlC w ao m c L) (hp : ∀ x ∈ L, x.p.length ≤ 1000000000) :
    Calls Tryz.prog 30 #[.pointer (some ⟨b, 0, none⟩), .int .i64 base, .slice ao m c] w fun e w' => e = uncE (confl G.ls base L) ∧ Kept [] w w' := by
  have hl := hS.1
  subst hl
  have hc := hS.2.1
  have hm := hS.2.2.1
  unfold maxLen at hm
  have HS : Hid (SlC w ao L.length c L) := hS
  have HP : Hid (∀ x ∈ L, x.p.length ≤ 1000000000) := hp
  have HG : Hid (GA w b v p t mb K G) := h
  obtain ⟨R, hR⟩ : ∃ R, R = confl G.ls base L := ⟨_, rfl⟩
  rw [← hR]
  have HR : Hid (confl G.ls base L = R) := hR.symm
  clear hS hp hR h
  go_enter Tryz.func30, Tryz.ntmps30
  go_wp2_with fail
  go_loopw [12] (fun iv wr => UncI w G.ls base L R iv wr) (fun iv _ => L.length - (intOf iv).toNat)
  case atStart => exact ⟨0, rfl, Nat.zero_le _, Kept.refl _ _, HR.out⟩
  case round =>
    obtain ⟨k, rfl, hk, HK, HC⟩ := hrel
    by_cases hlt : k < L.length
    · have hlt' : (k : Int) < L.length := by omega
      have hkc : k ≤ c := by omega
      obtain ⟨g, o, rfl, hx⟩ := HS.out.2.2.2 k hlt
      obtain ⟨c0, c1, c2⟩ := hx.kept HK.out (by simp)
      obtain ⟨x, hxe⟩ : ∃ x, x = L[k] := ⟨_, rfl⟩
      have HX : Hid (L.drop k = x :: L.drop (k + 1)) := by rw [hxe]; exact List.drop_eq_getElem_cons hlt
      rw [← hxe] at c0 c1 c2
      have hKa := (Kept.refl [] wr).alloc (.cells #[.string (str x.p), .bool x.g, .int .u64 x.d] 31)
      obtain ⟨d0, d1, d2⟩ := box3 wr x 31
      rw [Nat.zero_add] at d1 d2
      have hxp : x.p.length ≤ 1000000000 := by rw [hxe]; exact HP.out _ (List.getElem_mem hlt)
      have hGr := HG.out.kept HK.out
      obtain ⟨e0, e1, e2⟩ := cells3 (hGr.kept hKa).at_
      have hbw : b < wr.heap.size := lt_of_at hGr.at_
      have hB1 : w.heap.size ≤ wr.heap.size + 1 := by have := HK.out.size; omega
      have cG := fun W (h : Kept [] wr W) => tGet_call _ W p t x.p ((hGr.kept h).tree) (by omega)
      rw [get_mem HG.out.good.1, HG.out.list] at cG
      have hfind := show findL x.p G.ls = G.ls.find? (fun y => decide (x.p = y.p)) from rfl
      obtain ⟨F, hF⟩ : ∃ F, F = findL x.p G.ls := ⟨_, rfl⟩
      rw [← hfind, ← hF] at cG
      have hpw : p ≠ none := HG.out.some_
      clear hx hxe hfind hGr
      obtain ⟨y0, y1, y2, y3, y4, hv⟩ := getL_form F
      have HV : Hid (tupL F = .tuple #[.agg #[.string y0, .int .u64 y1, .int .i64 y2, .bool y3], .bool y4]) := hv
      have HF : Hid (F = findL x.p G.ls) := hF
      rw [hv] at cG
      clear hF hv
      go_upto_region 3 with fail
      go_cut [8, 9] from 16 to 25 (fun s8 s9 wx => ∃ B : Nat, s8 = .pointer (some ⟨B, 0, none⟩) ∧ s9 = .bool y4 ∧ wx.cell? ⟨B, 0, none⟩ = some (.string y0) ∧ wx.cell? ⟨B, 2, none⟩ = some (.int .i64 y2) ∧ Hid (Kept [] w wx))
      case first =>
        go_region_with (first
            | (go_at_call 34; refine (cG _ ?_).mono ?_; exact hKa.trans (((Kept.refl [] _).alloc _).drew) (by simp); rintro e w1 ⟨rfl, hKb⟩; have hK1 : Kept [] (wr.alloc (.cells #[.string (str x.p), .bool x.g, .int .u64 x.d] 31)) w1 := (((Kept.refl [] _).alloc _).drew).trans hKb (by simp); obtain ⟨m0, m1, m2, m3, n0, n1, n2, n3, hB0⟩ := leaf_box hKb)
            | (go_at_call 34; refine (cG _ ?_).mono ?_; exact hKa.trans ((Kept.refl [] _).drew) (by simp); rintro e w1 ⟨rfl, hKb⟩; have hK1 : Kept [] (wr.alloc (.cells #[.string (str x.p), .bool x.g, .int .u64 x.d] 31)) w1 := (Kept.refl [] _).drew.trans hKb (by simp)))
        all_goals go_wp2_with fail
        all_goals go_meet
        all_goals have hKw : Kept [] w w1 := (HK.out.trans hKa (by simp)).trans hK1 (by simp)
        all_goals first
          | exact ⟨_, rfl, rfl, by simp, by simp, hKw.alloc _⟩
          | exact ⟨_, rfl, rfl, (cells4 (set4 hB0)).1, (cells4 (set4 hB0)).2.2.1, ((((hKw.setCell (.inr hB1) _).setCell (.inr hB1) _).setCell (.inr hB1) _).setCell (.inr hB1) _)⟩
      case rest =>
        obtain ⟨B, rfl, rfl, r0, r2, HK2⟩ := hcut
        clear HK e0 e1 e2 c0 c1 c2 d0 d1 d2 cG hKa
        cases F with
        | none =>
          obtain ⟨rfl, rfl⟩ : y2 = 0 ∧ y4 = false := by have := HV.out; simp [tupL] at this; obtain ⟨⟨_, _, h2, _⟩, h4⟩ := this; exact ⟨by first | exact h2 | exact h2.symm, by first | exact h4 | exact h4.symm⟩
          have HC2 : Hid (confl G.ls base (L.drop (k + 1)) = R) := by
            have := HC.out; rw [HX.out, confl_miss HF.out.symm] at this; exact this
          have hnb : ¬ base < 0 := by omega
          go_wp2_with fail
          go_roundw
          case rel => exact ⟨k + 1, by go_num, by omega, HK2, HC2⟩
          case measure => simp [intOf]; omega
        | some y =>
          obtain ⟨rfl, rfl⟩ : y0 = str y.p ∧ y2 = y.r := by have := HV.out; simp [tupL, lfV] at this; exact ⟨this.1.1.symm, this.1.2.2.1.symm⟩
          by_cases hlt2 : base < y.r
          · have HC2 : Hid (R = some (y.p, y.r)) := by
              have := HC.out; rw [HX.out, confl_hit HF.out.symm hlt2] at this; rw [(findL_mem HF.out.symm).2]; exact this.symm
            go_wp2_with fail
            exact ⟨rfl, by rw [HC2.out]; rfl, HK2.out⟩
          · have HC2 : Hid (confl G.ls base (L.drop (k + 1)) = R) := by
              have := HC.out; rw [HX.out, confl_old HF.out.symm hlt2] at this; exact this
            go_wp2_with fail
            go_roundw
            case rel => exact ⟨k + 1, by go_num, by omega, HK2, HC2⟩
            case measure => simp [intOf]; omega
    · have hlt' : ¬ (k : Int) < L.length := by omega
      have HE : Hid (R = none) := by
        have := HC.out
        rw [List.drop_eq_nil_of_le (by omega)] at this
        exact this.symm
      go_wp2_with fail
      go_returns
      exact ⟨by rw [HE.out]; rfl, HK.out⟩

end Go.Proofs.YtfoghemiaidnhaaGreat
