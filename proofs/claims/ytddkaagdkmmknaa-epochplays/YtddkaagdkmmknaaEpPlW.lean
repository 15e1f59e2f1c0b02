/-
  EpochPlays: the walk.
-/
import Derived.Test.YtddkaagdkmmknaaEpAwake
import Derived.Test.YtddkaagdkmmknaaEpList
import Derived.Test.YtddkaagdkmmknaaEpCut
import Derived.Test.YtddkaagdkmmknaaEpUni
import Derived.Test.YtddkaagdkmmknaaEpCuP
import Derived.Test.YtddkaagdkmmknaaEpArgs
import Derived.Test.YtddkaagdkmmknaaEdUni
namespace Go.Proofs.Ytddkaagdkmmknaa
open Go.RowKit

/-- Both, between two deeds. -/
def PlI (w : World) (Bp Bd p pm : Nat) (al : Int) (n : Nat) (iv : Value) (wr : World) : Prop := ∃ (i : Nat) (L : List Ep), iv = .int .i64 (i : Int) ∧ i ≤ n ∧ Hid (EpA Bp wr p al L) ∧ Hid (EdA Bd wr pm al L) ∧ Hid (OkL L) ∧ Hid (L.length ≤ i + 1) ∧ Hid (Kept [] w wr) ∧ Hid (Bp ≤ wr.heap.size) ∧ Hid (Bd ≤ wr.heap.size)

theorem tdiv2 {z : Int} (h : -9223372036854775808 ≤ z ∧ z ≤ 9223372036854775807) : -9223372036854775808 ≤ Int.tdiv z 2 ∧ Int.tdiv z 2 ≤ 9223372036854775807 := by
  by_cases h0 : 0 ≤ z
  · rw [Int.tdiv_eq_ediv_of_nonneg h0]; omega
  · obtain ⟨y, rfl⟩ : ∃ y, z = -y := ⟨-z, by omega⟩
    rw [Int.neg_tdiv, Int.tdiv_eq_ediv_of_nonneg (by omega)]
    omega

set_option linter.unusedSimpArgs false in
set_option maxHeartbeats 32000000 in
set_option maxRecDepth 100000 in
theorem plays_walk (w : World) (ao : Option Addr) (n c : Nat) (m : List Int) (hM : SlI w ao n c m) (al : Int) (bo : Option Addr) (nd cd : Nat) (D : List Dd) (hD : SlD w bo nd cd D) :
    Calls Try.prog 4 #[.slice ao n c, .int .i64 al, .slice bo nd cd] w fun e w' => e = .returned (.bool true) ∧ Kept [] w w' := by
  have cW := awake_call w
  have hmm := hD.2.2.1
  unfold maxLen at hmm
  have HM := hide hM
  have HD := hide hD
  have HL := hide hD.1
  clear hM hD
  go_enter Try.func4, Try.ntmps4
  go_upto_region 3 with (go_at_call 9; refine cW.mono ?_; clear cW; rintro _ w0 ⟨rfl, hK0⟩)
  have HK0 := hide hK0
  clear hK0
  by_cases hn : 100 < n
  · have hn' : (100 : Int) < n := by omega
    go_wp2_with fail
    go_ret
    exact ⟨rfl, HK0.out⟩
  · have hn' : ¬ (100 : Int) < n := by omega
    by_cases hnd : 200 < nd
    · have hnd' : (200 : Int) < nd := by omega
      go_wp2_with fail
      go_ret
      exact ⟨rfl, HK0.out⟩
    · have hnd' : ¬ (200 : Int) < nd := by omega
      have cN := newE_call w0 ao n c m (HM.out.kept HK0.out) al
      go_upto_region 6 with (go_at_call 10; refine cN.mono ?_; clear cN; rintro _ w1 (⟨⟨hm, ha1, ha2⟩, p, rfl, hE1, hK1⟩ | ⟨hbad, rfl, hK1⟩))
      · have HK1 : Hid (Kept [] w w1) := HK0.out.trans hK1 (by simp)
        have HE1 := hide hE1
        have HB1 : Hid (w0.heap.size ≤ w1.heap.size) := hK1.size
        have HBw : Hid (w.heap.size ≤ w0.heap.size) := HK0.out.size
        have cM := rnew_call w1 ao n c m (HM.out.kept HK1.out) al
        clear hE1 hK1
        go_upto_region 7 with (go_at_call 16; refine cM.mono ?_; clear cM; rintro _ w2 (⟨_, pm, rfl, hD2, hK2⟩ | ⟨hbad, rfl, hK2⟩))
        · have HK2 : Hid (Kept [] w w2) := HK1.out.trans hK2 (by simp)
          have HE2 := hide (HE1.out.kept hK2)
          have HD2 := hide hD2
          have HB2 : Hid (w1.heap.size ≤ w2.heap.size) := hK2.size
          have HB12 : Hid (w0.heap.size ≤ w2.heap.size) := Nat.le_trans HB1.out HB2.out
          have HBw1 : Hid (w.heap.size ≤ w1.heap.size) := HK1.out.size
          have HOk := hide (okL_new hm)
          clear hD2 hK2 hm
          generalize w0.heap.size = Bp at *
          generalize w1.heap.size = Bd at *
          go_wp2_with fail
          go_loopw [11] (fun iv wr => PlI w Bp Bd p pm al nd iv wr) (fun iv _ => nd - (intOf iv).toNat)
          case atStart => exact ⟨0, [⟨0, m⟩], rfl, Nat.zero_le _, HE2, HD2, HOk, by simp [Hid], HK2, HB12, HB2⟩
          case round =>
            obtain ⟨i, L, rfl, hi, HE, HDm, HO, HLn, HK, HBp, HBd⟩ := hrel
            by_cases hlt : i < nd
            · have hlt' : (i : Int) < nd := by omega
              have hiD : i < D.length := by rw [HL.out]; exact hlt
              obtain ⟨g, o, he, f0, f1, f2, f3⟩ := HD.out.2.2.2.1 i hiD
              subst he
              have hokd := HD.out.2.2.2.2 _ (List.getElem_mem hiD)
              generalize D[i] = d at *
              obtain ⟨kd, z, q, add⟩ := d
              dsimp only at f0 f1 f2 f3
              have hzwf := hokd.1
              dsimp only at hzwf
              have hzb : -9223372036854775808 ≤ z ∧ z ≤ 9223372036854775807 := by have := bounds_i64 hzwf; omega
              have e0 := HK.out.cell f0 (by simp)
              have e1 := HK.out.cell f1 (by simp)
              have e2 := HK.out.cell f2 (by simp)
              have e3 := HK.out.cell f3 (by simp)
              clear hokd hzwf hiD f0 f1 f2 f3
              have hq1 : IntKind.i64.wrap (Int.tdiv z 2) = Int.tdiv z 2 := IntWalk.i64_in _ (by have := tdiv2 hzb; omega)
              obtain ⟨zz, hq2⟩ : ∃ zz, IntKind.i64.wrap (Int.tdiv z 2 + 1) = zz := ⟨_, rfl⟩
              obtain ⟨w3, hw3⟩ : ∃ w3, w3 = wr.alloc (.cells #[.int .i64 kd, .int .i64 z, .int .i64 q, .bool add] 37) := ⟨_, rfl⟩
              have HK3 : Hid (Kept [] wr w3) := by show Kept _ _ _; rw [hw3]; exact (Kept.refl [] wr).alloc _
              have hbl : w3.heap[wr.heap.size]? = some (.cells #[.int .i64 kd, .int .i64 z, .int .i64 q, .bool add] 37 (0, 0)) := by rw [hw3]; exact heap_alloc_new wr _
              have z0 := cell_inC (k := 0) hbl rfl
              have z1 := cell_inC (k := 1) hbl rfl
              have z2 := cell_inC (k := 2) hbl rfl
              have z3 := cell_inC (k := 3) hbl rfl
              have HK3w : Hid (Kept [] w w3) := HK.out.trans HK3.out (by simp)
              have HBlk0 := hide hbl
              clear hbl hzb
              go_upto_region 15 with fail
              rw [← hw3]
              clear hw3 e0 e1 e2 e3
              obtain ⟨bd, hbd⟩ : ∃ bd, bd = wr.heap.size := ⟨_, rfl⟩
              have HBw3 : Hid (bd < w3.heap.size) := by show _ < _; rw [hbd]; exact block_lt_of_cell z0
              have HBp3 : Hid (Bp ≤ w3.heap.size) := Nat.le_trans HBp.out HK3.out.size
              have HBd3 : Hid (Bd ≤ w3.heap.size) := Nat.le_trans HBd.out HK3.out.size
              have HBpb : Hid (Bp ≤ bd) := by show _ ≤ _; rw [hbd]; exact HBp.out
              have HE3 := hide (HE.out.kept HK3.out)
              have HD3 := hide (HDm.out.kept HK3.out)
              rw [← hbd] at z0 z1 z2 z3 ⊢
              have HBlk : Hid (w3.heap[bd]? = some (.cells #[.int .i64 kd, .int .i64 z, .int .i64 q, .bool add] 37 (0, 0))) := by show _ = _; rw [hbd]; exact HBlk0.out
              clear HBlk0
              clear hbd HE HDm HK3 HBp HBd
              have hl5 : L.length ≤ 1000 := by have := HLn.out; omega
              have hl7 : L.length ≤ 1000000 := by omega
              by_cases hdo : kd ≤ 4
              · have cC := changeE_call Bp w3 p al L HE3.out HO.out ha1 ha2 hl7 HBp3.out z q add
                have HO2 := hide (okL_ch ⟨ha1, ha2⟩ HO.out z q add)
                have HL2 : Hid ((chL al L z q add).length ≤ i + 1 + 1) := by have h1 := ch_len al L z q add; have h2 := HLn.out; show _ ≤ _; omega
                have cR := fun W (hk : Tn Bp [67, 64] w3 W) => rchange_call Bd W pm al L (HD3.out.tn hk (by decide) (by decide) (by decide)) HO.out ha1 ha2 hl5 (Nat.le_trans HBd3.out hk.size) z q add
                unfold ChgP at cC
                unfold RchgP at cR
                generalize chL al L z q add = L9 at *
                generalize chE al L z q add = er at *
                have her : (er != er) = false := by simp
                go_upto_region 17 with (go_at_call 11; refine cC.mono ?_; clear cC; rintro _ w4 ⟨rfl, hE4, hT4⟩)
                have y1 := hT4.at (show w3.heap[bd]? = _ from HBlk.out) (by decide)
                have v1 := cell_inC (k := 1) y1 rfl
                have v2 := cell_inC (k := 2) y1 rfl
                have v3 := cell_inC (k := 3) y1 rfl
                have cR4 := cR w4 hT4
                have HE4 := hide hE4
                have HT4 := hide hT4
                have HB4 := hide y1
                clear hE4 hT4 y1 cR
                go_upto_region 21 with (go_at_call 17; refine cR4.mono ?_; clear cR4; rintro _ wq ⟨rfl, hD5, hT5⟩)
                have HEq : Hid (EpA Bp wq p al L9) := HE4.out.tn hT5 (by decide) (by decide)
                have HDq := hide hD5
                have y1 := hT5.at (show w4.heap[bd]? = _ from HB4.out) (by decide)
                have z1 := cell_inC (k := 1) y1 rfl
                have HKq0 : Hid (Kept [] w wq) := Tn.low (Tn.low HK3w.out HT4.out HBw.out) hT5 HBw1.out
                have HBpq : Hid (Bp ≤ wq.heap.size) := Nat.le_trans HBp3.out (Nat.le_trans HT4.out.size hT5.size)
                have HBdq : Hid (Bd ≤ wq.heap.size) := Nat.le_trans HBd3.out (Nat.le_trans HT4.out.size hT5.size)
                have HOq := HO2
                have HLq : Hid (L9.length ≤ i + 1 + 1) := HL2
                have HKq : Hid (Kept [] wq wq) := Kept.refl _ _
                clear hD5 hT5 y1 v1 v2 v3
                obtain ⟨gm, cm, Xm, hm1, hSm, hXm, _, _, _⟩ := HDq.out.open HOq.out.1
                have um : wq.cell? ⟨pm, 1, none⟩ = some (.slice (some ⟨gm, 0, none⟩) L9.length cm) := cell_inC (k := 1) hm1 rfl
                obtain ⟨lm, hlm⟩ : ∃ lm, lm = L9.length := ⟨_, rfl⟩
                rw [← hlm] at um hSm
                have HSm := hide hSm
                have HXm := hide hXm
                have hl6 : L9.length ≤ 1000000 := by have := HLq.out; omega
                have u1 := HKq.out.cell z1 (by simp)
                clear hm1 hSm hXm hlm
                go_wp2_with fail
                refine wp_region_held_drew (S := fun w' => w'.cell? ⟨bd, 1, none⟩ = some (.int .i64 z) ∧ w'.cell? ⟨pm, 1, none⟩ = some (.slice (some ⟨gm, 0, none⟩) lm cm)) (by kernel_rfl) ⟨u1, um⟩ (fun hHeld => ?_)
                refine wpAnyH_take (i := 0) (v := ?_) rfl (by kernel_rfl) (by kernel_rfl) (by kernel_rfl) (fun _ _ _ h => h) (Or.inl ⟨by rfl, ?_⟩) hHeld ?_
                rotate_left
                · intro w9 hSw; (try dsimp only at hSw); go_simp; (try with_reducible rfl)
                try simp only [List.getElem_toArray, List.getElem_cons_succ, List.getElem_cons_zero, Act.put, List.setIfInBounds_toArray, List.set_cons_zero, List.set_cons_succ]
                refine wpAnyH_take (i := 2) (v := ?_) rfl (by kernel_rfl) (by kernel_rfl) (by kernel_rfl) (fun _ _ _ h => h) (Or.inl ⟨by rfl, ?_⟩) hHeld ?_
                rotate_left
                · intro w9 hSw; (try dsimp only at hSw); go_simp; (try with_reducible rfl)
                try simp only [List.getElem_toArray, List.getElem_cons_succ, List.getElem_cons_zero, Act.put, List.setIfInBounds_toArray, List.set_cons_zero, List.set_cons_succ]
                refine wpAnyH_take (i := 3) (v := ?_) rfl (by kernel_rfl) (by kernel_rfl) (by kernel_rfl) (fun _ _ _ h => h) (Or.inl ⟨by rfl, ?_⟩) hHeld ?_
                rotate_left
                · intro w9 hSw; (try dsimp only at hSw); go_simp; (try with_reducible rfl)
                try simp only [List.getElem_toArray, List.getElem_cons_succ, List.getElem_cons_zero, Act.put, List.setIfInBounds_toArray, List.set_cons_zero, List.set_cons_succ]
                refine wpAnyH_take (i := 4) (v := ?_) rfl (by kernel_rfl) (by kernel_rfl) (by kernel_rfl) (fun _ _ _ h => h) (Or.inl ⟨by rfl, ?_⟩) hHeld ?_
                rotate_left
                · intro w9 hSw; (try dsimp only at hSw); go_simp; (try with_reducible rfl)
                try simp only [List.getElem_toArray, List.getElem_cons_succ, List.getElem_cons_zero, Act.put, List.setIfInBounds_toArray, List.set_cons_zero, List.set_cons_succ]
                refine wpAnyH_take (i := 5) (v := ?_) rfl (by kernel_rfl) (by kernel_rfl) (by kernel_rfl) (fun _ _ _ h => h) (Or.inl ⟨by rfl, ?_⟩) hHeld ?_
                rotate_left
                · intro w9 hSw; (try dsimp only at hSw); go_simp; (try with_reducible rfl)
                try simp only [List.getElem_toArray, List.getElem_cons_succ, List.getElem_cons_zero, Act.put, List.setIfInBounds_toArray, List.set_cons_zero, List.set_cons_succ]
                refine wpAnyH_ready (rs := [1]) (by kernel_rfl) (by simp) (AllReadyH.cons rfl (fun K0 hK0 => ?_) AllReadyH.nil)
                go_simp
                refine (list_call Bp wq.drew p al L9 (HEq.out.kept (Kept.refl [] wq).drew) HOq.out hl6).mono ?_
                rintro _ wa1 ⟨v1, X1, rfl, hRx, hOx, hXx, hKx⟩
                have HKwa1 : Hid (Kept [] wq wa1) := (Kept.refl [] wq).drew.trans hKx (by simp)
                obtain ⟨a1, c1', rfl, hSx⟩ := hRx.sl hOx
                obtain ⟨n1, hn1⟩ : ∃ n1, n1 = X1.length := ⟨_, rfl⟩
                rw [← hn1] at hSx ⊢
                have HS1 := hide hSx
                have HX1 := hide hXx
                clear hRx hOx hXx hKx hSx hn1
                go_wp2_with fail
                refine hK0.out _ _ ⟨HKwa1.out.cell u1 (by simp), HKwa1.out.cell um (by simp)⟩ (fun hHeld => ?_)
                clear hK0 K0
                try simp only [List.getElem_toArray, List.getElem_cons_succ, List.getElem_cons_zero, Act.put, List.setIfInBounds_toArray, List.set_cons_zero, List.set_cons_succ]
                refine wpAnyH_ready (rs := [6]) (by kernel_rfl) (by simp) (AllReadyH.cons rfl (fun K0 hK0 => ?_) AllReadyH.nil)
                go_simp
                refine (sameE_call wa1 a1 (some ⟨gm, 0, none⟩) n1 c1' lm cm X1 Xm HS1.out (HSm.out.kept HKwa1.out)).mono ?_
                rintro _ wa2 ⟨rfl, hKx⟩
                have HKwa2 : Hid (Kept [] wq wa2) := HKwa1.out.trans hKx (by simp)
                rw [show decide (X1.map Prod.fst = Xm.map Prod.fst) = true by rw [HX1.out, HXm.out]; simp]
                clear hKx
                go_wp2_with fail
                refine hK0.out _ _ ⟨HKwa2.out.cell u1 (by simp), HKwa2.out.cell um (by simp)⟩ (fun hHeld => ?_)
                clear hK0 K0
                try simp only [List.getElem_toArray, List.getElem_cons_succ, List.getElem_cons_zero, Act.put, List.setIfInBounds_toArray, List.set_cons_zero, List.set_cons_succ]
                refine wpAnyH_take (i := 7) (v := ?_) rfl (by kernel_rfl) (by kernel_rfl) (by kernel_rfl) (fun _ _ _ h => h) (Or.inl ⟨by rfl, ?_⟩) hHeld ?_
                rotate_left
                · intro w9 hSw; (try dsimp only at hSw); go_simp; (try with_reducible rfl)
                try simp only [List.getElem_toArray, List.getElem_cons_succ, List.getElem_cons_zero, Act.put, List.setIfInBounds_toArray, List.set_cons_zero, List.set_cons_succ]
                refine wpAnyH_take (i := 8) (v := ?_) rfl (by kernel_rfl) (by kernel_rfl) (by kernel_rfl) (fun _ _ _ h => h) (Or.inl ⟨by rfl, ?_⟩) hHeld ?_
                rotate_left
                · intro w9 hSw; (try dsimp only at hSw); go_simp; (try with_reducible rfl)
                try simp only [List.getElem_toArray, List.getElem_cons_succ, List.getElem_cons_zero, Act.put, List.setIfInBounds_toArray, List.set_cons_zero, List.set_cons_succ]
                refine wpAnyH_take (i := 9) (v := ?_) rfl (by kernel_rfl) (by kernel_rfl) (by kernel_rfl) (fun _ _ _ h => h) (Or.inl ⟨by rfl, ?_⟩) hHeld ?_
                rotate_left
                · intro w9 hSw; (try dsimp only at hSw); go_simp; (try with_reducible rfl)
                try simp only [List.getElem_toArray, List.getElem_cons_succ, List.getElem_cons_zero, Act.put, List.setIfInBounds_toArray, List.set_cons_zero, List.set_cons_succ]
                refine wpAnyH_take (i := 11) (v := ?_) rfl (by kernel_rfl) (by kernel_rfl) (by kernel_rfl) (fun _ _ _ h => h) (Or.inl ⟨by rfl, ?_⟩) hHeld ?_
                rotate_left
                · intro w9 hSw; (try dsimp only at hSw); go_simp; (try with_reducible rfl)
                try simp only [List.getElem_toArray, List.getElem_cons_succ, List.getElem_cons_zero, Act.put, List.setIfInBounds_toArray, List.set_cons_zero, List.set_cons_succ]
                refine wpAnyH_ready (rs := [10]) (by kernel_rfl) (by simp) (AllReadyH.cons rfl (fun K0 hK0 => ?_) AllReadyH.nil)
                go_simp
                refine (union_call Bp wa2 p al L9 (HEq.out.kept HKwa2.out) HOq.out.1 hl6).mono ?_
                rintro _ wa3 ⟨v3, rfl, hRx, hKx⟩
                have HKwa3 : Hid (Kept [] wq wa3) := HKwa2.out.trans hKx (by simp)
                obtain ⟨a3, c3', rfl, hSx⟩ := hRx.sl
                have HR3 := hide hSx
                clear hRx hKx hSx
                go_wp2_with fail
                refine hK0.out _ _ ⟨HKwa3.out.cell u1 (by simp), HKwa3.out.cell um (by simp)⟩ (fun hHeld => ?_)
                clear hK0 K0
                try simp only [List.getElem_toArray, List.getElem_cons_succ, List.getElem_cons_zero, Act.put, List.setIfInBounds_toArray, List.set_cons_zero, List.set_cons_succ]
                refine wpAnyH_ready (rs := [12]) (by kernel_rfl) (by simp) (AllReadyH.cons rfl (fun K0 hK0 => ?_) AllReadyH.nil)
                go_simp
                refine (runion_call Bd wa3 pm al L9 (HDq.out.kept HKwa3.out) HOq.out.1 hl6).mono ?_
                rintro _ wa4 ⟨v4, rfl, hRx, hKx⟩
                have HKwa4 : Hid (Kept [] wq wa4) := HKwa3.out.trans hKx (by simp)
                have HR3' := hide (HR3.out.kept hKx)
                obtain ⟨a4, c4', rfl, hSx⟩ := hRx.sl
                have HR4 := hide hSx
                clear hRx hKx hSx
                go_wp2_with fail
                refine hK0.out _ _ ⟨HKwa4.out.cell u1 (by simp), HKwa4.out.cell um (by simp)⟩ (fun hHeld => ?_)
                clear hK0 K0
                try simp only [List.getElem_toArray, List.getElem_cons_succ, List.getElem_cons_zero, Act.put, List.setIfInBounds_toArray, List.set_cons_zero, List.set_cons_succ]
                refine wpAnyH_ready (rs := [13]) (by kernel_rfl) (by simp) (AllReadyH.cons rfl (fun K0 hK0 => ?_) AllReadyH.nil)
                go_simp
                refine (sameI_call wa4 a3 a4 _ c3' _ c4' (told (uniB L9)) (told (uniB L9)) HR3'.out HR4.out).mono ?_
                rintro _ wa5 ⟨rfl, hKx⟩
                have HKwa5 : Hid (Kept [] wq wa5) := HKwa4.out.trans hKx (by simp)
                rw [show decide (told (uniB L9) = told (uniB L9)) = true by simp]
                clear hKx
                go_wp2_with fail
                refine hK0.out _ _ ⟨HKwa5.out.cell u1 (by simp), HKwa5.out.cell um (by simp)⟩ (fun hHeld => ?_)
                clear hK0 K0
                try simp only [List.getElem_toArray, List.getElem_cons_succ, List.getElem_cons_zero, Act.put, List.setIfInBounds_toArray, List.set_cons_zero, List.set_cons_succ]
                refine wpAnyH_take (i := 14) (v := ?_) rfl (by kernel_rfl) (by kernel_rfl) (by kernel_rfl) (fun _ _ _ h => h) (Or.inl ⟨by rfl, ?_⟩) hHeld ?_
                rotate_left
                · intro w9 hSw; (try dsimp only at hSw); go_simp; (try with_reducible rfl)
                try simp only [List.getElem_toArray, List.getElem_cons_succ, List.getElem_cons_zero, Act.put, List.setIfInBounds_toArray, List.set_cons_zero, List.set_cons_succ]
                refine wpAnyH_take (i := 15) (v := ?_) rfl (by kernel_rfl) (by kernel_rfl) (by kernel_rfl) (fun _ _ _ h => h) (Or.inl ⟨by rfl, ?_⟩) hHeld ?_
                rotate_left
                · intro w9 hSw; (try dsimp only at hSw); go_simp; (try with_reducible rfl)
                try simp only [List.getElem_toArray, List.getElem_cons_succ, List.getElem_cons_zero, Act.put, List.setIfInBounds_toArray, List.set_cons_zero, List.set_cons_succ]
                refine wpAnyH_take (i := 16) (v := ?_) rfl (by kernel_rfl) (by kernel_rfl) (by kernel_rfl) (fun _ _ _ h => h) (Or.inl ⟨by rfl, ?_⟩) hHeld ?_
                rotate_left
                · intro w9 hSw; (try dsimp only at hSw); go_simp; (try with_reducible rfl)
                try simp only [List.getElem_toArray, List.getElem_cons_succ, List.getElem_cons_zero, Act.put, List.setIfInBounds_toArray, List.set_cons_zero, List.set_cons_succ]
                refine wpAnyH_take (i := 17) (v := ?_) rfl (by kernel_rfl) (by kernel_rfl) (by kernel_rfl) (fun _ _ _ h => h) (Or.inl ⟨by rfl, ?_⟩) hHeld ?_
                rotate_left
                · intro w9 hSw; (try dsimp only at hSw); go_simp; (try with_reducible rfl)
                try simp only [List.getElem_toArray, List.getElem_cons_succ, List.getElem_cons_zero, Act.put, List.setIfInBounds_toArray, List.set_cons_zero, List.set_cons_succ]
                refine wpAnyH_take (i := 18) (v := ?_) rfl (by kernel_rfl) (by kernel_rfl) (by kernel_rfl) (fun _ _ _ h => h) (Or.inl ⟨by rfl, ?_⟩) hHeld ?_
                rotate_left
                · intro w9 hSw; (try dsimp only at hSw); go_simp; (try with_reducible rfl)
                try simp only [List.getElem_toArray, List.getElem_cons_succ, List.getElem_cons_zero, Act.put, List.setIfInBounds_toArray, List.set_cons_zero, List.set_cons_succ]
                refine wpAnyH_take (i := 19) (v := ?_) rfl (by kernel_rfl) (by kernel_rfl) (by kernel_rfl) (fun _ _ _ h => h) (Or.inl ⟨by rfl, ?_⟩) hHeld ?_
                rotate_left
                · intro w9 hSw; (try dsimp only at hSw); go_simp; (try with_reducible rfl)
                try simp only [List.getElem_toArray, List.getElem_cons_succ, List.getElem_cons_zero, Act.put, List.setIfInBounds_toArray, List.set_cons_zero, List.set_cons_succ]
                refine wpAnyH_take (i := 21) (v := ?_) rfl (by kernel_rfl) (by kernel_rfl) (by kernel_rfl) (fun _ _ _ h => h) (Or.inl ⟨by rfl, ?_⟩) hHeld ?_
                rotate_left
                · intro w9 hSw; (try dsimp only at hSw); go_simp; (try with_reducible rfl)
                try simp only [List.getElem_toArray, List.getElem_cons_succ, List.getElem_cons_zero, Act.put, List.setIfInBounds_toArray, List.set_cons_zero, List.set_cons_succ]
                refine wpAnyH_take (i := 22) (v := ?_) rfl (by kernel_rfl) (by kernel_rfl) (by kernel_rfl) (fun _ _ _ h => h) (Or.inl ⟨by rfl, ?_⟩) hHeld ?_
                rotate_left
                · intro w9 hSw; (try dsimp only at hSw); go_simp; (try with_reducible rfl)
                try simp only [List.getElem_toArray, List.getElem_cons_succ, List.getElem_cons_zero, Act.put, List.setIfInBounds_toArray, List.set_cons_zero, List.set_cons_succ]
                refine wpAnyH_take (i := 23) (v := ?_) rfl (by kernel_rfl) (by kernel_rfl) (by kernel_rfl) (fun _ _ _ h => h) (Or.inl ⟨by rfl, ?_⟩) hHeld ?_
                rotate_left
                · intro w9 hSw; (try dsimp only at hSw); go_simp; (try with_reducible rfl)
                try simp only [List.getElem_toArray, List.getElem_cons_succ, List.getElem_cons_zero, Act.put, List.setIfInBounds_toArray, List.set_cons_zero, List.set_cons_succ]
                refine wpAnyH_ready (rs := [20]) (by kernel_rfl) (by simp) (AllReadyH.cons rfl (fun K0 hK0 => ?_) AllReadyH.nil)
                go_simp
                refine (at_call Bp wa5 p al L9 (HEq.out.kept HKwa5.out) HOq.out hl6 z).mono ?_
                rintro _ wa6 ⟨v6, rfl, hRx, hKx⟩
                have HKwa6 : Hid (Kept [] wq wa6) := HKwa5.out.trans hKx (by simp)
                obtain ⟨a6, c6', rfl, hSx⟩ := hRx.sl
                have HR6 := hide hSx
                clear hRx hKx hSx
                go_wp2_with fail
                refine hK0.out _ _ ⟨HKwa6.out.cell u1 (by simp), HKwa6.out.cell um (by simp)⟩ (fun hHeld => ?_)
                clear hK0 K0
                try simp only [List.getElem_toArray, List.getElem_cons_succ, List.getElem_cons_zero, Act.put, List.setIfInBounds_toArray, List.set_cons_zero, List.set_cons_succ]
                refine wpAnyH_ready (rs := [24]) (by kernel_rfl) (by simp) (AllReadyH.cons rfl (fun K0 hK0 => ?_) AllReadyH.nil)
                go_simp
                refine (rAt_call Bd wa6 pm al L9 (HDq.out.kept HKwa6.out) HOq.out hl6 z).mono ?_
                rintro _ wa7 ⟨v7, rfl, hRx, hKx⟩
                have HKwa7 : Hid (Kept [] wq wa7) := HKwa6.out.trans hKx (by simp)
                have HR6' := hide (HR6.out.kept hKx)
                obtain ⟨a7, c7', rfl, hSx⟩ := hRx.sl
                have HR7 := hide hSx
                clear hRx hKx hSx
                go_wp2_with fail
                refine hK0.out _ _ ⟨HKwa7.out.cell u1 (by simp), HKwa7.out.cell um (by simp)⟩ (fun hHeld => ?_)
                clear hK0 K0
                try simp only [List.getElem_toArray, List.getElem_cons_succ, List.getElem_cons_zero, Act.put, List.setIfInBounds_toArray, List.set_cons_zero, List.set_cons_succ]
                refine wpAnyH_ready (rs := [25]) (by kernel_rfl) (by simp) (AllReadyH.cons rfl (fun K0 hK0 => ?_) AllReadyH.nil)
                go_simp
                refine (sameI_call wa7 a6 a7 _ c6' _ c7' (atL L9 z) (atL L9 z) HR6'.out HR7.out).mono ?_
                rintro _ wa8 ⟨rfl, hKx⟩
                have HKwa8 : Hid (Kept [] wq wa8) := HKwa7.out.trans hKx (by simp)
                rw [show decide (atL L9 z = atL L9 z) = true by simp]
                clear hKx
                go_wp2_with fail
                refine hK0.out _ _ ⟨HKwa8.out.cell u1 (by simp), HKwa8.out.cell um (by simp)⟩ (fun hHeld => ?_)
                clear hK0 K0
                try simp only [List.getElem_toArray, List.getElem_cons_succ, List.getElem_cons_zero, Act.put, List.setIfInBounds_toArray, List.set_cons_zero, List.set_cons_succ]
                refine wpAnyH_take (i := 26) (v := ?_) rfl (by kernel_rfl) (by kernel_rfl) (by kernel_rfl) (fun _ _ _ h => h) (Or.inl ⟨by rfl, ?_⟩) hHeld ?_
                rotate_left
                · intro w9 hSw; (try dsimp only at hSw); go_simp; (try with_reducible rfl)
                try simp only [List.getElem_toArray, List.getElem_cons_succ, List.getElem_cons_zero, Act.put, List.setIfInBounds_toArray, List.set_cons_zero, List.set_cons_succ]
                refine wpAnyH_take (i := 27) (v := ?_) rfl (by kernel_rfl) (by kernel_rfl) (by kernel_rfl) (fun _ _ _ h => h) (Or.inl ⟨by rfl, ?_⟩) hHeld ?_
                rotate_left
                · intro w9 hSw; (try dsimp only at hSw); go_simp; (try with_reducible rfl)
                try simp only [List.getElem_toArray, List.getElem_cons_succ, List.getElem_cons_zero, Act.put, List.setIfInBounds_toArray, List.set_cons_zero, List.set_cons_succ]
                refine wpAnyH_take (i := 28) (v := ?_) rfl (by kernel_rfl) (by kernel_rfl) (by kernel_rfl) (fun _ _ _ h => h) (Or.inl ⟨by rfl, ?_⟩) hHeld ?_
                rotate_left
                · intro w9 hSw; (try dsimp only at hSw); go_simp; (try with_reducible rfl)
                try simp only [List.getElem_toArray, List.getElem_cons_succ, List.getElem_cons_zero, Act.put, List.setIfInBounds_toArray, List.set_cons_zero, List.set_cons_succ]
                refine wpAnyH_take (i := 29) (v := ?_) rfl (by kernel_rfl) (by kernel_rfl) (by kernel_rfl) (fun _ _ _ h => h) (Or.inl ⟨by rfl, ?_⟩) hHeld ?_
                rotate_left
                · intro w9 hSw; (try dsimp only at hSw); go_simp; (try with_reducible rfl)
                try simp only [List.getElem_toArray, List.getElem_cons_succ, List.getElem_cons_zero, Act.put, List.setIfInBounds_toArray, List.set_cons_zero, List.set_cons_succ]
                refine wpAnyH_take (i := 30) (v := ?_) rfl (by kernel_rfl) (by kernel_rfl) (by kernel_rfl) (fun _ _ _ h => h) (Or.inl ⟨by rfl, ?_⟩) hHeld ?_
                rotate_left
                · intro w9 hSw; (try dsimp only at hSw); go_simp; (try with_reducible rfl)
                try simp only [List.getElem_toArray, List.getElem_cons_succ, List.getElem_cons_zero, Act.put, List.setIfInBounds_toArray, List.set_cons_zero, List.set_cons_succ]
                refine wpAnyH_take (i := 31) (v := ?_) rfl (by kernel_rfl) (by kernel_rfl) (by kernel_rfl) (fun _ _ _ h => h) (Or.inl ⟨by rfl, ?_⟩) hHeld ?_
                rotate_left
                · intro w9 hSw; (try dsimp only at hSw); go_simp; (try with_reducible rfl)
                try simp only [List.getElem_toArray, List.getElem_cons_succ, List.getElem_cons_zero, Act.put, List.setIfInBounds_toArray, List.set_cons_zero, List.set_cons_succ]
                refine wpAnyH_take (i := 32) (v := ?_) rfl (by kernel_rfl) (by kernel_rfl) (by kernel_rfl) (fun _ _ _ h => h) (Or.inl ⟨by rfl, ?_⟩) hHeld ?_
                rotate_left
                · intro w9 hSw; (try dsimp only at hSw); go_simp; (try with_reducible rfl)
                try simp only [List.getElem_toArray, List.getElem_cons_succ, List.getElem_cons_zero, Act.put, List.setIfInBounds_toArray, List.set_cons_zero, List.set_cons_succ]
                refine wpAnyH_take (i := 33) (v := ?_) rfl (by kernel_rfl) (by kernel_rfl) (by kernel_rfl) (fun _ _ _ h => h) (Or.inl ⟨by rfl, ?_⟩) hHeld ?_
                rotate_left
                · intro w9 hSw; (try dsimp only at hSw); go_simp; (try with_reducible rfl)
                try simp only [List.getElem_toArray, List.getElem_cons_succ, List.getElem_cons_zero, Act.put, List.setIfInBounds_toArray, List.set_cons_zero, List.set_cons_succ]
                refine wpAnyH_take (i := 35) (v := ?_) rfl (by kernel_rfl) (by kernel_rfl) (by kernel_rfl) (fun _ _ _ h => h) (Or.inl ⟨by rfl, ?_⟩) hHeld ?_
                rotate_left
                · intro w9 hSw; (try dsimp only at hSw); go_simp; (try with_reducible rfl)
                try simp only [List.getElem_toArray, List.getElem_cons_succ, List.getElem_cons_zero, Act.put, List.setIfInBounds_toArray, List.set_cons_zero, List.set_cons_succ]
                refine wpAnyH_take (i := 36) (v := ?_) rfl (by kernel_rfl) (by kernel_rfl) (by kernel_rfl) (fun _ _ _ h => h) (Or.inl ⟨by rfl, ?_⟩) hHeld ?_
                rotate_left
                · intro w9 hSw; (try dsimp only at hSw); go_simp; (try with_reducible rfl)
                try simp only [List.getElem_toArray, List.getElem_cons_succ, List.getElem_cons_zero, Act.put, List.setIfInBounds_toArray, List.set_cons_zero, List.set_cons_succ]
                refine wpAnyH_take (i := 37) (v := ?_) rfl (by kernel_rfl) (by kernel_rfl) (by kernel_rfl) (fun _ _ _ h => h) (Or.inl ⟨by rfl, ?_⟩) hHeld ?_
                rotate_left
                · intro w9 hSw; (try dsimp only at hSw); go_simp; (try with_reducible rfl)
                try simp only [List.getElem_toArray, List.getElem_cons_succ, List.getElem_cons_zero, Act.put, List.setIfInBounds_toArray, List.set_cons_zero, List.set_cons_succ]
                refine wpAnyH_take (i := 38) (v := ?_) rfl (by kernel_rfl) (by kernel_rfl) (by kernel_rfl) (fun _ _ _ h => h) (Or.inl ⟨by rfl, ?_⟩) hHeld ?_
                rotate_left
                · intro w9 hSw; (try dsimp only at hSw); go_simp; (try with_reducible rfl)
                try simp only [List.getElem_toArray, List.getElem_cons_succ, List.getElem_cons_zero, Act.put, List.setIfInBounds_toArray, List.set_cons_zero, List.set_cons_succ]
                refine wpAnyH_take (i := 39) (v := ?_) rfl (by kernel_rfl) (by kernel_rfl) (by kernel_rfl) (fun _ _ _ h => h) (Or.inl ⟨by rfl, ?_⟩) hHeld ?_
                rotate_left
                · intro w9 hSw; (try dsimp only at hSw); go_simp; (try with_reducible rfl)
                try simp only [List.getElem_toArray, List.getElem_cons_succ, List.getElem_cons_zero, Act.put, List.setIfInBounds_toArray, List.set_cons_zero, List.set_cons_succ]
                refine wpAnyH_ready (rs := [34]) (by kernel_rfl) (by simp) (AllReadyH.cons rfl (fun K0 hK0 => ?_) AllReadyH.nil)
                go_simp
                refine (at_call Bp wa8 p al L9 (HEq.out.kept HKwa8.out) HOq.out hl6 zz).mono ?_
                rintro _ wa9 ⟨v9, rfl, hRx, hKx⟩
                have HKwa9 : Hid (Kept [] wq wa9) := HKwa8.out.trans hKx (by simp)
                obtain ⟨a9, c9', rfl, hSx⟩ := hRx.sl
                have HR9 := hide hSx
                clear hRx hKx hSx
                go_wp2_with fail
                refine hK0.out _ _ ⟨HKwa9.out.cell u1 (by simp), HKwa9.out.cell um (by simp)⟩ (fun hHeld => ?_)
                clear hK0 K0
                try simp only [List.getElem_toArray, List.getElem_cons_succ, List.getElem_cons_zero, Act.put, List.setIfInBounds_toArray, List.set_cons_zero, List.set_cons_succ]
                refine wpAnyH_ready (rs := [40]) (by kernel_rfl) (by simp) (AllReadyH.cons rfl (fun K0 hK0 => ?_) AllReadyH.nil)
                go_simp
                refine (rAt_call Bd wa9 pm al L9 (HDq.out.kept HKwa9.out) HOq.out hl6 zz).mono ?_
                rintro _ wa10 ⟨v10, rfl, hRx, hKx⟩
                have HKwa10 : Hid (Kept [] wq wa10) := HKwa9.out.trans hKx (by simp)
                have HR9' := hide (HR9.out.kept hKx)
                obtain ⟨a10, c10', rfl, hSx⟩ := hRx.sl
                have HR10 := hide hSx
                clear hRx hKx hSx
                go_wp2_with fail
                refine hK0.out _ _ ⟨HKwa10.out.cell u1 (by simp), HKwa10.out.cell um (by simp)⟩ (fun hHeld => ?_)
                clear hK0 K0
                try simp only [List.getElem_toArray, List.getElem_cons_succ, List.getElem_cons_zero, Act.put, List.setIfInBounds_toArray, List.set_cons_zero, List.set_cons_succ]
                refine wpAnyH_ready (rs := [41]) (by kernel_rfl) (by simp) (AllReadyH.cons rfl (fun K0 hK0 => ?_) AllReadyH.nil)
                go_simp
                refine (sameI_call wa10 a9 a10 _ c9' _ c10' (atL L9 zz) (atL L9 zz) HR9'.out HR10.out).mono ?_
                rintro _ wa11 ⟨rfl, hKx⟩
                have HKwa11 : Hid (Kept [] wq wa11) := HKwa10.out.trans hKx (by simp)
                rw [show decide (atL L9 zz = atL L9 zz) = true by simp]
                clear hKx
                go_wp2_with fail
                refine hK0.out _ _ ⟨HKwa11.out.cell u1 (by simp), HKwa11.out.cell um (by simp)⟩ (fun hHeld => ?_)
                clear hK0 K0
                try simp only [List.getElem_toArray, List.getElem_cons_succ, List.getElem_cons_zero, Act.put, List.setIfInBounds_toArray, List.set_cons_zero, List.set_cons_succ]
                refine wpAnyH_take (i := 42) (v := ?_) rfl (by kernel_rfl) (by kernel_rfl) (by kernel_rfl) (fun _ _ _ h => h) (Or.inl ⟨by rfl, ?_⟩) hHeld ?_
                rotate_left
                · intro w9 hSw; (try dsimp only at hSw); go_simp; (try with_reducible rfl)
                try simp only [List.getElem_toArray, List.getElem_cons_succ, List.getElem_cons_zero, Act.put, List.setIfInBounds_toArray, List.set_cons_zero, List.set_cons_succ]
                refine wpAnyH_take (i := 43) (v := ?_) rfl (by kernel_rfl) (by kernel_rfl) (by kernel_rfl) (fun _ _ _ h => h) (Or.inl ⟨by rfl, ?_⟩) hHeld ?_
                rotate_left
                · intro w9 hSw; (try dsimp only at hSw); go_simp; (try with_reducible rfl)
                try simp only [List.getElem_toArray, List.getElem_cons_succ, List.getElem_cons_zero, Act.put, List.setIfInBounds_toArray, List.set_cons_zero, List.set_cons_succ]
                try simp only [List.getElem_toArray, List.getElem_cons_succ, List.getElem_cons_zero, Act.put, List.setIfInBounds_toArray, List.set_cons_zero, List.set_cons_succ]
                refine wpAnyH_done (by kernel_rfl) ?_ _
                clear hHeld
                go_wp2_with fail
                go_roundw
                case rel => exact ⟨i + 1, L9, by go_num, by omega, HEq.out.kept HKwa11.out, HDq.out.kept HKwa11.out, HOq, HLq, (HKq0.out.trans HKwa11.out (by simp)), Nat.le_trans HBpq.out HKwa11.out.size, Nat.le_trans HBdq.out HKwa11.out.size⟩
                case measure => simp [intOf]; omega
              · have cC := cut_call Bp w3 p al L HE3.out HO.out hl7 HBp3.out z
                have HO2 := hide (okL_cut HO.out z)
                have HL2 : Hid ((cutL L z).length ≤ i + 1 + 1) := by have h1 : (cutL L z).length ≤ L.length := by unfold cutL; rw [List.length_drop]; omega
                                                                     have h2 := HLn.out; show _ ≤ _; omega
                have cR := fun W (hk : Tn Bp [67, 64] w3 W) => rcut_call Bd W pm al L (HD3.out.tn hk (by decide) (by decide) (by decide)) HO.out hl5 (Nat.le_trans HBd3.out hk.size) z
                unfold CutP at cC
                unfold RcutP at cR
                generalize cutL L z = L9 at *
                go_upto_region 20 with (go_at_call 18; refine cC.mono ?_; clear cC; rintro _ w4 ⟨⟨v4, rfl⟩, hE4, hT4⟩)
                have y1 := hT4.at (show w3.heap[bd]? = _ from HBlk.out) (by decide)
                have v1 := cell_inC (k := 1) y1 rfl
                have cR4 := cR w4 hT4
                have HE4 := hide hE4
                have HT4 := hide hT4
                have HB4 := hide y1
                clear hE4 hT4 y1 cR
                go_upto_region 21 with (go_at_call 19; refine cR4.mono ?_; clear cR4; rintro _ wq ⟨⟨v5, rfl⟩, hD5, hT5⟩)
                have HEq : Hid (EpA Bp wq p al L9) := HE4.out.tn hT5 (by decide) (by decide)
                have HDq := hide hD5
                have y1 := hT5.at (show w4.heap[bd]? = _ from HB4.out) (by decide)
                have z1 := cell_inC (k := 1) y1 rfl
                have HKq0 : Hid (Kept [] w wq) := Tn.low (Tn.low HK3w.out HT4.out HBw.out) hT5 HBw1.out
                have HBpq : Hid (Bp ≤ wq.heap.size) := Nat.le_trans HBp3.out (Nat.le_trans HT4.out.size hT5.size)
                have HBdq : Hid (Bd ≤ wq.heap.size) := Nat.le_trans HBd3.out (Nat.le_trans HT4.out.size hT5.size)
                have HOq := HO2
                have HLq : Hid (L9.length ≤ i + 1 + 1) := HL2
                have HKq : Hid (Kept [] wq wq) := Kept.refl _ _
                clear hD5 hT5 y1 v1
                obtain ⟨gm, cm, Xm, hm1, hSm, hXm, _, _, _⟩ := HDq.out.open HOq.out.1
                have um : wq.cell? ⟨pm, 1, none⟩ = some (.slice (some ⟨gm, 0, none⟩) L9.length cm) := cell_inC (k := 1) hm1 rfl
                obtain ⟨lm, hlm⟩ : ∃ lm, lm = L9.length := ⟨_, rfl⟩
                rw [← hlm] at um hSm
                have HSm := hide hSm
                have HXm := hide hXm
                have hl6 : L9.length ≤ 1000000 := by have := HLq.out; omega
                have u1 := HKq.out.cell z1 (by simp)
                clear hm1 hSm hXm hlm
                go_wp2_with fail
                refine wp_region_held_drew (S := fun w' => w'.cell? ⟨bd, 1, none⟩ = some (.int .i64 z) ∧ w'.cell? ⟨pm, 1, none⟩ = some (.slice (some ⟨gm, 0, none⟩) lm cm)) (by kernel_rfl) ⟨u1, um⟩ (fun hHeld => ?_)
                refine wpAnyH_take (i := 0) (v := ?_) rfl (by kernel_rfl) (by kernel_rfl) (by kernel_rfl) (fun _ _ _ h => h) (Or.inl ⟨by rfl, ?_⟩) hHeld ?_
                rotate_left
                · intro w9 hSw; (try dsimp only at hSw); go_simp; (try with_reducible rfl)
                try simp only [List.getElem_toArray, List.getElem_cons_succ, List.getElem_cons_zero, Act.put, List.setIfInBounds_toArray, List.set_cons_zero, List.set_cons_succ]
                refine wpAnyH_take (i := 2) (v := ?_) rfl (by kernel_rfl) (by kernel_rfl) (by kernel_rfl) (fun _ _ _ h => h) (Or.inl ⟨by rfl, ?_⟩) hHeld ?_
                rotate_left
                · intro w9 hSw; (try dsimp only at hSw); go_simp; (try with_reducible rfl)
                try simp only [List.getElem_toArray, List.getElem_cons_succ, List.getElem_cons_zero, Act.put, List.setIfInBounds_toArray, List.set_cons_zero, List.set_cons_succ]
                refine wpAnyH_take (i := 3) (v := ?_) rfl (by kernel_rfl) (by kernel_rfl) (by kernel_rfl) (fun _ _ _ h => h) (Or.inl ⟨by rfl, ?_⟩) hHeld ?_
                rotate_left
                · intro w9 hSw; (try dsimp only at hSw); go_simp; (try with_reducible rfl)
                try simp only [List.getElem_toArray, List.getElem_cons_succ, List.getElem_cons_zero, Act.put, List.setIfInBounds_toArray, List.set_cons_zero, List.set_cons_succ]
                refine wpAnyH_take (i := 4) (v := ?_) rfl (by kernel_rfl) (by kernel_rfl) (by kernel_rfl) (fun _ _ _ h => h) (Or.inl ⟨by rfl, ?_⟩) hHeld ?_
                rotate_left
                · intro w9 hSw; (try dsimp only at hSw); go_simp; (try with_reducible rfl)
                try simp only [List.getElem_toArray, List.getElem_cons_succ, List.getElem_cons_zero, Act.put, List.setIfInBounds_toArray, List.set_cons_zero, List.set_cons_succ]
                refine wpAnyH_take (i := 5) (v := ?_) rfl (by kernel_rfl) (by kernel_rfl) (by kernel_rfl) (fun _ _ _ h => h) (Or.inl ⟨by rfl, ?_⟩) hHeld ?_
                rotate_left
                · intro w9 hSw; (try dsimp only at hSw); go_simp; (try with_reducible rfl)
                try simp only [List.getElem_toArray, List.getElem_cons_succ, List.getElem_cons_zero, Act.put, List.setIfInBounds_toArray, List.set_cons_zero, List.set_cons_succ]
                refine wpAnyH_ready (rs := [1]) (by kernel_rfl) (by simp) (AllReadyH.cons rfl (fun K0 hK0 => ?_) AllReadyH.nil)
                go_simp
                refine (list_call Bp wq.drew p al L9 (HEq.out.kept (Kept.refl [] wq).drew) HOq.out hl6).mono ?_
                rintro _ wa1 ⟨v1, X1, rfl, hRx, hOx, hXx, hKx⟩
                have HKwa1 : Hid (Kept [] wq wa1) := (Kept.refl [] wq).drew.trans hKx (by simp)
                obtain ⟨a1, c1', rfl, hSx⟩ := hRx.sl hOx
                obtain ⟨n1, hn1⟩ : ∃ n1, n1 = X1.length := ⟨_, rfl⟩
                rw [← hn1] at hSx ⊢
                have HS1 := hide hSx
                have HX1 := hide hXx
                clear hRx hOx hXx hKx hSx hn1
                go_wp2_with fail
                refine hK0.out _ _ ⟨HKwa1.out.cell u1 (by simp), HKwa1.out.cell um (by simp)⟩ (fun hHeld => ?_)
                clear hK0 K0
                try simp only [List.getElem_toArray, List.getElem_cons_succ, List.getElem_cons_zero, Act.put, List.setIfInBounds_toArray, List.set_cons_zero, List.set_cons_succ]
                refine wpAnyH_ready (rs := [6]) (by kernel_rfl) (by simp) (AllReadyH.cons rfl (fun K0 hK0 => ?_) AllReadyH.nil)
                go_simp
                refine (sameE_call wa1 a1 (some ⟨gm, 0, none⟩) n1 c1' lm cm X1 Xm HS1.out (HSm.out.kept HKwa1.out)).mono ?_
                rintro _ wa2 ⟨rfl, hKx⟩
                have HKwa2 : Hid (Kept [] wq wa2) := HKwa1.out.trans hKx (by simp)
                rw [show decide (X1.map Prod.fst = Xm.map Prod.fst) = true by rw [HX1.out, HXm.out]; simp]
                clear hKx
                go_wp2_with fail
                refine hK0.out _ _ ⟨HKwa2.out.cell u1 (by simp), HKwa2.out.cell um (by simp)⟩ (fun hHeld => ?_)
                clear hK0 K0
                try simp only [List.getElem_toArray, List.getElem_cons_succ, List.getElem_cons_zero, Act.put, List.setIfInBounds_toArray, List.set_cons_zero, List.set_cons_succ]
                refine wpAnyH_take (i := 7) (v := ?_) rfl (by kernel_rfl) (by kernel_rfl) (by kernel_rfl) (fun _ _ _ h => h) (Or.inl ⟨by rfl, ?_⟩) hHeld ?_
                rotate_left
                · intro w9 hSw; (try dsimp only at hSw); go_simp; (try with_reducible rfl)
                try simp only [List.getElem_toArray, List.getElem_cons_succ, List.getElem_cons_zero, Act.put, List.setIfInBounds_toArray, List.set_cons_zero, List.set_cons_succ]
                refine wpAnyH_take (i := 8) (v := ?_) rfl (by kernel_rfl) (by kernel_rfl) (by kernel_rfl) (fun _ _ _ h => h) (Or.inl ⟨by rfl, ?_⟩) hHeld ?_
                rotate_left
                · intro w9 hSw; (try dsimp only at hSw); go_simp; (try with_reducible rfl)
                try simp only [List.getElem_toArray, List.getElem_cons_succ, List.getElem_cons_zero, Act.put, List.setIfInBounds_toArray, List.set_cons_zero, List.set_cons_succ]
                refine wpAnyH_take (i := 9) (v := ?_) rfl (by kernel_rfl) (by kernel_rfl) (by kernel_rfl) (fun _ _ _ h => h) (Or.inl ⟨by rfl, ?_⟩) hHeld ?_
                rotate_left
                · intro w9 hSw; (try dsimp only at hSw); go_simp; (try with_reducible rfl)
                try simp only [List.getElem_toArray, List.getElem_cons_succ, List.getElem_cons_zero, Act.put, List.setIfInBounds_toArray, List.set_cons_zero, List.set_cons_succ]
                refine wpAnyH_take (i := 11) (v := ?_) rfl (by kernel_rfl) (by kernel_rfl) (by kernel_rfl) (fun _ _ _ h => h) (Or.inl ⟨by rfl, ?_⟩) hHeld ?_
                rotate_left
                · intro w9 hSw; (try dsimp only at hSw); go_simp; (try with_reducible rfl)
                try simp only [List.getElem_toArray, List.getElem_cons_succ, List.getElem_cons_zero, Act.put, List.setIfInBounds_toArray, List.set_cons_zero, List.set_cons_succ]
                refine wpAnyH_ready (rs := [10]) (by kernel_rfl) (by simp) (AllReadyH.cons rfl (fun K0 hK0 => ?_) AllReadyH.nil)
                go_simp
                refine (union_call Bp wa2 p al L9 (HEq.out.kept HKwa2.out) HOq.out.1 hl6).mono ?_
                rintro _ wa3 ⟨v3, rfl, hRx, hKx⟩
                have HKwa3 : Hid (Kept [] wq wa3) := HKwa2.out.trans hKx (by simp)
                obtain ⟨a3, c3', rfl, hSx⟩ := hRx.sl
                have HR3 := hide hSx
                clear hRx hKx hSx
                go_wp2_with fail
                refine hK0.out _ _ ⟨HKwa3.out.cell u1 (by simp), HKwa3.out.cell um (by simp)⟩ (fun hHeld => ?_)
                clear hK0 K0
                try simp only [List.getElem_toArray, List.getElem_cons_succ, List.getElem_cons_zero, Act.put, List.setIfInBounds_toArray, List.set_cons_zero, List.set_cons_succ]
                refine wpAnyH_ready (rs := [12]) (by kernel_rfl) (by simp) (AllReadyH.cons rfl (fun K0 hK0 => ?_) AllReadyH.nil)
                go_simp
                refine (runion_call Bd wa3 pm al L9 (HDq.out.kept HKwa3.out) HOq.out.1 hl6).mono ?_
                rintro _ wa4 ⟨v4, rfl, hRx, hKx⟩
                have HKwa4 : Hid (Kept [] wq wa4) := HKwa3.out.trans hKx (by simp)
                have HR3' := hide (HR3.out.kept hKx)
                obtain ⟨a4, c4', rfl, hSx⟩ := hRx.sl
                have HR4 := hide hSx
                clear hRx hKx hSx
                go_wp2_with fail
                refine hK0.out _ _ ⟨HKwa4.out.cell u1 (by simp), HKwa4.out.cell um (by simp)⟩ (fun hHeld => ?_)
                clear hK0 K0
                try simp only [List.getElem_toArray, List.getElem_cons_succ, List.getElem_cons_zero, Act.put, List.setIfInBounds_toArray, List.set_cons_zero, List.set_cons_succ]
                refine wpAnyH_ready (rs := [13]) (by kernel_rfl) (by simp) (AllReadyH.cons rfl (fun K0 hK0 => ?_) AllReadyH.nil)
                go_simp
                refine (sameI_call wa4 a3 a4 _ c3' _ c4' (told (uniB L9)) (told (uniB L9)) HR3'.out HR4.out).mono ?_
                rintro _ wa5 ⟨rfl, hKx⟩
                have HKwa5 : Hid (Kept [] wq wa5) := HKwa4.out.trans hKx (by simp)
                rw [show decide (told (uniB L9) = told (uniB L9)) = true by simp]
                clear hKx
                go_wp2_with fail
                refine hK0.out _ _ ⟨HKwa5.out.cell u1 (by simp), HKwa5.out.cell um (by simp)⟩ (fun hHeld => ?_)
                clear hK0 K0
                try simp only [List.getElem_toArray, List.getElem_cons_succ, List.getElem_cons_zero, Act.put, List.setIfInBounds_toArray, List.set_cons_zero, List.set_cons_succ]
                refine wpAnyH_take (i := 14) (v := ?_) rfl (by kernel_rfl) (by kernel_rfl) (by kernel_rfl) (fun _ _ _ h => h) (Or.inl ⟨by rfl, ?_⟩) hHeld ?_
                rotate_left
                · intro w9 hSw; (try dsimp only at hSw); go_simp; (try with_reducible rfl)
                try simp only [List.getElem_toArray, List.getElem_cons_succ, List.getElem_cons_zero, Act.put, List.setIfInBounds_toArray, List.set_cons_zero, List.set_cons_succ]
                refine wpAnyH_take (i := 15) (v := ?_) rfl (by kernel_rfl) (by kernel_rfl) (by kernel_rfl) (fun _ _ _ h => h) (Or.inl ⟨by rfl, ?_⟩) hHeld ?_
                rotate_left
                · intro w9 hSw; (try dsimp only at hSw); go_simp; (try with_reducible rfl)
                try simp only [List.getElem_toArray, List.getElem_cons_succ, List.getElem_cons_zero, Act.put, List.setIfInBounds_toArray, List.set_cons_zero, List.set_cons_succ]
                refine wpAnyH_take (i := 16) (v := ?_) rfl (by kernel_rfl) (by kernel_rfl) (by kernel_rfl) (fun _ _ _ h => h) (Or.inl ⟨by rfl, ?_⟩) hHeld ?_
                rotate_left
                · intro w9 hSw; (try dsimp only at hSw); go_simp; (try with_reducible rfl)
                try simp only [List.getElem_toArray, List.getElem_cons_succ, List.getElem_cons_zero, Act.put, List.setIfInBounds_toArray, List.set_cons_zero, List.set_cons_succ]
                refine wpAnyH_take (i := 17) (v := ?_) rfl (by kernel_rfl) (by kernel_rfl) (by kernel_rfl) (fun _ _ _ h => h) (Or.inl ⟨by rfl, ?_⟩) hHeld ?_
                rotate_left
                · intro w9 hSw; (try dsimp only at hSw); go_simp; (try with_reducible rfl)
                try simp only [List.getElem_toArray, List.getElem_cons_succ, List.getElem_cons_zero, Act.put, List.setIfInBounds_toArray, List.set_cons_zero, List.set_cons_succ]
                refine wpAnyH_take (i := 18) (v := ?_) rfl (by kernel_rfl) (by kernel_rfl) (by kernel_rfl) (fun _ _ _ h => h) (Or.inl ⟨by rfl, ?_⟩) hHeld ?_
                rotate_left
                · intro w9 hSw; (try dsimp only at hSw); go_simp; (try with_reducible rfl)
                try simp only [List.getElem_toArray, List.getElem_cons_succ, List.getElem_cons_zero, Act.put, List.setIfInBounds_toArray, List.set_cons_zero, List.set_cons_succ]
                refine wpAnyH_take (i := 19) (v := ?_) rfl (by kernel_rfl) (by kernel_rfl) (by kernel_rfl) (fun _ _ _ h => h) (Or.inl ⟨by rfl, ?_⟩) hHeld ?_
                rotate_left
                · intro w9 hSw; (try dsimp only at hSw); go_simp; (try with_reducible rfl)
                try simp only [List.getElem_toArray, List.getElem_cons_succ, List.getElem_cons_zero, Act.put, List.setIfInBounds_toArray, List.set_cons_zero, List.set_cons_succ]
                refine wpAnyH_take (i := 21) (v := ?_) rfl (by kernel_rfl) (by kernel_rfl) (by kernel_rfl) (fun _ _ _ h => h) (Or.inl ⟨by rfl, ?_⟩) hHeld ?_
                rotate_left
                · intro w9 hSw; (try dsimp only at hSw); go_simp; (try with_reducible rfl)
                try simp only [List.getElem_toArray, List.getElem_cons_succ, List.getElem_cons_zero, Act.put, List.setIfInBounds_toArray, List.set_cons_zero, List.set_cons_succ]
                refine wpAnyH_take (i := 22) (v := ?_) rfl (by kernel_rfl) (by kernel_rfl) (by kernel_rfl) (fun _ _ _ h => h) (Or.inl ⟨by rfl, ?_⟩) hHeld ?_
                rotate_left
                · intro w9 hSw; (try dsimp only at hSw); go_simp; (try with_reducible rfl)
                try simp only [List.getElem_toArray, List.getElem_cons_succ, List.getElem_cons_zero, Act.put, List.setIfInBounds_toArray, List.set_cons_zero, List.set_cons_succ]
                refine wpAnyH_take (i := 23) (v := ?_) rfl (by kernel_rfl) (by kernel_rfl) (by kernel_rfl) (fun _ _ _ h => h) (Or.inl ⟨by rfl, ?_⟩) hHeld ?_
                rotate_left
                · intro w9 hSw; (try dsimp only at hSw); go_simp; (try with_reducible rfl)
                try simp only [List.getElem_toArray, List.getElem_cons_succ, List.getElem_cons_zero, Act.put, List.setIfInBounds_toArray, List.set_cons_zero, List.set_cons_succ]
                refine wpAnyH_ready (rs := [20]) (by kernel_rfl) (by simp) (AllReadyH.cons rfl (fun K0 hK0 => ?_) AllReadyH.nil)
                go_simp
                refine (at_call Bp wa5 p al L9 (HEq.out.kept HKwa5.out) HOq.out hl6 z).mono ?_
                rintro _ wa6 ⟨v6, rfl, hRx, hKx⟩
                have HKwa6 : Hid (Kept [] wq wa6) := HKwa5.out.trans hKx (by simp)
                obtain ⟨a6, c6', rfl, hSx⟩ := hRx.sl
                have HR6 := hide hSx
                clear hRx hKx hSx
                go_wp2_with fail
                refine hK0.out _ _ ⟨HKwa6.out.cell u1 (by simp), HKwa6.out.cell um (by simp)⟩ (fun hHeld => ?_)
                clear hK0 K0
                try simp only [List.getElem_toArray, List.getElem_cons_succ, List.getElem_cons_zero, Act.put, List.setIfInBounds_toArray, List.set_cons_zero, List.set_cons_succ]
                refine wpAnyH_ready (rs := [24]) (by kernel_rfl) (by simp) (AllReadyH.cons rfl (fun K0 hK0 => ?_) AllReadyH.nil)
                go_simp
                refine (rAt_call Bd wa6 pm al L9 (HDq.out.kept HKwa6.out) HOq.out hl6 z).mono ?_
                rintro _ wa7 ⟨v7, rfl, hRx, hKx⟩
                have HKwa7 : Hid (Kept [] wq wa7) := HKwa6.out.trans hKx (by simp)
                have HR6' := hide (HR6.out.kept hKx)
                obtain ⟨a7, c7', rfl, hSx⟩ := hRx.sl
                have HR7 := hide hSx
                clear hRx hKx hSx
                go_wp2_with fail
                refine hK0.out _ _ ⟨HKwa7.out.cell u1 (by simp), HKwa7.out.cell um (by simp)⟩ (fun hHeld => ?_)
                clear hK0 K0
                try simp only [List.getElem_toArray, List.getElem_cons_succ, List.getElem_cons_zero, Act.put, List.setIfInBounds_toArray, List.set_cons_zero, List.set_cons_succ]
                refine wpAnyH_ready (rs := [25]) (by kernel_rfl) (by simp) (AllReadyH.cons rfl (fun K0 hK0 => ?_) AllReadyH.nil)
                go_simp
                refine (sameI_call wa7 a6 a7 _ c6' _ c7' (atL L9 z) (atL L9 z) HR6'.out HR7.out).mono ?_
                rintro _ wa8 ⟨rfl, hKx⟩
                have HKwa8 : Hid (Kept [] wq wa8) := HKwa7.out.trans hKx (by simp)
                rw [show decide (atL L9 z = atL L9 z) = true by simp]
                clear hKx
                go_wp2_with fail
                refine hK0.out _ _ ⟨HKwa8.out.cell u1 (by simp), HKwa8.out.cell um (by simp)⟩ (fun hHeld => ?_)
                clear hK0 K0
                try simp only [List.getElem_toArray, List.getElem_cons_succ, List.getElem_cons_zero, Act.put, List.setIfInBounds_toArray, List.set_cons_zero, List.set_cons_succ]
                refine wpAnyH_take (i := 26) (v := ?_) rfl (by kernel_rfl) (by kernel_rfl) (by kernel_rfl) (fun _ _ _ h => h) (Or.inl ⟨by rfl, ?_⟩) hHeld ?_
                rotate_left
                · intro w9 hSw; (try dsimp only at hSw); go_simp; (try with_reducible rfl)
                try simp only [List.getElem_toArray, List.getElem_cons_succ, List.getElem_cons_zero, Act.put, List.setIfInBounds_toArray, List.set_cons_zero, List.set_cons_succ]
                refine wpAnyH_take (i := 27) (v := ?_) rfl (by kernel_rfl) (by kernel_rfl) (by kernel_rfl) (fun _ _ _ h => h) (Or.inl ⟨by rfl, ?_⟩) hHeld ?_
                rotate_left
                · intro w9 hSw; (try dsimp only at hSw); go_simp; (try with_reducible rfl)
                try simp only [List.getElem_toArray, List.getElem_cons_succ, List.getElem_cons_zero, Act.put, List.setIfInBounds_toArray, List.set_cons_zero, List.set_cons_succ]
                refine wpAnyH_take (i := 28) (v := ?_) rfl (by kernel_rfl) (by kernel_rfl) (by kernel_rfl) (fun _ _ _ h => h) (Or.inl ⟨by rfl, ?_⟩) hHeld ?_
                rotate_left
                · intro w9 hSw; (try dsimp only at hSw); go_simp; (try with_reducible rfl)
                try simp only [List.getElem_toArray, List.getElem_cons_succ, List.getElem_cons_zero, Act.put, List.setIfInBounds_toArray, List.set_cons_zero, List.set_cons_succ]
                refine wpAnyH_take (i := 29) (v := ?_) rfl (by kernel_rfl) (by kernel_rfl) (by kernel_rfl) (fun _ _ _ h => h) (Or.inl ⟨by rfl, ?_⟩) hHeld ?_
                rotate_left
                · intro w9 hSw; (try dsimp only at hSw); go_simp; (try with_reducible rfl)
                try simp only [List.getElem_toArray, List.getElem_cons_succ, List.getElem_cons_zero, Act.put, List.setIfInBounds_toArray, List.set_cons_zero, List.set_cons_succ]
                refine wpAnyH_take (i := 30) (v := ?_) rfl (by kernel_rfl) (by kernel_rfl) (by kernel_rfl) (fun _ _ _ h => h) (Or.inl ⟨by rfl, ?_⟩) hHeld ?_
                rotate_left
                · intro w9 hSw; (try dsimp only at hSw); go_simp; (try with_reducible rfl)
                try simp only [List.getElem_toArray, List.getElem_cons_succ, List.getElem_cons_zero, Act.put, List.setIfInBounds_toArray, List.set_cons_zero, List.set_cons_succ]
                refine wpAnyH_take (i := 31) (v := ?_) rfl (by kernel_rfl) (by kernel_rfl) (by kernel_rfl) (fun _ _ _ h => h) (Or.inl ⟨by rfl, ?_⟩) hHeld ?_
                rotate_left
                · intro w9 hSw; (try dsimp only at hSw); go_simp; (try with_reducible rfl)
                try simp only [List.getElem_toArray, List.getElem_cons_succ, List.getElem_cons_zero, Act.put, List.setIfInBounds_toArray, List.set_cons_zero, List.set_cons_succ]
                refine wpAnyH_take (i := 32) (v := ?_) rfl (by kernel_rfl) (by kernel_rfl) (by kernel_rfl) (fun _ _ _ h => h) (Or.inl ⟨by rfl, ?_⟩) hHeld ?_
                rotate_left
                · intro w9 hSw; (try dsimp only at hSw); go_simp; (try with_reducible rfl)
                try simp only [List.getElem_toArray, List.getElem_cons_succ, List.getElem_cons_zero, Act.put, List.setIfInBounds_toArray, List.set_cons_zero, List.set_cons_succ]
                refine wpAnyH_take (i := 33) (v := ?_) rfl (by kernel_rfl) (by kernel_rfl) (by kernel_rfl) (fun _ _ _ h => h) (Or.inl ⟨by rfl, ?_⟩) hHeld ?_
                rotate_left
                · intro w9 hSw; (try dsimp only at hSw); go_simp; (try with_reducible rfl)
                try simp only [List.getElem_toArray, List.getElem_cons_succ, List.getElem_cons_zero, Act.put, List.setIfInBounds_toArray, List.set_cons_zero, List.set_cons_succ]
                refine wpAnyH_take (i := 35) (v := ?_) rfl (by kernel_rfl) (by kernel_rfl) (by kernel_rfl) (fun _ _ _ h => h) (Or.inl ⟨by rfl, ?_⟩) hHeld ?_
                rotate_left
                · intro w9 hSw; (try dsimp only at hSw); go_simp; (try with_reducible rfl)
                try simp only [List.getElem_toArray, List.getElem_cons_succ, List.getElem_cons_zero, Act.put, List.setIfInBounds_toArray, List.set_cons_zero, List.set_cons_succ]
                refine wpAnyH_take (i := 36) (v := ?_) rfl (by kernel_rfl) (by kernel_rfl) (by kernel_rfl) (fun _ _ _ h => h) (Or.inl ⟨by rfl, ?_⟩) hHeld ?_
                rotate_left
                · intro w9 hSw; (try dsimp only at hSw); go_simp; (try with_reducible rfl)
                try simp only [List.getElem_toArray, List.getElem_cons_succ, List.getElem_cons_zero, Act.put, List.setIfInBounds_toArray, List.set_cons_zero, List.set_cons_succ]
                refine wpAnyH_take (i := 37) (v := ?_) rfl (by kernel_rfl) (by kernel_rfl) (by kernel_rfl) (fun _ _ _ h => h) (Or.inl ⟨by rfl, ?_⟩) hHeld ?_
                rotate_left
                · intro w9 hSw; (try dsimp only at hSw); go_simp; (try with_reducible rfl)
                try simp only [List.getElem_toArray, List.getElem_cons_succ, List.getElem_cons_zero, Act.put, List.setIfInBounds_toArray, List.set_cons_zero, List.set_cons_succ]
                refine wpAnyH_take (i := 38) (v := ?_) rfl (by kernel_rfl) (by kernel_rfl) (by kernel_rfl) (fun _ _ _ h => h) (Or.inl ⟨by rfl, ?_⟩) hHeld ?_
                rotate_left
                · intro w9 hSw; (try dsimp only at hSw); go_simp; (try with_reducible rfl)
                try simp only [List.getElem_toArray, List.getElem_cons_succ, List.getElem_cons_zero, Act.put, List.setIfInBounds_toArray, List.set_cons_zero, List.set_cons_succ]
                refine wpAnyH_take (i := 39) (v := ?_) rfl (by kernel_rfl) (by kernel_rfl) (by kernel_rfl) (fun _ _ _ h => h) (Or.inl ⟨by rfl, ?_⟩) hHeld ?_
                rotate_left
                · intro w9 hSw; (try dsimp only at hSw); go_simp; (try with_reducible rfl)
                try simp only [List.getElem_toArray, List.getElem_cons_succ, List.getElem_cons_zero, Act.put, List.setIfInBounds_toArray, List.set_cons_zero, List.set_cons_succ]
                refine wpAnyH_ready (rs := [34]) (by kernel_rfl) (by simp) (AllReadyH.cons rfl (fun K0 hK0 => ?_) AllReadyH.nil)
                go_simp
                refine (at_call Bp wa8 p al L9 (HEq.out.kept HKwa8.out) HOq.out hl6 zz).mono ?_
                rintro _ wa9 ⟨v9, rfl, hRx, hKx⟩
                have HKwa9 : Hid (Kept [] wq wa9) := HKwa8.out.trans hKx (by simp)
                obtain ⟨a9, c9', rfl, hSx⟩ := hRx.sl
                have HR9 := hide hSx
                clear hRx hKx hSx
                go_wp2_with fail
                refine hK0.out _ _ ⟨HKwa9.out.cell u1 (by simp), HKwa9.out.cell um (by simp)⟩ (fun hHeld => ?_)
                clear hK0 K0
                try simp only [List.getElem_toArray, List.getElem_cons_succ, List.getElem_cons_zero, Act.put, List.setIfInBounds_toArray, List.set_cons_zero, List.set_cons_succ]
                refine wpAnyH_ready (rs := [40]) (by kernel_rfl) (by simp) (AllReadyH.cons rfl (fun K0 hK0 => ?_) AllReadyH.nil)
                go_simp
                refine (rAt_call Bd wa9 pm al L9 (HDq.out.kept HKwa9.out) HOq.out hl6 zz).mono ?_
                rintro _ wa10 ⟨v10, rfl, hRx, hKx⟩
                have HKwa10 : Hid (Kept [] wq wa10) := HKwa9.out.trans hKx (by simp)
                have HR9' := hide (HR9.out.kept hKx)
                obtain ⟨a10, c10', rfl, hSx⟩ := hRx.sl
                have HR10 := hide hSx
                clear hRx hKx hSx
                go_wp2_with fail
                refine hK0.out _ _ ⟨HKwa10.out.cell u1 (by simp), HKwa10.out.cell um (by simp)⟩ (fun hHeld => ?_)
                clear hK0 K0
                try simp only [List.getElem_toArray, List.getElem_cons_succ, List.getElem_cons_zero, Act.put, List.setIfInBounds_toArray, List.set_cons_zero, List.set_cons_succ]
                refine wpAnyH_ready (rs := [41]) (by kernel_rfl) (by simp) (AllReadyH.cons rfl (fun K0 hK0 => ?_) AllReadyH.nil)
                go_simp
                refine (sameI_call wa10 a9 a10 _ c9' _ c10' (atL L9 zz) (atL L9 zz) HR9'.out HR10.out).mono ?_
                rintro _ wa11 ⟨rfl, hKx⟩
                have HKwa11 : Hid (Kept [] wq wa11) := HKwa10.out.trans hKx (by simp)
                rw [show decide (atL L9 zz = atL L9 zz) = true by simp]
                clear hKx
                go_wp2_with fail
                refine hK0.out _ _ ⟨HKwa11.out.cell u1 (by simp), HKwa11.out.cell um (by simp)⟩ (fun hHeld => ?_)
                clear hK0 K0
                try simp only [List.getElem_toArray, List.getElem_cons_succ, List.getElem_cons_zero, Act.put, List.setIfInBounds_toArray, List.set_cons_zero, List.set_cons_succ]
                refine wpAnyH_take (i := 42) (v := ?_) rfl (by kernel_rfl) (by kernel_rfl) (by kernel_rfl) (fun _ _ _ h => h) (Or.inl ⟨by rfl, ?_⟩) hHeld ?_
                rotate_left
                · intro w9 hSw; (try dsimp only at hSw); go_simp; (try with_reducible rfl)
                try simp only [List.getElem_toArray, List.getElem_cons_succ, List.getElem_cons_zero, Act.put, List.setIfInBounds_toArray, List.set_cons_zero, List.set_cons_succ]
                refine wpAnyH_take (i := 43) (v := ?_) rfl (by kernel_rfl) (by kernel_rfl) (by kernel_rfl) (fun _ _ _ h => h) (Or.inl ⟨by rfl, ?_⟩) hHeld ?_
                rotate_left
                · intro w9 hSw; (try dsimp only at hSw); go_simp; (try with_reducible rfl)
                try simp only [List.getElem_toArray, List.getElem_cons_succ, List.getElem_cons_zero, Act.put, List.setIfInBounds_toArray, List.set_cons_zero, List.set_cons_succ]
                try simp only [List.getElem_toArray, List.getElem_cons_succ, List.getElem_cons_zero, Act.put, List.setIfInBounds_toArray, List.set_cons_zero, List.set_cons_succ]
                refine wpAnyH_done (by kernel_rfl) ?_ _
                clear hHeld
                go_wp2_with fail
                go_roundw
                case rel => exact ⟨i + 1, L9, by go_num, by omega, HEq.out.kept HKwa11.out, HDq.out.kept HKwa11.out, HOq, HLq, (HKq0.out.trans HKwa11.out (by simp)), Nat.le_trans HBpq.out HKwa11.out.size, Nat.le_trans HBdq.out HKwa11.out.size⟩
                case measure => simp [intOf]; omega

            · have hlt' : ¬ (i : Int) < nd := by omega
              go_wp2_with fail
              go_ret
              exact ⟨rfl, HK.out⟩
        · exact absurd ⟨hm, ha1, ha2⟩ hbad
      · have HK1 : Hid (Kept [] w w1) := HK0.out.trans hK1 (by simp)
        have cM := rnew_call w1 ao n c m (HM.out.kept HK1.out) al
        clear hK1
        go_upto_region 7 with (go_at_call 16; refine cM.mono ?_; clear cM; rintro _ w2 (⟨hgood, pm, rfl, hD2, hK2⟩ | ⟨_, rfl, hK2⟩))
        · exact absurd hgood hbad
        · go_wp2_with fail
          go_ret
          exact ⟨rfl, HK1.out.trans hK2 (by simp)⟩

end Go.Proofs.Ytddkaagdkmmknaa
