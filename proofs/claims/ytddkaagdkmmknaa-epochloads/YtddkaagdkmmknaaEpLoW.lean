/-
  EpochLoads: the walk.
-/
import Derived.Test.YtddkaagdkmmknaaEpAwake
import Derived.Test.YtddkaagdkmmknaaEpList
import Derived.Test.YtddkaagdkmmknaaEpLoad
import Derived.Test.YtddkaagdkmmknaaEdLoad
import Derived.Test.YtddkaagdkmmknaaEdInts
import Derived.Test.YtddkaagdkmmknaaEpArgs
namespace Go.Proofs.Ytddkaagdkmmknaa
open Go.RowKit

theorem loadE_ok (w : World) (al : Int) (ao : Option Addr) (n c : Nat) (X : List (Ep × Value)) (L : List Ep) (hS : SlE w ao n c X) (hX : X.map Prod.fst = L) (hn : n ≤ 1000) (ha : 1 ≤ al ∧ al ≤ 8) (ho : OkL L) :
    Calls Try.prog 25 #[.int .i64 al, .slice ao n c] w fun e w' => ∃ p : Nat, e = .returned (.tuple #[.pointer (some ⟨p, 0, none⟩), .int .i64 0]) ∧ EpA w.heap.size w' p al L ∧ Kept [] w w' :=
  (loadE_call w al ao n c X L hS hX hn).mono fun _ _ h => by
    rcases h with h | h | h
    · exact h.2.2
    · exact absurd ha h.1
    · exact absurd ho h.2.1

theorem rload_ok (w : World) (al : Int) (ao : Option Addr) (n c : Nat) (X : List (Ep × Value)) (L : List Ep) (hS : SlE w ao n c X) (hX : X.map Prod.fst = L) (hn : n ≤ 1000) (ha : 1 ≤ al ∧ al ≤ 8) (ho : OkL L) :
    Calls Try.prog 26 #[.int .i64 al, .slice ao n c] w fun e w' => ∃ p : Nat, e = .returned (.tuple #[.pointer (some ⟨p, 0, none⟩), .int .i64 0]) ∧ EdA w.heap.size w' p al L ∧ Kept [] w w' :=
  (rload_call w al ao n c X L hS hX hn).mono fun _ _ h => by
    rcases h with h | h | h
    · exact h.2.2
    · exact absurd ha h.1
    · exact absurd ho h.2.1

theorem loadE_er (w : World) (al : Int) (ao : Option Addr) (n c : Nat) (X : List (Ep × Value)) (L : List Ep) (hS : SlE w ao n c X) (hX : X.map Prod.fst = L) (hn : n ≤ 1000) (k : Int) (hk : (¬ (1 ≤ al ∧ al ≤ 8) ∧ k = 1) ∨ ((1 ≤ al ∧ al ≤ 8) ∧ ¬ OkL L ∧ k = 4)) :
    Calls Try.prog 25 #[.int .i64 al, .slice ao n c] w fun e w' => e = .returned (.tuple #[.pointer none, .int .i64 k]) ∧ Kept [] w w' :=
  (loadE_call w al ao n c X L hS hX hn).mono fun _ _ h => by
    rcases h with h | h | h <;> rcases hk with hk | hk
    · exact absurd h.1 hk.1
    · exact absurd h.2.1 hk.2.1
    · rw [hk.2]; exact h.2
    · exact absurd hk.1 h.1
    · exact absurd h.1 hk.1
    · rw [hk.2.2]; exact h.2.2

theorem rload_er (w : World) (al : Int) (ao : Option Addr) (n c : Nat) (X : List (Ep × Value)) (L : List Ep) (hS : SlE w ao n c X) (hX : X.map Prod.fst = L) (hn : n ≤ 1000) (k : Int) (hk : (¬ (1 ≤ al ∧ al ≤ 8) ∧ k = 1) ∨ ((1 ≤ al ∧ al ≤ 8) ∧ ¬ OkL L ∧ k = 4)) :
    Calls Try.prog 26 #[.int .i64 al, .slice ao n c] w fun e w' => e = .returned (.tuple #[.pointer none, .int .i64 k]) ∧ Kept [] w w' :=
  (rload_call w al ao n c X L hS hX hn).mono fun _ _ h => by
    rcases h with h | h | h <;> rcases hk with hk | hk
    · exact absurd h.1 hk.1
    · exact absurd h.2.1 hk.2.1
    · rw [hk.2]; exact h.2
    · exact absurd hk.1 h.1
    · exact absurd h.1 hk.1
    · rw [hk.2.2]; exact h.2.2

theorem mapE_len {X : List (Ep × Value)} {L : List Ep} (h : X.map Prod.fst = L) : X.length = L.length := by rw [← h, List.length_map]

def LsI (w : World) (n : Nat) (iv : Value) (wr : World) : Prop := ∃ j : Nat, iv = .int .i64 (j : Int) ∧ j ≤ n ∧ Hid (Kept [] w wr)

set_option linter.unusedSimpArgs false in
set_option maxHeartbeats 16000000 in
set_option maxRecDepth 100000 in
theorem loads_walk (w : World) (al : Int) (ao : Option Addr) (n c : Nat) (X : List (Ep × Value)) (hS : SlE w ao n c X) (slot : Int) :
    Calls Try.prog 5 #[.int .i64 al, .slice ao n c, .int .i64 slot] w fun e w' => e = .returned (.bool true) ∧ Kept [] w w' := by
  have cW := awake_call w
  have hcc := hS.2.1
  have hmm := hS.2.2.1
  unfold maxLen at hmm
  obtain ⟨L, hL⟩ : ∃ L, L = X.map Prod.fst := ⟨_, rfl⟩
  have HX := hide hL.symm
  have HS := hide hS
  have HXl := hide hS.1
  have HLl : Hid (L.length = n) := by show _ = _; rw [hL, List.length_map]; exact hS.1
  clear hS hL
  go_enter Try.func5, Try.ntmps5
  go_upto_region 3 with (go_at_call 9; refine cW.mono ?_; clear cW; rintro _ w0 ⟨rfl, hK0⟩)
  have HK0 := hide hK0
  clear hK0
  by_cases hn : 50 < n
  · have hn' : (50 : Int) < n := by omega
    go_wp2_with fail
    go_ret
    exact ⟨rfl, HK0.out⟩
  · have hn' : ¬ (50 : Int) < n := by omega
    go_wp2_with fail
    go_loopw [7] (fun iv wr => LsI w n iv wr) (fun iv _ => n - (intOf iv).toNat)
    case atStart => exact ⟨0, rfl, Nat.zero_le _, HK0⟩
    case round =>
      obtain ⟨j, rfl, hj, HK⟩ := hrel
      by_cases hlt : j < n
      · have hlt' : (j : Int) < n := by omega
        have hjX : j < X.length := by rw [HXl.out]; exact hlt
        have hSr := HS.out.kept HK.out
        obtain ⟨ga, oa, hae, y0, y1⟩ := hSr.2.2.2.1 j hjX
        subst hae
        obtain ⟨so, sc, hv, hsl⟩ := hSr.2.2.2.2 _ (List.getElem_mem hjX)
        rw [hv] at y1
        generalize X[j] = x at *
        obtain ⟨sn, hsn⟩ : ∃ sn, sn = x.1.m.length := ⟨_, rfl⟩
        rw [← hsn] at y1
        clear hSr hv hsl hsn hjX
        by_cases hb : 50 < sn
        · have hb' : (50 : Int) < sn := by omega
          go_wp2_with fail
          go_ret
          exact ⟨rfl, HK.out⟩
        · have hb' : ¬ (50 : Int) < sn := by omega
          go_wp2_with fail
          go_roundw
          case rel => exact ⟨j + 1, by go_num, by omega, HK⟩
          case measure => simp [intOf]; omega
      · have hlt' : ¬ (j : Int) < n := by omega
        by_cases ha : 1 ≤ al ∧ al ≤ 8
        · by_cases ho : OkL L
          · have HO := hide ho
            have hl6 : L.length ≤ 1000000 := by have := HLl.out; omega
            have cL := loadE_ok wr al ao n c X L (HS.out.kept HK.out) HX.out (by omega) ha ho
            have cR := fun w1 (h : Kept [] w w1) => rload_ok w1 al ao n c X L (HS.out.kept h) HX.out (by omega) ha ho
            have cT := fun w1 a1 n1 c1 (X1 : List (Ep × Value)) (h : SlE w1 a1 n1 c1 X1) (h1 : X1.map Prod.fst = L) (h2 : n1 ≤ 1000) => loadE_ok w1 al a1 n1 c1 X1 L h h1 h2 ha ho
            have HcT := hide cT
            have HcR := hide cR
            clear ho cT cR
            go_upto_region 11 with (go_at_call 25; refine cL.mono ?_; clear cL; rintro _ w1 ⟨p, rfl, hE1, hK1⟩)
            have HK1 : Hid (Kept [] w w1) := HK.out.trans hK1 (by simp)
            have HE1 := hide hE1
            clear hK1 hE1
            go_upto_region 12 with (go_at_call 26; refine (HcR.out w1 HK1.out).mono ?_; rintro _ w2 ⟨pm, rfl, hE2, hK2⟩)
            have HK2 : Hid (Kept [] w w2) := HK1.out.trans hK2 (by simp)
            have HE2 := hide hE2
            have HE1b := hide (HE1.out.kept hK2)
            clear hK2 hE2 HE1
            go_upto_region 17 with (first
              | (go_at_call 21; refine (list_call wr.heap.size w2 p al L HE1b.out HO.out hl6).mono ?_; rintro _ w3 ⟨v3, X3, rfl, hRx, hOx, hXx, hK3⟩
                 obtain ⟨a3, c3, rfl, hSx⟩ := hRx.sl hOx
                 have hn3 : X3.length ≤ 1000 := by rw [mapE_len hXx, HLl.out]; omega
                 generalize X3.length = n3 at *
                 have HSx := hide hSx
                 have HXx := hide hXx
                 have HK3 := hide hK3
                 clear hSx hXx hRx hOx hK3)
              | (go_at_call 25; refine (HcT.out w3 a3 n3 c3 X3 HSx.out HXx.out hn3).mono ?_; rintro _ wq ⟨pf, rfl, hE4, hK4⟩))
            have HK23 : Hid (Kept [] w2 wq) := HK3.out.trans hK4 (by simp)
            have HFq := hide hE4
            have HEq := hide (HE1b.out.kept HK23.out)
            have HDq := hide (HE2.out.kept HK23.out)
            have HKq : Hid (Kept [] w wq) := HK2.out.trans HK23.out (by simp)
            clear hE4 hK4 HE1b HE2 HcT HcR HSx HXx HK3
            generalize wr.heap.size = Bp at *
            generalize w1.heap.size = Bd at *
            generalize w3.heap.size = Bf at *
            obtain ⟨gm, cm, Xm, hm1, hSm, hXm, _, _, _⟩ := HDq.out.open HO.out.1
            have um : wq.cell? ⟨pm, 1, none⟩ = some (.slice (some ⟨gm, 0, none⟩) L.length cm) := cell_inC (k := 1) hm1 rfl
            obtain ⟨lm, hlm⟩ : ∃ lm, lm = L.length := ⟨_, rfl⟩
            rw [← hlm] at um hSm
            have HSm := hide hSm
            have HXm := hide hXm
            clear hm1 hSm hXm hlm
            refine wp_region_held_drew (S := fun w' => w'.cell? ⟨pm, 1, none⟩ = some (.slice (some ⟨gm, 0, none⟩) lm cm)) (by kernel_rfl) um (fun hHeld => ?_)
            refine wpAnyH_take (i := 0) (v := ?_) rfl (by kernel_rfl) (by kernel_rfl) (by kernel_rfl) (fun _ _ _ h => h) (Or.inl ⟨by rfl, ?_⟩) hHeld ?_
            rotate_left
            · intro w9 hSw; (try dsimp only at hSw); go_simp; (try with_reducible rfl)
            try simp only [List.getElem_toArray, List.getElem_cons_succ, List.getElem_cons_zero, Act.put, List.setIfInBounds_toArray, List.set_cons_zero, List.set_cons_succ]
            refine wpAnyH_take (i := 1) (v := ?_) rfl (by kernel_rfl) (by kernel_rfl) (by kernel_rfl) (fun _ _ _ h => h) (Or.inl ⟨by rfl, ?_⟩) hHeld ?_
            rotate_left
            · intro w9 hSw; (try dsimp only at hSw); go_simp; (try with_reducible rfl)
            try simp only [List.getElem_toArray, List.getElem_cons_succ, List.getElem_cons_zero, Act.put, List.setIfInBounds_toArray, List.set_cons_zero, List.set_cons_succ]
            refine wpAnyH_take (i := 2) (v := ?_) rfl (by kernel_rfl) (by kernel_rfl) (by kernel_rfl) (fun _ _ _ h => h) (Or.inl ⟨by rfl, ?_⟩) hHeld ?_
            rotate_left
            · intro w9 hSw; (try dsimp only at hSw); go_simp; (try with_reducible rfl)
            try simp only [List.getElem_toArray, List.getElem_cons_succ, List.getElem_cons_zero, Act.put, List.setIfInBounds_toArray, List.set_cons_zero, List.set_cons_succ]
            refine wpAnyH_take (i := 3) (v := ?_) rfl (by kernel_rfl) (by kernel_rfl) (by kernel_rfl) (fun _ _ _ h => h) (Or.inl ⟨by rfl, ?_⟩) hHeld ?_
            rotate_left
            · intro w9 hSw; (try dsimp only at hSw); go_simp; (try with_reducible rfl)
            try simp only [List.getElem_toArray, List.getElem_cons_succ, List.getElem_cons_zero, Act.put, List.setIfInBounds_toArray, List.set_cons_zero, List.set_cons_succ]
            refine wpAnyH_take (i := 5) (v := ?_) rfl (by kernel_rfl) (by kernel_rfl) (by kernel_rfl) (fun _ _ _ h => h) (Or.inl ⟨by rfl, ?_⟩) hHeld ?_
            rotate_left
            · intro w9 hSw; (try dsimp only at hSw); go_simp; (try with_reducible rfl)
            try simp only [List.getElem_toArray, List.getElem_cons_succ, List.getElem_cons_zero, Act.put, List.setIfInBounds_toArray, List.set_cons_zero, List.set_cons_succ]
            refine wpAnyH_take (i := 6) (v := ?_) rfl (by kernel_rfl) (by kernel_rfl) (by kernel_rfl) (fun _ _ _ h => h) (Or.inl ⟨by rfl, ?_⟩) hHeld ?_
            rotate_left
            · intro w9 hSw; (try dsimp only at hSw); go_simp; (try with_reducible rfl)
            try simp only [List.getElem_toArray, List.getElem_cons_succ, List.getElem_cons_zero, Act.put, List.setIfInBounds_toArray, List.set_cons_zero, List.set_cons_succ]
            refine wpAnyH_take (i := 7) (v := ?_) rfl (by kernel_rfl) (by kernel_rfl) (by kernel_rfl) (fun _ _ _ h => h) (Or.inl ⟨by rfl, ?_⟩) hHeld ?_
            rotate_left
            · intro w9 hSw; (try dsimp only at hSw); go_simp; (try with_reducible rfl)
            try simp only [List.getElem_toArray, List.getElem_cons_succ, List.getElem_cons_zero, Act.put, List.setIfInBounds_toArray, List.set_cons_zero, List.set_cons_succ]
            refine wpAnyH_take (i := 8) (v := ?_) rfl (by kernel_rfl) (by kernel_rfl) (by kernel_rfl) (fun _ _ _ h => h) (Or.inl ⟨by rfl, ?_⟩) hHeld ?_
            rotate_left
            · intro w9 hSw; (try dsimp only at hSw); go_simp; (try with_reducible rfl)
            try simp only [List.getElem_toArray, List.getElem_cons_succ, List.getElem_cons_zero, Act.put, List.setIfInBounds_toArray, List.set_cons_zero, List.set_cons_succ]
            refine wpAnyH_ready (rs := [4]) (by kernel_rfl) (by simp) (AllReadyH.cons rfl (fun K0 hK0 => ?_) AllReadyH.nil)
            go_simp
            refine (list_call Bp wq.drew p al L (HEq.out.kept (Kept.refl [] wq).drew) HO.out hl6).mono ?_
            rintro _ wa1 ⟨v1, X1, rfl, hRx, hOx, hXx, hKx⟩
            have HKwa1 : Hid (Kept [] wq wa1) := (Kept.refl [] wq).drew.trans hKx (by simp)
            obtain ⟨a1, c1', rfl, hSx⟩ := hRx.sl hOx
            obtain ⟨n1, hn1⟩ : ∃ n1, n1 = X1.length := ⟨_, rfl⟩
            rw [← hn1] at hSx ⊢
            have HS1 := hide hSx
            have HX1 := hide hXx
            clear hRx hOx hXx hKx hSx hn1
            go_wp2_with fail
            refine hK0.out _ _ (HKwa1.out.cell um (by simp)) (fun hHeld => ?_)
            clear hK0 K0
            try simp only [List.getElem_toArray, List.getElem_cons_succ, List.getElem_cons_zero, Act.put, List.setIfInBounds_toArray, List.set_cons_zero, List.set_cons_succ]
            refine wpAnyH_ready (rs := [9]) (by kernel_rfl) (by simp) (AllReadyH.cons rfl (fun K0 hK0 => ?_) AllReadyH.nil)
            go_simp
            refine (sameE_call wa1 a1 (some ⟨gm, 0, none⟩) n1 c1' lm cm X1 Xm HS1.out (HSm.out.kept HKwa1.out)).mono ?_
            rintro _ wa2 ⟨rfl, hKx⟩
            have HKwa2 : Hid (Kept [] wq wa2) := HKwa1.out.trans hKx (by simp)
            rw [show decide (X1.map Prod.fst = Xm.map Prod.fst) = true by rw [HX1.out, HXm.out]; simp]
            clear hKx
            go_wp2_with fail
            refine hK0.out _ _ (HKwa2.out.cell um (by simp)) (fun hHeld => ?_)
            clear hK0 K0
            try simp only [List.getElem_toArray, List.getElem_cons_succ, List.getElem_cons_zero, Act.put, List.setIfInBounds_toArray, List.set_cons_zero, List.set_cons_succ]
            refine wpAnyH_take (i := 10) (v := ?_) rfl (by kernel_rfl) (by kernel_rfl) (by kernel_rfl) (fun _ _ _ h => h) (Or.inl ⟨by rfl, ?_⟩) hHeld ?_
            rotate_left
            · intro w9 hSw; (try dsimp only at hSw); go_simp; (try with_reducible rfl)
            try simp only [List.getElem_toArray, List.getElem_cons_succ, List.getElem_cons_zero, Act.put, List.setIfInBounds_toArray, List.set_cons_zero, List.set_cons_succ]
            refine wpAnyH_take (i := 11) (v := ?_) rfl (by kernel_rfl) (by kernel_rfl) (by kernel_rfl) (fun _ _ _ h => h) (Or.inl ⟨by rfl, ?_⟩) hHeld ?_
            rotate_left
            · intro w9 hSw; (try dsimp only at hSw); go_simp; (try with_reducible rfl)
            try simp only [List.getElem_toArray, List.getElem_cons_succ, List.getElem_cons_zero, Act.put, List.setIfInBounds_toArray, List.set_cons_zero, List.set_cons_succ]
            refine wpAnyH_take (i := 12) (v := ?_) rfl (by kernel_rfl) (by kernel_rfl) (by kernel_rfl) (fun _ _ _ h => h) (Or.inl ⟨by rfl, ?_⟩) hHeld ?_
            rotate_left
            · intro w9 hSw; (try dsimp only at hSw); go_simp; (try with_reducible rfl)
            try simp only [List.getElem_toArray, List.getElem_cons_succ, List.getElem_cons_zero, Act.put, List.setIfInBounds_toArray, List.set_cons_zero, List.set_cons_succ]
            refine wpAnyH_take (i := 14) (v := ?_) rfl (by kernel_rfl) (by kernel_rfl) (by kernel_rfl) (fun _ _ _ h => h) (Or.inl ⟨by rfl, ?_⟩) hHeld ?_
            rotate_left
            · intro w9 hSw; (try dsimp only at hSw); go_simp; (try with_reducible rfl)
            try simp only [List.getElem_toArray, List.getElem_cons_succ, List.getElem_cons_zero, Act.put, List.setIfInBounds_toArray, List.set_cons_zero, List.set_cons_succ]
            refine wpAnyH_take (i := 15) (v := ?_) rfl (by kernel_rfl) (by kernel_rfl) (by kernel_rfl) (fun _ _ _ h => h) (Or.inl ⟨by rfl, ?_⟩) hHeld ?_
            rotate_left
            · intro w9 hSw; (try dsimp only at hSw); go_simp; (try with_reducible rfl)
            try simp only [List.getElem_toArray, List.getElem_cons_succ, List.getElem_cons_zero, Act.put, List.setIfInBounds_toArray, List.set_cons_zero, List.set_cons_succ]
            refine wpAnyH_take (i := 16) (v := ?_) rfl (by kernel_rfl) (by kernel_rfl) (by kernel_rfl) (fun _ _ _ h => h) (Or.inl ⟨by rfl, ?_⟩) hHeld ?_
            rotate_left
            · intro w9 hSw; (try dsimp only at hSw); go_simp; (try with_reducible rfl)
            try simp only [List.getElem_toArray, List.getElem_cons_succ, List.getElem_cons_zero, Act.put, List.setIfInBounds_toArray, List.set_cons_zero, List.set_cons_succ]
            refine wpAnyH_take (i := 17) (v := ?_) rfl (by kernel_rfl) (by kernel_rfl) (by kernel_rfl) (fun _ _ _ h => h) (Or.inl ⟨by rfl, ?_⟩) hHeld ?_
            rotate_left
            · intro w9 hSw; (try dsimp only at hSw); go_simp; (try with_reducible rfl)
            try simp only [List.getElem_toArray, List.getElem_cons_succ, List.getElem_cons_zero, Act.put, List.setIfInBounds_toArray, List.set_cons_zero, List.set_cons_succ]
            refine wpAnyH_ready (rs := [13]) (by kernel_rfl) (by simp) (AllReadyH.cons rfl (fun K0 hK0 => ?_) AllReadyH.nil)
            go_simp
            refine (list_call Bf wa2 pf al L (HFq.out.kept HKwa2.out) HO.out hl6).mono ?_
            rintro _ wa3 ⟨v3, X3, rfl, hRx, hOx, hXx, hKx⟩
            have HKwa3 : Hid (Kept [] wq wa3) := HKwa2.out.trans hKx (by simp)
            obtain ⟨a3, c3', rfl, hSx⟩ := hRx.sl hOx
            obtain ⟨n3, hn3⟩ : ∃ n3, n3 = X3.length := ⟨_, rfl⟩
            rw [← hn3] at hSx ⊢
            have HS3 := hide hSx
            have HX3 := hide hXx
            clear hRx hOx hXx hKx hSx hn3
            go_wp2_with fail
            refine hK0.out _ _ (HKwa3.out.cell um (by simp)) (fun hHeld => ?_)
            clear hK0 K0
            try simp only [List.getElem_toArray, List.getElem_cons_succ, List.getElem_cons_zero, Act.put, List.setIfInBounds_toArray, List.set_cons_zero, List.set_cons_succ]
            refine wpAnyH_ready (rs := [18]) (by kernel_rfl) (by simp) (AllReadyH.cons rfl (fun K0 hK0 => ?_) AllReadyH.nil)
            go_simp
            refine (sameE_call wa3 a3 (some ⟨gm, 0, none⟩) n3 c3' lm cm X3 Xm HS3.out (HSm.out.kept HKwa3.out)).mono ?_
            rintro _ wa4 ⟨rfl, hKx⟩
            have HKwa4 : Hid (Kept [] wq wa4) := HKwa3.out.trans hKx (by simp)
            rw [show decide (X3.map Prod.fst = Xm.map Prod.fst) = true by rw [HX3.out, HXm.out]; simp]
            clear hKx
            go_wp2_with fail
            refine hK0.out _ _ (HKwa4.out.cell um (by simp)) (fun hHeld => ?_)
            clear hK0 K0
            try simp only [List.getElem_toArray, List.getElem_cons_succ, List.getElem_cons_zero, Act.put, List.setIfInBounds_toArray, List.set_cons_zero, List.set_cons_succ]
            refine wpAnyH_take (i := 19) (v := ?_) rfl (by kernel_rfl) (by kernel_rfl) (by kernel_rfl) (fun _ _ _ h => h) (Or.inl ⟨by rfl, ?_⟩) hHeld ?_
            rotate_left
            · intro w9 hSw; (try dsimp only at hSw); go_simp; (try with_reducible rfl)
            try simp only [List.getElem_toArray, List.getElem_cons_succ, List.getElem_cons_zero, Act.put, List.setIfInBounds_toArray, List.set_cons_zero, List.set_cons_succ]
            refine wpAnyH_take (i := 20) (v := ?_) rfl (by kernel_rfl) (by kernel_rfl) (by kernel_rfl) (fun _ _ _ h => h) (Or.inl ⟨by rfl, ?_⟩) hHeld ?_
            rotate_left
            · intro w9 hSw; (try dsimp only at hSw); go_simp; (try with_reducible rfl)
            try simp only [List.getElem_toArray, List.getElem_cons_succ, List.getElem_cons_zero, Act.put, List.setIfInBounds_toArray, List.set_cons_zero, List.set_cons_succ]
            refine wpAnyH_take (i := 21) (v := ?_) rfl (by kernel_rfl) (by kernel_rfl) (by kernel_rfl) (fun _ _ _ h => h) (Or.inl ⟨by rfl, ?_⟩) hHeld ?_
            rotate_left
            · intro w9 hSw; (try dsimp only at hSw); go_simp; (try with_reducible rfl)
            try simp only [List.getElem_toArray, List.getElem_cons_succ, List.getElem_cons_zero, Act.put, List.setIfInBounds_toArray, List.set_cons_zero, List.set_cons_succ]
            refine wpAnyH_take (i := 22) (v := ?_) rfl (by kernel_rfl) (by kernel_rfl) (by kernel_rfl) (fun _ _ _ h => h) (Or.inl ⟨by rfl, ?_⟩) hHeld ?_
            rotate_left
            · intro w9 hSw; (try dsimp only at hSw); go_simp; (try with_reducible rfl)
            try simp only [List.getElem_toArray, List.getElem_cons_succ, List.getElem_cons_zero, Act.put, List.setIfInBounds_toArray, List.set_cons_zero, List.set_cons_succ]
            refine wpAnyH_take (i := 24) (v := ?_) rfl (by kernel_rfl) (by kernel_rfl) (by kernel_rfl) (fun _ _ _ h => h) (Or.inl ⟨by rfl, ?_⟩) hHeld ?_
            rotate_left
            · intro w9 hSw; (try dsimp only at hSw); go_simp; (try with_reducible rfl)
            try simp only [List.getElem_toArray, List.getElem_cons_succ, List.getElem_cons_zero, Act.put, List.setIfInBounds_toArray, List.set_cons_zero, List.set_cons_succ]
            refine wpAnyH_take (i := 25) (v := ?_) rfl (by kernel_rfl) (by kernel_rfl) (by kernel_rfl) (fun _ _ _ h => h) (Or.inl ⟨by rfl, ?_⟩) hHeld ?_
            rotate_left
            · intro w9 hSw; (try dsimp only at hSw); go_simp; (try with_reducible rfl)
            try simp only [List.getElem_toArray, List.getElem_cons_succ, List.getElem_cons_zero, Act.put, List.setIfInBounds_toArray, List.set_cons_zero, List.set_cons_succ]
            refine wpAnyH_ready (rs := [23]) (by kernel_rfl) (by simp) (AllReadyH.cons rfl (fun K0 hK0 => ?_) AllReadyH.nil)
            go_simp
            refine (at_call Bp wa4 p al L (HEq.out.kept HKwa4.out) HO.out hl6 slot).mono ?_
            rintro _ wa6 ⟨v6, rfl, hRx, hKx⟩
            have HKwa6 : Hid (Kept [] wq wa6) := HKwa4.out.trans hKx (by simp)
            obtain ⟨a6, c6', rfl, hSx⟩ := hRx.sl
            have HR6 := hide hSx
            clear hRx hKx hSx
            go_wp2_with fail
            refine hK0.out _ _ (HKwa6.out.cell um (by simp)) (fun hHeld => ?_)
            clear hK0 K0
            try simp only [List.getElem_toArray, List.getElem_cons_succ, List.getElem_cons_zero, Act.put, List.setIfInBounds_toArray, List.set_cons_zero, List.set_cons_succ]
            refine wpAnyH_ready (rs := [26]) (by kernel_rfl) (by simp) (AllReadyH.cons rfl (fun K0 hK0 => ?_) AllReadyH.nil)
            go_simp
            refine (rAt_call Bd wa6 pm al L (HDq.out.kept HKwa6.out) HO.out hl6 slot).mono ?_
            rintro _ wa7 ⟨v7, rfl, hRx, hKx⟩
            have HKwa7 : Hid (Kept [] wq wa7) := HKwa6.out.trans hKx (by simp)
            have HR6' := hide (HR6.out.kept hKx)
            obtain ⟨a7, c7', rfl, hSx⟩ := hRx.sl
            have HR7 := hide hSx
            clear hRx hKx hSx
            go_wp2_with fail
            refine hK0.out _ _ (HKwa7.out.cell um (by simp)) (fun hHeld => ?_)
            clear hK0 K0
            try simp only [List.getElem_toArray, List.getElem_cons_succ, List.getElem_cons_zero, Act.put, List.setIfInBounds_toArray, List.set_cons_zero, List.set_cons_succ]
            refine wpAnyH_ready (rs := [27]) (by kernel_rfl) (by simp) (AllReadyH.cons rfl (fun K0 hK0 => ?_) AllReadyH.nil)
            go_simp
            refine (sameI_call wa7 a6 a7 _ c6' _ c7' (atL L slot) (atL L slot) HR6'.out HR7.out).mono ?_
            rintro _ wa8 ⟨rfl, hKx⟩
            have HKwa8 : Hid (Kept [] wq wa8) := HKwa7.out.trans hKx (by simp)
            rw [show decide (atL L slot = atL L slot) = true by simp]
            clear hKx
            go_wp2_with fail
            refine hK0.out _ _ (HKwa8.out.cell um (by simp)) (fun hHeld => ?_)
            clear hK0 K0
            try simp only [List.getElem_toArray, List.getElem_cons_succ, List.getElem_cons_zero, Act.put, List.setIfInBounds_toArray, List.set_cons_zero, List.set_cons_succ]
            refine wpAnyH_take (i := 28) (v := ?_) rfl (by kernel_rfl) (by kernel_rfl) (by kernel_rfl) (fun _ _ _ h => h) (Or.inl ⟨by rfl, ?_⟩) hHeld ?_
            rotate_left
            · intro w9 hSw; (try dsimp only at hSw); go_simp; (try with_reducible rfl)
            try simp only [List.getElem_toArray, List.getElem_cons_succ, List.getElem_cons_zero, Act.put, List.setIfInBounds_toArray, List.set_cons_zero, List.set_cons_succ]
            refine wpAnyH_take (i := 29) (v := ?_) rfl (by kernel_rfl) (by kernel_rfl) (by kernel_rfl) (fun _ _ _ h => h) (Or.inl ⟨by rfl, ?_⟩) hHeld ?_
            rotate_left
            · intro w9 hSw; (try dsimp only at hSw); go_simp; (try with_reducible rfl)
            try simp only [List.getElem_toArray, List.getElem_cons_succ, List.getElem_cons_zero, Act.put, List.setIfInBounds_toArray, List.set_cons_zero, List.set_cons_succ]
            try simp only [List.getElem_toArray, List.getElem_cons_succ, List.getElem_cons_zero, Act.put, List.setIfInBounds_toArray, List.set_cons_zero, List.set_cons_succ]
            refine wpAnyH_done (by kernel_rfl) ?_ _
            clear hHeld
            go_wp2_with fail
            go_ret
            exact ⟨rfl, HKq.out.trans HKwa8.out (by simp)⟩
          · have cL := loadE_er wr al ao n c X L (HS.out.kept HK.out) HX.out (by omega) 4 (.inr ⟨ha, ho, rfl⟩)
            have cR := fun w1 (h : Kept [] w w1) => rload_er w1 al ao n c X L (HS.out.kept h) HX.out (by omega) 4 (.inr ⟨ha, ho, rfl⟩)
            go_upto_region 11 with (go_at_call 25; refine cL.mono ?_; clear cL; rintro _ w1 ⟨rfl, hK1⟩; have HK1 : Hid (Kept [] w w1) := HK.out.trans hK1 (by simp))
            go_upto_region 12 with (go_at_call 26; refine (cR w1 HK1.out).mono ?_; clear cR; rintro _ w2 ⟨rfl, hK2⟩; have HK2 : Hid (Kept [] w w2) := HK1.out.trans hK2 (by simp))
            clear hK1 hK2
            go_wp2_with fail
            go_ret
            exact ⟨rfl, HK2.out⟩
        · have cL := loadE_er wr al ao n c X L (HS.out.kept HK.out) HX.out (by omega) 1 (.inl ⟨ha, rfl⟩)
          have cR := fun w1 (h : Kept [] w w1) => rload_er w1 al ao n c X L (HS.out.kept h) HX.out (by omega) 1 (.inl ⟨ha, rfl⟩)
          go_upto_region 11 with (go_at_call 25; refine cL.mono ?_; clear cL; rintro _ w1 ⟨rfl, hK1⟩; have HK1 : Hid (Kept [] w w1) := HK.out.trans hK1 (by simp))
          go_upto_region 12 with (go_at_call 26; refine (cR w1 HK1.out).mono ?_; clear cR; rintro _ w2 ⟨rfl, hK2⟩; have HK2 : Hid (Kept [] w w2) := HK1.out.trans hK2 (by simp))
          clear hK1 hK2
          go_wp2_with fail
          go_ret
          exact ⟨rfl, HK2.out⟩

end Go.Proofs.Ytddkaagdkmmknaa
