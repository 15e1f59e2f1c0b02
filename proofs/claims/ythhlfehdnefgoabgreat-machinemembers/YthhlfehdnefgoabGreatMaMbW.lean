/-
  MachineMembers: the walk.
-/
import Derived.Test.YthhlfehdnefgoabGreatMaClone
import Derived.Test.YthhlfehdnefgoabGreatMaTell
import Derived.Test.YthhlfehdnefgoabGreatEdInts
namespace Go.Proofs.YthhlfehdnefgoabGreat
open Go.RowKit

theorem mem_uni {sz : Nat} {m : Ma} (h : MaOk sz m) {z x : Int} (hx : x ∈ atL m.e z) : x ∈ told (uniB m.e) := by
  obtain ⟨y, hy, e⟩ := at_mem h.e.1 z
  have hm := (h.e.2.2 y hy).1
  rw [e] at hx
  obtain ⟨h0, h1⟩ := hm.2.2 x hx
  refine mem_told.2 ⟨x.toNat, by omega, by omega, at_uni h.e.1 z ?_⟩
  rw [e]
  unfold setB
  rw [show ((x.toNat : Nat) : Int) = x by omega]
  simpa using hx

/-- The clone went on; what was told of the slots stays. -/
def MbI (wL w7 : World) (bn : Nat) (q : Pl) (n : Nat) (m : Ma) (E : List Rm) (iv : Value) (wr : World) : Prop := ∃ i : Nat, iv = .int .i64 (i : Int) ∧ i ≤ E.length ∧ Hid (LvA wL 0 0 wr bn q (apAll m (E.take i))) ∧ Hid (Tk 0 0 w7 wr) ∧ Hid (ApF (n + i) (apAll m (E.take i)))

theorem LvA.any {w0 w : World} {b : Nat} {p : Pl} {m : Ma} (h : ∃ F, LiveM w0 w F [] b p 2 3 m) : LvA w0 0 0 w b p m := by
  obtain ⟨F, h1⟩ := h; exact ⟨F, h1, fun _ _ => .inr (Nat.zero_le _)⟩

set_option linter.unusedSimpArgs false in
set_option maxHeartbeats 32000000 in
set_option maxRecDepth 100000 in
theorem mmembers_walk (W : World) (ao : Option Addr) (n c : Nat) (D : List Rm) (hD : SlR W ao n c D) (bo : Option Addr) (k d : Nat) (E : List Rm) (hE : SlR W bo k d E) :
    Calls Tryz.prog 5 #[.slice ao n c, .slice bo k d] W fun e w' => e = .returned (.bool true) ∧ Kept [] W w' := by
  have cW := awakeM_call W
  have hc := hD.2.1
  have hmx := hD.2.2.1
  have hd := hE.2.1
  have hmd := hE.2.2.1
  unfold maxLen at hmx hmd
  have HD := hide hD
  have HL := hide hD.1
  have HE := hide hE
  have HM := hide hE.1
  clear hD hE
  go_enter Tryz.func5, Tryz.ntmps5
  go_wp2_with fail
  refine cW.mono ?_
  rintro _ w1 ⟨rfl, hK1⟩
  have HDw := hide (HD.out.kept hK1)
  have HEw := hide (HE.out.kept hK1)
  have HK1 := hide hK1
  have cR := roomR_call w1 ao n c D HDw.out 60
  have cR2 := roomR_call w1 bo k d E HEw.out 60
  rw [show ((60 : Nat) : Int) = 60 from rfl] at cR cR2
  clear cW hK1
  go_upto_region 3 with fail
  by_cases hr : RoomR 60 D
  · rw [roomR_ok hr] at cR
    have HR := hide hr
    by_cases hr2 : RoomR 60 E
    · rw [roomR_ok hr2] at cR2
      have HR2 := hide hr2
      have cF := lv_fresh w1
      have hn60 : n ≤ 60 := by rw [← HL.out]; exact hr.1
      have hk60 : k ≤ 60 := by rw [← HM.out]; exact hr2.1
      clear hr hr2
      go_upto_region 5 with (first
        | (go_at_call 7; refine cR.mono ?_; clear cR; rintro _ W0 ⟨rfl, hW0⟩; obtain rfl := hW0.symm)
        | (go_at_call 7; refine cR2.mono ?_; clear cR2; rintro _ W0 ⟨rfl, hW0⟩; obtain rfl := hW0.symm))
      go_wp2_with fail
      refine cF.mono ?_
      rintro _ w3 ⟨b, p, rfl, hLv⟩
      have HLv := hide hLv
      clear hLv cF
      go_wp2_with fail
      go_loopw [6] (fun iv wr => LmI w1 b p (newM [0, 1, 2]) D iv wr) (fun iv _ => n - (intOf iv).toNat)
      case atStart => exact ⟨0, rfl, Nat.zero_le _, HLv⟩
      case round =>
        obtain ⟨i, rfl, hi, HLr⟩ := hrel
        have hil : i ≤ n := by rw [← HL.out]; exact hi
        by_cases hlt : i < n
        · have hlt' : (i : Int) < n := by omega
          have hic : i ≤ c := by omega
          have hiD : i < D.length := by rw [HL.out]; exact hlt
          obtain ⟨g, o, he, hat⟩ := HDw.out.2.2.2.1 i hiD
          subst he
          obtain ⟨c0, c1, c2, c3, c4, c5, c6, c7, c8, c9, c10⟩ := hat.kept HLr.out.keeps (by simp)
          have cA := lv_apply HLr.out (apF_take apF_new hi (by have := HR.out.1; omega)) (by have := HR.out.1; omega) D[i] ⟨(HDw.out.2.2.2.2 _ (List.getElem_mem hiD)).kept HLr.out.keeps, HR.out.2 _ (List.getElem_mem hiD)⟩
          have HT := hide (apAll_take (m := newM [0, 1, 2]) hiD)
          generalize apV 2 (apAll (newM [0, 1, 2]) (D.take i)) D[i].r = vv at cA
          generalize D[i] = y at *
          clear hat
          go_wp2_with fail
          refine cA.mono ?_
          rintro _ w4 ⟨a4, n4, c4', rfl, _, HL4, _⟩
          rw [← HT.out] at HL4
          clear cA c0 c1 c2 c3 c4 c5 c6 c7 c8 c9 c10
          go_wp2_with fail
          go_roundw
          case rel => exact ⟨i + 1, by go_num, by omega, HL4⟩
          case measure => simp [intOf]; omega
        · have hlt' : ¬ (i : Int) < n := by omega
          have HF := hide (apF_take apF_new hi (by have := HR.out.1; omega))
          have HN : Hid (0 + i ≤ 100) := by have := HR.out.1; show _ ≤ _; omega
          generalize apAll (newM [0, 1, 2]) (D.take i) = m at *
          generalize hni : 0 + i = ni at HF HN
          clear hni
          obtain ⟨wL, hwL⟩ : ∃ wL, wL = wr := ⟨_, rfl⟩
          subst hwL
          obtain ⟨F, hLF⟩ := id HLr.out
          have hml := HF.out.g
          have hEl := HF.out.e
          have hMa := HF.out.a
          have hn1 := HN.out
          have cC := mClone_call hLF (by omega) (by omega)
          have cP := fun W' (hk : Kept [] wL W') => mApplied_call (hLF.kept hk)
          have cT := fun W' (hk : Kept [] wL W') (z : Int) => mAt_call (hLF.kept hk) (by omega) z
          have cU := fun W' (hk : Kept [] wL W') => mUnion_call (hLF.kept hk) (by omega)
          rw [hMa] at cP
          clear hLF hml hEl
          go_wp2_with fail
          refine cC.mono ?_
          rintro _ w4 ⟨bn, q, rfl, HN4⟩
          have HA4 := hide (LvA.any HN4.out)
          have HK4 := hide HA4.out.lv.keeps
          clear cC
          go_wp2_with fail
          refine (cP _ HK4.out).mono ?_
          rintro _ W0 ⟨rfl, hW0⟩
          obtain rfl := hW0.symm
          clear cP
          have hwr : IntKind.i64.wrap ((ni : Int) + 1) = (ni : Int) + 1 := IntWalk.i64_in _ (by omega)
          go_wp2_with fail
          refine (cT _ HK4.out _).mono ?_
          rintro _ w5 ⟨v5, rfl, hr5, hK5⟩
          have hK45 := HK4.out.trans hK5 (by simp)
          obtain ⟨a5, c5, e5, hs5⟩ := hr5.sl
          obtain ⟨n5, hn5⟩ : ∃ n5, n5 = (atL m.e (ni : Int)).length := ⟨_, rfl⟩
          rw [← hn5] at e5 hs5
          subst e5
          have cT2 := cT _ hK45 ((ni : Int) + 1)
          have HK5 := hide hK5
          have HK45 := hide hK45
          have HR5' := hide hr5
          have HN5 := hide hn5
          clear hr5 hK5 hK45 hs5 hn5 cT
          go_wp2_with fail
          refine cT2.mono ?_
          rintro _ w6 ⟨v6, rfl, hr6, hK6⟩
          obtain ⟨a6, c6, e6, hs6⟩ := hr6.sl
          obtain ⟨n6, hn6⟩ : ∃ n6, n6 = (atL m.e ((ni : Int) + 1)).length := ⟨_, rfl⟩
          rw [← hn6] at e6 hs6
          subst e6
          obtain ⟨w7, hw7⟩ : ∃ w7, w7 = w6.alloc (.cells #[.slice a5 n5 c5, .slice a6 n6 c6] 44) := ⟨_, rfl⟩
          have hK67 : Kept [] w6 w7 := by rw [hw7]; exact (Kept.refl _ _).alloc _
          have HW7 : Hid (w7.heap[w6.heap.size]? = some (.cells #[.slice a5 n5 c5, .slice a6 n6 c6] 44 (0, 0))) := by rw [hw7]; exact heap_alloc_new w6 _
          have HV5 : Hid (RowI 0 w7 (.slice a5 n5 c5) (atL m.e (ni : Int))) := row_mono (hK67.ownsRow (hK6.ownsRow HR5'.out (by simp)) (by simp)) (Nat.zero_le _)
          have HV6 : Hid (RowI 0 w7 (.slice a6 n6 c6) (atL m.e ((ni : Int) + 1))) := row_mono (hK67.ownsRow hr6 (by simp)) (Nat.zero_le _)
          have hK47 : Kept [] w4 w7 := (HK5.out.trans hK6 (by simp)).trans hK67 (by simp)
          have HA7 := hide (HA4.out.kept hK47)
          have HF7 : Hid (ApF (ni + 0) (apAll m (E.take 0))) := HF.out
          have HN6 := hide hn6
          clear hr6 hK6 hK67 hs6 hn6 hK47 cT2 hwr
          go_upto_region 15 with fail
          rw [← hw7]
          clear hw7
          go_wp2_with fail
          go_loopw [10] (fun iv wr => MbI wL w7 bn q ni m E iv wr) (fun iv _ => k - (intOf iv).toNat)
          case atStart => exact ⟨0, rfl, Nat.zero_le _, HA7, Tk.kept (Kept.refl _ _), HF7⟩
          case round =>
            obtain ⟨j, rfl, hj, HAj, HTj, HFj⟩ := hrel
            have hjl : j ≤ k := by rw [← HM.out]; exact hj
            by_cases hjt : j < k
            · have hjt' : (j : Int) < k := by omega
              have hjc : j ≤ d := by omega
              have hjE : j < E.length := by rw [HM.out]; exact hjt
              by_cases hj2 : j < 2
              · obtain ⟨Fj, hLj, _⟩ := id HAj.out
                by_cases hj0 : j = 0
                · subst hj0
                  have HAt : Hid (atL (apAll m (E.take 0)).e (ni : Int) = atL m.e (ni : Int)) := rfl
                  have hj0z : (ni : Int) + 0 = ni := Int.add_zero _
                  have cB := fun W' (hk : Kept [] wr W') => mAt_call (hLj.kept hk) (by have := HFj.out.e; omega) (ni : Int)
                  rw [HAt.out] at cB
                  obtain ⟨z0, z1⟩ := cells2 (HTj.out.at_ _ _ _ _ HW7.out (by decide))
                  have HR5 : Hid (RowI 0 wr (.slice a5 n5 c5) (atL m.e (ni : Int))) := HTj.out.row _ _ _ _ _ _ HV5.out (by decide)
                  clear hLj
                  go_upto_region 18 with fail
                  refine wp_region_held_drew (S := fun w' => w'.cell? ⟨w6.heap.size, 0, none⟩ = some (.slice a5 n5 c5)) (by kernel_rfl) z0 (fun hHeld => ?_)
                  refine wpAnyH_take (i := 0) (v := ?_) rfl (by kernel_rfl) (by kernel_rfl) (by kernel_rfl) (fun _ _ _ h => h) (Or.inl ⟨by rfl, ?_⟩) hHeld ?_
                  rotate_left
                  · intro w9 hSw; (try dsimp only at hSw); go_simp; (try with_reducible rfl)
                  try simp only [List.getElem_toArray, List.getElem_cons_succ, List.getElem_cons_zero, Act.put, List.setIfInBounds_toArray, List.set_cons_zero, List.set_cons_succ]
                  refine wpAnyH_take (i := 1) (v := ?_) rfl (by kernel_rfl) (by kernel_rfl) (by kernel_rfl) (fun _ _ _ h => h) (Or.inl ⟨by rfl, ?_⟩) hHeld ?_
                  rotate_left
                  · intro w9 hSw; (try dsimp only at hSw); go_simp; (try with_reducible rfl)
                  try simp only [List.getElem_toArray, List.getElem_cons_succ, List.getElem_cons_zero, Act.put, List.setIfInBounds_toArray, List.set_cons_zero, List.set_cons_succ]
                  refine wpAnyH_take (i := 2) (v := ?_) rfl (by kernel_rfl) (by kernel_rfl) (by kernel_rfl) (fun _ _ _ h => h) (Or.inl ⟨by rfl, ?_⟩) hHeld ?_
                  rotate_left
                  · intro w9 hSw; (try dsimp only at hSw); go_simp; (try with_reducible rfl)
                  try simp only [List.getElem_toArray, List.getElem_cons_succ, List.getElem_cons_zero, Act.put, List.setIfInBounds_toArray, List.set_cons_zero, List.set_cons_succ]
                  refine wpAnyH_take (i := 3) (v := ?_) rfl (by kernel_rfl) (by kernel_rfl) (by kernel_rfl) (fun _ _ _ h => h) (Or.inl ⟨by rfl, ?_⟩) hHeld ?_
                  rotate_left
                  · intro w9 hSw; (try dsimp only at hSw); go_simp; (try with_reducible rfl)
                  try simp only [List.getElem_toArray, List.getElem_cons_succ, List.getElem_cons_zero, Act.put, List.setIfInBounds_toArray, List.set_cons_zero, List.set_cons_succ]
                  refine wpAnyH_take (i := 4) (v := ?_) rfl (by kernel_rfl) (by kernel_rfl) (by kernel_rfl) (fun _ _ _ h => h) (Or.inl ⟨by rfl, ?_⟩) hHeld ?_
                  rotate_left
                  · intro w9 hSw; (try dsimp only at hSw); go_simp; (try with_reducible rfl)
                  try simp only [List.getElem_toArray, List.getElem_cons_succ, List.getElem_cons_zero, Act.put, List.setIfInBounds_toArray, List.set_cons_zero, List.set_cons_succ]
                  refine wpAnyH_take (i := 5) (v := ?_) rfl (by kernel_rfl) (by kernel_rfl) (by kernel_rfl) (fun _ _ _ h => h) (Or.inl ⟨by rfl, ?_⟩) hHeld ?_
                  rotate_left
                  · intro w9 hSw; (try dsimp only at hSw); go_simp; (try with_reducible rfl)
                  try simp only [List.getElem_toArray, List.getElem_cons_succ, List.getElem_cons_zero, Act.put, List.setIfInBounds_toArray, List.set_cons_zero, List.set_cons_succ]
                  refine wpAnyH_take (i := 6) (v := ?_) rfl (by kernel_rfl) (by kernel_rfl) (by kernel_rfl) (fun _ _ _ h => h) (Or.inl ⟨by rfl, ?_⟩) hHeld ?_
                  rotate_left
                  · intro w9 hSw; (try dsimp only at hSw); go_simp; (try with_reducible rfl)
                  try simp only [List.getElem_toArray, List.getElem_cons_succ, List.getElem_cons_zero, Act.put, List.setIfInBounds_toArray, List.set_cons_zero, List.set_cons_succ]
                  refine wpAnyH_take (i := 8) (v := ?_) rfl (by kernel_rfl) (by kernel_rfl) (by kernel_rfl) (fun _ _ _ h => h) (Or.inl ⟨by rfl, ?_⟩) hHeld ?_
                  rotate_left
                  · intro w9 hSw; (try dsimp only at hSw); go_simp; (try with_reducible rfl)
                  try simp only [List.getElem_toArray, List.getElem_cons_succ, List.getElem_cons_zero, Act.put, List.setIfInBounds_toArray, List.set_cons_zero, List.set_cons_succ]
                  refine wpAnyH_take (i := 9) (v := ?_) rfl (by kernel_rfl) (by kernel_rfl) (by kernel_rfl) (fun _ _ _ h => h) (Or.inl ⟨by rfl, ?_⟩) hHeld ?_
                  rotate_left
                  · intro w9 hSw; (try dsimp only at hSw); go_simp; (try with_reducible rfl)
                  try simp only [List.getElem_toArray, List.getElem_cons_succ, List.getElem_cons_zero, Act.put, List.setIfInBounds_toArray, List.set_cons_zero, List.set_cons_succ]
                  refine wpAnyH_take (i := 10) (v := ?_) rfl (by kernel_rfl) (by kernel_rfl) (by kernel_rfl) (fun _ _ _ h => h) (Or.inl ⟨by rfl, ?_⟩) hHeld ?_
                  rotate_left
                  · intro w9 hSw; (try dsimp only at hSw); go_simp; (try with_reducible rfl)
                  try simp only [List.getElem_toArray, List.getElem_cons_succ, List.getElem_cons_zero, Act.put, List.setIfInBounds_toArray, List.set_cons_zero, List.set_cons_succ]
                  refine wpAnyH_take (i := 11) (v := ?_) rfl (by kernel_rfl) (by kernel_rfl) (by kernel_rfl) (fun _ _ _ h => h) (Or.inl ⟨by rfl, ?_⟩) hHeld ?_
                  rotate_left
                  · intro w9 hSw; (try dsimp only at hSw); go_simp; (try with_reducible rfl)
                  try simp only [List.getElem_toArray, List.getElem_cons_succ, List.getElem_cons_zero, Act.put, List.setIfInBounds_toArray, List.set_cons_zero, List.set_cons_succ]
                  refine wpAnyH_ready (rs := [7]) (by kernel_rfl) (by simp) (AllReadyH.cons rfl (fun K0 hK0 => ?_) AllReadyH.nil)
                  go_simp
                  try rw [show IntKind.i64.wrap (ni : Int) = (ni : Int) from IntWalk.i64_in _ (by omega)]
                  refine (cB _ (Kept.refl [] _).drew).mono ?_
                  rintro _ wA ⟨vA, rfl, hrA, hKA⟩
                  have hKA1 : Kept [] wr wA := (Kept.refl [] wr).drew.trans hKA (by simp)
                  obtain ⟨aA, cA, eA, hsA⟩ := hrA.sl
                  have hR5 : RowI 0 wA (.slice a5 n5 c5) (atL m.e (ni : Int)) := hKA1.ownsRow HR5.out (by simp)
                  obtain ⟨a5', c5', e5, hs5⟩ := hR5.sl
                  generalize hal : (atL m.e (ni : Int)) = al at *
                  obtain ⟨nl, hnl⟩ : ∃ nl, nl = al.length := ⟨_, rfl⟩
                  rw [← hnl] at eA hsA e5 hs5
                  subst eA
                  cases e5
                  have cI := sameI_call wA _ _ _ _ _ _ _ _ hsA hs5
                  rw [show decide (al = al) = true by simp] at cI
                  have HKA := hide hKA1
                  clear hrA hKA hsA hR5 hs5 hnl hKA1
                  go_wp2_with fail
                  refine hK0.out _ _ (HKA.out.cell z0 (by simp)) (fun hHeld => ?_)
                  clear hK0 K0
                  try simp only [List.getElem_toArray, List.getElem_cons_succ, List.getElem_cons_zero, Act.put, List.setIfInBounds_toArray, List.set_cons_zero, List.set_cons_succ]
                  refine wpAnyH_ready (rs := [12]) (by kernel_rfl) (by simp) (AllReadyH.cons rfl (fun K0 hK0 => ?_) AllReadyH.nil)
                  go_simp
                  refine cI.mono ?_
                  rintro _ wB ⟨rfl, hKB⟩
                  have hKB1 := HKA.out.trans hKB (by simp)
                  go_wp2_with fail
                  refine hK0.out _ _ (hKB1.cell z0 (by simp)) (fun hHeld => ?_)
                  clear hK0 K0
                  try simp only [List.getElem_toArray, List.getElem_cons_succ, List.getElem_cons_zero, Act.put, List.setIfInBounds_toArray, List.set_cons_zero, List.set_cons_succ]
                  refine wpAnyH_take (i := 13) (v := ?_) rfl (by kernel_rfl) (by kernel_rfl) (by kernel_rfl) (fun _ _ _ h => h) (Or.inl ⟨by rfl, ?_⟩) hHeld ?_
                  rotate_left
                  · intro w9 hSw; (try dsimp only at hSw); go_simp; (try with_reducible rfl)
                  try simp only [List.getElem_toArray, List.getElem_cons_succ, List.getElem_cons_zero, Act.put, List.setIfInBounds_toArray, List.set_cons_zero, List.set_cons_succ]
                  refine wpAnyH_take (i := 14) (v := ?_) rfl (by kernel_rfl) (by kernel_rfl) (by kernel_rfl) (fun _ _ _ h => h) (Or.inl ⟨by rfl, ?_⟩) hHeld ?_
                  rotate_left
                  · intro w9 hSw; (try dsimp only at hSw); go_simp; (try with_reducible rfl)
                  try simp only [List.getElem_toArray, List.getElem_cons_succ, List.getElem_cons_zero, Act.put, List.setIfInBounds_toArray, List.set_cons_zero, List.set_cons_succ]
                  refine wpAnyH_done (by kernel_rfl) ?_ _
                  clear hHeld
                  have HKB := hide hKB1
                  clear hKB hKB1 cB cI z0 z1
                  have HAx := hide (HAj.out.kept HKB.out)
                  have HTx := hide (HTj.out.trans (Tk.kept HKB.out))
                  obtain ⟨g, o, he, hat⟩ := HEw.out.2.2.2.1 0 hjE
                  subst he
                  have HKx : Hid (Kept [] w1 wB) := HLr.out.keeps.trans HAx.out.lv.keeps (by simp)
                  obtain ⟨c0, c1, c2, c3, c4, c5', c6', c7, c8, c9, c10⟩ := hat.kept HKx.out (by simp)
                  try simp only [Nat.zero_mul, Nat.one_mul, Nat.add_zero, Nat.zero_add, Nat.add_assoc, Nat.reduceAdd, Nat.reduceMul] at c0
                  try simp only [Nat.zero_mul, Nat.one_mul, Nat.add_zero, Nat.zero_add, Nat.add_assoc, Nat.reduceAdd, Nat.reduceMul] at c1
                  try simp only [Nat.zero_mul, Nat.one_mul, Nat.add_zero, Nat.zero_add, Nat.add_assoc, Nat.reduceAdd, Nat.reduceMul] at c2
                  try simp only [Nat.zero_mul, Nat.one_mul, Nat.add_zero, Nat.zero_add, Nat.add_assoc, Nat.reduceAdd, Nat.reduceMul] at c3
                  try simp only [Nat.zero_mul, Nat.one_mul, Nat.add_zero, Nat.zero_add, Nat.add_assoc, Nat.reduceAdd, Nat.reduceMul] at c4
                  try simp only [Nat.zero_mul, Nat.one_mul, Nat.add_zero, Nat.zero_add, Nat.add_assoc, Nat.reduceAdd, Nat.reduceMul] at c5'
                  try simp only [Nat.zero_mul, Nat.one_mul, Nat.add_zero, Nat.zero_add, Nat.add_assoc, Nat.reduceAdd, Nat.reduceMul] at c6'
                  try simp only [Nat.zero_mul, Nat.one_mul, Nat.add_zero, Nat.zero_add, Nat.add_assoc, Nat.reduceAdd, Nat.reduceMul] at c7
                  try simp only [Nat.zero_mul, Nat.one_mul, Nat.add_zero, Nat.zero_add, Nat.add_assoc, Nat.reduceAdd, Nat.reduceMul] at c8
                  try simp only [Nat.zero_mul, Nat.one_mul, Nat.add_zero, Nat.zero_add, Nat.add_assoc, Nat.reduceAdd, Nat.reduceMul] at c9
                  try simp only [Nat.zero_mul, Nat.one_mul, Nat.add_zero, Nat.zero_add, Nat.add_assoc, Nat.reduceAdd, Nat.reduceMul] at c10
                  have cA := lvA_apply HAx.out (Nat.zero_le _) HFj.out (by omega) E[0] ⟨(HEw.out.2.2.2.2 _ (List.getElem_mem hjE)).kept HKx.out, HR2.out.2 _ (List.getElem_mem hjE)⟩
                  have HT := hide (apAll_take (m := m) hjE)
                  have HF9 := hide (HFj.out.step (by omega) E[0].r)
                  rw [← HT.out] at cA HF9
                  generalize apV 2 (apAll m (E.take 0)) E[0].r = vv at cA
                  generalize E[0] = y at *
                  clear hat
                  go_wp2_with fail
                  refine cA.mono ?_
                  rintro _ w9 ⟨a9, n9, c9', rfl, _, HA9, HT9⟩
                  have HT9' := hide (HTx.out.trans HT9.out)
                  clear cA c0 c1 c2 c3 c4 c5' c6' c7 c8 c9 c10
                  go_wp2_with fail
                  go_roundw
                  case rel => exact ⟨0 + 1, by go_num, by omega, HA9, HT9', HF9⟩
                  case measure => simp [intOf]; omega
                · obtain rfl : j = 1 := by omega
                  have hE0 : 0 < E.length := by omega
                  have HAt : Hid (atL (apAll m (E.take 1)).e ((ni : Int) + 1) = atL m.e ((ni : Int) + 1)) := by
                    show _ = _
                    rw [show apAll m (E.take 1) = apM 2 3 m E[0].r from apAll_take (m := m) hE0]
                    exact members_next HF.out.ok _ (by omega) (by omega) (by omega)
                  have cB := fun W' (hk : Kept [] wr W') => mAt_call (hLj.kept hk) (by have := HFj.out.e; omega) ((ni : Int) + 1)
                  rw [HAt.out] at cB
                  obtain ⟨z0, z1⟩ := cells2 (HTj.out.at_ _ _ _ _ HW7.out (by decide))
                  have HR5 : Hid (RowI 0 wr (.slice a6 n6 c6) (atL m.e ((ni : Int) + 1))) := HTj.out.row _ _ _ _ _ _ HV6.out (by decide)
                  clear hLj
                  go_upto_region 18 with fail
                  refine wp_region_held_drew (S := fun w' => w'.cell? ⟨w6.heap.size, 1, none⟩ = some (.slice a6 n6 c6)) (by kernel_rfl) z1 (fun hHeld => ?_)
                  refine wpAnyH_take (i := 0) (v := ?_) rfl (by kernel_rfl) (by kernel_rfl) (by kernel_rfl) (fun _ _ _ h => h) (Or.inl ⟨by rfl, ?_⟩) hHeld ?_
                  rotate_left
                  · intro w9 hSw; (try dsimp only at hSw); go_simp; (try with_reducible rfl)
                  try simp only [List.getElem_toArray, List.getElem_cons_succ, List.getElem_cons_zero, Act.put, List.setIfInBounds_toArray, List.set_cons_zero, List.set_cons_succ]
                  refine wpAnyH_take (i := 1) (v := ?_) rfl (by kernel_rfl) (by kernel_rfl) (by kernel_rfl) (fun _ _ _ h => h) (Or.inl ⟨by rfl, ?_⟩) hHeld ?_
                  rotate_left
                  · intro w9 hSw; (try dsimp only at hSw); go_simp; (try with_reducible rfl)
                  try simp only [List.getElem_toArray, List.getElem_cons_succ, List.getElem_cons_zero, Act.put, List.setIfInBounds_toArray, List.set_cons_zero, List.set_cons_succ]
                  refine wpAnyH_take (i := 2) (v := ?_) rfl (by kernel_rfl) (by kernel_rfl) (by kernel_rfl) (fun _ _ _ h => h) (Or.inl ⟨by rfl, ?_⟩) hHeld ?_
                  rotate_left
                  · intro w9 hSw; (try dsimp only at hSw); go_simp; (try with_reducible rfl)
                  try simp only [List.getElem_toArray, List.getElem_cons_succ, List.getElem_cons_zero, Act.put, List.setIfInBounds_toArray, List.set_cons_zero, List.set_cons_succ]
                  refine wpAnyH_take (i := 3) (v := ?_) rfl (by kernel_rfl) (by kernel_rfl) (by kernel_rfl) (fun _ _ _ h => h) (Or.inl ⟨by rfl, ?_⟩) hHeld ?_
                  rotate_left
                  · intro w9 hSw; (try dsimp only at hSw); go_simp; (try with_reducible rfl)
                  try simp only [List.getElem_toArray, List.getElem_cons_succ, List.getElem_cons_zero, Act.put, List.setIfInBounds_toArray, List.set_cons_zero, List.set_cons_succ]
                  refine wpAnyH_take (i := 4) (v := ?_) rfl (by kernel_rfl) (by kernel_rfl) (by kernel_rfl) (fun _ _ _ h => h) (Or.inl ⟨by rfl, ?_⟩) hHeld ?_
                  rotate_left
                  · intro w9 hSw; (try dsimp only at hSw); go_simp; (try with_reducible rfl)
                  try simp only [List.getElem_toArray, List.getElem_cons_succ, List.getElem_cons_zero, Act.put, List.setIfInBounds_toArray, List.set_cons_zero, List.set_cons_succ]
                  refine wpAnyH_take (i := 5) (v := ?_) rfl (by kernel_rfl) (by kernel_rfl) (by kernel_rfl) (fun _ _ _ h => h) (Or.inl ⟨by rfl, ?_⟩) hHeld ?_
                  rotate_left
                  · intro w9 hSw; (try dsimp only at hSw); go_simp; (try with_reducible rfl)
                  try simp only [List.getElem_toArray, List.getElem_cons_succ, List.getElem_cons_zero, Act.put, List.setIfInBounds_toArray, List.set_cons_zero, List.set_cons_succ]
                  refine wpAnyH_take (i := 6) (v := ?_) rfl (by kernel_rfl) (by kernel_rfl) (by kernel_rfl) (fun _ _ _ h => h) (Or.inl ⟨by rfl, ?_⟩) hHeld ?_
                  rotate_left
                  · intro w9 hSw; (try dsimp only at hSw); go_simp; (try with_reducible rfl)
                  try simp only [List.getElem_toArray, List.getElem_cons_succ, List.getElem_cons_zero, Act.put, List.setIfInBounds_toArray, List.set_cons_zero, List.set_cons_succ]
                  refine wpAnyH_take (i := 8) (v := ?_) rfl (by kernel_rfl) (by kernel_rfl) (by kernel_rfl) (fun _ _ _ h => h) (Or.inl ⟨by rfl, ?_⟩) hHeld ?_
                  rotate_left
                  · intro w9 hSw; (try dsimp only at hSw); go_simp; (try with_reducible rfl)
                  try simp only [List.getElem_toArray, List.getElem_cons_succ, List.getElem_cons_zero, Act.put, List.setIfInBounds_toArray, List.set_cons_zero, List.set_cons_succ]
                  refine wpAnyH_take (i := 9) (v := ?_) rfl (by kernel_rfl) (by kernel_rfl) (by kernel_rfl) (fun _ _ _ h => h) (Or.inl ⟨by rfl, ?_⟩) hHeld ?_
                  rotate_left
                  · intro w9 hSw; (try dsimp only at hSw); go_simp; (try with_reducible rfl)
                  try simp only [List.getElem_toArray, List.getElem_cons_succ, List.getElem_cons_zero, Act.put, List.setIfInBounds_toArray, List.set_cons_zero, List.set_cons_succ]
                  refine wpAnyH_take (i := 10) (v := ?_) rfl (by kernel_rfl) (by kernel_rfl) (by kernel_rfl) (fun _ _ _ h => h) (Or.inl ⟨by rfl, ?_⟩) hHeld ?_
                  rotate_left
                  · intro w9 hSw; (try dsimp only at hSw); go_simp; (try with_reducible rfl)
                  try simp only [List.getElem_toArray, List.getElem_cons_succ, List.getElem_cons_zero, Act.put, List.setIfInBounds_toArray, List.set_cons_zero, List.set_cons_succ]
                  refine wpAnyH_take (i := 11) (v := ?_) rfl (by kernel_rfl) (by kernel_rfl) (by kernel_rfl) (fun _ _ _ h => h) (Or.inl ⟨by rfl, ?_⟩) hHeld ?_
                  rotate_left
                  · intro w9 hSw; (try dsimp only at hSw); go_simp; (try with_reducible rfl)
                  try simp only [List.getElem_toArray, List.getElem_cons_succ, List.getElem_cons_zero, Act.put, List.setIfInBounds_toArray, List.set_cons_zero, List.set_cons_succ]
                  refine wpAnyH_ready (rs := [7]) (by kernel_rfl) (by simp) (AllReadyH.cons rfl (fun K0 hK0 => ?_) AllReadyH.nil)
                  go_simp
                  try rw [show IntKind.i64.wrap ((ni : Int) + 1) = ((ni : Int) + 1) from IntWalk.i64_in _ (by omega)]
                  refine (cB _ (Kept.refl [] _).drew).mono ?_
                  rintro _ wA ⟨vA, rfl, hrA, hKA⟩
                  have hKA1 : Kept [] wr wA := (Kept.refl [] wr).drew.trans hKA (by simp)
                  obtain ⟨aA, cA, eA, hsA⟩ := hrA.sl
                  have hR5 : RowI 0 wA (.slice a6 n6 c6) (atL m.e ((ni : Int) + 1)) := hKA1.ownsRow HR5.out (by simp)
                  obtain ⟨a5', c5', e5, hs5⟩ := hR5.sl
                  generalize hal : (atL m.e ((ni : Int) + 1)) = al at *
                  obtain ⟨nl, hnl⟩ : ∃ nl, nl = al.length := ⟨_, rfl⟩
                  rw [← hnl] at eA hsA e5 hs5
                  subst eA
                  cases e5
                  have cI := sameI_call wA _ _ _ _ _ _ _ _ hsA hs5
                  rw [show decide (al = al) = true by simp] at cI
                  have HKA := hide hKA1
                  clear hrA hKA hsA hR5 hs5 hnl hKA1
                  go_wp2_with fail
                  refine hK0.out _ _ (HKA.out.cell z1 (by simp)) (fun hHeld => ?_)
                  clear hK0 K0
                  try simp only [List.getElem_toArray, List.getElem_cons_succ, List.getElem_cons_zero, Act.put, List.setIfInBounds_toArray, List.set_cons_zero, List.set_cons_succ]
                  refine wpAnyH_ready (rs := [12]) (by kernel_rfl) (by simp) (AllReadyH.cons rfl (fun K0 hK0 => ?_) AllReadyH.nil)
                  go_simp
                  refine cI.mono ?_
                  rintro _ wB ⟨rfl, hKB⟩
                  have hKB1 := HKA.out.trans hKB (by simp)
                  go_wp2_with fail
                  refine hK0.out _ _ (hKB1.cell z1 (by simp)) (fun hHeld => ?_)
                  clear hK0 K0
                  try simp only [List.getElem_toArray, List.getElem_cons_succ, List.getElem_cons_zero, Act.put, List.setIfInBounds_toArray, List.set_cons_zero, List.set_cons_succ]
                  refine wpAnyH_take (i := 13) (v := ?_) rfl (by kernel_rfl) (by kernel_rfl) (by kernel_rfl) (fun _ _ _ h => h) (Or.inl ⟨by rfl, ?_⟩) hHeld ?_
                  rotate_left
                  · intro w9 hSw; (try dsimp only at hSw); go_simp; (try with_reducible rfl)
                  try simp only [List.getElem_toArray, List.getElem_cons_succ, List.getElem_cons_zero, Act.put, List.setIfInBounds_toArray, List.set_cons_zero, List.set_cons_succ]
                  refine wpAnyH_take (i := 14) (v := ?_) rfl (by kernel_rfl) (by kernel_rfl) (by kernel_rfl) (fun _ _ _ h => h) (Or.inl ⟨by rfl, ?_⟩) hHeld ?_
                  rotate_left
                  · intro w9 hSw; (try dsimp only at hSw); go_simp; (try with_reducible rfl)
                  try simp only [List.getElem_toArray, List.getElem_cons_succ, List.getElem_cons_zero, Act.put, List.setIfInBounds_toArray, List.set_cons_zero, List.set_cons_succ]
                  refine wpAnyH_done (by kernel_rfl) ?_ _
                  clear hHeld
                  have HKB := hide hKB1
                  clear hKB hKB1 cB cI z0 z1
                  have HAx := hide (HAj.out.kept HKB.out)
                  have HTx := hide (HTj.out.trans (Tk.kept HKB.out))
                  obtain ⟨g, o, he, hat⟩ := HEw.out.2.2.2.1 1 hjE
                  subst he
                  have HKx : Hid (Kept [] w1 wB) := HLr.out.keeps.trans HAx.out.lv.keeps (by simp)
                  obtain ⟨c0, c1, c2, c3, c4, c5', c6', c7, c8, c9, c10⟩ := hat.kept HKx.out (by simp)
                  try simp only [Nat.zero_mul, Nat.one_mul, Nat.add_zero, Nat.zero_add, Nat.add_assoc, Nat.reduceAdd, Nat.reduceMul] at c0
                  try simp only [Nat.zero_mul, Nat.one_mul, Nat.add_zero, Nat.zero_add, Nat.add_assoc, Nat.reduceAdd, Nat.reduceMul] at c1
                  try simp only [Nat.zero_mul, Nat.one_mul, Nat.add_zero, Nat.zero_add, Nat.add_assoc, Nat.reduceAdd, Nat.reduceMul] at c2
                  try simp only [Nat.zero_mul, Nat.one_mul, Nat.add_zero, Nat.zero_add, Nat.add_assoc, Nat.reduceAdd, Nat.reduceMul] at c3
                  try simp only [Nat.zero_mul, Nat.one_mul, Nat.add_zero, Nat.zero_add, Nat.add_assoc, Nat.reduceAdd, Nat.reduceMul] at c4
                  try simp only [Nat.zero_mul, Nat.one_mul, Nat.add_zero, Nat.zero_add, Nat.add_assoc, Nat.reduceAdd, Nat.reduceMul] at c5'
                  try simp only [Nat.zero_mul, Nat.one_mul, Nat.add_zero, Nat.zero_add, Nat.add_assoc, Nat.reduceAdd, Nat.reduceMul] at c6'
                  try simp only [Nat.zero_mul, Nat.one_mul, Nat.add_zero, Nat.zero_add, Nat.add_assoc, Nat.reduceAdd, Nat.reduceMul] at c7
                  try simp only [Nat.zero_mul, Nat.one_mul, Nat.add_zero, Nat.zero_add, Nat.add_assoc, Nat.reduceAdd, Nat.reduceMul] at c8
                  try simp only [Nat.zero_mul, Nat.one_mul, Nat.add_zero, Nat.zero_add, Nat.add_assoc, Nat.reduceAdd, Nat.reduceMul] at c9
                  try simp only [Nat.zero_mul, Nat.one_mul, Nat.add_zero, Nat.zero_add, Nat.add_assoc, Nat.reduceAdd, Nat.reduceMul] at c10
                  have cA := lvA_apply HAx.out (Nat.zero_le _) HFj.out (by omega) E[1] ⟨(HEw.out.2.2.2.2 _ (List.getElem_mem hjE)).kept HKx.out, HR2.out.2 _ (List.getElem_mem hjE)⟩
                  have HT := hide (apAll_take (m := m) hjE)
                  have HF9 := hide (HFj.out.step (by omega) E[1].r)
                  rw [← HT.out] at cA HF9
                  generalize apV 2 (apAll m (E.take 1)) E[1].r = vv at cA
                  generalize E[1] = y at *
                  clear hat
                  go_wp2_with fail
                  refine cA.mono ?_
                  rintro _ w9 ⟨a9, n9, c9', rfl, _, HA9, HT9⟩
                  have HT9' := hide (HTx.out.trans HT9.out)
                  clear cA c0 c1 c2 c3 c4 c5' c6' c7 c8 c9 c10
                  go_wp2_with fail
                  go_roundw
                  case rel => exact ⟨1 + 1, by go_num, by omega, HA9, HT9', HF9⟩
                  case measure => simp [intOf]; omega
              · have hj2' : ¬ (j : Int) < 2 := by omega
                have hd2 : decide ((j : Int) < 2) = false := by simpa using hj2'
                have hd2n : decide (j < 2) = false := by simpa using hj2
                have hTr : (fun _ : World => True) wr := trivial
                go_upto_region 18 with fail
                refine wp_region_held_drew (S := fun _ => True) (by kernel_rfl) trivial (fun hHeld => ?_)
                refine wpAnyH_take (i := 0) (v := ?_) rfl (by kernel_rfl) (by kernel_rfl) (by kernel_rfl) (fun _ _ _ h => h) (Or.inl ⟨by rfl, ?_⟩) hHeld ?_
                rotate_left
                · intro w9 hSw; (try dsimp only at hSw); go_simp; (try with_reducible rfl)
                try simp only [List.getElem_toArray, List.getElem_cons_succ, List.getElem_cons_zero, Act.put, List.setIfInBounds_toArray, List.set_cons_zero, List.set_cons_succ]
                refine wpAnyH_take (i := 1) (v := ?_) rfl (by kernel_rfl) (by kernel_rfl) (by kernel_rfl) (fun _ _ _ h => h) (Or.inl ⟨by rfl, ?_⟩) hHeld ?_
                rotate_left
                · intro w9 hSw; (try dsimp only at hSw); go_simp; (try with_reducible rfl)
                try simp only [List.getElem_toArray, List.getElem_cons_succ, List.getElem_cons_zero, Act.put, List.setIfInBounds_toArray, List.set_cons_zero, List.set_cons_succ]
                refine wpAnyH_take (i := 2) (v := ?_) rfl (by kernel_rfl) (by kernel_rfl) (by kernel_rfl) (fun _ _ _ h => h) (Or.inl ⟨by rfl, ?_⟩) hHeld ?_
                rotate_left
                · intro w9 hSw; (try dsimp only at hSw); go_simp; (try with_reducible rfl)
                try simp only [List.getElem_toArray, List.getElem_cons_succ, List.getElem_cons_zero, Act.put, List.setIfInBounds_toArray, List.set_cons_zero, List.set_cons_succ]
                refine wpAnyH_take (i := 3) (v := undef) rfl (by kernel_rfl) (by kernel_rfl) (by kernel_rfl) (fun _ _ _ h => h) (Or.inr ⟨by rfl, rfl⟩) hHeld ?_
                try simp only [List.getElem_toArray, List.getElem_cons_succ, List.getElem_cons_zero, Act.put, List.setIfInBounds_toArray, List.set_cons_zero, List.set_cons_succ]
                refine wpAnyH_take (i := 4) (v := undef) rfl (by kernel_rfl) (by kernel_rfl) (by kernel_rfl) (fun _ _ _ h => h) (Or.inr ⟨by rfl, rfl⟩) hHeld ?_
                try simp only [List.getElem_toArray, List.getElem_cons_succ, List.getElem_cons_zero, Act.put, List.setIfInBounds_toArray, List.set_cons_zero, List.set_cons_succ]
                refine wpAnyH_take (i := 5) (v := undef) rfl (by kernel_rfl) (by kernel_rfl) (by kernel_rfl) (fun _ _ _ h => h) (Or.inr ⟨by rfl, rfl⟩) hHeld ?_
                try simp only [List.getElem_toArray, List.getElem_cons_succ, List.getElem_cons_zero, Act.put, List.setIfInBounds_toArray, List.set_cons_zero, List.set_cons_succ]
                refine wpAnyH_take (i := 6) (v := undef) rfl (by kernel_rfl) (by kernel_rfl) (by kernel_rfl) (fun _ _ _ h => h) (Or.inr ⟨by rfl, rfl⟩) hHeld ?_
                try simp only [List.getElem_toArray, List.getElem_cons_succ, List.getElem_cons_zero, Act.put, List.setIfInBounds_toArray, List.set_cons_zero, List.set_cons_succ]
                refine wpAnyH_take (i := 7) (v := undef) rfl (by kernel_rfl) (by kernel_rfl) (by kernel_rfl) (fun _ _ _ h => h) (Or.inr ⟨by rfl, rfl⟩) hHeld ?_
                try simp only [List.getElem_toArray, List.getElem_cons_succ, List.getElem_cons_zero, Act.put, List.setIfInBounds_toArray, List.set_cons_zero, List.set_cons_succ]
                refine wpAnyH_take (i := 8) (v := undef) rfl (by kernel_rfl) (by kernel_rfl) (by kernel_rfl) (fun _ _ _ h => h) (Or.inr ⟨by rfl, rfl⟩) hHeld ?_
                try simp only [List.getElem_toArray, List.getElem_cons_succ, List.getElem_cons_zero, Act.put, List.setIfInBounds_toArray, List.set_cons_zero, List.set_cons_succ]
                refine wpAnyH_take (i := 9) (v := undef) rfl (by kernel_rfl) (by kernel_rfl) (by kernel_rfl) (fun _ _ _ h => h) (Or.inr ⟨by rfl, rfl⟩) hHeld ?_
                try simp only [List.getElem_toArray, List.getElem_cons_succ, List.getElem_cons_zero, Act.put, List.setIfInBounds_toArray, List.set_cons_zero, List.set_cons_succ]
                refine wpAnyH_take (i := 10) (v := undef) rfl (by kernel_rfl) (by kernel_rfl) (by kernel_rfl) (fun _ _ _ h => h) (Or.inr ⟨by rfl, rfl⟩) hHeld ?_
                try simp only [List.getElem_toArray, List.getElem_cons_succ, List.getElem_cons_zero, Act.put, List.setIfInBounds_toArray, List.set_cons_zero, List.set_cons_succ]
                refine wpAnyH_take (i := 11) (v := undef) rfl (by kernel_rfl) (by kernel_rfl) (by kernel_rfl) (fun _ _ _ h => h) (Or.inr ⟨by rfl, rfl⟩) hHeld ?_
                try simp only [List.getElem_toArray, List.getElem_cons_succ, List.getElem_cons_zero, Act.put, List.setIfInBounds_toArray, List.set_cons_zero, List.set_cons_succ]
                refine wpAnyH_take (i := 12) (v := undef) rfl (by kernel_rfl) (by kernel_rfl) (by kernel_rfl) (fun _ _ _ h => h) (Or.inr ⟨by rfl, rfl⟩) hHeld ?_
                try simp only [List.getElem_toArray, List.getElem_cons_succ, List.getElem_cons_zero, Act.put, List.setIfInBounds_toArray, List.set_cons_zero, List.set_cons_succ]
                refine wpAnyH_take (i := 13) (v := undef) rfl (by kernel_rfl) (by kernel_rfl) (by kernel_rfl) (fun _ _ _ h => h) (Or.inr ⟨by rfl, rfl⟩) hHeld ?_
                try simp only [List.getElem_toArray, List.getElem_cons_succ, List.getElem_cons_zero, Act.put, List.setIfInBounds_toArray, List.set_cons_zero, List.set_cons_succ]
                refine wpAnyH_take (i := 14) (v := ?_) rfl (by kernel_rfl) (by kernel_rfl) (by kernel_rfl) (fun _ _ _ h => h) (Or.inl ⟨by rfl, ?_⟩) hHeld ?_
                rotate_left
                · intro w9 hSw; (try dsimp only at hSw); go_simp; (try with_reducible rfl)
                try simp only [List.getElem_toArray, List.getElem_cons_succ, List.getElem_cons_zero, Act.put, List.setIfInBounds_toArray, List.set_cons_zero, List.set_cons_succ]
                refine wpAnyH_done (by kernel_rfl) ?_ _
                clear hHeld
                have HKB : Hid (Kept [] wr wr.drew) := (Kept.refl [] _).drew
                obtain ⟨wB, hwB⟩ : ∃ wB, wB = wr.drew := ⟨_, rfl⟩
                rw [← hwB] at HKB ⊢
                clear hwB hTr
                have HAx := hide (HAj.out.kept HKB.out)
                have HTx := hide (HTj.out.trans (Tk.kept HKB.out))
                obtain ⟨g, o, he, hat⟩ := HEw.out.2.2.2.1 j hjE
                subst he
                have HKx : Hid (Kept [] w1 wB) := HLr.out.keeps.trans HAx.out.lv.keeps (by simp)
                obtain ⟨c0, c1, c2, c3, c4, c5', c6', c7, c8, c9, c10⟩ := hat.kept HKx.out (by simp)
                have cA := lvA_apply HAx.out (Nat.zero_le _) HFj.out (by omega) E[j] ⟨(HEw.out.2.2.2.2 _ (List.getElem_mem hjE)).kept HKx.out, HR2.out.2 _ (List.getElem_mem hjE)⟩
                have HT := hide (apAll_take (m := m) hjE)
                have HF9 := hide (HFj.out.step (by omega) E[j].r)
                rw [← HT.out] at cA HF9
                generalize apV 2 (apAll m (E.take j)) E[j].r = vv at cA
                generalize E[j] = y at *
                clear hat
                go_wp2_with fail
                refine cA.mono ?_
                rintro _ w9 ⟨a9, n9, c9', rfl, _, HA9, HT9⟩
                have HT9' := hide (HTx.out.trans HT9.out)
                clear cA c0 c1 c2 c3 c4 c5' c6' c7 c8 c9 c10
                go_wp2_with fail
                go_roundw
                case rel => exact ⟨j + 1, by go_num, by omega, HA9, HT9', HF9⟩
                case measure => simp [intOf]; omega
            · have hjt' : ¬ (j : Int) < k := by omega
              have hKL : Kept [] wL wr := HAj.out.lv.keeps
              have cV := cU _ hKL
              have HKL := hide hKL
              have HKe : Hid (Kept [] W wr) := (HK1.out.trans HLr.out.keeps (by simp)).trans hKL (by simp)
              have HW8 := hide (HTj.out.at_ _ _ _ _ HW7.out (by decide))
              have HV8 : Hid (RowI 0 wr (.slice a5 n5 c5) (atL m.e (ni : Int))) := HTj.out.row _ _ _ _ _ _ HV5.out (by decide)
              have HX8 : Hid (RowI 0 wr (.slice a6 n6 c6) (atL m.e ((ni : Int) + 1))) := HTj.out.row _ _ _ _ _ _ HV6.out (by decide)
              clear hKL cU
              go_wp2_with fail
              refine cV.mono ?_
              rintro _ w8 ⟨v8, rfl, hr8, hK8⟩
              obtain ⟨a8, c8, e8, hs8⟩ := hr8.sl
              obtain ⟨n8, hn8⟩ : ∃ n8, n8 = (told (uniB m.e)).length := ⟨_, rfl⟩
              rw [← hn8] at e8 hs8
              subst e8
              have cH := fun z => hasQ_call w8 a8 n8 c8 (told (uniB m.e)) hs8 z
              obtain ⟨z0, z1⟩ := cells2 (hK8.at HW8.out (by simp))
              have hR5 : RowI 0 w8 (.slice a5 n5 c5) (atL m.e (ni : Int)) := hK8.ownsRow HV8.out (by simp)
              have hR6 : RowI 0 w8 (.slice a6 n6 c6) (atL m.e ((ni : Int) + 1)) := hK8.ownsRow HX8.out (by simp)
              obtain ⟨a5', c5', e5, hs5⟩ := hR5.sl
              obtain ⟨a6', c6', e6, hs6⟩ := hR6.sl
              rw [← HN5.out] at e5 hs5
              rw [← HN6.out] at e6 hs6
              cases e5
              cases e6
              have HS5 := hide hs5
              have HS6 := hide hs6
              have hm5 := hs5.2.1
              have hm6 := hs6.2.1
              have hx5 := hs5.2.2.1
              have hx6 := hs6.2.2.1
              unfold maxLen at hx5 hx6
              have HKf := hide (HKe.out.trans hK8 (by simp))
              have hm1 : ∀ z ∈ atL m.e (ni : Int), decide (z ∈ told (uniB m.e)) = true := fun z hz => by simpa using mem_uni HF.out.ok hz
              have hm2 : ∀ z ∈ atL m.e ((ni : Int) + 1), decide (z ∈ told (uniB m.e)) = true := fun z hz => by simpa using mem_uni HF.out.ok hz
              have HM1 := hide hm1
              have HM2 := hide hm2
              clear cV hr8 hK8 hs8 hn8 hR5 hR6 hs5 hs6 hm1 hm2
              go_wp2_with fail
              go_loop [12] (fun iv => ∃ i : Nat, iv = .int .i64 (i : Int) ∧ i ≤ 2) (fun iv => 2 - (intOf iv).toNat)
              case atStart => exact ⟨0, rfl, by omega⟩
              case round =>
                obtain ⟨i2, rfl, hi2⟩ := hrel
                match i2, hi2 with
                | 0, _ =>
                  go_wp2_with fail
                  go_loop [13] (fun jv => ∃ t : Nat, jv = .int .i64 (t : Int) ∧ t ≤ n5) (fun jv => n5 - (intOf jv).toNat)
                  case atStart => exact ⟨0, rfl, Nat.zero_le _⟩
                  case round =>
                    obtain ⟨t, rfl, ht⟩ := hrel
                    by_cases htl : t < n5
                    · have htl' : (t : Int) < n5 := by omega
                      have htc : t ≤ c5 := by omega
                      have htS : t < (atL m.e (ni : Int)).length := by rw [← HN5.out]; exact htl
                      obtain ⟨g, o, he, y0⟩ := HS5.out.2.2.2 t htS
                      subst he
                      have hmem := HM1.out _ (List.getElem_mem htS)
                      generalize (atL m.e (ni : Int))[t] = ye at *
                      have cH1 := cH ye
                      rw [hmem] at cH1
                      clear hmem
                      go_wp2_with fail
                      refine cH1.mono ?_
                      rintro _ _ ⟨rfl, rfl⟩
                      clear cH1
                      go_wp2_with fail
                      go_round
                      case rel => exact ⟨t + 1, by go_num, by omega⟩
                      case measure => simp [intOf]; omega
                    · have htl' : ¬ (t : Int) < n5 := by omega
                      go_wp2_with fail
                      go_round
                      case rel => exact ⟨1, rfl, by omega⟩
                      case measure => simp [intOf]
                | 1, _ =>
                  go_wp2_with fail
                  go_loop [13] (fun jv => ∃ t : Nat, jv = .int .i64 (t : Int) ∧ t ≤ n6) (fun jv => n6 - (intOf jv).toNat)
                  case atStart => exact ⟨0, rfl, Nat.zero_le _⟩
                  case round =>
                    obtain ⟨t, rfl, ht⟩ := hrel
                    by_cases htl : t < n6
                    · have htl' : (t : Int) < n6 := by omega
                      have htc : t ≤ c6 := by omega
                      have htS : t < (atL m.e ((ni : Int) + 1)).length := by rw [← HN6.out]; exact htl
                      obtain ⟨g, o, he, y0⟩ := HS6.out.2.2.2 t htS
                      subst he
                      have hmem := HM2.out _ (List.getElem_mem htS)
                      generalize (atL m.e ((ni : Int) + 1))[t] = ye at *
                      have cH1 := cH ye
                      rw [hmem] at cH1
                      clear hmem
                      go_wp2_with fail
                      refine cH1.mono ?_
                      rintro _ _ ⟨rfl, rfl⟩
                      clear cH1
                      go_wp2_with fail
                      go_round
                      case rel => exact ⟨t + 1, by go_num, by omega⟩
                      case measure => simp [intOf]; omega
                    · have htl' : ¬ (t : Int) < n6 := by omega
                      go_wp2_with fail
                      go_round
                      case rel => exact ⟨2, rfl, by omega⟩
                      case measure => simp [intOf]
                | 2, _ =>
                  go_wp2_with fail
                  go_ret
                  exact ⟨rfl, HKf.out⟩
    · have hrf := roomR_no hr2
      rw [hrf] at cR2
      clear hr hr2 hrf
      go_wp2_with (first
        | (go_at_call 7; refine cR.mono ?_; clear cR; rintro _ W0 ⟨rfl, hW0⟩; obtain rfl := hW0.symm)
        | (go_at_call 7; refine cR2.mono ?_; clear cR2; rintro _ W0 ⟨rfl, hW0⟩; obtain rfl := hW0.symm))
      go_ret
      exact ⟨rfl, HK1.out⟩
  · have hrf := roomR_no hr
    rw [hrf] at cR
    clear hr hrf cR2
    go_wp2_with (go_at_call 7; refine cR.mono ?_; clear cR; rintro _ W0 ⟨rfl, hW0⟩; obtain rfl := hW0.symm)
    go_ret
    exact ⟨rfl, HK1.out⟩

end Go.Proofs.YthhlfehdnefgoabGreat
