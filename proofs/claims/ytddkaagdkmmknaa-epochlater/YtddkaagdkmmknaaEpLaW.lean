/-
  EpochLater: the walk.
-/
import Derived.Test.YtddkaagdkmmknaaEpAwake
import Derived.Test.YtddkaagdkmmknaaEpList
import Derived.Test.YtddkaagdkmmknaaEdMay
namespace Go.Proofs.Ytddkaagdkmmknaa
open Go.RowKit

theorem upd_mem {m : List Int} {q : Nat} {add : Bool} (hq : q < 15) : decide ((q : Int) ∈ told (updB (setB m) q add)) = add := by
  have h : (q : Int) ∈ told (updB (setB m) q add) ↔ add = true := by
    rw [mem_told]
    refine ⟨fun ⟨k, e, _, h⟩ => ?_, fun h => ⟨q, rfl, hq, by simpa [updB] using h⟩⟩
    obtain rfl : q = k := by omega
    simpa [updB] using h
  rw [Bool.eq_iff_iff, decide_eq_true_eq]
  exact h

theorem told_nodup (S : Nat → Bool) : (told S).Nodup := (told_rise S).imp (fun h => by omega)

theorem len_add {m : List Int} {q : Nat} (hm : May m) (hq : q < 15) (h : setB m q = false) : (told (updB (setB m) q true)).length = m.length + 1 := by
  have hn : (q : Int) ∉ m := by simpa [setB] using h
  have h1 : ((q : Int) :: m).Nodup := List.nodup_cons.2 ⟨hn, may_nodup hm⟩
  refine Nat.le_antisymm (len_le (m := (q : Int) :: m) (told_nodup _) fun x hx => ?_) (len_le h1 fun x hx => ?_)
  · obtain ⟨k, rfl, _, h2⟩ := mem_told.1 hx
    by_cases e : k = q
    · subst e; simp
    · simp only [updB, if_neg e, setB, decide_eq_true_eq] at h2
      simp [h2]
  · rw [mem_told]
    rcases List.mem_cons.1 hx with rfl | hx
    · exact ⟨q, rfl, hq, by simp [updB]⟩
    · have h2 := hm.2.2 x hx
      refine ⟨x.toNat, by omega, by omega, ?_⟩
      by_cases e : x.toNat = q
      · simp [updB, e]
      · simp only [updB, if_neg e, setB, decide_eq_true_eq]
        rw [show ((x.toNat : Nat) : Int) = x by omega]
        exact hx

theorem len_drop {m : List Int} {q : Nat} : (told (updB (setB m) q false)).length ≤ m.length :=
  len_le (told_nodup _) fun x hx => by
    obtain ⟨k, rfl, _, h2⟩ := mem_told.1 hx
    by_cases e : k = q
    · simp [updB, e] at h2
    · simpa [updB, e, setB] using h2

theorem at_one (m : List Int) (z : Int) : atL [⟨0, m⟩] z = m := by
  unfold atL plc cntL
  by_cases h : 0 ≤ z <;> simp [h]

theorem at_ahead {m m2 : List Int} {f z : Int} (h : 0 ≤ z) (h2 : z < f) : atL [⟨0, m⟩, ⟨f, m2⟩] z = m := by
  unfold atL plc cntL
  have : ¬ f ≤ z := by omega
  simp [h, this]

theorem at_behind {m m2 : List Int} {f z : Int} (h : 0 ≤ z) (h2 : f ≤ z) : atL [⟨0, m⟩, ⟨f, m2⟩] z = m2 := by
  unfold atL plc cntL
  simp [h, h2]

set_option linter.unusedSimpArgs false in
set_option maxHeartbeats 16000000 in
set_option maxRecDepth 100000 in
theorem later_walk (w : World) (ao : Option Addr) (n c : Nat) (m : List Int) (hM : SlI w ao n c m) (al : Int) (kd z q : Int) (add : Bool) :
    Calls Try.prog 8 #[.slice ao n c, .int .i64 al, .agg #[.int .i64 kd, .int .i64 z, .int .i64 q, .bool add]] w fun e w' => e = .returned (.bool true) ∧ Kept [] w w' := by
  obtain ⟨wb, hwb⟩ : ∃ wb, wb = w.alloc (.cells #[.int .i64 kd, .int .i64 z, .int .i64 q, .bool add] 37) := ⟨_, rfl⟩
  have hbl : wb.heap[w.heap.size]? = some (.cells #[.int .i64 kd, .int .i64 z, .int .i64 q, .bool add] 37 (0, 0)) := by rw [hwb]; exact heap_alloc_new w _
  have z1 := cell_inC (k := 1) hbl rfl
  have z2 := cell_inC (k := 2) hbl rfl
  have z3 := cell_inC (k := 3) hbl rfl
  have HKb0 : Hid (Kept [] w wb) := by show Kept _ _ _; rw [hwb]; exact (Kept.refl _ _).alloc _
  have cW := awake_call wb
  have HM := hide hM
  have HL := hide hM.1
  clear hM hbl
  go_enter Try.func8, Try.ntmps8
  go_upto_region 1 with fail
  rw [← hwb]
  clear hwb
  go_upto_region 3 with (go_at_call 9; refine cW.mono ?_; clear cW; rintro _ w0 ⟨rfl, hK0⟩)
  have HK0 := hide hK0
  have HK0w : Hid (Kept [] w w0) := HKb0.out.trans hK0 (by simp)
  clear hK0
  by_cases hn : 100 < n
  · have hn' : (100 : Int) < n := by omega
    go_wp2_with fail
    go_ret
    exact ⟨rfl, HK0w.out⟩
  · have hn' : ¬ (100 : Int) < n := by omega
    have cN := newE_call w0 ao n c m (HM.out.kept HK0w.out) al
    go_upto_region 6 with (go_at_call 10; refine cN.mono ?_; clear cN; rintro _ w1 (⟨⟨hm, ha1, ha2⟩, p, rfl, hE1, hK1⟩ | ⟨_, rfl, hK1⟩))
    · have HK1 : Hid (Kept [] wb w1) := HK0.out.trans hK1 (by simp)
      have HK1w : Hid (Kept [] w w1) := HK0w.out.trans hK1 (by simp)
      have HE1 := hide hE1
      have y1 := HK1.out.cell z1 (by simp)
      have y2 := HK1.out.cell z2 (by simp)
      have y3 := HK1.out.cell z3 (by simp)
      have cC := changeE_call _ w1 p al [⟨0, m⟩] hE1 (okL_new hm) ha1 ha2 (by simp) hK1.size z q add
      unfold ChgP at cC
      have HB1 : Hid (w0.heap.size ≤ w1.heap.size) := hK1.size
      have HBw : Hid (wb.heap.size ≤ w0.heap.size) := HK0.out.size
      have HBw2 : Hid (w.heap.size ≤ w0.heap.size) := HK0w.out.size
      clear hE1 hK1
      go_upto_region 8 with fail
      by_cases he : chE al [⟨0, m⟩] z q add = 0
      · have hcl : chL al [⟨0, m⟩] z q add = [⟨0, m⟩, ⟨z + al, told (updB (setB m) q.toNat add)⟩] := by unfold chL; rw [if_pos he]; rfl
        have hzz : 0 ≤ z ∧ z ≤ 1099511627776 - al ∧ 0 ≤ q ∧ q < 15 ∧ chgE (setB m) q.toNat add = 0 := by
          have h1 := he
          unfold chE at h1
          split at h1
          · cases h1
          · rename_i h2
            split at h1
            · cases h1
            · exact ⟨by omega, by omega, by omega, by omega, h1⟩
        obtain ⟨hz0, hz1, hq0, hq15, hcg⟩ := hzz
        have hok2 := okL_ch ⟨ha1, ha2⟩ (okL_new hm) z q add
        rw [he, hcl] at cC
        rw [hcl] at hok2
        have hsq := (chgE_zero hcg).2
        obtain ⟨q, rfl⟩ : ∃ qn : Nat, q = qn := ⟨q.toNat, by omega⟩
        rw [Int.toNat_natCast] at cC hok2 hcg hsq
        have hq15' : q < 15 := by omega
        obtain ⟨m2, hm2e⟩ : ∃ m2, m2 = told (updB (setB m) q add) := ⟨_, rfl⟩
        have hq2 : decide ((q : Int) ∈ m2) = add := by rw [hm2e]; exact upd_mem hq15'
        have hq1 : decide ((q : Int) ∈ m) = !add := hsq
        have hm2 : decide (May m2) = true := by rw [decide_eq_true_eq, hm2e]; exact may_told (chgE_zero hcg).1
        have HLe : Hid (add = true → m2.length = m.length + 1) := fun h => by subst h; rw [hm2e]; exact len_add hm hq15' hsq
        have HLd : Hid (add = false → m2.length ≤ m.length) := fun h => by subst h; rw [hm2e]; exact len_drop
        rw [← hm2e] at cC hok2
        have HOk := hide hok2
        have hw1 : IntKind.i64.wrap (z + al) = z + al := IntWalk.i64_in _ (by omega)
        have hw2 : IntKind.i64.wrap (z + al - 1) = z + al - 1 := IntWalk.i64_in _ (by omega)
        clear he hcl hcg hsq hok2 hm2e
        go_upto_region 10 with (go_at_call 11; refine cC.mono ?_; clear cC; rintro _ w2 ⟨rfl, hE2, hT2⟩)
        have HE2 := hide hE2
        have HK2 : Hid (Kept [] wb w2) := Tn.low HK1.out hT2 HBw.out
        have HK2w : Hid (Kept [] w w2) := Tn.low HK1w.out hT2 HBw2.out
        have x1 := HK2.out.cell z1 (by simp)
        have cA := atR_call _ w2 p al _ hE2 HOk.out (by simp) (z + al - 1)
        rw [at_ahead (by omega) (by omega)] at cA
        clear hE2 hT2 y1 y2 y3
        go_upto_region 11 with (go_at_call 13; refine cA.mono ?_; clear cA; rintro _ w3 ⟨bo, cb, rfl, hSb3, hK3⟩)
        have HK3 : Hid (Kept [] wb w3) := HK2.out.trans hK3 (by simp)
        have HK3w : Hid (Kept [] w w3) := HK2w.out.trans hK3 (by simp)
        have HSb3 := hide hSb3
        have u1 := HK3.out.cell z1 (by simp)
        have cA := atR_call _ w3 p al _ (HE2.out.kept hK3) HOk.out (by simp) (z + al)
        rw [at_behind (by omega) (by omega)] at cA
        clear hSb3 hK3 x1
        go_upto_region 12 with (go_at_call 13; refine cA.mono ?_; clear cA; rintro _ w6 ⟨co, cc, rfl, hSc6, hK6⟩)
        have HK6 : Hid (Kept [] wb w6) := HK3.out.trans hK6 (by simp)
        have HK6w : Hid (Kept [] w w6) := HK3w.out.trans hK6 (by simp)
        have HSc := hide hSc6
        have HSb : Hid (SlI w6.drew bo m.length cb m) := HSb3.out.kept (hK6.trans ((Kept.refl [] w6).drew) (by simp))
        clear hSc6 hK6 u1 HSb3 hw1 hw2
        cases add with
        | true =>
          have hle := HLe.out rfl
          have hln := HL.out
          have hlx : (m2.length : Int) = (n : Int) + 1 := by omega
          have hlen : ((m2.length : Int) == (n : Int) + 1) = true := by simpa using hlx
          have hwn : IntKind.i64.wrap ((n : Int) + 1) = (n : Int) + 1 := IntWalk.i64_in _ (by omega)
          clear HLe HLd hle hln
          simp only [Bool.not_true] at hq1
          refine wp_region_held_drew (S := fun w' => w'.cell? ⟨w.heap.size, 2, none⟩ = some (.int .i64 q) ∧ w'.cell? ⟨w.heap.size, 3, none⟩ = some (.bool true)) (by kernel_rfl) ⟨HK6.out.cell z2 (by simp), HK6.out.cell z3 (by simp)⟩ (fun hHeld => ?_)
          refine wpAnyH_take (i := 0) (v := ?_) rfl (by kernel_rfl) (by kernel_rfl) (by kernel_rfl) (fun _ _ _ h => h) (Or.inl ⟨by rfl, ?_⟩) hHeld ?_
          rotate_left
          · intro w9 hSw; (try dsimp only at hSw); go_simp; (try with_reducible rfl)
          try simp only [List.getElem_toArray, List.getElem_cons_succ, List.getElem_cons_zero, Act.put, List.setIfInBounds_toArray, List.set_cons_zero, List.set_cons_succ]
          refine wpAnyH_take (i := 1) (v := ?_) rfl (by kernel_rfl) (by kernel_rfl) (by kernel_rfl) (fun _ _ _ h => h) (Or.inl ⟨by rfl, ?_⟩) hHeld ?_
          rotate_left
          · intro w9 hSw; (try dsimp only at hSw); go_simp; (try with_reducible rfl)
          try simp only [List.getElem_toArray, List.getElem_cons_succ, List.getElem_cons_zero, Act.put, List.setIfInBounds_toArray, List.set_cons_zero, List.set_cons_succ]
          refine wpAnyH_ready (rs := [2]) (by kernel_rfl) (by simp) (AllReadyH.cons rfl (fun K0 hK0 => ?_) AllReadyH.nil)
          go_simp
          refine (sameI_call _ bo ao m.length cb n c m m HSb.out (HM.out.kept HK6w.out.drew)).mono ?_
          rintro _ w7 ⟨rfl, hK7a⟩
          rw [show decide (m = m) = true by simp]
          have HK7 : Hid (Kept [] w6 w7) := (Kept.refl [] w6).drew.trans hK7a (by simp)
          have HKb : Hid (Kept [] wb w7) := HK6.out.trans HK7.out (by simp)
          clear hK7a
          go_wp2_with fail
          refine hK0.out _ _ ⟨HKb.out.cell z2 (by simp), HKb.out.cell z3 (by simp)⟩ (fun hHeld => ?_)
          clear hK0 K0
          try simp only [List.getElem_toArray, List.getElem_cons_succ, List.getElem_cons_zero, Act.put, List.setIfInBounds_toArray, List.set_cons_zero, List.set_cons_succ]
          refine wpAnyH_take (i := 3) (v := ?_) rfl (by kernel_rfl) (by kernel_rfl) (by kernel_rfl) (fun _ _ _ h => h) (Or.inl ⟨by rfl, ?_⟩) hHeld ?_
          rotate_left
          · intro w9 hSw; (try dsimp only at hSw); go_simp; (try with_reducible rfl)
          try simp only [List.getElem_toArray, List.getElem_cons_succ, List.getElem_cons_zero, Act.put, List.setIfInBounds_toArray, List.set_cons_zero, List.set_cons_succ]
          refine wpAnyH_take (i := 4) (v := ?_) rfl (by kernel_rfl) (by kernel_rfl) (by kernel_rfl) (fun _ _ _ h => h) (Or.inl ⟨by rfl, ?_⟩) hHeld ?_
          rotate_left
          · intro w9 hSw; (try dsimp only at hSw); go_simp; (try with_reducible rfl)
          try simp only [List.getElem_toArray, List.getElem_cons_succ, List.getElem_cons_zero, Act.put, List.setIfInBounds_toArray, List.set_cons_zero, List.set_cons_succ]
          refine wpAnyH_take (i := 5) (v := ?_) rfl (by kernel_rfl) (by kernel_rfl) (by kernel_rfl) (fun _ _ _ h => h) (Or.inl ⟨by rfl, ?_⟩) hHeld ?_
          rotate_left
          · intro w9 hSw; (try dsimp only at hSw); go_simp; (try with_reducible rfl)
          try simp only [List.getElem_toArray, List.getElem_cons_succ, List.getElem_cons_zero, Act.put, List.setIfInBounds_toArray, List.set_cons_zero, List.set_cons_succ]
          refine wpAnyH_take (i := 6) (v := ?_) rfl (by kernel_rfl) (by kernel_rfl) (by kernel_rfl) (fun _ _ _ h => h) (Or.inl ⟨by rfl, ?_⟩) hHeld ?_
          rotate_left
          · intro w9 hSw; (try dsimp only at hSw); go_simp; (try with_reducible rfl)
          try simp only [List.getElem_toArray, List.getElem_cons_succ, List.getElem_cons_zero, Act.put, List.setIfInBounds_toArray, List.set_cons_zero, List.set_cons_succ]
          refine wpAnyH_take (i := 8) (v := ?_) rfl (by kernel_rfl) (by kernel_rfl) (by kernel_rfl) (fun _ _ _ h => h) (Or.inl ⟨by rfl, ?_⟩) hHeld ?_
          rotate_left
          · intro w9 hSw; (try dsimp only at hSw); go_simp; (try with_reducible rfl)
          try simp only [List.getElem_toArray, List.getElem_cons_succ, List.getElem_cons_zero, Act.put, List.setIfInBounds_toArray, List.set_cons_zero, List.set_cons_succ]
          refine wpAnyH_take (i := 9) (v := ?_) rfl (by kernel_rfl) (by kernel_rfl) (by kernel_rfl) (fun _ _ _ h => h) (Or.inl ⟨by rfl, ?_⟩) hHeld ?_
          rotate_left
          · intro w9 hSw; (try dsimp only at hSw); go_simp; (try with_reducible rfl)
          try simp only [List.getElem_toArray, List.getElem_cons_succ, List.getElem_cons_zero, Act.put, List.setIfInBounds_toArray, List.set_cons_zero, List.set_cons_succ]
          refine wpAnyH_ready (rs := [7]) (by kernel_rfl) (by simp) (AllReadyH.cons rfl (fun K0 hK0 => ?_) AllReadyH.nil)
          go_simp
          refine (hasQ_call w7 co m2.length cc m2 (HSc.out.kept HK7.out) q).mono ?_
          rintro _ _ ⟨rfl, rfl⟩
          rw [hq2]
          go_wp2_with fail
          refine hK0.out _ _ ⟨HKb.out.cell z2 (by simp), HKb.out.cell z3 (by simp)⟩ (fun hHeld => ?_)
          clear hK0 K0
          try simp only [List.getElem_toArray, List.getElem_cons_succ, List.getElem_cons_zero, Act.put, List.setIfInBounds_toArray, List.set_cons_zero, List.set_cons_succ]
          refine wpAnyH_take (i := 10) (v := ?_) rfl (by kernel_rfl) (by kernel_rfl) (by kernel_rfl) (fun _ _ _ h => h) (Or.inl ⟨by rfl, ?_⟩) hHeld ?_
          rotate_left
          · intro w9 hSw; (try dsimp only at hSw); go_simp; (try with_reducible rfl)
          try simp only [List.getElem_toArray, List.getElem_cons_succ, List.getElem_cons_zero, Act.put, List.setIfInBounds_toArray, List.set_cons_zero, List.set_cons_succ]
          refine wpAnyH_take (i := 11) (v := ?_) rfl (by kernel_rfl) (by kernel_rfl) (by kernel_rfl) (fun _ _ _ h => h) (Or.inl ⟨by rfl, ?_⟩) hHeld ?_
          rotate_left
          · intro w9 hSw; (try dsimp only at hSw); go_simp; (try with_reducible rfl)
          try simp only [List.getElem_toArray, List.getElem_cons_succ, List.getElem_cons_zero, Act.put, List.setIfInBounds_toArray, List.set_cons_zero, List.set_cons_succ]
          refine wpAnyH_take (i := 12) (v := ?_) rfl (by kernel_rfl) (by kernel_rfl) (by kernel_rfl) (fun _ _ _ h => h) (Or.inl ⟨by rfl, ?_⟩) hHeld ?_
          rotate_left
          · intro w9 hSw; (try dsimp only at hSw); go_simp; (try with_reducible rfl)
          try simp only [List.getElem_toArray, List.getElem_cons_succ, List.getElem_cons_zero, Act.put, List.setIfInBounds_toArray, List.set_cons_zero, List.set_cons_succ]
          refine wpAnyH_take (i := 13) (v := ?_) rfl (by kernel_rfl) (by kernel_rfl) (by kernel_rfl) (fun _ _ _ h => h) (Or.inl ⟨by rfl, ?_⟩) hHeld ?_
          rotate_left
          · intro w9 hSw; (try dsimp only at hSw); go_simp; (try with_reducible rfl)
          try simp only [List.getElem_toArray, List.getElem_cons_succ, List.getElem_cons_zero, Act.put, List.setIfInBounds_toArray, List.set_cons_zero, List.set_cons_succ]
          refine wpAnyH_take (i := 14) (v := ?_) rfl (by kernel_rfl) (by kernel_rfl) (by kernel_rfl) (fun _ _ _ h => h) (Or.inl ⟨by rfl, ?_⟩) hHeld ?_
          rotate_left
          · intro w9 hSw; (try dsimp only at hSw); go_simp; (try with_reducible rfl)
          try simp only [List.getElem_toArray, List.getElem_cons_succ, List.getElem_cons_zero, Act.put, List.setIfInBounds_toArray, List.set_cons_zero, List.set_cons_succ]
          refine wpAnyH_take (i := 15) (v := ?_) rfl (by kernel_rfl) (by kernel_rfl) (by kernel_rfl) (fun _ _ _ h => h) (Or.inl ⟨by rfl, ?_⟩) hHeld ?_
          rotate_left
          · intro w9 hSw; (try dsimp only at hSw); go_simp; (try with_reducible rfl)
          try simp only [List.getElem_toArray, List.getElem_cons_succ, List.getElem_cons_zero, Act.put, List.setIfInBounds_toArray, List.set_cons_zero, List.set_cons_succ]
          refine wpAnyH_take (i := 17) (v := ?_) rfl (by kernel_rfl) (by kernel_rfl) (by kernel_rfl) (fun _ _ _ h => h) (Or.inl ⟨by rfl, ?_⟩) hHeld ?_
          rotate_left
          · intro w9 hSw; (try dsimp only at hSw); go_simp; (try with_reducible rfl)
          try simp only [List.getElem_toArray, List.getElem_cons_succ, List.getElem_cons_zero, Act.put, List.setIfInBounds_toArray, List.set_cons_zero, List.set_cons_succ]
          refine wpAnyH_take (i := 18) (v := ?_) rfl (by kernel_rfl) (by kernel_rfl) (by kernel_rfl) (fun _ _ _ h => h) (Or.inl ⟨by rfl, ?_⟩) hHeld ?_
          rotate_left
          · intro w9 hSw; (try dsimp only at hSw); go_simp; (try with_reducible rfl)
          try simp only [List.getElem_toArray, List.getElem_cons_succ, List.getElem_cons_zero, Act.put, List.setIfInBounds_toArray, List.set_cons_zero, List.set_cons_succ]
          refine wpAnyH_ready (rs := [16]) (by kernel_rfl) (by simp) (AllReadyH.cons rfl (fun K0 hK0 => ?_) AllReadyH.nil)
          go_simp
          refine (hasQ_call w7 ao n c m (HM.out.kept (HK6w.out.trans HK7.out (by simp))) q).mono ?_
          rintro _ _ ⟨rfl, rfl⟩
          rw [hq1]
          go_wp2_with fail
          refine hK0.out _ _ ⟨HKb.out.cell z2 (by simp), HKb.out.cell z3 (by simp)⟩ (fun hHeld => ?_)
          clear hK0 K0
          try simp only [List.getElem_toArray, List.getElem_cons_succ, List.getElem_cons_zero, Act.put, List.setIfInBounds_toArray, List.set_cons_zero, List.set_cons_succ]
          refine wpAnyH_take (i := 19) (v := ?_) rfl (by kernel_rfl) (by kernel_rfl) (by kernel_rfl) (fun _ _ _ h => h) (Or.inl ⟨by rfl, ?_⟩) hHeld ?_
          rotate_left
          · intro w9 hSw; (try dsimp only at hSw); go_simp; (try with_reducible rfl)
          try simp only [List.getElem_toArray, List.getElem_cons_succ, List.getElem_cons_zero, Act.put, List.setIfInBounds_toArray, List.set_cons_zero, List.set_cons_succ]
          refine wpAnyH_take (i := 20) (v := ?_) rfl (by kernel_rfl) (by kernel_rfl) (by kernel_rfl) (fun _ _ _ h => h) (Or.inl ⟨by rfl, ?_⟩) hHeld ?_
          rotate_left
          · intro w9 hSw; (try dsimp only at hSw); go_simp; (try with_reducible rfl)
          try simp only [List.getElem_toArray, List.getElem_cons_succ, List.getElem_cons_zero, Act.put, List.setIfInBounds_toArray, List.set_cons_zero, List.set_cons_succ]
          refine wpAnyH_take (i := 21) (v := ?_) rfl (by kernel_rfl) (by kernel_rfl) (by kernel_rfl) (fun _ _ _ h => h) (Or.inl ⟨by rfl, ?_⟩) hHeld ?_
          rotate_left
          · intro w9 hSw; (try dsimp only at hSw); go_simp; (try with_reducible rfl)
          try simp only [List.getElem_toArray, List.getElem_cons_succ, List.getElem_cons_zero, Act.put, List.setIfInBounds_toArray, List.set_cons_zero, List.set_cons_succ]
          refine wpAnyH_take (i := 22) (v := ?_) rfl (by kernel_rfl) (by kernel_rfl) (by kernel_rfl) (fun _ _ _ h => h) (Or.inl ⟨by rfl, ?_⟩) hHeld ?_
          rotate_left
          · intro w9 hSw; (try dsimp only at hSw); go_simp; (try with_reducible rfl)
          try simp only [List.getElem_toArray, List.getElem_cons_succ, List.getElem_cons_zero, Act.put, List.setIfInBounds_toArray, List.set_cons_zero, List.set_cons_succ]
          refine wpAnyH_take (i := 23) (v := ?_) rfl (by kernel_rfl) (by kernel_rfl) (by kernel_rfl) (fun _ _ _ h => h) (Or.inl ⟨by rfl, ?_⟩) hHeld ?_
          rotate_left
          · intro w9 hSw; (try dsimp only at hSw); go_simp; (try with_reducible rfl)
          try simp only [List.getElem_toArray, List.getElem_cons_succ, List.getElem_cons_zero, Act.put, List.setIfInBounds_toArray, List.set_cons_zero, List.set_cons_succ]
          refine wpAnyH_take (i := 24) (v := ?_) rfl (by kernel_rfl) (by kernel_rfl) (by kernel_rfl) (fun _ _ _ h => h) (Or.inl ⟨by rfl, ?_⟩) hHeld ?_
          rotate_left
          · intro w9 hSw; (try dsimp only at hSw); go_simp; (try with_reducible rfl)
          try simp only [List.getElem_toArray, List.getElem_cons_succ, List.getElem_cons_zero, Act.put, List.setIfInBounds_toArray, List.set_cons_zero, List.set_cons_succ]
          refine wpAnyH_take (i := 25) (v := ?_) rfl (by kernel_rfl) (by kernel_rfl) (by kernel_rfl) (fun _ _ _ h => h) (Or.inl ⟨by rfl, ?_⟩) hHeld ?_
          rotate_left
          · intro w9 hSw; (try dsimp only at hSw); go_simp; (try with_reducible rfl)
          try simp only [List.getElem_toArray, List.getElem_cons_succ, List.getElem_cons_zero, Act.put, List.setIfInBounds_toArray, List.set_cons_zero, List.set_cons_succ]
          refine wpAnyH_take (i := 26) (v := ?_) rfl (by kernel_rfl) (by kernel_rfl) (by kernel_rfl) (fun _ _ _ h => h) (Or.inl ⟨by rfl, ?_⟩) hHeld ?_
          rotate_left
          · intro w9 hSw; (try dsimp only at hSw); go_simp; (try with_reducible rfl)
          try simp only [List.getElem_toArray, List.getElem_cons_succ, List.getElem_cons_zero, Act.put, List.setIfInBounds_toArray, List.set_cons_zero, List.set_cons_succ]
          refine wpAnyH_take (i := 27) (v := ?_) rfl (by kernel_rfl) (by kernel_rfl) (by kernel_rfl) (fun _ _ _ h => h) (Or.inl ⟨by rfl, ?_⟩) hHeld ?_
          rotate_left
          · intro w9 hSw; (try dsimp only at hSw); go_simp; (try with_reducible rfl)
          try simp only [List.getElem_toArray, List.getElem_cons_succ, List.getElem_cons_zero, Act.put, List.setIfInBounds_toArray, List.set_cons_zero, List.set_cons_succ]
          refine wpAnyH_take (i := 28) (v := ?_) rfl (by kernel_rfl) (by kernel_rfl) (by kernel_rfl) (fun _ _ _ h => h) (Or.inl ⟨by rfl, ?_⟩) hHeld ?_
          rotate_left
          · intro w9 hSw; (try dsimp only at hSw); go_simp; (try with_reducible rfl)
          try simp only [List.getElem_toArray, List.getElem_cons_succ, List.getElem_cons_zero, Act.put, List.setIfInBounds_toArray, List.set_cons_zero, List.set_cons_succ]
          refine wpAnyH_take (i := 29) (v := ?_) rfl (by kernel_rfl) (by kernel_rfl) (by kernel_rfl) (fun _ _ _ h => h) (Or.inl ⟨by rfl, ?_⟩) hHeld ?_
          rotate_left
          · intro w9 hSw; (try dsimp only at hSw); go_simp; (try with_reducible rfl)
          try simp only [List.getElem_toArray, List.getElem_cons_succ, List.getElem_cons_zero, Act.put, List.setIfInBounds_toArray, List.set_cons_zero, List.set_cons_succ]
          refine wpAnyH_take (i := 30) (v := ?_) rfl (by kernel_rfl) (by kernel_rfl) (by kernel_rfl) (fun _ _ _ h => h) (Or.inl ⟨by rfl, ?_⟩) hHeld ?_
          rotate_left
          · intro w9 hSw; (try dsimp only at hSw); go_simp; (try with_reducible rfl)
          try simp only [List.getElem_toArray, List.getElem_cons_succ, List.getElem_cons_zero, Act.put, List.setIfInBounds_toArray, List.set_cons_zero, List.set_cons_succ]
          refine wpAnyH_take (i := 31) (v := ?_) rfl (by kernel_rfl) (by kernel_rfl) (by kernel_rfl) (fun _ _ _ h => h) (Or.inl ⟨by rfl, ?_⟩) hHeld ?_
          rotate_left
          · intro w9 hSw; (try dsimp only at hSw); go_simp; (try with_reducible rfl)
          try simp only [List.getElem_toArray, List.getElem_cons_succ, List.getElem_cons_zero, Act.put, List.setIfInBounds_toArray, List.set_cons_zero, List.set_cons_succ]
          refine wpAnyH_take (i := 32) (v := ?_) rfl (by kernel_rfl) (by kernel_rfl) (by kernel_rfl) (fun _ _ _ h => h) (Or.inl ⟨by rfl, ?_⟩) hHeld ?_
          rotate_left
          · intro w9 hSw; (try dsimp only at hSw); go_simp; (try with_reducible rfl)
          try simp only [List.getElem_toArray, List.getElem_cons_succ, List.getElem_cons_zero, Act.put, List.setIfInBounds_toArray, List.set_cons_zero, List.set_cons_succ]
          refine wpAnyH_take (i := 33) (v := ?_) rfl (by kernel_rfl) (by kernel_rfl) (by kernel_rfl) (fun _ _ _ h => h) (Or.inl ⟨by rfl, ?_⟩) hHeld ?_
          rotate_left
          · intro w9 hSw; (try dsimp only at hSw); go_simp; (try with_reducible rfl)
          try simp only [List.getElem_toArray, List.getElem_cons_succ, List.getElem_cons_zero, Act.put, List.setIfInBounds_toArray, List.set_cons_zero, List.set_cons_succ]
          refine wpAnyH_ready (rs := [34]) (by kernel_rfl) (by simp) (AllReadyH.cons rfl (fun K0 hK0 => ?_) AllReadyH.nil)
          go_simp
          refine (rmay_call w7 co m2.length cc m2 (HSc.out.kept HK7.out)).mono ?_
          rintro _ w8 ⟨rfl, hK8⟩
          rw [hm2]
          have HK8 : Hid (Kept [] wb w8) := HKb.out.trans hK8 (by simp)
          have HK8w : Hid (Kept [] w w8) := (HK6w.out.trans HK7.out (by simp)).trans hK8 (by simp)
          clear hK8
          go_wp2_with fail
          refine hK0.out _ _ ⟨HK8.out.cell z2 (by simp), HK8.out.cell z3 (by simp)⟩ (fun hHeld => ?_)
          clear hK0 K0
          try simp only [List.getElem_toArray, List.getElem_cons_succ, List.getElem_cons_zero, Act.put, List.setIfInBounds_toArray, List.set_cons_zero, List.set_cons_succ]
          refine wpAnyH_take (i := 35) (v := ?_) rfl (by kernel_rfl) (by kernel_rfl) (by kernel_rfl) (fun _ _ _ h => h) (Or.inl ⟨by rfl, ?_⟩) hHeld ?_
          rotate_left
          · intro w9 hSw; (try dsimp only at hSw); go_simp; (try with_reducible rfl)
          try simp only [List.getElem_toArray, List.getElem_cons_succ, List.getElem_cons_zero, Act.put, List.setIfInBounds_toArray, List.set_cons_zero, List.set_cons_succ]
          refine wpAnyH_take (i := 36) (v := ?_) rfl (by kernel_rfl) (by kernel_rfl) (by kernel_rfl) (fun _ _ _ h => h) (Or.inl ⟨by rfl, ?_⟩) hHeld ?_
          rotate_left
          · intro w9 hSw; (try dsimp only at hSw); go_simp; (try with_reducible rfl)
          try simp only [List.getElem_toArray, List.getElem_cons_succ, List.getElem_cons_zero, Act.put, List.setIfInBounds_toArray, List.set_cons_zero, List.set_cons_succ]
          try simp only [List.getElem_toArray, List.getElem_cons_succ, List.getElem_cons_zero, Act.put, List.setIfInBounds_toArray, List.set_cons_zero, List.set_cons_succ]
          refine wpAnyH_done (by kernel_rfl) ?_ _
          clear hHeld
          go_wp2_with fail
          go_ret
          exact ⟨rfl, HK8w.out⟩
        | false =>
          have hle := HLd.out rfl
          have hln := HL.out
          have hlx : ¬ (m2.length : Int) = (n : Int) + 1 := by omega
          have hlen : ((m2.length : Int) == (n : Int) + 1) = false := by simpa using hlx
          have hwn : IntKind.i64.wrap ((n : Int) + 1) = (n : Int) + 1 := IntWalk.i64_in _ (by omega)
          clear HLe HLd hle hln
          simp only [Bool.not_false] at hq1
          refine wp_region_held_drew (S := fun w' => w'.cell? ⟨w.heap.size, 2, none⟩ = some (.int .i64 q) ∧ w'.cell? ⟨w.heap.size, 3, none⟩ = some (.bool false)) (by kernel_rfl) ⟨HK6.out.cell z2 (by simp), HK6.out.cell z3 (by simp)⟩ (fun hHeld => ?_)
          refine wpAnyH_take (i := 0) (v := ?_) rfl (by kernel_rfl) (by kernel_rfl) (by kernel_rfl) (fun _ _ _ h => h) (Or.inl ⟨by rfl, ?_⟩) hHeld ?_
          rotate_left
          · intro w9 hSw; (try dsimp only at hSw); go_simp; (try with_reducible rfl)
          try simp only [List.getElem_toArray, List.getElem_cons_succ, List.getElem_cons_zero, Act.put, List.setIfInBounds_toArray, List.set_cons_zero, List.set_cons_succ]
          refine wpAnyH_take (i := 1) (v := ?_) rfl (by kernel_rfl) (by kernel_rfl) (by kernel_rfl) (fun _ _ _ h => h) (Or.inl ⟨by rfl, ?_⟩) hHeld ?_
          rotate_left
          · intro w9 hSw; (try dsimp only at hSw); go_simp; (try with_reducible rfl)
          try simp only [List.getElem_toArray, List.getElem_cons_succ, List.getElem_cons_zero, Act.put, List.setIfInBounds_toArray, List.set_cons_zero, List.set_cons_succ]
          refine wpAnyH_ready (rs := [2]) (by kernel_rfl) (by simp) (AllReadyH.cons rfl (fun K0 hK0 => ?_) AllReadyH.nil)
          go_simp
          refine (sameI_call _ bo ao m.length cb n c m m HSb.out (HM.out.kept HK6w.out.drew)).mono ?_
          rintro _ w7 ⟨rfl, hK7a⟩
          rw [show decide (m = m) = true by simp]
          have HK7 : Hid (Kept [] w6 w7) := (Kept.refl [] w6).drew.trans hK7a (by simp)
          have HKb : Hid (Kept [] wb w7) := HK6.out.trans HK7.out (by simp)
          clear hK7a
          go_wp2_with fail
          refine hK0.out _ _ ⟨HKb.out.cell z2 (by simp), HKb.out.cell z3 (by simp)⟩ (fun hHeld => ?_)
          clear hK0 K0
          try simp only [List.getElem_toArray, List.getElem_cons_succ, List.getElem_cons_zero, Act.put, List.setIfInBounds_toArray, List.set_cons_zero, List.set_cons_succ]
          refine wpAnyH_take (i := 3) (v := ?_) rfl (by kernel_rfl) (by kernel_rfl) (by kernel_rfl) (fun _ _ _ h => h) (Or.inl ⟨by rfl, ?_⟩) hHeld ?_
          rotate_left
          · intro w9 hSw; (try dsimp only at hSw); go_simp; (try with_reducible rfl)
          try simp only [List.getElem_toArray, List.getElem_cons_succ, List.getElem_cons_zero, Act.put, List.setIfInBounds_toArray, List.set_cons_zero, List.set_cons_succ]
          refine wpAnyH_take (i := 4) (v := ?_) rfl (by kernel_rfl) (by kernel_rfl) (by kernel_rfl) (fun _ _ _ h => h) (Or.inl ⟨by rfl, ?_⟩) hHeld ?_
          rotate_left
          · intro w9 hSw; (try dsimp only at hSw); go_simp; (try with_reducible rfl)
          try simp only [List.getElem_toArray, List.getElem_cons_succ, List.getElem_cons_zero, Act.put, List.setIfInBounds_toArray, List.set_cons_zero, List.set_cons_succ]
          refine wpAnyH_take (i := 5) (v := ?_) rfl (by kernel_rfl) (by kernel_rfl) (by kernel_rfl) (fun _ _ _ h => h) (Or.inl ⟨by rfl, ?_⟩) hHeld ?_
          rotate_left
          · intro w9 hSw; (try dsimp only at hSw); go_simp; (try with_reducible rfl)
          try simp only [List.getElem_toArray, List.getElem_cons_succ, List.getElem_cons_zero, Act.put, List.setIfInBounds_toArray, List.set_cons_zero, List.set_cons_succ]
          refine wpAnyH_take (i := 6) (v := ?_) rfl (by kernel_rfl) (by kernel_rfl) (by kernel_rfl) (fun _ _ _ h => h) (Or.inl ⟨by rfl, ?_⟩) hHeld ?_
          rotate_left
          · intro w9 hSw; (try dsimp only at hSw); go_simp; (try with_reducible rfl)
          try simp only [List.getElem_toArray, List.getElem_cons_succ, List.getElem_cons_zero, Act.put, List.setIfInBounds_toArray, List.set_cons_zero, List.set_cons_succ]
          refine wpAnyH_take (i := 8) (v := ?_) rfl (by kernel_rfl) (by kernel_rfl) (by kernel_rfl) (fun _ _ _ h => h) (Or.inl ⟨by rfl, ?_⟩) hHeld ?_
          rotate_left
          · intro w9 hSw; (try dsimp only at hSw); go_simp; (try with_reducible rfl)
          try simp only [List.getElem_toArray, List.getElem_cons_succ, List.getElem_cons_zero, Act.put, List.setIfInBounds_toArray, List.set_cons_zero, List.set_cons_succ]
          refine wpAnyH_take (i := 9) (v := ?_) rfl (by kernel_rfl) (by kernel_rfl) (by kernel_rfl) (fun _ _ _ h => h) (Or.inl ⟨by rfl, ?_⟩) hHeld ?_
          rotate_left
          · intro w9 hSw; (try dsimp only at hSw); go_simp; (try with_reducible rfl)
          try simp only [List.getElem_toArray, List.getElem_cons_succ, List.getElem_cons_zero, Act.put, List.setIfInBounds_toArray, List.set_cons_zero, List.set_cons_succ]
          refine wpAnyH_ready (rs := [7]) (by kernel_rfl) (by simp) (AllReadyH.cons rfl (fun K0 hK0 => ?_) AllReadyH.nil)
          go_simp
          refine (hasQ_call w7 co m2.length cc m2 (HSc.out.kept HK7.out) q).mono ?_
          rintro _ _ ⟨rfl, rfl⟩
          rw [hq2]
          go_wp2_with fail
          refine hK0.out _ _ ⟨HKb.out.cell z2 (by simp), HKb.out.cell z3 (by simp)⟩ (fun hHeld => ?_)
          clear hK0 K0
          try simp only [List.getElem_toArray, List.getElem_cons_succ, List.getElem_cons_zero, Act.put, List.setIfInBounds_toArray, List.set_cons_zero, List.set_cons_succ]
          refine wpAnyH_take (i := 10) (v := ?_) rfl (by kernel_rfl) (by kernel_rfl) (by kernel_rfl) (fun _ _ _ h => h) (Or.inl ⟨by rfl, ?_⟩) hHeld ?_
          rotate_left
          · intro w9 hSw; (try dsimp only at hSw); go_simp; (try with_reducible rfl)
          try simp only [List.getElem_toArray, List.getElem_cons_succ, List.getElem_cons_zero, Act.put, List.setIfInBounds_toArray, List.set_cons_zero, List.set_cons_succ]
          refine wpAnyH_take (i := 11) (v := ?_) rfl (by kernel_rfl) (by kernel_rfl) (by kernel_rfl) (fun _ _ _ h => h) (Or.inl ⟨by rfl, ?_⟩) hHeld ?_
          rotate_left
          · intro w9 hSw; (try dsimp only at hSw); go_simp; (try with_reducible rfl)
          try simp only [List.getElem_toArray, List.getElem_cons_succ, List.getElem_cons_zero, Act.put, List.setIfInBounds_toArray, List.set_cons_zero, List.set_cons_succ]
          refine wpAnyH_take (i := 12) (v := ?_) rfl (by kernel_rfl) (by kernel_rfl) (by kernel_rfl) (fun _ _ _ h => h) (Or.inl ⟨by rfl, ?_⟩) hHeld ?_
          rotate_left
          · intro w9 hSw; (try dsimp only at hSw); go_simp; (try with_reducible rfl)
          try simp only [List.getElem_toArray, List.getElem_cons_succ, List.getElem_cons_zero, Act.put, List.setIfInBounds_toArray, List.set_cons_zero, List.set_cons_succ]
          refine wpAnyH_take (i := 13) (v := ?_) rfl (by kernel_rfl) (by kernel_rfl) (by kernel_rfl) (fun _ _ _ h => h) (Or.inl ⟨by rfl, ?_⟩) hHeld ?_
          rotate_left
          · intro w9 hSw; (try dsimp only at hSw); go_simp; (try with_reducible rfl)
          try simp only [List.getElem_toArray, List.getElem_cons_succ, List.getElem_cons_zero, Act.put, List.setIfInBounds_toArray, List.set_cons_zero, List.set_cons_succ]
          refine wpAnyH_take (i := 14) (v := ?_) rfl (by kernel_rfl) (by kernel_rfl) (by kernel_rfl) (fun _ _ _ h => h) (Or.inl ⟨by rfl, ?_⟩) hHeld ?_
          rotate_left
          · intro w9 hSw; (try dsimp only at hSw); go_simp; (try with_reducible rfl)
          try simp only [List.getElem_toArray, List.getElem_cons_succ, List.getElem_cons_zero, Act.put, List.setIfInBounds_toArray, List.set_cons_zero, List.set_cons_succ]
          refine wpAnyH_take (i := 15) (v := ?_) rfl (by kernel_rfl) (by kernel_rfl) (by kernel_rfl) (fun _ _ _ h => h) (Or.inl ⟨by rfl, ?_⟩) hHeld ?_
          rotate_left
          · intro w9 hSw; (try dsimp only at hSw); go_simp; (try with_reducible rfl)
          try simp only [List.getElem_toArray, List.getElem_cons_succ, List.getElem_cons_zero, Act.put, List.setIfInBounds_toArray, List.set_cons_zero, List.set_cons_succ]
          refine wpAnyH_take (i := 17) (v := ?_) rfl (by kernel_rfl) (by kernel_rfl) (by kernel_rfl) (fun _ _ _ h => h) (Or.inl ⟨by rfl, ?_⟩) hHeld ?_
          rotate_left
          · intro w9 hSw; (try dsimp only at hSw); go_simp; (try with_reducible rfl)
          try simp only [List.getElem_toArray, List.getElem_cons_succ, List.getElem_cons_zero, Act.put, List.setIfInBounds_toArray, List.set_cons_zero, List.set_cons_succ]
          refine wpAnyH_take (i := 18) (v := ?_) rfl (by kernel_rfl) (by kernel_rfl) (by kernel_rfl) (fun _ _ _ h => h) (Or.inl ⟨by rfl, ?_⟩) hHeld ?_
          rotate_left
          · intro w9 hSw; (try dsimp only at hSw); go_simp; (try with_reducible rfl)
          try simp only [List.getElem_toArray, List.getElem_cons_succ, List.getElem_cons_zero, Act.put, List.setIfInBounds_toArray, List.set_cons_zero, List.set_cons_succ]
          refine wpAnyH_ready (rs := [16]) (by kernel_rfl) (by simp) (AllReadyH.cons rfl (fun K0 hK0 => ?_) AllReadyH.nil)
          go_simp
          refine (hasQ_call w7 ao n c m (HM.out.kept (HK6w.out.trans HK7.out (by simp))) q).mono ?_
          rintro _ _ ⟨rfl, rfl⟩
          rw [hq1]
          go_wp2_with fail
          refine hK0.out _ _ ⟨HKb.out.cell z2 (by simp), HKb.out.cell z3 (by simp)⟩ (fun hHeld => ?_)
          clear hK0 K0
          try simp only [List.getElem_toArray, List.getElem_cons_succ, List.getElem_cons_zero, Act.put, List.setIfInBounds_toArray, List.set_cons_zero, List.set_cons_succ]
          refine wpAnyH_take (i := 19) (v := ?_) rfl (by kernel_rfl) (by kernel_rfl) (by kernel_rfl) (fun _ _ _ h => h) (Or.inl ⟨by rfl, ?_⟩) hHeld ?_
          rotate_left
          · intro w9 hSw; (try dsimp only at hSw); go_simp; (try with_reducible rfl)
          try simp only [List.getElem_toArray, List.getElem_cons_succ, List.getElem_cons_zero, Act.put, List.setIfInBounds_toArray, List.set_cons_zero, List.set_cons_succ]
          refine wpAnyH_take (i := 20) (v := ?_) rfl (by kernel_rfl) (by kernel_rfl) (by kernel_rfl) (fun _ _ _ h => h) (Or.inl ⟨by rfl, ?_⟩) hHeld ?_
          rotate_left
          · intro w9 hSw; (try dsimp only at hSw); go_simp; (try with_reducible rfl)
          try simp only [List.getElem_toArray, List.getElem_cons_succ, List.getElem_cons_zero, Act.put, List.setIfInBounds_toArray, List.set_cons_zero, List.set_cons_succ]
          refine wpAnyH_take (i := 21) (v := ?_) rfl (by kernel_rfl) (by kernel_rfl) (by kernel_rfl) (fun _ _ _ h => h) (Or.inl ⟨by rfl, ?_⟩) hHeld ?_
          rotate_left
          · intro w9 hSw; (try dsimp only at hSw); go_simp; (try with_reducible rfl)
          try simp only [List.getElem_toArray, List.getElem_cons_succ, List.getElem_cons_zero, Act.put, List.setIfInBounds_toArray, List.set_cons_zero, List.set_cons_succ]
          refine wpAnyH_take (i := 22) (v := ?_) rfl (by kernel_rfl) (by kernel_rfl) (by kernel_rfl) (fun _ _ _ h => h) (Or.inl ⟨by rfl, ?_⟩) hHeld ?_
          rotate_left
          · intro w9 hSw; (try dsimp only at hSw); go_simp; (try with_reducible rfl)
          try simp only [List.getElem_toArray, List.getElem_cons_succ, List.getElem_cons_zero, Act.put, List.setIfInBounds_toArray, List.set_cons_zero, List.set_cons_succ]
          refine wpAnyH_take (i := 23) (v := ?_) rfl (by kernel_rfl) (by kernel_rfl) (by kernel_rfl) (fun _ _ _ h => h) (Or.inl ⟨by rfl, ?_⟩) hHeld ?_
          rotate_left
          · intro w9 hSw; (try dsimp only at hSw); go_simp; (try with_reducible rfl)
          try simp only [List.getElem_toArray, List.getElem_cons_succ, List.getElem_cons_zero, Act.put, List.setIfInBounds_toArray, List.set_cons_zero, List.set_cons_succ]
          refine wpAnyH_take (i := 24) (v := ?_) rfl (by kernel_rfl) (by kernel_rfl) (by kernel_rfl) (fun _ _ _ h => h) (Or.inl ⟨by rfl, ?_⟩) hHeld ?_
          rotate_left
          · intro w9 hSw; (try dsimp only at hSw); go_simp; (try with_reducible rfl)
          try simp only [List.getElem_toArray, List.getElem_cons_succ, List.getElem_cons_zero, Act.put, List.setIfInBounds_toArray, List.set_cons_zero, List.set_cons_succ]
          refine wpAnyH_take (i := 25) (v := ?_) rfl (by kernel_rfl) (by kernel_rfl) (by kernel_rfl) (fun _ _ _ h => h) (Or.inl ⟨by rfl, ?_⟩) hHeld ?_
          rotate_left
          · intro w9 hSw; (try dsimp only at hSw); go_simp; (try with_reducible rfl)
          try simp only [List.getElem_toArray, List.getElem_cons_succ, List.getElem_cons_zero, Act.put, List.setIfInBounds_toArray, List.set_cons_zero, List.set_cons_succ]
          refine wpAnyH_take (i := 26) (v := ?_) rfl (by kernel_rfl) (by kernel_rfl) (by kernel_rfl) (fun _ _ _ h => h) (Or.inl ⟨by rfl, ?_⟩) hHeld ?_
          rotate_left
          · intro w9 hSw; (try dsimp only at hSw); go_simp; (try with_reducible rfl)
          try simp only [List.getElem_toArray, List.getElem_cons_succ, List.getElem_cons_zero, Act.put, List.setIfInBounds_toArray, List.set_cons_zero, List.set_cons_succ]
          refine wpAnyH_take (i := 27) (v := ?_) rfl (by kernel_rfl) (by kernel_rfl) (by kernel_rfl) (fun _ _ _ h => h) (Or.inl ⟨by rfl, ?_⟩) hHeld ?_
          rotate_left
          · intro w9 hSw; (try dsimp only at hSw); go_simp; (try with_reducible rfl)
          try simp only [List.getElem_toArray, List.getElem_cons_succ, List.getElem_cons_zero, Act.put, List.setIfInBounds_toArray, List.set_cons_zero, List.set_cons_succ]
          refine wpAnyH_take (i := 28) (v := ?_) rfl (by kernel_rfl) (by kernel_rfl) (by kernel_rfl) (fun _ _ _ h => h) (Or.inl ⟨by rfl, ?_⟩) hHeld ?_
          rotate_left
          · intro w9 hSw; (try dsimp only at hSw); go_simp; (try with_reducible rfl)
          try simp only [List.getElem_toArray, List.getElem_cons_succ, List.getElem_cons_zero, Act.put, List.setIfInBounds_toArray, List.set_cons_zero, List.set_cons_succ]
          refine wpAnyH_take (i := 29) (v := ?_) rfl (by kernel_rfl) (by kernel_rfl) (by kernel_rfl) (fun _ _ _ h => h) (Or.inl ⟨by rfl, ?_⟩) hHeld ?_
          rotate_left
          · intro w9 hSw; (try dsimp only at hSw); go_simp; (try with_reducible rfl)
          try simp only [List.getElem_toArray, List.getElem_cons_succ, List.getElem_cons_zero, Act.put, List.setIfInBounds_toArray, List.set_cons_zero, List.set_cons_succ]
          refine wpAnyH_take (i := 30) (v := ?_) rfl (by kernel_rfl) (by kernel_rfl) (by kernel_rfl) (fun _ _ _ h => h) (Or.inl ⟨by rfl, ?_⟩) hHeld ?_
          rotate_left
          · intro w9 hSw; (try dsimp only at hSw); go_simp; (try with_reducible rfl)
          try simp only [List.getElem_toArray, List.getElem_cons_succ, List.getElem_cons_zero, Act.put, List.setIfInBounds_toArray, List.set_cons_zero, List.set_cons_succ]
          refine wpAnyH_take (i := 31) (v := ?_) rfl (by kernel_rfl) (by kernel_rfl) (by kernel_rfl) (fun _ _ _ h => h) (Or.inl ⟨by rfl, ?_⟩) hHeld ?_
          rotate_left
          · intro w9 hSw; (try dsimp only at hSw); go_simp; (try with_reducible rfl)
          try simp only [List.getElem_toArray, List.getElem_cons_succ, List.getElem_cons_zero, Act.put, List.setIfInBounds_toArray, List.set_cons_zero, List.set_cons_succ]
          refine wpAnyH_take (i := 32) (v := ?_) rfl (by kernel_rfl) (by kernel_rfl) (by kernel_rfl) (fun _ _ _ h => h) (Or.inl ⟨by rfl, ?_⟩) hHeld ?_
          rotate_left
          · intro w9 hSw; (try dsimp only at hSw); go_simp; (try with_reducible rfl)
          try simp only [List.getElem_toArray, List.getElem_cons_succ, List.getElem_cons_zero, Act.put, List.setIfInBounds_toArray, List.set_cons_zero, List.set_cons_succ]
          refine wpAnyH_take (i := 33) (v := ?_) rfl (by kernel_rfl) (by kernel_rfl) (by kernel_rfl) (fun _ _ _ h => h) (Or.inl ⟨by rfl, ?_⟩) hHeld ?_
          rotate_left
          · intro w9 hSw; (try dsimp only at hSw); go_simp; (try with_reducible rfl)
          try simp only [List.getElem_toArray, List.getElem_cons_succ, List.getElem_cons_zero, Act.put, List.setIfInBounds_toArray, List.set_cons_zero, List.set_cons_succ]
          refine wpAnyH_ready (rs := [34]) (by kernel_rfl) (by simp) (AllReadyH.cons rfl (fun K0 hK0 => ?_) AllReadyH.nil)
          go_simp
          refine (rmay_call w7 co m2.length cc m2 (HSc.out.kept HK7.out)).mono ?_
          rintro _ w8 ⟨rfl, hK8⟩
          rw [hm2]
          have HK8 : Hid (Kept [] wb w8) := HKb.out.trans hK8 (by simp)
          have HK8w : Hid (Kept [] w w8) := (HK6w.out.trans HK7.out (by simp)).trans hK8 (by simp)
          clear hK8
          go_wp2_with fail
          refine hK0.out _ _ ⟨HK8.out.cell z2 (by simp), HK8.out.cell z3 (by simp)⟩ (fun hHeld => ?_)
          clear hK0 K0
          try simp only [List.getElem_toArray, List.getElem_cons_succ, List.getElem_cons_zero, Act.put, List.setIfInBounds_toArray, List.set_cons_zero, List.set_cons_succ]
          refine wpAnyH_take (i := 35) (v := ?_) rfl (by kernel_rfl) (by kernel_rfl) (by kernel_rfl) (fun _ _ _ h => h) (Or.inl ⟨by rfl, ?_⟩) hHeld ?_
          rotate_left
          · intro w9 hSw; (try dsimp only at hSw); go_simp; (try with_reducible rfl)
          try simp only [List.getElem_toArray, List.getElem_cons_succ, List.getElem_cons_zero, Act.put, List.setIfInBounds_toArray, List.set_cons_zero, List.set_cons_succ]
          refine wpAnyH_take (i := 36) (v := ?_) rfl (by kernel_rfl) (by kernel_rfl) (by kernel_rfl) (fun _ _ _ h => h) (Or.inl ⟨by rfl, ?_⟩) hHeld ?_
          rotate_left
          · intro w9 hSw; (try dsimp only at hSw); go_simp; (try with_reducible rfl)
          try simp only [List.getElem_toArray, List.getElem_cons_succ, List.getElem_cons_zero, Act.put, List.setIfInBounds_toArray, List.set_cons_zero, List.set_cons_succ]
          try simp only [List.getElem_toArray, List.getElem_cons_succ, List.getElem_cons_zero, Act.put, List.setIfInBounds_toArray, List.set_cons_zero, List.set_cons_succ]
          refine wpAnyH_done (by kernel_rfl) ?_ _
          clear hHeld
          go_wp2_with fail
          go_ret
          exact ⟨rfl, HK8w.out⟩
      · have hcl : chL al [⟨0, m⟩] z q add = [⟨0, m⟩] := chL_same he
        rw [hcl] at cC
        have HMm := hide hm
        generalize chE al [⟨0, m⟩] z q add = er at *
        clear hcl
        go_upto_region 9 with (go_at_call 11; refine cC.mono ?_; clear cC; rintro _ w2 ⟨rfl, hE2, hT2⟩)
        have HE2 := hide hE2
        have HK2 : Hid (Kept [] wb w2) := Tn.low HK1.out hT2 HBw.out
        have HK2w : Hid (Kept [] w w2) := Tn.low HK1w.out hT2 HBw2.out
        have x1 := HK2.out.cell z1 (by simp)
        have cA := atR_call _ w2 p al _ hE2 (okL_new HMm.out) (by simp) z
        rw [at_one] at cA
        clear hE2 hT2 y1 y2 y3
        go_wp2_with (first
          | (go_at_call 13; refine cA.mono ?_; clear cA; rintro _ w3 ⟨bo, cb, rfl, hSb, hK3⟩
             have HK3 : Hid (Kept [] w w3) := HK2w.out.trans hK3 (by simp)
             have HE3 := hide (HE2.out.kept hK3)
             have cS := sameI_call w3 bo ao m.length cb n c m m hSb (HM.out.kept HK3.out)
             rw [show decide (m = m) = true by simp] at cS
             clear hSb hK3)
          | (go_at_call 12; refine cS.mono ?_; clear cS; rintro _ w4 ⟨rfl, hK4⟩
             have HK4 : Hid (Kept [] w w4) := HK3.out.trans hK4 (by simp)
             have cL := list_call _ w4 p al _ (HE3.out.kept hK4) (okL_new HMm.out) (by simp)
             clear hK4)
          | (go_at_call 21; refine cL.mono ?_; clear cL; rintro _ w5 ⟨v5, X, rfl, hR5, hO5, hX5, hK5⟩
             have HK5 : Hid (Kept [] w w5) := HK4.out.trans hK5 (by simp)
             obtain ⟨a5, c5, rfl, _⟩ := hR5.sl hO5
             have hX1 : X.length = 1 := by have := congrArg List.length hX5; simpa using this
             rw [hX1]
             clear hR5 hO5 hX5 hK5 hX1))
        go_ret
        exact ⟨rfl, HK5.out⟩
    · go_wp2_with fail
      go_ret
      exact ⟨rfl, HK0w.out.trans hK1 (by simp)⟩

end Go.Proofs.Ytddkaagdkmmknaa
