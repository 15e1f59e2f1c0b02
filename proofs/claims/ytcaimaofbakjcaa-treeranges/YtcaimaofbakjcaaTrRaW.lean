/-
  TreeRanges: the walk.
-/
import Derived.Test.YtcaimaofbakjcaaTrRaP
import Derived.Test.YtcaimaofbakjcaaTrRef4
import Derived.Test.YtcaimaofbakjcaaTrTold2
import Derived.Test.YtcaimaofbakjcaaTrAwake
import Derived.Deep.CutRange
namespace Go.Proofs.Ytcaimaofbakjcaa
open Go.RowKit

theorem put_small {x : Lf} {t : Tr} {B : Nat} (hS : Srt t.list) (hx : x.p.length ≤ B) (h : ∀ y ∈ t.list, y.p.length ≤ B) : ∀ y ∈ (t.put x).list, y.p.length ≤ B := by
  rw [put_list x t hS]
  intro y hy
  rcases mem_ins hy with rfl | hy
  · exact hx
  · exact h y hy

/-- append of a row that is nil, or not empty. -/
theorem own_end {w : World} {B : Nat} {v : Value} {L : List Lf} (h : OwnL B w v L) : (v = .slice none 0 0 ∧ L = []) ∨ ∃ b c, v = .slice (some ⟨b, 0, none⟩) L.length c ∧ ∀ i (hi : i < L.length), LfAt w b (0 + i * 4) L[i] := by
  have h' := h
  obtain ⟨h1, h2⟩ := h
  rcases h2 with ⟨hv, hn⟩ | ⟨g, cap, cur, hv, hg, hh, h3, h4, h5, h6⟩
  · exact .inl ⟨hv, by simpa using hn⟩
  · refine .inr ⟨g, cap, hv, fun i hi => ?_⟩
    unfold OwnL at h'
    rw [hv] at h'
    have c : ∀ j, j < 4 → w.cell? ⟨g, 0 + i * 4 + j, none⟩ = (lfC L[i])[j]? := fun j hj => by
      rw [Nat.zero_add, World.ownsRow.cellAt h' (i * 4 + j) (by omega), lfC_get L i hi j hj]
    exact ⟨c 0 (by omega), c 1 (by omega), c 2 (by omega), c 3 (by omega)⟩

set_option maxHeartbeats 8000000 in
set_option maxRecDepth 100000 in
theorem ranges_walk (w : World) (ao : Option Addr) (n c : Nat) (L : List Lf) (ht : SlL w ao n c L) (f : List UInt8) (hf : f.length ≤ maxLen) :
    Calls Try.prog 8 #[.slice ao n c, .string (str f)] w fun e w' => e = .returned (.bool true) ∧ Kept [] w w' := by
  have hn := ht.1
  subst hn
  have hm := ht.2.2.1
  have hc := ht.2.1
  unfold maxLen at hm hf
  have sf : ((str f).size : Int) = f.length := by rw [str_size]
  by_cases hr : roomy L = true ∧ f.length ≤ 300 ∧ f ≠ []
  · obtain ⟨hr, hf3, hf0⟩ := hr
    have if3 : (f.length : Int) ≤ 300 := by omega
    have e0 := str_full hf0
    obtain ⟨r1, r2⟩ := roomy_iff.1 hr
    have HL : Hid (∀ i (hi : i < L.length), ∃ b o, ao = some ⟨b, o, none⟩ ∧ LfAt w b (o + i * 4) L[i]) := ht.2.2.2
    have HP : Hid (∀ x ∈ L, x.p.length ≤ 300) := r2
    clear r2
    go_enter Try.func8, Try.ntmps8
    go_wp2_with fail
    refine (awake_call _).mono ?_
    rintro e w0 ⟨rfl, hK0⟩
    have cr := room_call w0 ao L.length c L (ht.kept hK0)
    rw [hr] at cr
    clear ht hr
    go_wp2_with fail
    refine cr.mono ?_
    rintro e w' ⟨rfl, rfl⟩
    clear cr
    go_wp2_with fail
    refine (new_call _).mono ?_
    rintro e w1 ⟨a, rfl, hA, hK1⟩
    replace hK1 := hK0.trans hK1 (by simp)
    clear hK0
    go_wp2_with fail
    go_loopw [5, 6] (fun tv iv wr => ∃ (p : Option Addr) (t : Tr) (k : Nat), tv = .pointer p ∧ iv = .int .i64 (k : Int) ∧ k ≤ L.length ∧ TAt wr.heap.size wr p t ∧ Good t ∧ t.size ≤ k ∧ (∀ x ∈ t.list, x.p.length ≤ 300) ∧ Kept [] w wr) (fun _ iv _ => L.length - (intOf iv).toNat)
    case atStart => exact ⟨a, .nil, 0, rfl, rfl, Nat.zero_le _, hA, good_nil, Nat.zero_le _, fun x hx => by simp [Tr.list] at hx, hK1⟩
    case round =>
      obtain ⟨p, t, k, rfl, rfl, hk, hT, hG, hsz, hsm, hK⟩ := hrel
      have HM : Hid (∀ x ∈ t.list, x.p.length ≤ 300) := hsm
      clear hA hK1 hsm
      by_cases hlt : k < L.length
      · obtain ⟨b, o, rfl, hx⟩ := HL.out k hlt
        obtain ⟨c0, c1, c2, c3⟩ := hx.kept hK
        have hxp := HP.out L[k] (List.getElem_mem hlt)
        have cP := tPut_call L[k] (by omega) _ wr p t hT (by omega)
        have HG2 : Hid (Good (t.put L[k]) ∧ (t.put L[k]).size ≤ k + 1 ∧ (∀ x ∈ (t.put L[k]).list, x.p.length ≤ 300)) := ⟨hG.put L[k], by have := (put_size L[k] t).2; omega, put_small hG.1 hxp HM.out⟩
        generalize L[k] = x at *
        unfold lfV at cP
        clear hx
        go_wp2_with fail
        refine cP.mono ?_
        rintro e w2 ⟨q, rfl, hT2, hK2⟩
        go_wp2_with fail
        go_roundw
        case rel => exact ⟨q, t.put x, k + 1, rfl, by simp, by omega, hT2, HG2.out.1, HG2.out.2.1, HG2.out.2.2, hK.trans hK2 (by simp)⟩
        case measure => simp [intOf]; omega
      · have hts : t.size ≤ 100000000000 := by omega
        have hl1 : t.list.length ≤ 300 := by rw [tr_size]; omega
        have cA := tAll_call _ wr p t hT hts hG.1
        have cR1 := fun w' (hk : Kept [] wr w') => tRange_call _ w' p t (hT.kept hk) hts hG.1 [] f (by simp) (by omega)
        have cR2 := fun w' (hk : Kept [] wr w') => tRange_call _ w' p t (hT.kept hk) hts hG.1 f [] (by omega) (by simp)
        have cR3 := fun w' (hk : Kept [] wr w') => tRange_call _ w' p t (hT.kept hk) hts hG.1 f f (by omega) (by omega)
        have cU := fun w' (hk : Kept [] wr w') => tUnder_call _ w' p t (hT.kept hk) hts hG.1 f (by omega)
        have s1 : (rangeL [] f t.list).length ≤ 300 := range_small hl1
        have s2 : (rangeL f [] t.list).length ≤ 300 := range_small hl1
        have HM0 := HM.out
        have HX : Hid (rangeL [] f t.list ++ rangeL f [] t.list = t.list ∧ Srt t.list) := ⟨cut_parts f hf0 t.list hG.1, hG.1⟩
        rw [cut_none f hf0] at cR3
        have HU : Hid (∃ M, M = t.list ∧ underL f t.list = M.filter (fun x => withinB f x.p)) := ⟨_, rfl, rfl⟩
        generalize t.list = M at *
        clear hG hT hsz
        obtain ⟨i0, hi0, hz0, hz1, hz2⟩ := info_parts info_leaf
        replace cR1 : ∀ w', Kept [] wr w' → Calls Try.prog 21 #[.pointer p, .string ⟨#[]⟩, .string (str f)] w' fun e w'_1 => ∃ v, e = .returned v ∧ OwnL w'.heap.size w'_1 v (rangeL [] f M) ∧ Kept [] w' w'_1 := cR1
        replace cR2 : ∀ w', Kept [] wr w' → Calls Try.prog 21 #[.pointer p, .string (str f), .string ⟨#[]⟩] w' fun e w'_1 => ∃ v, e = .returned v ∧ OwnL w'.heap.size w'_1 v (rangeL f [] M) ∧ Kept [] w' w'_1 := cR2
        go_wp2_with fail
        refine cA.mono ?_
        rintro e x1 ⟨l1, rfl, hO1, hKe⟩
        clear cA
        obtain ⟨a1, d1, rfl, hL1⟩ := hO1.sl
        clear hO1
        go_upto_region 11 with fail
        go_cut [8] from 38 to 46 (fun s8 wx => OwnL x1.heap.size wx s8 M ∧ Kept [] x1 wx)
        case first =>
          go_wp2_with fail
          refine (cR1 _ hKe).mono ?_
          rintro e x2 ⟨l2, rfl, hO2, hK2⟩
          have hKe2 := hKe.trans hK2 (by simp)
          go_wp2_with fail
          refine (cR2 _ hKe2).mono ?_
          rintro e x3 ⟨l3, rfl, hO3, hK3⟩
          have hO2' := hO2.kept hK3
          have hB : x1.heap.size ≤ x3.heap.size := Nat.le_trans hK2.size hK3.size
          have hK13 := hK2.trans hK3 (by simp)
          rcases own_end hO3 with ⟨rfl, hN⟩ | ⟨b3, c3, rfl, hc3⟩
          · go_wp2_with (at_builtin; refine wpList_append_own_none rfl _ _ 29 rfl x1.heap.size 28 i0 4 Try.underlying29 hi0 _ _ _ rfl hO2' rfl ?_)
            go_meet
            refine ⟨?_, hK13⟩
            have h5 := HX.out.1
            rw [hN, List.append_nil] at h5
            rw [h5] at hO2'
            exact hO2'
          · go_wp2_with (at_builtin; refine wp_appL rfl _ _ rfl x1.heap.size _ (rangeL [] f M) rfl hO2' ⟨b3, 0, none⟩ _ _ (rangeL f [] M) rfl rfl (by intro j u hj; rw [adr_add]; exact cells_run hc3 j u hj) (by omega) hB ?_)
            intro v4 w4 hO4 hg4
            rw [HX.out.1] at hO4
            go_wp2_with fail
            go_meet
            exact ⟨hO4, grown_keptL hK13 hO2' (Nat.le_refl _) hg4⟩
        case rest =>
          obtain ⟨hO8, hK8⟩ := hcut
          obtain ⟨a8, d8, rfl, hL8⟩ := hO8.sl
          have hL1' := hL1.kept hK8
          have hKe8 := hKe.trans hK8 (by simp)
          have m1 := hL1.2.1
          have m2 := hL1.2.2.1
          unfold maxLen at m2
          have HC : Hid (∀ i (hi : i < M.length), ∃ b o, a1 = some ⟨b, o, none⟩ ∧ LfAt wc b (o + i * 4) M[i]) := hL1'.2.2.2
          clear hO8 hL1 cR1 cR2
          go_wp2_with fail
          go_loopw [9, 10] (fun nv iv wq => ∃ k : Nat, iv = .int .i64 (k : Int) ∧ k ≤ M.length ∧ nv = .int .i64 (((M.take k).filter (fun x => withinB f x.p)).length : Int) ∧ Kept [] wc wq) (fun _ iv _ => M.length - (intOf iv).toNat)
          case atStart => exact ⟨0, rfl, Nat.zero_le _, rfl, Kept.refl _ _⟩
          case round =>
            obtain ⟨k, rfl, hk, rfl, hKq⟩ := hrel
            by_cases hlt : k < M.length
            · obtain ⟨b, o, rfl, hx⟩ := HC.out k hlt
              have cW := fun w' => within_call f M[k].p w'
              have hfl : ((M.take k).filter (fun x => withinB f x.p)).length ≤ M.length := filter_small
              have HE : Hid ((M.take (k + 1)).filter (fun x => withinB f x.p) = (M.take k).filter (fun x => withinB f x.p) ++ (if withinB f M[k].p = true then [M[k]] else [])) := by
                show _ = _
                rw [List.take_succ_eq_append_getElem hlt, List.filter_append]
                cases h : withinB f M[k].p <;> simp [h]
              have hcell := hx.kept hKq
              have HP2 : Hid (∀ x ∈ M, x.p.length ≤ 300) := HM
              by_cases hk0 : k = 0
              · subst hk0
                have c0 := hcell.c0
                rw [Nat.zero_mul, Nat.add_zero] at c0
                clear hcell hx
                cases hw : withinB f M[0].p with
                | true =>
                  rw [hw] at cW HE
                  go_wp2_with fail
                  refine (cW _).mono ?_
                  rintro e w2 ⟨rfl, hK2⟩
                  go_wp2_with fail
                  go_quiet (fail)
                  go_wp2_with fail
                  go_roundw
                  case rel => exact ⟨1, rfl, by omega, by rw [HE.out]; simp, kept_drewN (hKq.trans hK2 (by simp)) _⟩
                  case measure => simp [intOf]; omega
                | false =>
                  rw [hw] at cW HE
                  go_wp2_with fail
                  refine (cW _).mono ?_
                  rintro e w2 ⟨rfl, hK2⟩
                  go_wp2_with fail
                  go_quiet (fail)
                  go_wp2_with fail
                  go_roundw
                  case rel => exact ⟨1, rfl, by omega, by rw [HE.out]; simp, kept_drewN (hKq.trans hK2 (by simp)) _⟩
                  case measure => simp [intOf]; omega
              · obtain ⟨j, hj⟩ : ∃ j, j + 1 = k := ⟨k - 1, by omega⟩
                have hjl : j < M.length := by omega
                have c0 := hcell.c0
                obtain ⟨b', o', hbo, hy⟩ := HC.out j hjl
                obtain ⟨rfl, rfl⟩ : b = b' ∧ o = o' := by simpa using hbo
                have y0 := (hy.kept hKq).c0
                have cc := fun w' => compare_call M[j].p M[k].p w' (by have := HP2.out M[j] (List.getElem_mem _); omega) (by have := HP2.out M[k] (List.getElem_mem _); omega)
                rw [srt_before HX.out.2 hj hlt] at cc
                have hw1 : IntKind.i64.wrap ((k : Int) - 1) = j := by rw [IntWalk.i64_in _ (by omega)]; omega
                have hw2 : (j : Int) < M.length := by omega
                have hw3 : (k : Int) < M.length := by omega
                have hw5 : 0 < k := by omega
                have hw6 : decide ((0 : Int) < (k : Int)) = true := decide_eq_true (by omega)
                clear hcell hx hy hj hk0
                cases hw : withinB f M[k].p with
                | true =>
                  rw [hw] at cW HE
                  go_wp2_with fail
                  refine (cW _).mono ?_
                  rintro e w2 ⟨rfl, hK2⟩
                  have c2 := hK2.cell c0 (by simp)
                  have y2 := hK2.cell y0 (by simp)
                  go_wp2_with fail
                  go_region_held3 (fun w' => w'.cell? ⟨b, o + k * 4, none⟩ = some (.string (str M[k].p)) ∧ w'.cell? ⟨b, o + j * 4, none⟩ = some (.string (str M[j].p)))
                    (first | go_keep | exact ⟨hK3.cell c2 (by simp), hK3.cell y2 (by simp)⟩)
                    (first | (go_at_call 25; refine (cc _).mono ?_; rintro e w3 ⟨rfl, hK3⟩; replace hK2 : Kept [] wc w3 := (hKq.trans hK2 (by simp)).drew.trans hK3 (by simp)))
                  all_goals go_wp2_with fail
                  all_goals go_roundw
                  case rel => exact ⟨k + 1, by simp, by omega, by rw [HE.out]; simp, hK2⟩
                  case measure => simp [intOf]; omega
                | false =>
                  rw [hw] at cW HE
                  go_wp2_with fail
                  refine (cW _).mono ?_
                  rintro e w2 ⟨rfl, hK2⟩
                  have c2 := hK2.cell c0 (by simp)
                  have y2 := hK2.cell y0 (by simp)
                  go_wp2_with fail
                  go_region_held3 (fun w' => w'.cell? ⟨b, o + k * 4, none⟩ = some (.string (str M[k].p)) ∧ w'.cell? ⟨b, o + j * 4, none⟩ = some (.string (str M[j].p)))
                    (first | go_keep | exact ⟨hK3.cell c2 (by simp), hK3.cell y2 (by simp)⟩)
                    (first | (go_at_call 25; refine (cc _).mono ?_; rintro e w3 ⟨rfl, hK3⟩; replace hK2 : Kept [] wc w3 := (hKq.trans hK2 (by simp)).drew.trans hK3 (by simp)))
                  all_goals go_wp2_with fail
                  all_goals go_roundw
                  case rel => exact ⟨k + 1, by simp, by omega, by rw [HE.out]; simp, hK2⟩
                  case measure => simp [intOf]; omega
            · have HE : Hid ((M.take k).filter (fun x => withinB f x.p) = underL f M) := by
                show _ = _
                rw [show M.take k = M from List.take_of_length_le (by omega)]; rfl
              have h20 := same_call _ _ _ _ _ _ _ _ _ (hL1'.kept hKq) (hL8.kept hKq)
              rw [decide_eq_true rfl] at h20
              have hKE := hKe8.trans hKq (by simp)
              rw [HE.out]
              go_wp2_with fail
              refine h20.mono ?_
              rintro e y1 ⟨rfl, n1, rfl⟩
              go_wp2_with fail
              refine (cU _ (kept_drewN hKE n1)).mono ?_
              rintro e y2 ⟨l2, rfl, hO2, hK2⟩
              obtain ⟨a2, d2, rfl, _⟩ := hO2.sl
              have hKE2 := (kept_drewN hKE n1).trans hK2 (by simp)
              go_wp2_with fail
              refine (cR3 _ hKE2).mono ?_
              rintro e y3 ⟨l3, rfl, hO3, hK3⟩
              obtain ⟨a3, d3, rfl, _⟩ := hO3.sl
              have hKE3 := hK.trans (hKE2.trans hK3 (by simp)) (by simp)
              go_wp2_with fail
              go_ret
              exact ⟨rfl, hKE3⟩
  · rcases (show roomy L = false ∨ (roomy L = true ∧ 300 < (f.length : Int)) ∨ (roomy L = true ∧ (f.length : Int) ≤ 300 ∧ f = []) from by
      cases h : roomy L with
      | false => exact .inl rfl
      | true =>
        simp only [h, true_and] at hr
        right
        by_cases h2 : (f.length : Int) ≤ 300
        · right
          refine ⟨rfl, h2, ?_⟩
          by_cases h3 : f = []
          · exact h3
          · exact absurd ⟨by omega, h3⟩ hr
        · left; exact ⟨rfl, by omega⟩) with h1 | ⟨h1, h2⟩ | ⟨h1, h2, h3⟩
    rotate_left 2
    · subst h3
      have e0 := str_void
      go_enter Try.func8, Try.ntmps8
      go_wp2_with fail
      refine (awake_call _).mono ?_
      rintro e w0 ⟨rfl, hK0⟩
      have cr := room_call w0 ao L.length c L (ht.kept hK0)
      rw [h1] at cr
      clear h1 hr
      go_wp2_with fail
      refine cr.mono ?_
      rintro e w' ⟨rfl, rfl⟩
      go_wp2_with fail
      go_ret
      exact ⟨rfl, hK0⟩
    all_goals
      go_enter Try.func8, Try.ntmps8
      go_wp2_with fail
      refine (awake_call _).mono ?_
      rintro e w0 ⟨rfl, hK0⟩
      have cr := room_call w0 ao L.length c L (ht.kept hK0)
      rw [h1] at cr
      clear h1 hr
      go_wp2_with fail
      refine cr.mono ?_
      rintro e w' ⟨rfl, rfl⟩
      go_wp2_with fail
      go_ret
      exact ⟨rfl, hK0⟩

end Go.Proofs.Ytcaimaofbakjcaa
