/-
  TreeOrders: the walk.
-/
import Derived.Test.YtcaimaofbakjcaaTrOrP
import Derived.Test.YtcaimaofbakjcaaTrRef3
import Derived.Test.YtcaimaofbakjcaaTrTold2
import Derived.Test.YtcaimaofbakjcaaTrAwake
import Derived.Deep.CutRange
namespace Go.Proofs.Ytcaimaofbakjcaa
open Go.RowKit

theorem strs_eq (a b : List UInt8) : ((str a).toList == (str b).toList) = decide (a = b) := by
  rw [Go.ByteArray.toList_eq, Go.ByteArray.toList_eq, str_data, str_data, Bool.eq_iff_iff]; simp

theorem under_in {d : List UInt8} {L : List Lf} {k : Nat} (hk : k < (underL d L).length) : withinB d (underL d L)[k].p = true := by
  have := List.getElem_mem hk
  unfold underL at this
  rw [List.mem_filter] at this
  exact this.2

set_option maxHeartbeats 8000000 in
set_option maxRecDepth 100000 in
theorem orders_walk (w : World) (ao : Option Addr) (n c : Nat) (L : List Lf) (ht : SlL w ao n c L) (f : List UInt8) (hf : f.length ≤ maxLen) :
    Calls Try.prog 7 #[.slice ao n c, .string (str f)] w fun e w' => e = .returned (.bool true) ∧ Kept [] w w' := by
  have hn := ht.1
  subst hn
  have hm := ht.2.2.1
  have hc := ht.2.1
  unfold maxLen at hm hf
  have sf : ((str f).size : Int) = f.length := by rw [str_size]
  by_cases hr : roomy L = true ∧ f.length ≤ 300
  · obtain ⟨hr, hf3⟩ := hr
    have if3 : (f.length : Int) ≤ 300 := by omega
    obtain ⟨r1, r2⟩ := roomy_iff.1 hr
    have HL : Hid (∀ i (hi : i < L.length), ∃ b o, ao = some ⟨b, o, none⟩ ∧ LfAt w b (o + i * 4) L[i]) := ht.2.2.2
    have HP : Hid (∀ x ∈ L, x.p.length ≤ 300) := r2
    clear r2
    go_enter Try.func7, Try.ntmps7
    go_wp2_with fail
    refine (awake_call _).mono ?_
    rintro e w0 ⟨rfl, hK0⟩
    have cr := room_call w0 ao L.length c L (ht.kept hK0)
    rw [hr] at cr
    clear ht hr
    go_wp2_with fail
    refine cr.mono ?_
    rintro e w9 ⟨rfl, rfl⟩
    clear cr
    have hB0 := hK0.size
    go_wp2_with fail
    go_loopw [5, 6] (fun ov iv wr => ∃ (O : List Lf) (k : Nat), iv = .int .i64 (k : Int) ∧ k ≤ L.length ∧ OwnL w9.heap.size wr ov O ∧ (pathsL O).Nodup ∧ O.length ≤ k ∧ (∀ x ∈ O, x.p.length ≤ 300) ∧ Kept [] w9 wr) (fun _ iv _ => L.length - (intOf iv).toNat)
    case atStart => exact ⟨[], 0, rfl, Nat.zero_le _, OwnL.nil _ _, by simp [pathsL], Nat.le_refl _, by simp, Kept.refl _ _⟩
    case round =>
      obtain ⟨O, k, rfl, hk, hO, hN, hOk, hsm, hK⟩ := hrel
      have HN : Hid ((pathsL O).Nodup ∧ ∀ x ∈ O, x.p.length ≤ 300) := ⟨hN, hsm⟩
      have hKw := hK0.trans hK (by simp)
      obtain ⟨a5, d5, rfl, hS5⟩ := hO.sl
      have HO : Hid (OwnL w9.heap.size wr (.slice a5 O.length d5) O) := hO
      have HS : Hid (∀ i (hi : i < O.length), ∃ b o, a5 = some ⟨b, o, none⟩ ∧ LfAt wr b (o + i * 4) O[i]) := hS5.2.2.2
      have s1 := hS5.2.1
      have s2 := hS5.2.2.1
      unfold maxLen at s2
      clear hN hsm hO hS5
      by_cases hlt : k < L.length
      · obtain ⟨b, o, rfl, hx⟩ := HL.out k hlt
        have hx2 := hx.kept hKw
        have hxp := HP.out L[k] (List.getElem_mem hlt)
        have hk1 : (k : Int) < L.length := by omega
        go_wp2_with fail
        go_loopw [7, 8] (fun lv jv wz => ∃ (j q : Nat), jv = .int .i64 (j : Int) ∧ j ≤ O.length ∧ lv = .bool (decide (L[k].p ∈ pathsL (O.take j))) ∧ wz = World.drewN wr q) (fun _ jv _ => O.length - (intOf jv).toNat)
        case atStart => exact ⟨0, 0, rfl, Nat.zero_le _, by simp [pathsL], rfl⟩
        case round =>
          obtain ⟨j, q, rfl, hjO, rfl, rfl⟩ := hrel
          by_cases hlt2 : j < O.length
          · obtain ⟨b5, o5, rfl, hy⟩ := HS.out j hlt2
            have x0 := hx2.c0
            have y0 := hy.c0
            have hj1 : (j : Int) < O.length := by omega
            have hst := take_paths hlt2 L[k].p
            have es := strs_eq O[j].p L[k].p
            clear hy
            cases hb : decide (L[k].p ∈ pathsL (O.take j)) with
            | true =>
              rw [hb, Bool.true_or] at hst
              have HE : Hid (decide (L[k].p ∈ pathsL (O.take (j + 1))) = true) := hst
              clear hst hb es
              go_wp2_with fail
              go_quiet (fail)
              go_wp2_with fail
              go_roundw
              case rel => exact ⟨j + 1, _, by simp, by omega, by rw [HE.out], rfl⟩
              case measure => simp [intOf]; omega
            | false =>
              rw [hb, Bool.false_or] at hst
              rw [← hst] at es
              have HE : Hid (((str O[j].p).toList == (str L[k].p).toList) = decide (L[k].p ∈ pathsL (O.take (j + 1)))) := es
              clear hst hb es
              go_wp2_with fail
              go_quiet (fail)
              go_wp2_with fail
              go_roundw
              case rel => exact ⟨j + 1, _, by simp, by omega, by rw [HE.out], rfl⟩
              case measure => simp [intOf]; omega
          · obtain rfl : j = O.length := by omega
            rw [List.take_length]
            cases hb : decide (L[k].p ∈ pathsL O) with
            | true =>
              go_wp2_with fail
              go_roundw
              case rel => exact ⟨O, k + 1, by simp, by omega, Kept.ownsRow (S := []) (kept_drewN (Kept.refl [] wr) q) HO.out (by simp), HN.out.1, by omega, HN.out.2, kept_drewN hK q⟩
              case measure => simp [intOf]; omega
            | false =>
              have hnx := of_decide_eq_false hb
              have HM : Hid ((pathsL (O ++ [L[k]])).Nodup ∧ ∀ x ∈ O ++ [L[k]], x.p.length ≤ 300) := ⟨nodup_snoc HN.out.1 hnx, fun z hz => by
                simp only [List.mem_append, List.mem_singleton] at hz
                rcases hz with hz | rfl
                · exact HN.out.2 z hz
                · exact hxp⟩
              have hKz := kept_drewN (Kept.refl [] wr) q
              obtain ⟨c0, c1, c2, c3⟩ := hx2.kept hKz
              have hOz : OwnL w9.heap.size (World.drewN wr q) (.slice a5 O.length d5) O := Kept.ownsRow (S := []) hKz HO.out (by simp)
              have hK9 := hK.trans hKz (by simp)
              clear hKz
              generalize World.drewN wr q = wz at *
              have hO' := fun ob => World.ownsRow.alloc hOz ob
              generalize L[k] = x at *
              clear hb hnx hx
              go_wp2_with (at_builtin; refine wp_appL rfl _ _ rfl w9.heap.size _ O rfl (hO' _) ⟨_, 0, none⟩ 1 1 [x] rfl rfl (by simpa using leaf_new _ x _) (by simp; omega) (by have := hK9.size; simp; omega) ?_)
              intro v2 w2 hO2 hg2
              have hK2 := grown_keptL (hK9.alloc _) (hO' _) (Nat.le_refl _) hg2
              clear hg2
              go_wp2_with fail
              go_roundw
              case rel => exact ⟨O ++ [x], k + 1, by simp, by omega, hO2, HM.out.1, by simp; omega, HM.out.2, hK2⟩
              case measure => simp [intOf]; omega
      · have hOl : O.length ≤ 300 := by omega
        clear HL HP
        go_wp2_with fail
        refine (new_call _).mono ?_
        rintro e w1 ⟨pa, rfl, hA, hK1⟩
        go_wp2_with fail
        refine (new_call _).mono ?_
        rintro e w2 ⟨pb, rfl, hB, hK2⟩
        replace hA := (hA.kept hK2).full
        have hKr := hK1.trans hK2 (by simp)
        clear hK1 hK2
        go_wp2_with fail
        go_loopw [9, 10, 11] (fun av bv iv wq => ∃ (qa qb : Option Addr) (ta tb : Tr) (m : Nat), av = .pointer qa ∧ bv = .pointer qb ∧ iv = .int .i64 (m : Int) ∧ m ≤ O.length ∧ TAt wq.heap.size wq qa ta ∧ TAt wq.heap.size wq qb tb ∧ Good ta ∧ Good tb ∧ ta.size ≤ m ∧ tb.size ≤ m ∧ Hid (ta.list = insAll [] (O.take m) ∧ tb.list = insAll [] (O.reverse.take m)) ∧ Kept [] wr wq) (fun _ _ iv _ => O.length - (intOf iv).toNat)
        case atStart => exact ⟨pa, pb, .nil, .nil, 0, rfl, rfl, rfl, Nat.zero_le _, hA, hB, good_nil, good_nil, Nat.zero_le _, Nat.zero_le _, ⟨rfl, rfl⟩, hKr⟩
        case round =>
          obtain ⟨qa, qb, ta, tb, m, rfl, rfl, rfl, hmO, hTa, hTb, hGa, hGb, hsa, hsb, HI, hKq⟩ := hrel
          clear hA hB hKr
          by_cases hlt2 : m < O.length
          · obtain ⟨b, o, rfl, hx⟩ := HS.out m hlt2
            have hj : O.length - 1 - m < O.length := by omega
            obtain ⟨b', o', hbo, hy⟩ := HS.out (O.length - 1 - m) hj
            obtain ⟨rfl, rfl⟩ : b = b' ∧ o = o' := by simpa using hbo
            obtain ⟨c0, c1, c2, c3⟩ := hx.kept hKq
            have hxp := HN.out.2 O[m] (List.getElem_mem hlt2)
            have hyp := HN.out.2 O[O.length - 1 - m] (List.getElem_mem hj)
            have cP := tPut_call O[m] (by omega) _ _ qa ta hTa (by omega)
            have cQ := fun w' (hk : Kept [] _ w') => tPut_call O[O.length - 1 - m] (by omega) _ w' qb tb (hTb.kept hk) (by omega)
            have HJ : Hid ((ta.put O[m]).list = insAll [] (O.take (m + 1)) ∧ (tb.put O[O.length - 1 - m]).list = insAll [] (O.reverse.take (m + 1)) ∧ (ta.put O[m]).size ≤ m + 1 ∧ (tb.put O[O.length - 1 - m]).size ≤ m + 1) := by
              refine ⟨?_, ?_, by have := (put_size O[m] ta).2; omega, by have := (put_size O[O.length - 1 - m] tb).2; omega⟩
              · rw [put_list _ _ hGa.1, HI.out.1, ins_all_step O m hlt2]
              · rw [put_list _ _ hGb.1, HI.out.2, ins_all_step O.reverse m (by simpa using hlt2), List.getElem_reverse]
            unfold lfV at cP cQ
            generalize O[m] = x at *
            have hy2 := fun w' (hk : Kept [] _ w') => hy.kept hk
            generalize O[O.length - 1 - m] = y at *
            clear hx hy hbo
            go_wp2_with fail
            refine cP.mono ?_
            rintro e w3 ⟨q3, rfl, hT3, hK3⟩
            obtain ⟨y0, y1, y2, y3⟩ := hy2 _ (hKq.trans hK3 (by simp))
            go_wp2_with fail
            refine (cQ _ hK3).mono ?_
            rintro e w4 ⟨q4, rfl, hT4, hK4⟩
            go_wp2_with fail
            go_roundw
            case rel => exact ⟨q3, q4, ta.put x, tb.put y, m + 1, rfl, rfl, by simp, by omega, (hT3.kept hK4).full, hT4, hGa.put x, hGb.put y, HJ.out.2.2.1, HJ.out.2.2.2, ⟨HJ.out.1, HJ.out.2.1⟩, (hKq.trans hK3 (by simp)).trans hK4 (by simp)⟩
            case measure => simp [intOf]; omega
          · have HX : Hid (tb.list = ta.list) := by
              show _ = _
              have e1 : O.take m = O := List.take_of_length_le (by omega)
              have e2 : O.reverse.take m = O.reverse := List.take_of_length_le (by rw [List.length_reverse]; omega)
              rw [HI.out.1, HI.out.2, e1, e2]
              exact (any_order O HN.out.1).symm
            have hta : ta.size ≤ 100000000000 := by omega
            have htb : tb.size ≤ 100000000000 := by omega
            have hla : ta.list.length ≤ 300 := by rw [tr_size]; omega
            have cU := fun w' (hk : Kept [] _ w') => tUnder_call _ w' qa ta (hTa.kept hk) hta hGa.1 f (by omega)
            have cV := fun w' (hk : Kept [] _ w') => tUnder_call _ w' qb tb (hTb.kept hk) htb hGb.1 f (by omega)
            have cA := fun w' (hk : Kept [] _ w') => tAll_call _ w' qa ta (hTa.kept hk) hta hGa.1
            have cB := fun w' (hk : Kept [] _ w') => tAll_call _ w' qb tb (hTb.kept hk) htb hGb.1
            rw [HX.out] at cV cB
            clear HX HI hTa hTb hGa hGb hsa hsb
            generalize ta.list = M at *
            have hul : (underL f M).length ≤ 300 := Nat.le_trans (List.length_filter_le _ _) hla
            go_wp2_with fail
            refine (cU _ (Kept.refl _ _)).mono ?_
            rintro e w3 ⟨l3, rfl, hO3, hK3⟩
            obtain ⟨a3, d3, rfl, hS3⟩ := hO3.sl
            have t1 := hS3.2.1
            have t2 := hS3.2.2.1
            unfold maxLen at t2
            have HU : Hid (∀ i (hi : i < (underL f M).length), ∃ b o, a3 = some ⟨b, o, none⟩ ∧ LfAt w3 b (o + i * 4) (underL f M)[i]) := hS3.2.2.2
            clear hO3 cU
            have HW : Hid (∀ i (hi : i < (underL f M).length), withinB f (underL f M)[i].p = true) := fun i hi => under_in hi
            generalize underL f M = U at *
            go_wp2_with fail
            go_loopw [13] (fun iv wq => ∃ m : Nat, iv = .int .i64 (m : Int) ∧ m ≤ U.length ∧ Kept [] w3 wq) (fun iv _ => U.length - (intOf iv).toNat)
            case atStart => exact ⟨0, rfl, Nat.zero_le _, Kept.refl _ _⟩
            case round =>
              obtain ⟨g, rfl, hgU, hKg⟩ := hrel
              by_cases hlt3 : g < U.length
              · obtain ⟨b, o, rfl, hx⟩ := HU.out g hlt3
                have x0 := (hx.kept hKg).c0
                have cW := fun w' => within_call f U[g].p w'
                rw [HW.out g hlt3] at cW
                clear hx
                go_wp2_with fail
                refine (cW _).mono ?_
                rintro e w4 ⟨rfl, hK4⟩
                go_wp2_with fail
                go_roundw
                case rel => exact ⟨g + 1, by simp, by omega, hKg.trans hK4 (by simp)⟩
                case measure => simp [intOf]; omega
              · have hKe := hK3.trans hKg (by simp)
                go_wp2_with fail
                refine (cA _ hKe).mono ?_
                rintro e w4 ⟨l4, rfl, hO4, hK4⟩
                obtain ⟨a4, d4, rfl, hS4⟩ := hO4.sl
                go_wp2_with fail
                refine (cB _ (hKe.trans hK4 (by simp))).mono ?_
                rintro e w5 ⟨l5, rfl, hO5, hK5⟩
                obtain ⟨a5', d5', rfl, hS5⟩ := hO5.sl
                have h20 := same_call w5 _ _ _ _ _ _ _ _ (hS4.kept hK5) hS5
                rw [decide_eq_true rfl] at h20
                go_wp2_with fail
                refine h20.mono ?_
                rintro e w6 ⟨rfl, n6, rfl⟩
                have hKe6 := kept_drewN ((hKe.trans hK4 (by simp)).trans hK5 (by simp)) n6
                have hKg6 := kept_drewN ((hKg.trans hK4 (by simp)).trans hK5 (by simp)) n6
                go_wp2_with fail
                refine (cV _ hKe6).mono ?_
                rintro e w7 ⟨l7, rfl, hO7, hK7⟩
                obtain ⟨a7, d7, rfl, hS7⟩ := hO7.sl
                have h21 := same_call w7 _ _ _ _ _ _ _ _ ((hS3.kept hKg6).kept hK7) hS7
                rw [decide_eq_true rfl] at h21
                go_wp2_with fail
                refine h21.mono ?_
                rintro e w8 ⟨rfl, n8, rfl⟩
                go_wp2_with fail
                go_ret
                exact ⟨rfl, kept_drewN (((hKw.trans hKq (by simp)).trans hKe6 (by simp)).trans hK7 (by simp)) n8⟩
  · rcases (show roomy L = false ∨ (roomy L = true ∧ 300 < (f.length : Int)) from by
      cases h : roomy L with
      | false => exact .inl rfl
      | true => simp only [h, true_and] at hr; exact .inr ⟨rfl, by omega⟩) with h1 | ⟨h1, h2⟩
    all_goals
      go_enter Try.func7, Try.ntmps7
      go_wp2_with fail
      refine (awake_call _).mono ?_
      rintro e w0 ⟨rfl, hK0⟩
      have cr := room_call w0 ao L.length c L (ht.kept hK0)
      rw [h1] at cr
      clear h1 hr
      go_wp2_with fail
      refine cr.mono ?_
      rintro e w' ⟨rfl, rfl⟩
      go_wp2_with fail
      go_ret
      exact ⟨rfl, hK0⟩

end Go.Proofs.Ytcaimaofbakjcaa
