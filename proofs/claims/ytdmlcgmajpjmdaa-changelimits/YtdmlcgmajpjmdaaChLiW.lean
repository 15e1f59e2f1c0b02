/-
  ChangeLimits: the walk.
-/
import Derived.Test.YtdmlcgmajpjmdaaChLiP
import Derived.Deep.CutRange
namespace Go.Proofs.Ytdmlcgmajpjmdaa
open Go.RowKit

set_option maxHeartbeats 8000000 in
set_option maxRecDepth 100000 in
theorem limits_walk (w : World) (n : Int) (hn : 0 ≤ n ∧ n < 256) (t : Int) (ht : 0 ≤ t ∧ t < 256) (turn : Bool) :
    Calls Try.prog 6 #[.int .u8 n, .int .u8 t, .bool turn] w fun e w' => e = .returned (.bool true) ∧ Kept [] w w' := by
  obtain ⟨k, hk⟩ : ∃ k : Nat, (k : Int) = n % 20 := ⟨(n % 20).toNat, by omega⟩
  have ek : n.tmod 20 = k := by rw [Int.tmod_eq_emod_of_nonneg hn.1]; exact hk.symm
  have hk20 : k < 20 := by omega
  clear hk
  go_enter Try.func6, Try.ntmps6
  go_wp2_with fail
  refine (awake_callC _).mono ?_
  rintro e w1 ⟨rfl, hK1⟩
  have HK1 : Hid (Kept [] w w1) := hK1
  clear hK1
  go_wp2_with fail
  go_loopw [8, 9] (fun lv iv wr => ∃ i : Nat, i ≤ k ∧ iv = .int .i64 i ∧ Hid (OwnC w1.heap.size wr lv (baseL i)) ∧ Hid (Kept [] w1 wr)) (fun _ iv _ => k - (intOf iv).toNat)
  case atStart => exact ⟨0, Nat.zero_le _, rfl, OwnC.nil _ _, Kept.refl _ _⟩
  case round =>
    obtain ⟨i, hi, rfl, HO, HK⟩ := hrel
    by_cases hlt : i < k
    · have hlt' : (i : Int) < k := by omega
      have hcv := fun W => let_new (i := i) (by omega) W
      have hA := (Kept.refl [] wr).alloc (.cells #[.int .u8 (97 + (i : Int))] 5)
      have hO1 : OwnC w1.heap.size ((wr.alloc (.cells #[.int .u8 (97 + (i : Int))] 5)).alloc (.cells #[.string (str (letC i).p), .bool false, .int .u64 (i : Int)] 27)) u8 (baseL i) := OwnC.kept HO.out (hA.alloc _)
      have HB : Hid (∀ (j : Nat) (u : Value), (List.flatMap chC [letC i])[j]? = some u → ((wr.alloc (.cells #[.int .u8 (97 + (i : Int))] 5)).alloc (.cells #[.string (str (letC i).p), .bool false, .int .u64 (i : Int)] 27)).cell? ((⟨wr.heap.size + 1, 0, none⟩ : Addr).add j) = some u) := by
        have h1 := SlC.lit (wr.alloc (.cells #[.int .u8 (97 + (i : Int))] 5)) [letC i] (n := 1) rfl (by simp [maxLen]) (vs := #[.string (str (letC i).p), .bool false, .int .u64 (i : Int)]) rfl
        rw [World.size_alloc] at h1
        exact h1.runs'
      have hN1 : w1.heap.size ≤ wr.heap.size := HK.out.size
      have HBl : Hid ((baseL i).length = i) := baseL_length i
      generalize str (letC i).p = sp at hcv hO1 HB
      go_wp2_with (at_builtin; refine wp_appC rfl _ _ rfl w1.heap.size u8 (baseL i) rfl hO1 ⟨wr.heap.size + 1, 0, none⟩ 1 1 [letC i] rfl rfl HB.out (by rw [HBl.out]; simp; omega) (by simp; omega) ?a1)
      case a1 =>
        intro v2 w2 hO2 hg2
        have HK2 : Hid (Kept [] w1 w2) := grown_keptC (HK.out.trans (hA.alloc _) (by simp)) hO1 (Nat.le_refl _) hg2
        have HO2 : Hid (OwnC w1.heap.size w2 v2 (baseL (i + 1))) := by show OwnC _ _ _ _; rw [baseL_succ]; exact hO2
        clear hO1 hO2 hg2 HB hcv
        go_wp2_with fail
        go_roundw
        case rel => exact ⟨i + 1, by omega, by go_num, HO2, HK2⟩
        case measure => simp [intOf]; omega
    · have hlt' : ¬ (i : Int) < k := by omega
      have hO8 : OwnC w1.heap.size wr u8 (baseL k) := by rw [show k = i by omega]; exact HO.out
      by_cases hk0 : k = 0
      · obtain ⟨a8, c8, hv8, hS8⟩ := hO8.sl
        rw [hk0] at hv8 hS8
        replace hv8 : u8 = .slice a8 0 c8 := hv8
        replace hS8 : SlC wr a8 0 c8 [] := hS8
        subst hv8
        have hE : errC [] = 1 := errC_bad (fun h => by have := h.1; simp at this)
        have cC := check_call wr a8 0 c8 [] hS8 (by simp)
        rw [hE] at cC
        subst hk0
        clear hO8 hS8 hE HO
        cases turn with
        | true =>
          go_wp2_with fail
          refine wp_loop_rounds 1 ?_
          rw [rounds_succ]
          go_wp2_with fail
          refine cC.mono ?_
          rintro e w2 ⟨rfl, hK2⟩
          go_wp2_with fail
          go_ret
          exact ⟨rfl, (HK1.out.trans HK.out (by simp)).trans hK2 (by simp)⟩
        | false =>
          go_wp2_with fail
          refine cC.mono ?_
          rintro e w2 ⟨rfl, hK2⟩
          go_wp2_with fail
          go_ret
          exact ⟨rfl, (HK1.out.trans HK.out (by simp)).trans hK2 (by simp)⟩
      · obtain ⟨g, cap, hv8, hg, hR8⟩ := hO8.row (by rw [baseL_length]; omega) ⟨[], false, 0⟩
        rw [baseL_length] at hv8 hR8
        subst hv8
        have hR0 : RowC wr g k cap letC := hR8.congr fun p hp => by
          have : p < (baseL k).length := by rw [baseL_length]; exact hp
          simp [List.getD, this, baseL_get]
        have HR0 : Hid (RowC wr g k cap letC) := hR0
        have HG : Hid (w1.heap.size ≤ g) := hg
        have hcap := hR0.le
        have hcmx := hR0.max
        unfold maxLen at hcmx
        obtain ⟨w2, hw2⟩ : ∃ w2, w2 = wr := ⟨_, rfl⟩
        subst hw2
        have HKw : Hid (Kept [] w w2) := HK1.out.trans HK.out (by simp)
        have HGw : Hid (w.heap.size ≤ g) := Nat.le_trans HK1.out.size hg
        clear hO8 hR8 hR0 hg HO HG
        go_upto_if 36 with fail
        go_cut [] from 15 to 62 (fun wx => ∃ f, RowC wx g k cap f ∧ (seg f 0 k).Perm (baseL k) ∧ Kept [] w wx)
        case first =>
          cases turn with
          | true =>
            go_wp2_with fail
            go_loopw [10] (fun iv wr => ∃ j : Nat, j ≤ k / 2 ∧ iv = .int .i64 j ∧ Hid (RowC wr g k cap (revF k j)) ∧ Hid (Kept [] w wr)) (fun iv _ => k - (intOf iv).toNat)
            case atStart => exact ⟨0, Nat.zero_le _, rfl, HR0.out.congr fun p hp => revF_zero hp, HKw⟩
            case round =>
              obtain ⟨j, hj, rfl, HT, HK2⟩ := hrel
              by_cases hjl : j < k / 2
              · have hjl' : (j : Int) < (k : Int) / 2 := by omega
                obtain ⟨q, hq⟩ : ∃ q, q = k - 1 - j := ⟨_, rfl⟩
                have b5 : IntKind.i64.wrap ((k : Int) - 1) = (k : Int) - 1 := IntWalk.i64_in _ (by omega)
                have b6 : IntKind.i64.wrap ((k : Int) - 1 - j) = q := by rw [IntWalk.i64_in _ (by omega)]; omega
                have b7 : (k : Int) - 1 - j = q := by omega
                have hjq : j < q := by omega
                have hqk : q < k := by omega
                have hC := HT.out.ch (i := j) (by omega)
                have hD := HT.out.ch (i := q) (by omega)
                have hfz := HT.out.froz
                have e1 : revF k j j = letC j := revF_i hjl
                have e2 : revF k j q = letC q := by rw [hq]; exact revF_j hjl
                have hNx : RowC (put3 (put3 wr g j (revF k j q)) g q (revF k j j)).drew g k cap (revF k (j + 1)) := ((HT.out.swap (i := j) (j := q) (by omega) hqk).congr fun p hp => by rw [hq]; exact revF_succ hjl p hp).drew
                rw [e1] at hC hNx
                rw [e2] at hD hNx
                have HN : Hid (RowC (put3 (put3 wr g j (letC q)) g q (letC j)).drew g k cap (revF k (j + 1))) := hNx
                have HK3 : Hid (Kept [] w (put3 (put3 wr g j (letC q)) g q (letC j)).drew) := HK2.out.trans (swapped_kept wr g j q (letC q) (letC j)) (by intro x hx; simp at hx; subst hx; exact .inr HGw.out)
                obtain ⟨c0, c1, c2⟩ := hC
                obtain ⟨d0, d1, d2⟩ := hD
                clear hNx e1 e2 hq
                generalize letC j = xj at *
                generalize letC q = xq at *
                go_wp2_with fail
                go_region
                go_wp2_with fail
                go_roundw
                case rel => exact ⟨j + 1, by omega, by go_num, HN, HK3⟩
                case measure => simp [intOf]; omega
              · have hjl' : ¬ (j : Int) < (k : Int) / 2 := by omega
                go_wp2_with fail
                go_meet
                refine ⟨_, HT.out, ?_, HK2.out⟩
                rw [show j = k / 2 by omega]
                exact revF_end
          | false =>
            go_wp2_with fail
            go_meet
            exact ⟨letC, HR0.out, by rw [seg_base (fun _ _ => rfl)], HKw.out⟩
        case rest =>
          obtain ⟨f, hRf, hPf, hKf⟩ := hcut
          have hSl : SlC wc (some ⟨g, 0, none⟩) k cap (seg f 0 k) := (hRf.own (Nat.zero_le g)).slice
          have hpl : ∀ x ∈ seg f 0 k, x.p.length ≤ 1 := fun x hx => by
            obtain ⟨y, hy, rfl⟩ := List.mem_map.1 (hPf.mem_iff.1 hx)
            simp [letC]
          have cC := check_call wc _ _ _ _ hSl (fun x hx => by have := hpl x hx; omega)
          have HER : Hid ((errC (seg f 0 k) == 0) = decide (k ≤ 16)) := by show _ = _; rw [errC_perm hPf]; exact base_err hk20 (by omega)
          have HSl : Hid (SlC wc (some ⟨g, 0, none⟩) k cap (seg f 0 k)) := hSl
          have HSo : Hid (sortC (seg f 0 k) = baseL k) := base_sort hk20 hPf
          have HPl : Hid (∀ x ∈ seg f 0 k, x.p.length ≤ 1) := hpl
          have HLe : Hid ((seg f 0 k).length = k) := by show _ = _; rw [seg_length]; omega
          have HKf : Hid (Kept [] w wc) := hKf
          have hk1' : (1 : Int) ≤ k := by omega
          have hk0' : ((k : Int) == 0) = false := by simp; omega
          generalize errC (seg f 0 k) = er at cC HER
          obtain ⟨w3, hw3⟩ : ∃ w3, w3 = wc := ⟨_, rfl⟩
          subst hw3
          clear hRf hPf hKf hSl hpl HR0 HKw HK
          have hE : (er == 0) = decide ((k : Int) ≤ 16) := by rw [HER.out]; congr 1; apply propext; omega
          clear HER
          go_wp2_with fail
          refine cC.mono ?_
          rintro e w4 ⟨rfl, hK4⟩
          have HK4 : Hid (Kept [] w w4) := HKf.out.trans hK4 (by simp)
          have HS4 : Hid (SlC w4 (some ⟨g, 0, none⟩) k cap (seg f 0 k)) := HSl.out.kept hK4 (by simp)
          clear cC hK4 HKf HSl
          have hA := (Kept.refl [] w4).alloc (.cells #[] 27)
          have hO0 := own_voidC w4 w4.heap.size (Nat.le_refl _)
          have HRn : Hid (∀ (j : Nat) (u : Value), ((seg f 0 k).flatMap chC)[j]? = some u → (w4.alloc (.cells #[] 27)).cell? ((⟨g, 0, none⟩ : Addr).add j) = some u) := (HS4.out.kept hA (by simp)).runs'
          go_wp2_with (at_builtin; refine wp_appC rfl _ _ rfl w4.heap.size _ [] rfl hO0 ⟨g, 0, none⟩ k cap (seg f 0 k) rfl HLe.out.symm HRn.out (by rw [HLe.out]; simp; omega) (by simp) ?p1)
          case p1 =>
            intro v5 w5 hO5 hg5
            have hK5 : Kept [] w4 w5 := grown_keptC hA hO0 (Nat.le_refl _) hg5
            obtain ⟨g2, cap2, hv5, hgg, hR5⟩ := OwnC.row hO5 (by rw [HLe.out]; omega) ⟨[], false, 0⟩
            rw [HLe.out] at hv5 hR5
            subst hv5
            have hR6 : RowC w5 g2 k cap2 f := hR5.congr fun p hp => by
              have h1 : p < (seg f 0 k).length := by rw [HLe.out]; exact hp
              simp [List.getD, h1, seg_get]
            have HGG : Hid (w4.heap.size ≤ g2) := hgg
            have HK5 : Hid (Kept [] w w5) := HK4.out.trans hK5 (by simp)
            have HS5 : Hid (SlC w5 (some ⟨g, 0, none⟩) k cap (seg f 0 k)) := HS4.out.kept hK5 (by simp)
            have hgl : g < w4.heap.size := by
              obtain ⟨b', o', e, h⟩ := HS4.out.2.2.2 0 (by rw [HLe.out]; omega)
              have h1 := h.c0
              obtain ⟨rfl, rfl⟩ : g = b' ∧ 0 = o' := by simpa using e
              unfold World.cell? at h1
              by_cases hlt : g < w4.heap.size
              · exact hlt
              · rw [show w4.heap[(⟨g, 0 + 0 * 3, none⟩ : Addr).block]? = none from Array.getElem?_eq_none (by show w4.heap.size ≤ g; omega)] at h1; simp at h1
            obtain ⟨a, ha⟩ : ∃ a : Nat, (a : Int) = t % k := ⟨(t % k).toNat, by have := Int.emod_nonneg t (show (k : Int) ≠ 0 by omega); omega⟩
            obtain ⟨b, hb⟩ : ∃ b : Nat, (b : Int) = (t + 1) % k := ⟨((t + 1) % k).toNat, by have := Int.emod_nonneg (t + 1) (show (k : Int) ≠ 0 by omega); omega⟩
            have hak : a < k := by have := Int.emod_lt_of_pos t (show (0 : Int) < k by omega); omega
            have hbk : b < k := by have := Int.emod_lt_of_pos (t + 1) (show (0 : Int) < k by omega); omega
            have HAB : Hid (k ≠ 1 → a ≠ b) := fun h1 e => by
              have h2 : (t + 1 - t) % k = 0 := by
                have h3 : (t + 1) % k = t % k := by rw [← hb, ← ha, e]
                exact Int.emod_eq_zero_of_dvd ((Int.emod_eq_emod_iff_emod_sub_eq_zero.1 h3 |> Int.dvd_of_emod_eq_zero))
              rw [show t + 1 - t = 1 by omega] at h2
              have := Int.le_of_dvd (by omega) (Int.dvd_of_emod_eq_zero h2)
              omega
            have ea : t.tmod k = a := by rw [Int.tmod_eq_emod_of_nonneg ht.1]; exact ha.symm
            have eb : (t + 1).tmod k = b := by rw [Int.tmod_eq_emod_of_nonneg (by omega)]; exact hb.symm
            have ew : IntKind.i64.wrap (t + 1) = t + 1 := IntWalk.i64_in _ (by omega)
            have ewa : IntKind.i64.wrap (a : Int) = a := IntWalk.i64_in _ (by omega)
            have ewb : IntKind.i64.wrap (b : Int) = b := IntWalk.i64_in _ (by omega)
            have ca := (hR6.ch hak).c0
            have cb := (hR6.ch hbk).c0
            have fa := hR6.froz (a * 3)
            have hcp2 := hR6.le
            have hcp2m := hR6.max
            unfold maxLen at hcp2m
            have HR7 : Hid (RowC (w5.setCell ⟨g2, a * 3, none⟩ (.string (str (f b).p))).drew g2 k cap2 (fun q => if q = a then ⟨(f b).p, (f a).g, (f a).d⟩ else f q)) := (hR6.path hak (f b).p).drew
            have hKs : Kept [g2] w5 (w5.setCell ⟨g2, a * 3, none⟩ (.string (str (f b).p))).drew := ((Kept.refl [g2] w5).setCell (by simp) _).drew
            have HK7 : Hid (Kept [] w (w5.setCell ⟨g2, a * 3, none⟩ (.string (str (f b).p))).drew) := HK5.out.trans hKs (by intro x hx; simp at hx; subst hx; exact .inr (Nat.le_trans HK4.out.size HGG.out))
            have HS7 : Hid (SlC (w5.setCell ⟨g2, a * 3, none⟩ (.string (str (f b).p))).drew (some ⟨g, 0, none⟩) k cap (seg f 0 k)) := HS5.out.kept hKs (by intro x hx; simp [blk] at hx; subst hx; simp; have := HGG.out; omega)
            obtain ⟨w7, hw7⟩ : ∃ w7, w7 = (w5.setCell ⟨g2, a * 3, none⟩ (.string (str (f b).p))).drew := ⟨_, rfl⟩
            rw [← hw7] at HR7 HK7 HS7
            have HW7 : Hid (w7 = (w5.setCell ⟨g2, a * 3, none⟩ (.string (str (f b).p))).drew) := hw7
            have cS := sorted_call w7 _ _ _ _ HS7.out (by simp) (by omega) (fun x hx => by have := HPl.out x hx; omega)
            rw [HSo.out] at cS
            clear hw7 hKs hO5 hg5 hR5 hR6 hgg hK5 ha hb hO0 hA HRn HK5 HS5 hgl
            go_wp2_with fail
            go_region
            go_wp2_with fail
            rw [← HW7.out]
            refine cS.mono ?_
            rintro e w8 ⟨v8, rfl, hO8, hK8⟩
            obtain ⟨a8, c8, hv8, hS8⟩ := hO8.sl
            rw [baseL_length] at hv8 hS8
            subst hv8
            have HS8 : Hid (SlC w8 a8 k c8 (baseL k)) := hS8
            have hc8 := hS8.2.1
            have hc8m := hS8.2.2.1
            unfold maxLen at hc8m
            have HK8 : Hid (Kept [] w w8) := HK7.out.trans hK8 (by simp)
            have HR8 : Hid (RowC w8 g2 k cap2 (fun q => if q = a then ⟨(f b).p, (f a).g, (f a).d⟩ else f q)) := HR7.out.kept hK8 (by simp)
            clear hO8 hS8 hK8 cS HR7 HK7 HS7 ca cb fa ea eb ew ewa ewb HW7
            go_wp2_with fail
            go_loopw [14] (fun iv wr => ∃ j : Nat, j ≤ k ∧ iv = .int .i64 j ∧ Hid (Kept [] w8 wr)) (fun iv _ => k - (intOf iv).toNat)
            case atStart => exact ⟨0, Nat.zero_le _, rfl, Kept.refl _ _⟩
            case round =>
              obtain ⟨j, hj, rfl, HKr⟩ := hrel
              by_cases hjk : j < k
              · have hjk' : (j : Int) < k := by omega
                obtain ⟨g3, o3, hao, hx⟩ := HS8.out.2.2.2 j (by rw [baseL_length]; exact hjk)
                subst hao
                have c0 := (hx.kept HKr.out (by simp)).c0
                rw [baseL_get] at c0
                have c1 := ((Kept.refl [] wr).alloc (.cells #[.int .u8 (97 + (j : Int))] 5)).cell c0 (by simp)
                have ew2 : IntKind.u8.wrap (97 + (j : Int)) = 97 + j := by rw [IntKind.wrap_u8]; omega
                have hcv := let_conv (i := j) (by omega) (wr.alloc (.cells #[.int .u8 (97 + (j : Int))] 5)).drew wr.heap.size (cell_inC (heap_alloc_new wr (.cells #[.int .u8 (97 + (j : Int))] 5)) rfl)
                have ew1 : IntKind.i64.wrap (97 + (j : Int)) = 97 + j := IntWalk.i64_in _ (by omega)
                have hKb := ((Kept.refl [] wr).alloc (.cells #[.int .u8 (97 + (j : Int))] 5)).drew
                have HKb : Hid (Kept [] w8 (wr.alloc (.cells #[.int .u8 (97 + (j : Int))] 5)).drew) := HKr.out.trans hKb (by simp)
                generalize str (letC j).p = sp at c0 c1 hcv
                clear hx hKb
                go_wp2_with fail
                go_region
                go_wp2_with fail
                go_roundw
                case rel => exact ⟨j + 1, by omega, by go_num, HKb⟩
                case measure => simp [intOf]; omega
              · have hjk' : ¬ (j : Int) < k := by omega
                by_cases hk1 : k = 1
                · have hk1' : ((k : Int) == 1) = true := by simp [hk1]
                  go_wp2_with fail
                  go_ret
                  exact ⟨rfl, HK8.out.trans HKr.out (by simp)⟩
                · have hk1'' : ((k : Int) == 1) = false := by simp; omega
                  have hM := ((HR8.out.kept HKr.out (by simp)).own (Nat.zero_le g2)).slice
                  have hMp : ∀ x ∈ seg (fun q => if q = a then (⟨(f b).p, (f a).g, (f a).d⟩ : Ch) else f q) 0 k, x.p.length ≤ 1 := fun x hx => by
                    obtain ⟨q, _, hq, rfl⟩ := mem_seg.1 hx
                    by_cases e : q = a
                    · simp only [e, if_true]
                      exact HPl.out (f b) (mem_seg.2 ⟨b, Nat.zero_le _, hbk, rfl⟩)
                    · simp only [if_neg e]
                      exact HPl.out (f q) (mem_seg.2 ⟨q, Nat.zero_le _, hq, rfl⟩)
                  have cM := check_call wr _ _ _ _ hM (fun x hx => by have := hMp x hx; omega)
                  rw [twice_bad hak hbk (HAB.out hk1)] at cM
                  clear hM hMp
                  go_wp2_with fail
                  refine cM.mono ?_
                  rintro e w9 ⟨rfl, hK9⟩
                  have HK9 : Hid (Kept [] w w9) := (HK8.out.trans HKr.out (by simp)).trans hK9 (by simp)
                  clear cM hK9
                  go_wp2_with fail
                  go_ret
                  exact ⟨rfl, HK9.out⟩

end Go.Proofs.Ytdmlcgmajpjmdaa
