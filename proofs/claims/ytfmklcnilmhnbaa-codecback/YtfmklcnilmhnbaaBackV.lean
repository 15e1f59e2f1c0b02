/-
  CodecBack: the walk.
-/
import Derived.Test.YtfmklcnilmhnbaaBackW
namespace Go.Proofs.Ytfmklcnilmhnbaa
open Go.RowKit

set_option maxHeartbeats 8000000 in
set_option maxRecDepth 100000 in
theorem back_walk (w : World) (ao : Option Addr) (n c : Nat) (L : List Th) (ht : Things w ao n c L) :
    Calls Try.prog 6 #[.slice ao n c] w fun r w' => r = .returned (.bool true) ∧ Below w.heap.size w w' := by
  have hn := ht.1
  subst hn
  have hm := ht.2.2.1
  have hc := ht.2.1
  have HT : Hid (Things w ao L.length c L) := ht
  clear ht
  cases hro : roomy L with
  | false =>
    have HRO : Hid (roomy L = false) := hro
    clear hro
    go_enter Try.func6, Try.ntmps6
    go_wp2_with fail
    refine (awake_call _).mono ?_
    rintro _ w1 ⟨rfl, hk1⟩
    go_wp2_with fail
    refine (room_call _ _ _ _ _ (HT.out.kept hk1)).mono ?_
    rw [HRO.out]
    rintro _ _ ⟨rfl, rfl⟩
    go_wp2
    go_ret
    exact ⟨rfl, hk1.below (Nat.le_refl _) (by simp)⟩
  | true =>
    have HRO : Hid (roomy L = true) := hro
    clear hro
    go_enter Try.func6, Try.ntmps6
    go_wp2_with fail
    refine (awake_call _).mono ?_
    rintro _ w1 ⟨rfl, hk1⟩
    go_wp2_with fail
    refine (room_call _ _ _ _ _ (HT.out.kept hk1)).mono ?_
    rw [HRO.out]
    rintro _ _ ⟨rfl, rfl⟩
    go_wp2_with fail
    refine (newWriter_call _).mono ?_
    rintro _ w2 ⟨rfl, hw2, hk2⟩
    obtain ⟨pw, hpw⟩ : ∃ pw, pw = w1.heap.size := ⟨_, rfl⟩
    rw [← hpw] at hw2 ⊢
    have hpw1 : w.heap.size ≤ pw := by rw [hpw]; exact hk1.size
    have hK2 : Kept [] w w2 := hk1.trans hk2 (by simp)
    clear hpw
    by_cases h0 : L.length = 0
    · have e1 : L = [] := by simpa using h0
      subst e1
      clear HT HRO h0
      go_wp2
      refine wp_loop_rounds 1 ?_
      rw [rounds_succ]
      go_wp2_with fail
      refine (done_call _ _ _ _ _ hw2 (by simp)).mono ?_
      rintro _ w4 ⟨a4, c4, rfl, hs4, hb4, hk4⟩
      go_wp2_with fail
      refine (newReader_call _ _ _ _ _ hs4 (by simp) oct_nil).mono ?_
      rintro _ w5 ⟨p5, F5, rfl, hp5, hF5, hF5', hr5, hk5⟩
      have hK5 : Kept [] w w5 := (hK2.trans hk4 (by simp)).trans hk5 (by simp)
      clear hs4 hb4 hF5 hF5' hw2
      go_wp2
      refine wp_loop_rounds 1 ?_
      rw [rounds_succ]
      go_wp2_with fail
      refine (end_call _ _ _ _ _ hr5).mono ?_
      rintro _ _ ⟨rfl, rfl⟩
      go_wp2_with fail
      refine (left_call _ _ _ _ _ hr5).mono ?_
      rintro _ _ ⟨rfl, rfl⟩
      go_wp2
      go_ret
      exact ⟨rfl, hK5.below (Nat.le_refl _) (by simp)⟩
    · obtain ⟨b, o, rfl, hth⟩ := HT.out.some (by omega)
      have HTH : Hid (∀ i (hi : i < L.length), ThAt w b (o + i * 6) L[i]) := hth
      have hL300 : L.length ≤ 300 := (roomy_at HRO.out (k := 0) (by omega)).1
      have HW2 : Hid (Wr w2 pw none [] 0) := hw2
      clear hth hw2
      go_wp2
      go_loopw [4] (fun i wr => ∃ (k : Nat) (g : Option Nat), k ≤ L.length ∧ i = .int .i64 k ∧ Wr wr pw g (wrs (L.take k)).1 (wrs (L.take k)).2 ∧ (∀ j, g = some j → w.heap.size ≤ j) ∧ Kept [] w wr) (fun i _ => L.length - (intOf i).toNat)
      case atStart => exact ⟨0, none, Nat.zero_le _, rfl, HW2.out, by simp, hK2⟩
      case round =>
        obtain ⟨k, g, hk, rfl, hW, hg, hK⟩ := hrel
        clear HW2 hK2
        by_cases hlt : k < L.length
        · have hroom := roomy_at HRO.out hlt
          have hth0 := HTH.out k hlt
          have hlen := wrs_len (L.take k) (fun t ht => by
            obtain ⟨i, hi, rfl⟩ := List.mem_iff_getElem.1 (List.mem_of_mem_take ht)
            exact (roomy_at HRO.out hi).2)
          have hsn : wrs (L.take (k + 1)) = wrThing (wrs (L.take k)).2 (wrs (L.take k)).1 L[k] := by rw [List.take_succ_eq_append_getElem hlt, wrs_snoc]
          have HSN : Hid (wrs (L.take (k + 1)) = wrThing (wrs (L.take k)).2 (wrs (L.take k)).1 L[k]) := hsn
          clear hsn
          generalize hq : L[k] = t at hroom hth0 HSN
          generalize wrs (L.take k) = q at hW hlen HSN
          have hth := hth0.kept hK
          obtain ⟨hr1, hr2, hr3⟩ := hroom
          have hlq2 : q.1.length ≤ 603000 := by simp at hlen; omega
          have hd1 : 0 < t.bn → ∀ j ∈ blk t.bo, j ∉ pw :: g.toList := by
            intro h0 j hj h7
            have h8 := hth0.sl.lt h0 j hj
            rcases List.mem_cons.1 h7 with h9 | h9
            · omega
            · have := hg j (by simpa using h9); omega
          have c0 := hth.c0
          have c1 := hth.c1
          have c2 := hth.c2
          have c3 := hth.c3
          have c4 := hth.c4
          have c5 := hth.c5
          have hwrp := hW.lt
          clear hq hlen
          go_wp2_with fail
          refine (put_call wr pw g q.1 q.2 t hW (by omega) (by omega) hth.sl hth.oct hd1).mono ?_
          rintro _ w3 ⟨rfl, g', hW3, hF3, hK3⟩
          have HW3 : Hid (Wr w3 pw g' (wrs (L.take (k + 1))).1 (wrs (L.take (k + 1))).2) := by show Wr w3 pw g' (wrs (L.take (k + 1))).1 (wrs (L.take (k + 1))).2; rw [HSN.out]; exact hW3
          have HK3 : Hid (Kept [] w w3) := hK.trans hK3 (by
            intro i hi
            right
            rcases List.mem_cons.1 hi with h9 | h9
            · omega
            · exact hg i (by simpa using h9))
          have HG3 : Hid (∀ j, g' = some j → w.heap.size ≤ j) := fun j hj => by
            rcases hF3 j hj with h9 | h9
            · exact hg j h9
            · have := hK.size; omega
          clear hW hW3 hF3 hK3 c0 c1 c2 c3 c4 c5
          go_wp2
          go_roundw
          case rel => exact ⟨k + 1, g', by omega, by go_num, HW3.out, HG3.out, HK3.out⟩
          case measure => simp [intOf]; omega
        · have e1 : L.take k = L := List.take_of_length_le (by omega)
          rw [e1] at hW
          have hlen := wrs_len L (fun t ht => by
            obtain ⟨i, hi, rfl⟩ := List.mem_iff_getElem.1 ht
            exact (roomy_at HRO.out hi).2)
          have hok := wrs_ok L
          clear e1
          generalize wrs L = q at hW hlen hok
          obtain ⟨l, e⟩ := q
          simp only at hW hlen hok
          by_cases he : e = 0
          · subst he
            obtain ⟨hl, hOK⟩ := hok rfl
            have HL : Hid (l = L.flatMap encTh) := hl
            clear hl
            have HOK : Hid (∀ t ∈ L, OkTh t) := hOK
            clear hok hOK
            go_wp2_with fail
            refine (done_call _ _ _ _ _ hW (by omega)).mono ?_
            rintro _ w4 ⟨a4, c4, rfl, hs4, hb4, hk4⟩
            have hoct : Oct l := by obtain ⟨v, _, _, _, _, h5, _⟩ := hW; exact h5
            go_wp2_with fail
            refine (newReader_call _ _ _ _ _ hs4 (by omega) hoct).mono ?_
            rintro _ w5 ⟨p5, F5, rfl, hp5, hF5, hF5', hr5, hk5⟩
            have hK5 : Kept [] w w5 := (hK.trans hk4 (by simp)).trans hk5 (by simp)
            have hp5w : w.heap.size ≤ p5 := by have := (hK.trans hk4 (by simp) : Kept [] w w4).size; omega
            have HP5 : Hid (w.heap.size ≤ p5) := hp5w
            have HR5 : Hid (Rd w5 p5 F5 (L.flatMap encTh) 0) := by have := hr5; rw [HL.out] at this; exact this
            have HF5 : Hid (∀ k ∈ F5, k < w5.heap.size) := hF5'
            clear hW hs4 hb4 hr5 hF5 hF5' hoct
            go_wp2
            go_loopw [8] (fun i wr => ∃ (k : Nat), k ≤ L.length ∧ i = .int .i64 k ∧ Rd wr p5 F5 ((L.drop k).flatMap encTh) 0 ∧ Kept [] w wr ∧ w5.heap.size ≤ wr.heap.size) (fun i _ => L.length - (intOf i).toNat)
            case atStart => exact ⟨0, Nat.zero_le _, rfl, HR5.out, hK5, Nat.le_refl _⟩
            case round =>
              obtain ⟨j, hj, rfl, hR, hKr, hsz⟩ := hrel
              clear HR5 hK5
              by_cases hjl : j < L.length
              · have hth0 := (HTH.out j hjl).kept hKr
                have hroom := roomy_at HRO.out hjl
                have hOKt : OkTh L[j] := HOK.out _ (List.getElem_mem hjl)
                have hlt4 : 0 < L[j].bn → ∀ k ∈ blk L[j].bo, k < w.heap.size := (HTH.out j hjl).sl.lt
                have hdl : ((L.drop j).flatMap encTh).length ≤ 603000 := by
                  have h9 := flat_len L j
                  rw [← HL.out] at h9
                  omega
                have hdr : (L.drop j).flatMap encTh = encTh L[j] ++ (L.drop (j + 1)).flatMap encTh := flat_drop L j hjl
                rw [hdr] at hR hdl
                clear hdr
                generalize hq : L[j] = t at hth0 hroom hOKt hR hlt4 hdl
                clear hq
                obtain ⟨c0, c1, c2, c3, c4, c5, sl, oct, x0, x1, n0, n1, d0, d1, s1⟩ := hth0
                obtain ⟨hr1, hr2, hr3⟩ := hroom
                obtain ⟨t0, t1, t2, t3, t4, t5, t6, t7, t8⟩ := t
                simp only at *
                have HLT4 : Hid (0 < t5 → ∀ k ∈ blk t4, k < w.heap.size) := hlt4
                have HDL : Hid ((encTh ⟨t0, t1, t2, t3, t4, t5, t6, t7, t8⟩ ++ (L.drop (j + 1)).flatMap encTh).length ≤ 603000) := hdl
                clear hlt4 hdl
                have hcs : (t0 ≤ 1) ∨ (¬ t0 ≤ 1 ∧ t0 = 2) ∨ (¬ t0 ≤ 1 ∧ t0 ≠ 2 ∧ t0 = 3) ∨ (¬ t0 ≤ 1 ∧ t0 ≠ 2 ∧ t0 ≠ 3 ∧ t0 = 4) ∨ (¬ t0 ≤ 1 ∧ t0 ≠ 2 ∧ t0 ≠ 3 ∧ t0 ≠ 4) := by omega
                rcases hcs with h1 | ⟨h1, h2⟩ | ⟨h1, h2, h3⟩ | ⟨h1, h2, h3, h4⟩ | ⟨h1, h2, h3, h4⟩
                · have hnn := hOKt.1 h1
                  simp only at hnn
                  have he : encTh ⟨t0, t1, t2, t3, t4, t5, t6, t7, t8⟩ = encNum t1 := by unfold encTh; rw [if_pos h1]
                  rw [he] at hR
                  have HR : Hid (Rd wr p5 F5 (encNum t1 ++ (L.drop (j + 1)).flatMap encTh) 0) := hR
                  clear hR he
                  go_wp2
                  have hKa : Kept [] wr (wr.alloc (.cells #[.int .i64 t0, .int .i64 t1, .int .u64 t2, .string t3, .slice t4 t5 t6, .bool t8] 45)) := (Kept.refl _ _).alloc _
                  have hp5r : p5 < wr.heap.size := HR.out.lt
                  have hRa : Rd (wr.alloc (.cells #[.int .i64 t0, .int .i64 t1, .int .u64 t2, .string t3, .slice t4 t5 t6, .bool t8] 45)) p5 F5 (encNum t1 ++ (L.drop (j + 1)).flatMap encTh) 0 := Rd.kept hKa HR.out (by simp) (by simp)
                  have hce : (wr.alloc (.cells #[.int .i64 t0, .int .i64 t1, .int .u64 t2, .string t3, .slice t4 t5 t6, .bool t8] 45)).cell? ⟨wr.heap.size, 1, none⟩ = some (.int .i64 t1) := by simp
                  generalize hwa : wr.alloc (.cells #[.int .i64 t0, .int .i64 t1, .int .u64 t2, .string t3, .slice t4 t5 t6, .bool t8] 45) = wa at hKa hRa hce ⊢
                  have HRA : Hid (Rd wa p5 F5 (encNum t1 ++ (L.drop (j + 1)).flatMap encTh) 0) := hRa
                  have HKA : Hid (Kept [] w wa) := hKr.trans hKa (by simp)
                  have HSZ : Hid (w5.heap.size ≤ wa.heap.size) := Nat.le_trans hsz hKa.size
                  have HE : Hid (rdNumE 0 (encNum t1 ++ (L.drop (j + 1)).flatMap encTh) = (0, t1, (L.drop (j + 1)).flatMap encTh)) := read_num t1 _ hnn.1 hnn.2
                  clear hwa hRa hKa c0 c1 c2 c3 c4 c5 sl
                  go_region_with (first
                    | (go_at_call 11; refine (num_call _ p5 F5 (encNum t1 ++ (L.drop (j + 1)).flatMap encTh) 0 (by exact HRA.out)).mono ?_; rw [HE.out]; rintro _ w6 ⟨rfl, hr6, hk6⟩; have hce6 : w6.cell? ⟨wr.heap.size, 1, none⟩ = some (.int .i64 t1) := hk6.cell (by exact hce) (by simp; omega)))
                  all_goals
                    have HRC : Hid (Rd w6 p5 F5 ((L.drop (j + 1)).flatMap encTh) 0) := hr6
                    have hk7 : Kept [p5] wa w6 := ⟨hk6.os, hk6.tape, hk6.output, hk6.size, hk6.block⟩
                    have HK6 : Hid (Kept [] w w6) := HKA.out.trans hk7 (by intro i hi; right; simp at hi; subst hi; exact HP5.out)
                    have HS6 : Hid (w5.heap.size ≤ w6.heap.size) := Nat.le_trans HSZ.out hk7.size
                    clear hr6 hk6 hk7
                    go_wp2
                    go_roundw
                    case rel => exact ⟨j + 1, by omega, by go_num, HRC.out, HK6.out, HS6.out⟩
                    case measure => simp [intOf]; omega
                · have hss : (strOf t3).length ≤ 2000 := by rw [strOf_length]; exact hr2
                  have hsz3 := strOf_length t3
                  have he : encTh ⟨t0, t1, t2, t3, t4, t5, t6, t7, t8⟩ = (encNum (strOf t3).length ++ strOf t3) := by unfold encTh; rw [if_neg h1, if_pos h2, ← hsz3]
                  rw [he] at hR
                  have HR : Hid (Rd wr p5 F5 ((encNum (strOf t3).length ++ strOf t3) ++ (L.drop (j + 1)).flatMap encTh) 0) := hR
                  clear hR he
                  have hb2 : (t0 == 2) = true := by simp; omega
                  clear h2 hsz3
                  go_wp2
                  have hKa : Kept [] wr (wr.alloc (.cells #[.int .i64 t0, .int .i64 t1, .int .u64 t2, .string t3, .slice t4 t5 t6, .bool t8] 45)) := (Kept.refl _ _).alloc _
                  have hp5r : p5 < wr.heap.size := HR.out.lt
                  have hRa : Rd (wr.alloc (.cells #[.int .i64 t0, .int .i64 t1, .int .u64 t2, .string t3, .slice t4 t5 t6, .bool t8] 45)) p5 F5 ((encNum (strOf t3).length ++ strOf t3) ++ (L.drop (j + 1)).flatMap encTh) 0 := Rd.kept hKa HR.out (by simp) (by simp)
                  have hce : (wr.alloc (.cells #[.int .i64 t0, .int .i64 t1, .int .u64 t2, .string t3, .slice t4 t5 t6, .bool t8] 45)).cell? ⟨wr.heap.size, 3, none⟩ = some (.string t3) := by simp
                  generalize hwa : wr.alloc (.cells #[.int .i64 t0, .int .i64 t1, .int .u64 t2, .string t3, .slice t4 t5 t6, .bool t8] 45) = wa at hKa hRa hce ⊢
                  have HRA : Hid (Rd wa p5 F5 ((encNum (strOf t3).length ++ strOf t3) ++ (L.drop (j + 1)).flatMap encTh) 0) := hRa
                  have HKA : Hid (Kept [] w wa) := hKr.trans hKa (by simp)
                  have HSZ : Hid (w5.heap.size ≤ wa.heap.size) := Nat.le_trans hsz hKa.size
                  have HE : Hid (rdRunE 0 2000 ((encNum (strOf t3).length ++ strOf t3) ++ (L.drop (j + 1)).flatMap encTh) = (0, strOf t3, (L.drop (j + 1)).flatMap encTh)) := read_run (strOf t3) _ hss
                  clear hwa hRa hKa c0 c1 c2 c3 c4 c5 sl
                  go_region_with (first
                    | (go_at_call 24; refine (text_call _ p5 F5 ((encNum (strOf t3).length ++ strOf t3) ++ (L.drop (j + 1)).flatMap encTh) 0 2000 (by exact HRA.out)).mono ?_; rw [HE.out]; simp only [strB_strOf]; rintro _ w6 ⟨rfl, hr6, hk6⟩; have hce6 : w6.cell? ⟨wr.heap.size, 3, none⟩ = some (.string t3) := hk6.cell (by exact hce) (by simp; omega)))
                  all_goals
                    have HRC : Hid (Rd w6 p5 F5 ((L.drop (j + 1)).flatMap encTh) 0) := hr6
                    have hk7 : Kept [p5] wa w6 := ⟨hk6.os, hk6.tape, hk6.output, hk6.size, hk6.block⟩
                    have HK6 : Hid (Kept [] w w6) := HKA.out.trans hk7 (by intro i hi; right; simp at hi; subst hi; exact HP5.out)
                    have HS6 : Hid (w5.heap.size ≤ w6.heap.size) := Nat.le_trans HSZ.out hk7.size
                    clear hr6 hk6 hk7
                    go_wp2
                    go_roundw
                    case rel => exact ⟨j + 1, by omega, by go_num, HRC.out, HK6.out, HS6.out⟩
                    case measure => simp [intOf]; omega
                · skip
                  have he : encTh ⟨t0, t1, t2, t3, t4, t5, t6, t7, t8⟩ = (encNum t7.length ++ t7) := by unfold encTh; rw [if_neg h1, if_neg h2, if_pos h3]
                  have HEN : Hid (encTh ⟨t0, t1, t2, t3, t4, t5, t6, t7, t8⟩ = (encNum t7.length ++ t7)) := he
                  rw [he] at hR
                  have HR : Hid (Rd wr p5 F5 ((encNum t7.length ++ t7) ++ (L.drop (j + 1)).flatMap encTh) 0) := hR
                  clear hR he
                  have hb2 : (t0 == 2) = false := by simp; omega
                  have hb3 : (t0 == 3) = true := by simp; omega
                  clear h2 h3
                  go_wp2
                  have hKa : Kept [] wr (wr.alloc (.cells #[.int .i64 t0, .int .i64 t1, .int .u64 t2, .string t3, .slice t4 t5 t6, .bool t8] 45)) := (Kept.refl _ _).alloc _
                  have hp5r : p5 < wr.heap.size := HR.out.lt
                  have hRa : Rd (wr.alloc (.cells #[.int .i64 t0, .int .i64 t1, .int .u64 t2, .string t3, .slice t4 t5 t6, .bool t8] 45)) p5 F5 ((encNum t7.length ++ t7) ++ (L.drop (j + 1)).flatMap encTh) 0 := Rd.kept hKa HR.out (by simp) (by simp)
                  have hce : (wr.alloc (.cells #[.int .i64 t0, .int .i64 t1, .int .u64 t2, .string t3, .slice t4 t5 t6, .bool t8] 45)).cell? ⟨wr.heap.size, 4, none⟩ = some (.slice t4 t5 t6) := by simp
                  generalize hwa : wr.alloc (.cells #[.int .i64 t0, .int .i64 t1, .int .u64 t2, .string t3, .slice t4 t5 t6, .bool t8] 45) = wa at hKa hRa hce ⊢
                  have HRA : Hid (Rd wa p5 F5 ((encNum t7.length ++ t7) ++ (L.drop (j + 1)).flatMap encTh) 0) := hRa
                  have HKA : Hid (Kept [] w wa) := hKr.trans hKa (by simp)
                  have HSZ : Hid (w5.heap.size ≤ wa.heap.size) := Nat.le_trans hsz hKa.size
                  have HE : Hid (rdRunE 0 2000 ((encNum t7.length ++ t7) ++ (L.drop (j + 1)).flatMap encTh) = (0, t7, (L.drop (j + 1)).flatMap encTh)) := read_run t7 _ hr3
                  have hlenB : ((encNum t7.length ++ t7) ++ (L.drop (j + 1)).flatMap encTh).length ≤ 140737488355328 := by have h9 := HDL.out; rw [HEN.out] at h9; omega
                  have hslw : 0 < t5 → ∀ k ∈ blk t4, k ∉ [p5] := by
                    intro h9 k hk hm
                    have h10 := HLT4.out h9 k hk
                    have h11 := HP5.out
                    simp at hm
                    omega
                  have HSB : Hid (Sl wa t4 t5 t6 t7) := by rw [← hwa]; exact Sl.kept ((Kept.refl [] wr).alloc _) sl (by simp)
                  clear hwa hRa hKa c0 c1 c2 c3 c4 c5 sl
                  go_region_with (first
                    | (go_at_call 25; refine (bytes_call _ p5 F5 ((encNum t7.length ++ t7) ++ (L.drop (j + 1)).flatMap encTh) 0 2000 (by exact HRA.out) (by have := hlenB; omega)).mono ?_; rw [HE.out]; rintro _ w6 ⟨a6, n6, c6, rfl, hs6, hb6, hr6, hk6⟩; have hsb6 : Sl w6 t4 t5 t6 t7 := Sl.kept' (show Kept [p5] wa w6 from ⟨hk6.os, hk6.tape, hk6.output, hk6.size, hk6.block⟩) HSB.out hslw; have hce6 : w6.cell? ⟨wr.heap.size, 4, none⟩ = some (.slice t4 t5 t6) := hk6.cell (by exact hce) (by simp; omega))
                    | (go_at_call 22; refine (same_call _ _ _ _ _ _ _ t7 t7 (by exact hs6) (by exact hsb6)).mono ?_; rintro _ w8 ⟨rfl, hk8⟩))
                  all_goals
                    have HRC : Hid (Rd w8 p5 F5 ((L.drop (j + 1)).flatMap encTh) 0) := Rd.kept hk8 hr6 (by simp) (by simp)
                    have hk7 : Kept [p5] wa w8 := (show Kept [p5] wa w6 from ⟨hk6.os, hk6.tape, hk6.output, hk6.size, hk6.block⟩).trans hk8 (by simp)
                    have HK6 : Hid (Kept [] w w8) := HKA.out.trans hk7 (by intro i hi; right; simp at hi; subst hi; exact HP5.out)
                    have HS6 : Hid (w5.heap.size ≤ w8.heap.size) := Nat.le_trans HSZ.out hk7.size
                    clear hr6 hk6 hk7
                    go_wp2
                    go_roundw
                    case rel => exact ⟨j + 1, by omega, by go_num, HRC.out, HK6.out, HS6.out⟩
                    case measure => simp [intOf]; omega
                · skip
                  have he : encTh ⟨t0, t1, t2, t3, t4, t5, t6, t7, t8⟩ = [if t8 then 1 else 0] := by unfold encTh; rw [if_neg h1, if_neg h2, if_neg h3, if_pos h4]
                  rw [he] at hR
                  have HR : Hid (Rd wr p5 F5 ([if t8 then 1 else 0] ++ (L.drop (j + 1)).flatMap encTh) 0) := hR
                  clear hR he
                  have hb2 : (t0 == 2) = false := by simp; omega
                  have hb3 : (t0 == 3) = false := by simp; omega
                  have hb4 : (t0 == 4) = true := by simp; omega
                  clear h2 h3 h4
                  go_wp2
                  have hKa : Kept [] wr (wr.alloc (.cells #[.int .i64 t0, .int .i64 t1, .int .u64 t2, .string t3, .slice t4 t5 t6, .bool t8] 45)) := (Kept.refl _ _).alloc _
                  have hp5r : p5 < wr.heap.size := HR.out.lt
                  have hRa : Rd (wr.alloc (.cells #[.int .i64 t0, .int .i64 t1, .int .u64 t2, .string t3, .slice t4 t5 t6, .bool t8] 45)) p5 F5 ([if t8 then 1 else 0] ++ (L.drop (j + 1)).flatMap encTh) 0 := Rd.kept hKa HR.out (by simp) (by simp)
                  have hce : (wr.alloc (.cells #[.int .i64 t0, .int .i64 t1, .int .u64 t2, .string t3, .slice t4 t5 t6, .bool t8] 45)).cell? ⟨wr.heap.size, 5, none⟩ = some (.bool t8) := by simp
                  generalize hwa : wr.alloc (.cells #[.int .i64 t0, .int .i64 t1, .int .u64 t2, .string t3, .slice t4 t5 t6, .bool t8] 45) = wa at hKa hRa hce ⊢
                  have HRA : Hid (Rd wa p5 F5 ([if t8 then 1 else 0] ++ (L.drop (j + 1)).flatMap encTh) 0) := hRa
                  have HKA : Hid (Kept [] w wa) := hKr.trans hKa (by simp)
                  have HSZ : Hid (w5.heap.size ≤ wa.heap.size) := Nat.le_trans hsz hKa.size
                  have HE : Hid (rdFlagE 0 ([if t8 then 1 else 0] ++ (L.drop (j + 1)).flatMap encTh) = (0, t8, (L.drop (j + 1)).flatMap encTh)) := read_flag t8 _
                  clear hwa hRa hKa c0 c1 c2 c3 c4 c5 sl
                  go_region_with (first
                    | (go_at_call 26; refine (rFlag_call _ p5 F5 ([if t8 then 1 else 0] ++ (L.drop (j + 1)).flatMap encTh) 0 (by exact HRA.out)).mono ?_; rw [HE.out]; rintro _ w6 ⟨rfl, hr6, hk6⟩; have hce6 : w6.cell? ⟨wr.heap.size, 5, none⟩ = some (.bool t8) := hk6.cell (by exact hce) (by simp; omega)))
                  all_goals
                    have HRC : Hid (Rd w6 p5 F5 ((L.drop (j + 1)).flatMap encTh) 0) := hr6
                    have hk7 : Kept [p5] wa w6 := ⟨hk6.os, hk6.tape, hk6.output, hk6.size, hk6.block⟩
                    have HK6 : Hid (Kept [] w w6) := HKA.out.trans hk7 (by intro i hi; right; simp at hi; subst hi; exact HP5.out)
                    have HS6 : Hid (w5.heap.size ≤ w6.heap.size) := Nat.le_trans HSZ.out hk7.size
                    clear hr6 hk6 hk7
                    go_wp2
                    go_roundw
                    case rel => exact ⟨j + 1, by omega, by go_num, HRC.out, HK6.out, HS6.out⟩
                    case measure => simp [intOf]; omega
                · skip
                  have he : encTh ⟨t0, t1, t2, t3, t4, t5, t6, t7, t8⟩ = hiB 8 t2 := by unfold encTh; rw [if_neg h1, if_neg h2, if_neg h3, if_neg h4]
                  rw [he] at hR
                  have HR : Hid (Rd wr p5 F5 (hiB 8 t2 ++ (L.drop (j + 1)).flatMap encTh) 0) := hR
                  clear hR he
                  have hb2 : (t0 == 2) = false := by simp; omega
                  have hb3 : (t0 == 3) = false := by simp; omega
                  have hb4 : (t0 == 4) = false := by simp; omega
                  clear h2 h3 h4
                  go_wp2
                  have hKa : Kept [] wr (wr.alloc (.cells #[.int .i64 t0, .int .i64 t1, .int .u64 t2, .string t3, .slice t4 t5 t6, .bool t8] 45)) := (Kept.refl _ _).alloc _
                  have hp5r : p5 < wr.heap.size := HR.out.lt
                  have hRa : Rd (wr.alloc (.cells #[.int .i64 t0, .int .i64 t1, .int .u64 t2, .string t3, .slice t4 t5 t6, .bool t8] 45)) p5 F5 (hiB 8 t2 ++ (L.drop (j + 1)).flatMap encTh) 0 := Rd.kept hKa HR.out (by simp) (by simp)
                  have hce : (wr.alloc (.cells #[.int .i64 t0, .int .i64 t1, .int .u64 t2, .string t3, .slice t4 t5 t6, .bool t8] 45)).cell? ⟨wr.heap.size, 2, none⟩ = some (.int .u64 t2) := by simp
                  generalize hwa : wr.alloc (.cells #[.int .i64 t0, .int .i64 t1, .int .u64 t2, .string t3, .slice t4 t5 t6, .bool t8] 45) = wa at hKa hRa hce ⊢
                  have HRA : Hid (Rd wa p5 F5 (hiB 8 t2 ++ (L.drop (j + 1)).flatMap encTh) 0) := hRa
                  have HKA : Hid (Kept [] w wa) := hKr.trans hKa (by simp)
                  have HSZ : Hid (w5.heap.size ≤ wa.heap.size) := Nat.le_trans hsz hKa.size
                  have HE : Hid (rdWordE 0 (hiB 8 t2 ++ (L.drop (j + 1)).flatMap encTh) = (0, t2, (L.drop (j + 1)).flatMap encTh)) := read_word t2 _ x0 x1
                  clear hwa hRa hKa c0 c1 c2 c3 c4 c5 sl
                  go_region_with (first
                    | (go_at_call 27; refine (rWord_call _ p5 F5 (hiB 8 t2 ++ (L.drop (j + 1)).flatMap encTh) 0 (by exact HRA.out)).mono ?_; rw [HE.out]; rintro _ w6 ⟨rfl, hr6, hk6⟩; have hce6 : w6.cell? ⟨wr.heap.size, 2, none⟩ = some (.int .u64 t2) := hk6.cell (by exact hce) (by simp; omega)))
                  all_goals
                    have HRC : Hid (Rd w6 p5 F5 ((L.drop (j + 1)).flatMap encTh) 0) := hr6
                    have hk7 : Kept [p5] wa w6 := ⟨hk6.os, hk6.tape, hk6.output, hk6.size, hk6.block⟩
                    have HK6 : Hid (Kept [] w w6) := HKA.out.trans hk7 (by intro i hi; right; simp at hi; subst hi; exact HP5.out)
                    have HS6 : Hid (w5.heap.size ≤ w6.heap.size) := Nat.le_trans HSZ.out hk7.size
                    clear hr6 hk6 hk7
                    go_wp2
                    go_roundw
                    case rel => exact ⟨j + 1, by omega, by go_num, HRC.out, HK6.out, HS6.out⟩
                    case measure => simp [intOf]; omega
              · have e2 : (L.drop j).flatMap encTh = [] := by rw [List.drop_eq_nil_of_le (by omega)]; rfl
                rw [e2] at hR
                have HR : Hid (Rd wr p5 F5 [] 0) := hR
                clear e2 hR
                go_wp2_with fail
                refine (end_call _ _ _ _ _ HR.out).mono ?_
                rintro _ _ ⟨rfl, rfl⟩
                go_wp2_with fail
                refine (left_call _ _ _ _ _ HR.out).mono ?_
                rintro _ _ ⟨rfl, rfl⟩
                go_wp2
                go_ret
                exact ⟨rfl, hKr.below (Nat.le_refl _) (by simp)⟩
          · have hl : l = [] := by obtain ⟨v, _, _, _, _, _, h6⟩ := hW; exact (h6 he).2
            subst hl
            have heb : (e != 0) = true := by simp [he]
            clear hok he
            go_wp2_with fail
            refine (done_call _ _ _ _ _ hW (by simp)).mono ?_
            rintro _ w4 ⟨a4, c4, rfl, hs4, hb4, hk4⟩
            clear hs4 hb4 hW
            go_wp2
            go_ret
            exact ⟨rfl, (hK.trans hk4 (by simp)).below (Nat.le_refl _) (by simp)⟩

end Go.Proofs.Ytfmklcnilmhnbaa
