/-
  CodecFails: the walk.
-/
import Derived.Test.YtfmklcnilmhnbabWr4
import Derived.Test.YtfmklcnilmhnbabRd5
namespace Go.Proofs.Ytfmklcnilmhnbab
open Go.RowKit

theorem wrThing_failed (e : Int) (l : List Int) (t : Th) (he : e ≠ 0) : wrThing e l t = ([], e) := by
  unfold wrThing wrNum wrRun wrFlag wrWord wrRefuse
  simp [he]

/-- What a call at a reader leaves, whatever it is: what it failed by first stays, nothing comes back, and behind a failure nothing is left. -/
def Goes (e : Int) (l : List Int) (e' : Int) (l' : List Int) : Prop := (e ≠ 0 → e' = e) ∧ l'.length ≤ l.length ∧ (e' ≠ 0 → l' = [])

theorem rdNum_short (l : List Int) : (rdNum l).2.2.length ≤ l.length ∧ ((rdNum l).1 ≠ 0 → (rdNum l).2.2 = []) := by
  rcases rdN_shape 6 0 0 l with ⟨h0, k, h⟩ | ⟨h0, h⟩
  · show (rdN 6 0 0 l).2.2.length ≤ _ ∧ ((rdN 6 0 0 l).1 ≠ 0 → (rdN 6 0 0 l).2.2 = []); rw [h, h0]; simp
  · show (rdN 6 0 0 l).2.2.length ≤ _ ∧ ((rdN 6 0 0 l).1 ≠ 0 → (rdN 6 0 0 l).2.2 = []); rw [h]; simp

theorem goes_num (e : Int) (l : List Int) : Goes e l (rdNumE e l).1 (rdNumE e l).2.2 := by
  unfold rdNumE Goes
  by_cases he : e = 0
  · rw [if_pos he]; have := rdNum_short l; exact ⟨fun h => absurd he h, this.1, this.2⟩
  · rw [if_neg he]; simp

theorem goes_run (e most : Int) (l : List Int) : Goes e l (rdRunE e most l).1 (rdRunE e most l).2.2 := by
  unfold rdRunE Goes
  by_cases he : e = 0
  · rw [if_pos he]
    refine ⟨fun h => absurd he h, rdRun_short.2, ?_⟩
    unfold rdRun
    split
    · intro _; rfl
    · split
      · intro _; rfl
      · split
        · intro _; rfl
        · intro h; exact absurd rfl h
  · rw [if_neg he]; simp

theorem goes_flag (e : Int) (l : List Int) : Goes e l (rdFlagE e l).1 (rdFlagE e l).2.2 := by
  unfold rdFlagE Goes
  by_cases he : e = 0
  · rw [if_pos he]
    cases l with
    | nil => simp [rdFlag, he]
    | cons d l =>
      rw [rdFlag]
      split <;> simp [he]
  · rw [if_neg he]; simp

theorem goes_word (e : Int) (l : List Int) : Goes e l (rdWordE e l).1 (rdWordE e l).2.2 := by
  unfold rdWordE Goes
  by_cases he : e = 0
  · rw [if_pos he]
    unfold rdWord
    split <;> simp [he]
  · rw [if_neg he]; simp

theorem rdRunE_failed (e most : Int) (he : e ≠ 0) : rdRunE e most [] = (e, [], []) := by unfold rdRunE; rw [if_neg he]
theorem rdNumE_failed (e : Int) (he : e ≠ 0) : rdNumE e [] = (e, 0, []) := by unfold rdNumE; rw [if_neg he]
theorem rdFlagE_failed (e : Int) (he : e ≠ 0) : rdFlagE e [] = (e, false, []) := by unfold rdFlagE; rw [if_neg he]
theorem rdWordE_failed (e : Int) (he : e ≠ 0) : rdWordE e [] = (e, 0, []) := by unfold rdWordE; rw [if_neg he]

/-- Behind the first loop. -/
def Both (w : World) (pr : Nat) (Fr : List Nat) (pw : Nat) (wr : World) : Prop :=
  ∃ g, Rd wr pr Fr [] 4 ∧ Wr wr pw g [] 1 ∧ (∀ j, g = some j → w.heap.size ≤ j ∧ j ≠ pr ∧ j ∉ Fr) ∧ Kept [] w wr

/-- What the second loop keeps. -/
def Third (w : World) (pr : Nat) (Fr : List Nat) (ps : Nat) (Fs : List Nat) (wr : World) : Prop :=
  ∃ l e, Rd wr pr Fr [] 4 ∧ Rd wr ps Fs l e ∧ Kept [] w wr ∧ l.length ≤ 5000

set_option maxHeartbeats 8000000 in
set_option maxRecDepth 100000 in
theorem fails_walk (w : World) (bo ao co : Option Addr) (m d n c n' c' : Nat) (lb : List Int) (L M : List Th) (hs : Sl w bo m d lb) (ho : Oct lb) (hL : Things w ao n c L) (hM : Things w co n' c' M) :
    Calls Try.prog 4 #[.slice bo m d, .slice ao n c, .slice co n' c'] w fun r w' => r = .returned (.bool true) ∧ Below w.heap.size w w' := by
  have HS : Hid (Sl w bo m d lb) := hs
  have HL : Hid (Things w ao n c L) := hL
  have HM : Hid (Things w co n' c' M) := hM
  have hnL := hL.1
  have hnM := hM.1
  have hcL := hL.2.2.1
  have hcM := hM.2.2.1
  have hcL2 := hL.2.1
  have hcM2 := hM.2.1
  clear hs hL hM
  by_cases hb : m ≤ 5000
  · have hb' : ¬ (5000 : Int) < (m : Int) := by omega
    go_enter Try.func4, Try.ntmps4
    go_wp2_with fail
    refine (awake_call _).mono ?_
    rintro _ w1 ⟨rfl, hk1⟩
    go_wp2_with fail
    refine (room_call _ _ _ _ _ (HL.out.kept hk1)).mono ?_
    rintro _ _ ⟨rfl, rfl⟩
    cases hr1 : roomy L with
    | false =>
      go_wp2
      go_ret
      exact ⟨rfl, hk1.below (Nat.le_refl _) (by simp)⟩
    | true =>
      have HR1 : Hid (roomy L = true) := hr1
      clear hr1
      go_wp2_with fail
      refine (room_call _ _ _ _ _ (HM.out.kept hk1)).mono ?_
      rintro _ _ ⟨rfl, rfl⟩
      cases hr2 : roomy M with
      | false =>
        go_wp2
        go_ret
        exact ⟨rfl, hk1.below (Nat.le_refl _) (by simp)⟩
      | true =>
        have HR2 : Hid (roomy M = true) := hr2
        clear hr2
        go_wp2_with fail
        refine (newReader_call _ _ _ _ _ (Sl.kept hk1 HS.out (by simp)) (by omega) ho).mono ?_
        rintro _ w2 ⟨pr, Fr, rfl, hpr, hFr, hFr', hrd2, hk2⟩
        have HFR : Hid (∀ k ∈ Fr, w.heap.size ≤ k) := fun k hk => Nat.le_trans hk1.size (hFr k hk)
        have HFR' : Hid (∀ k ∈ Fr, k < w2.heap.size) := hFr'
        have hprl := hrd2.lt
        have HPR : Hid (w.heap.size ≤ pr) := Nat.le_trans hk1.size hpr
        clear hFr hFr'
        go_wp2_with fail
        refine (newWriter_call _).mono ?_
        rintro _ w3 ⟨rfl, hw3, hk3⟩
        have hrd3 := Rd.kept hk3 hrd2 (by simp) (by simp)
        obtain ⟨pw, hpw⟩ : ∃ pw, pw = w2.heap.size := ⟨_, rfl⟩
        rw [← hpw] at hw3 hprl HFR' ⊢
        have HPW : Hid (w.heap.size ≤ pw) := by show w.heap.size ≤ pw; rw [hpw]; exact (hk1.trans hk2 (by simp) : Kept [] w w2).size
        have hK3 : Kept [] w w3 := (hk1.trans hk2 (by simp)).trans hk3 (by simp)
        clear hpw hrd2
        go_wp2_with fail
        refine (refuse_call _ _ _ _ _ hrd3).mono ?_
        rintro _ w4 ⟨rfl, hrd4, hk4⟩
        have hw4 := Wr.kept hk4 hw3 (by simp; omega) (by simp)
        go_wp2_with fail
        refine (wrefuse_call _ _ _ _ _ hw4).mono ?_
        rintro _ w5 ⟨rfl, g5, hw5, hf5, hk5⟩
        have hB5 : Both w pr Fr pw w5 := by
          refine ⟨g5, Rd.kept hk5 hrd4 (by simp; omega) (by intro k hk; have := HFR'.out k hk; simp; omega), hw5, ?_, ?_⟩
          · intro j hj
            rcases hf5 j hj with h9 | h9
            · cases h9
            · have h10 := hw4.lt.1
              have h11 := (hK3.trans hk4 (by simp; exact HPR.out) : Kept [] w w4).size
              exact ⟨by omega, by omega, fun h => by have := HFR'.out j h; omega⟩
          · exact (hK3.trans hk4 (by simp; exact HPR.out)).trans hk5 (by simp; exact HPW.out)
        have HB5 : Hid (Both w pr Fr pw w5) := hB5
        clear hB5 hw3 hw4 hw5 hrd3 hrd4 hk5 hk4 hf5
        go_wp2
        go_loopw [9] (fun i wr => ∃ (k : Nat), k ≤ L.length ∧ i = .int .i64 k ∧ Both w pr Fr pw wr) (fun i _ => L.length - (intOf i).toNat)
        case atStart => exact ⟨0, Nat.zero_le _, rfl, HB5.out⟩
        case round =>
          obtain ⟨k, hk, rfl, hBoth⟩ := hrel
          clear HB5
          obtain ⟨g, hR, hW, hg, hK⟩ := hBoth
          by_cases hlt : k < L.length
          · obtain ⟨b, o, hao, hth⟩ := HL.out.some (by omega)
            subst hao
            have hth0 := hth k hlt
            have hroom := roomy_at HR1.out hlt
            clear hth
            generalize hq : L[k] = t at hth0 hroom
            clear hq
            have hth1 := hth0.kept hK
            obtain ⟨hr1, hr2, hr3⟩ := hroom
            have hd1 : 0 < t.bn → ∀ j ∈ blk t.bo, j ∉ pw :: g.toList := by
              intro h0 j hj h7
              have h8 := hth0.sl.lt h0 j hj
              have h12 := HPW.out
              rcases List.mem_cons.1 h7 with h9 | h9
              · omega
              · have := hg j (by simpa using h9); omega
            have c0 := hth1.c0
            have c1 := hth1.c1
            have c2 := hth1.c2
            have c3 := hth1.c3
            have c4 := hth1.c4
            have c5 := hth1.c5
            have hwp := hW.lt
            have hkn : (k : Int) < (n : Int) := by omega
            go_wp2_with fail
            refine (put_call wr pw g [] 1 t hW (by simp) (by omega) hth1.sl hth1.oct hd1).mono ?_
            rw [wrThing_failed 1 [] t (by decide)]
            rintro _ w6 ⟨rfl, g6, hW6, hF6, hK6⟩
            have hR6 : Rd w6 pr Fr [] 4 := Rd.kept hK6 hR (by
                intro h7
                rcases List.mem_cons.1 h7 with h9 | h9
                · omega
                · exact (hg pr (by simpa using h9)).2.1 rfl) (by
                intro j hj h7
                have := HFR'.out j hj
                rcases List.mem_cons.1 h7 with h9 | h9
                · omega
                · exact (hg j (by simpa using h9)).2.2 hj)
            have hKw6 : Kept [] w w6 := hK.trans hK6 (by
              intro i hi
              right
              rcases List.mem_cons.1 hi with h9 | h9
              · rw [h9]; exact HPW.out
              · exact (hg i (by simpa using h9)).1)
            have hg6 : ∀ j, g6 = some j → w.heap.size ≤ j ∧ j ≠ pr ∧ j ∉ Fr := by
              intro j hj
              rcases hF6 j hj with h9 | h9
              · exact hg j h9
              · have := hK.size
                exact ⟨by omega, by omega, fun h => by have := HFR'.out j h; omega⟩
            have HW6 : Hid (Wr w6 pw g6 [] 1) := hW6
            have hw6l := hW6.lt
            clear c0 c1 c2 c3 c4 c5 hW hR hW6
            have hsb : strB [] = { data := #[] } := rfl
            have hprg : ∀ j, g6 = some j → j ≠ pr := fun j hj => (hg6 j hj).2.1
            go_wp2_with fail
            refine (num_call _ _ _ _ _ hR6).mono ?_
            rw [rdNumE_failed 4 (by decide)]
            rintro _ wa ⟨rfl, hRa, hka⟩
            go_wp2_with fail
            refine (text_call _ _ _ _ _ _ hRa).mono ?_
            rw [rdRunE_failed 4 99 (by decide)]
            rintro _ wb ⟨rfl, hRb, hkb⟩
            go_wp2_with fail
            refine (bytes_call _ _ _ _ _ _ hRb (by simp)).mono ?_
            rw [rdRunE_failed 4 99 (by decide)]
            rintro _ wc ⟨ac, nc, cc, rfl, hsc, hbc, hRc, hkc⟩
            have hnc : nc = 0 := by have := hsc.1; simpa using this.symm
            subst hnc
            go_wp2_with fail
            refine (rFlag_call _ _ _ _ _ hRc).mono ?_
            rw [rdFlagE_failed 4 (by decide)]
            rintro _ wd ⟨rfl, hRd, hkd⟩
            go_wp2_with fail
            refine (rWord_call _ _ _ _ _ hRd).mono ?_
            rw [rdWordE_failed 4 (by decide)]
            rintro _ we ⟨rfl, hRe, hke⟩
            go_wp2_with fail
            refine (left_call _ _ _ _ _ hRe).mono ?_
            rintro _ _ ⟨rfl, rfl⟩
            have hKK : Kept [pr] w6 we := (((hka.trans hkb (by simp)).trans hkc (by simp)).trans hkd (by simp)).trans hke (by simp)
            have HBB : Hid (Both w pr Fr pw we) := ⟨g6, hRe, Wr.kept hKK HW6.out (by simp; omega) (by intro j hj; simpa using hprg j hj), hg6, hKw6.trans hKK (by simp; exact HPR.out)⟩
            clear hRa hRb hRc hRd hRe hR6 hsc hbc hKK hka hkb hkc hkd hke
            go_wp2
            go_roundw
            case rel => exact ⟨k + 1, by omega, by go_num, HBB.out⟩
            case measure => simp [intOf]; omega
          · have hkn : ¬ (k : Int) < (n : Int) := by omega
            go_wp2_with fail
            refine (done_call _ _ _ _ _ hW (by simp)).mono ?_
            rintro _ w7 ⟨a7, c7, rfl, hs7, hb7, hk7⟩
            have hK7 : Kept [] w w7 := hK.trans hk7 (by simp)
            have hR7 := Rd.kept hk7 hR (by simp) (by simp)
            have hpr7 := hR7.lt
            have HFR7 : Hid (∀ j ∈ Fr, j < w7.heap.size) := fun j hj => by have := HFR'.out j hj; have := hW.lt.1; have := hk7.size; omega
            clear hs7 hb7 hW hR
            go_wp2_with fail
            refine (newReader_call _ _ _ _ _ (Sl.kept hK7 HS.out (by simp)) (by omega) ho).mono ?_
            rintro _ w8 ⟨ps, Fs, rfl, hps, hFs, hFs', hr8, hk8⟩
            have HT8 : Hid (Third w pr Fr ps Fs w8) := ⟨lb, 0, Rd.kept hk8 hR7 (by simp) (by simp), hr8, hK7.trans hk8 (by simp), by have := HS.out.1; omega⟩
            have HPS : Hid (w.heap.size ≤ ps) := Nat.le_trans hK7.size hps
            have HPR7 : Hid (pr ≠ ps) := by show pr ≠ ps; omega
            have HPF7 : Hid (∀ j ∈ Fr, j ≠ ps) := fun j hj => by have := HFR7.out j hj; omega
            clear hr8 hR7 hFs hFs'
            go_wp2
            go_loopw [13] (fun i wr => ∃ (j : Nat), j ≤ M.length ∧ i = .int .i64 j ∧ Third w pr Fr ps Fs wr) (fun i _ => M.length - (intOf i).toNat)
            case atStart => exact ⟨0, Nat.zero_le _, rfl, HT8.out⟩
            case round =>
              obtain ⟨j, hj, rfl, hThird⟩ := hrel
              clear HT8
              obtain ⟨l, e, hR, hS, hK, hl5⟩ := hThird
              by_cases hjl : j < M.length
              · obtain ⟨b, o, hco, hth⟩ := HM.out.some (by omega)
                subst hco
                have hth0 := (hth j hjl).kept hK
                clear hth
                generalize hq : M[j] = t at hth0
                clear hq
                have c0 := hth0.c0
                have c1 := hth0.c1
                have hjn : (j : Int) < (n' : Int) := by omega
                have hle := hS
                have he6 : e ≠ 0 → l = [] := by obtain ⟨_, _, _, _, _, _, _, h6⟩ := hS; exact h6
                go_wp2_with fail
                refine (fail_call _ _ _ _ _ hS).mono ?_
                rintro _ _ ⟨rfl, rfl⟩
                go_wp2_with fail
                refine (left_call _ _ _ _ _ hS).mono ?_
                rintro _ _ ⟨rfl, rfl⟩
                have HS2 : Hid (Rd wr ps Fs l e) := hS
                have HR2' : Hid (Rd wr pr Fr [] 4) := hR
                clear hS hR hle hth0
                have hcs : (t.d ≤ 1) ∨ (¬ t.d ≤ 1 ∧ t.d = 2) ∨ (¬ t.d ≤ 1 ∧ t.d ≠ 2 ∧ t.d = 3) ∨ (¬ t.d ≤ 1 ∧ t.d ≠ 2 ∧ t.d ≠ 3 ∧ t.d = 4) ∨ (¬ t.d ≤ 1 ∧ t.d ≠ 2 ∧ t.d ≠ 3 ∧ t.d ≠ 4) := by omega
                rcases hcs with h1 | ⟨h1, h2⟩ | ⟨h1, h2, h3⟩ | ⟨h1, h2, h3, h4⟩ | ⟨h1, h2, h3, h4⟩
                · skip
                  have hgo := goes_num e l
                  go_wp2_with fail
                  refine (num_call _ _ _ _ _ HS2.out).mono ?_
                  generalize rdNumE e l = q9 at hgo
                  obtain ⟨e9, x9, l9⟩ := q9
                  simp only at hgo
                  rintro _ w9 ⟨rfl, hr9, hk9⟩
                  have HS9 : Hid (Rd w9 ps Fs l9 e9) := hr9
                  have HT9 : Hid (Third w pr Fr ps Fs w9) := ⟨l9, e9, Rd.kept hk9 HR2'.out (by simp; exact HPR7.out) (by intro j hj; simpa using HPF7.out j hj), hr9, hK.trans hk9 (by simp; exact HPS.out), by have := hgo.2.1; omega⟩
                  clear hr9 hk9 c0 c1
                  by_cases hee : e = 0
                  · subst hee
                    by_cases he9 : e9 = 0
                    · subst he9
                      have hgt : ¬ (l.length : Int) < (l9.length : Int) := by have := hgo.2.1; omega
                      clear hgo
                      repeat (first
                        | (go_wp2_with fail; refine (fail_call _ _ _ _ _ HS9.out).mono ?_; rintro _ _ ⟨rfl, rfl⟩)
                        | (go_wp2_with fail; refine (left_call _ _ _ _ _ HS9.out).mono ?_; rintro _ _ ⟨rfl, rfl⟩))
                      go_wp2
                      go_roundw
                      case rel => exact ⟨j + 1, by omega, by go_num, HT9.out⟩
                      case measure => simp [intOf]; omega
                    · have hl9 : l9 = [] := hgo.2.2 he9
                      subst hl9
                      have hb9 : (e9 != 0) = true := by simp [he9]
                      have hgt : ¬ (l.length : Int) < (([] : List Int).length : Int) := by simp
                      clear he9
                      clear hgo
                      repeat (first
                        | (go_wp2_with fail; refine (fail_call _ _ _ _ _ HS9.out).mono ?_; rintro _ _ ⟨rfl, rfl⟩)
                        | (go_wp2_with fail; refine (left_call _ _ _ _ _ HS9.out).mono ?_; rintro _ _ ⟨rfl, rfl⟩))
                      go_wp2
                      go_roundw
                      case rel => exact ⟨j + 1, by omega, by go_num, HT9.out⟩
                      case measure => simp [intOf]; omega
                  · have h99 : e9 = e := hgo.1 hee
                    subst h99
                    have hl9 : l9 = [] := hgo.2.2 hee
                    have hl0 : l = [] := he6 hee
                    subst hl9; subst hl0
                    have hb9 : (e9 != 0) = true := by simp [hee]
                    have hb99 : (e9 != e9) = false := by simp
                    clear hee
                    clear hgo
                    repeat (first
                      | (go_wp2_with fail; refine (fail_call _ _ _ _ _ HS9.out).mono ?_; rintro _ _ ⟨rfl, rfl⟩)
                      | (go_wp2_with fail; refine (left_call _ _ _ _ _ HS9.out).mono ?_; rintro _ _ ⟨rfl, rfl⟩))
                    go_wp2
                    go_roundw
                    case rel => exact ⟨j + 1, by omega, by go_num, HT9.out⟩
                    case measure => simp [intOf]; omega
                · skip
                  have hb2 : (t.d == 2) = true := by simp; omega
                  clear h2
                  have hgo := goes_run e t.n l
                  go_wp2_with fail
                  refine (text_call _ _ _ _ _ _ HS2.out).mono ?_
                  generalize rdRunE e t.n l = q9 at hgo
                  obtain ⟨e9, x9, l9⟩ := q9
                  simp only at hgo
                  rintro _ w9 ⟨rfl, hr9, hk9⟩
                  have HS9 : Hid (Rd w9 ps Fs l9 e9) := hr9
                  have HT9 : Hid (Third w pr Fr ps Fs w9) := ⟨l9, e9, Rd.kept hk9 HR2'.out (by simp; exact HPR7.out) (by intro j hj; simpa using HPF7.out j hj), hr9, hK.trans hk9 (by simp; exact HPS.out), by have := hgo.2.1; omega⟩
                  clear hr9 hk9 c0 c1
                  by_cases hee : e = 0
                  · subst hee
                    by_cases he9 : e9 = 0
                    · subst he9
                      have hgt : ¬ (l.length : Int) < (l9.length : Int) := by have := hgo.2.1; omega
                      clear hgo
                      repeat (first
                        | (go_wp2_with fail; refine (fail_call _ _ _ _ _ HS9.out).mono ?_; rintro _ _ ⟨rfl, rfl⟩)
                        | (go_wp2_with fail; refine (left_call _ _ _ _ _ HS9.out).mono ?_; rintro _ _ ⟨rfl, rfl⟩))
                      go_wp2
                      go_roundw
                      case rel => exact ⟨j + 1, by omega, by go_num, HT9.out⟩
                      case measure => simp [intOf]; omega
                    · have hl9 : l9 = [] := hgo.2.2 he9
                      subst hl9
                      have hb9 : (e9 != 0) = true := by simp [he9]
                      have hgt : ¬ (l.length : Int) < (([] : List Int).length : Int) := by simp
                      clear he9
                      clear hgo
                      repeat (first
                        | (go_wp2_with fail; refine (fail_call _ _ _ _ _ HS9.out).mono ?_; rintro _ _ ⟨rfl, rfl⟩)
                        | (go_wp2_with fail; refine (left_call _ _ _ _ _ HS9.out).mono ?_; rintro _ _ ⟨rfl, rfl⟩))
                      go_wp2
                      go_roundw
                      case rel => exact ⟨j + 1, by omega, by go_num, HT9.out⟩
                      case measure => simp [intOf]; omega
                  · have h99 : e9 = e := hgo.1 hee
                    subst h99
                    have hl9 : l9 = [] := hgo.2.2 hee
                    have hl0 : l = [] := he6 hee
                    subst hl9; subst hl0
                    have hb9 : (e9 != 0) = true := by simp [hee]
                    have hb99 : (e9 != e9) = false := by simp
                    clear hee
                    clear hgo
                    repeat (first
                      | (go_wp2_with fail; refine (fail_call _ _ _ _ _ HS9.out).mono ?_; rintro _ _ ⟨rfl, rfl⟩)
                      | (go_wp2_with fail; refine (left_call _ _ _ _ _ HS9.out).mono ?_; rintro _ _ ⟨rfl, rfl⟩))
                    go_wp2
                    go_roundw
                    case rel => exact ⟨j + 1, by omega, by go_num, HT9.out⟩
                    case measure => simp [intOf]; omega
                · skip
                  have hb2 : (t.d == 2) = false := by simp; omega
                  have hb3 : (t.d == 3) = true := by simp; omega
                  clear h2 h3
                  have hgo := goes_run e t.n l
                  go_wp2_with fail
                  refine (bytes_call _ _ _ _ _ _ HS2.out (by omega)).mono ?_
                  generalize rdRunE e t.n l = q9 at hgo
                  obtain ⟨e9, x9, l9⟩ := q9
                  simp only at hgo
                  rintro _ w9 ⟨a9, n9, c9, rfl, _, _, hr9, hk9⟩
                  have HS9 : Hid (Rd w9 ps Fs l9 e9) := hr9
                  have HT9 : Hid (Third w pr Fr ps Fs w9) := ⟨l9, e9, Rd.kept hk9 HR2'.out (by simp; exact HPR7.out) (by intro j hj; simpa using HPF7.out j hj), hr9, hK.trans hk9 (by simp; exact HPS.out), by have := hgo.2.1; omega⟩
                  clear hr9 hk9 c0 c1
                  by_cases hee : e = 0
                  · subst hee
                    by_cases he9 : e9 = 0
                    · subst he9
                      have hgt : ¬ (l.length : Int) < (l9.length : Int) := by have := hgo.2.1; omega
                      clear hgo
                      repeat (first
                        | (go_wp2_with fail; refine (fail_call _ _ _ _ _ HS9.out).mono ?_; rintro _ _ ⟨rfl, rfl⟩)
                        | (go_wp2_with fail; refine (left_call _ _ _ _ _ HS9.out).mono ?_; rintro _ _ ⟨rfl, rfl⟩))
                      go_wp2
                      go_roundw
                      case rel => exact ⟨j + 1, by omega, by go_num, HT9.out⟩
                      case measure => simp [intOf]; omega
                    · have hl9 : l9 = [] := hgo.2.2 he9
                      subst hl9
                      have hb9 : (e9 != 0) = true := by simp [he9]
                      have hgt : ¬ (l.length : Int) < (([] : List Int).length : Int) := by simp
                      clear he9
                      clear hgo
                      repeat (first
                        | (go_wp2_with fail; refine (fail_call _ _ _ _ _ HS9.out).mono ?_; rintro _ _ ⟨rfl, rfl⟩)
                        | (go_wp2_with fail; refine (left_call _ _ _ _ _ HS9.out).mono ?_; rintro _ _ ⟨rfl, rfl⟩))
                      go_wp2
                      go_roundw
                      case rel => exact ⟨j + 1, by omega, by go_num, HT9.out⟩
                      case measure => simp [intOf]; omega
                  · have h99 : e9 = e := hgo.1 hee
                    subst h99
                    have hl9 : l9 = [] := hgo.2.2 hee
                    have hl0 : l = [] := he6 hee
                    subst hl9; subst hl0
                    have hb9 : (e9 != 0) = true := by simp [hee]
                    have hb99 : (e9 != e9) = false := by simp
                    clear hee
                    clear hgo
                    repeat (first
                      | (go_wp2_with fail; refine (fail_call _ _ _ _ _ HS9.out).mono ?_; rintro _ _ ⟨rfl, rfl⟩)
                      | (go_wp2_with fail; refine (left_call _ _ _ _ _ HS9.out).mono ?_; rintro _ _ ⟨rfl, rfl⟩))
                    go_wp2
                    go_roundw
                    case rel => exact ⟨j + 1, by omega, by go_num, HT9.out⟩
                    case measure => simp [intOf]; omega
                · skip
                  have hb2 : (t.d == 2) = false := by simp; omega
                  have hb3 : (t.d == 3) = false := by simp; omega
                  have hb4 : (t.d == 4) = true := by simp; omega
                  clear h2 h3 h4
                  have hgo := goes_flag e l
                  go_wp2_with fail
                  refine (rFlag_call _ _ _ _ _ HS2.out).mono ?_
                  generalize rdFlagE e l = q9 at hgo
                  obtain ⟨e9, x9, l9⟩ := q9
                  simp only at hgo
                  rintro _ w9 ⟨rfl, hr9, hk9⟩
                  have HS9 : Hid (Rd w9 ps Fs l9 e9) := hr9
                  have HT9 : Hid (Third w pr Fr ps Fs w9) := ⟨l9, e9, Rd.kept hk9 HR2'.out (by simp; exact HPR7.out) (by intro j hj; simpa using HPF7.out j hj), hr9, hK.trans hk9 (by simp; exact HPS.out), by have := hgo.2.1; omega⟩
                  clear hr9 hk9 c0 c1
                  by_cases hee : e = 0
                  · subst hee
                    by_cases he9 : e9 = 0
                    · subst he9
                      have hgt : ¬ (l.length : Int) < (l9.length : Int) := by have := hgo.2.1; omega
                      clear hgo
                      repeat (first
                        | (go_wp2_with fail; refine (fail_call _ _ _ _ _ HS9.out).mono ?_; rintro _ _ ⟨rfl, rfl⟩)
                        | (go_wp2_with fail; refine (left_call _ _ _ _ _ HS9.out).mono ?_; rintro _ _ ⟨rfl, rfl⟩))
                      go_wp2
                      go_roundw
                      case rel => exact ⟨j + 1, by omega, by go_num, HT9.out⟩
                      case measure => simp [intOf]; omega
                    · have hl9 : l9 = [] := hgo.2.2 he9
                      subst hl9
                      have hb9 : (e9 != 0) = true := by simp [he9]
                      have hgt : ¬ (l.length : Int) < (([] : List Int).length : Int) := by simp
                      clear he9
                      clear hgo
                      repeat (first
                        | (go_wp2_with fail; refine (fail_call _ _ _ _ _ HS9.out).mono ?_; rintro _ _ ⟨rfl, rfl⟩)
                        | (go_wp2_with fail; refine (left_call _ _ _ _ _ HS9.out).mono ?_; rintro _ _ ⟨rfl, rfl⟩))
                      go_wp2
                      go_roundw
                      case rel => exact ⟨j + 1, by omega, by go_num, HT9.out⟩
                      case measure => simp [intOf]; omega
                  · have h99 : e9 = e := hgo.1 hee
                    subst h99
                    have hl9 : l9 = [] := hgo.2.2 hee
                    have hl0 : l = [] := he6 hee
                    subst hl9; subst hl0
                    have hb9 : (e9 != 0) = true := by simp [hee]
                    have hb99 : (e9 != e9) = false := by simp
                    clear hee
                    clear hgo
                    repeat (first
                      | (go_wp2_with fail; refine (fail_call _ _ _ _ _ HS9.out).mono ?_; rintro _ _ ⟨rfl, rfl⟩)
                      | (go_wp2_with fail; refine (left_call _ _ _ _ _ HS9.out).mono ?_; rintro _ _ ⟨rfl, rfl⟩))
                    go_wp2
                    go_roundw
                    case rel => exact ⟨j + 1, by omega, by go_num, HT9.out⟩
                    case measure => simp [intOf]; omega
                · skip
                  have hb2 : (t.d == 2) = false := by simp; omega
                  have hb3 : (t.d == 3) = false := by simp; omega
                  have hb4 : (t.d == 4) = false := by simp; omega
                  clear h2 h3 h4
                  have hgo := goes_word e l
                  go_wp2_with fail
                  refine (rWord_call _ _ _ _ _ HS2.out).mono ?_
                  generalize rdWordE e l = q9 at hgo
                  obtain ⟨e9, x9, l9⟩ := q9
                  simp only at hgo
                  rintro _ w9 ⟨rfl, hr9, hk9⟩
                  have HS9 : Hid (Rd w9 ps Fs l9 e9) := hr9
                  have HT9 : Hid (Third w pr Fr ps Fs w9) := ⟨l9, e9, Rd.kept hk9 HR2'.out (by simp; exact HPR7.out) (by intro j hj; simpa using HPF7.out j hj), hr9, hK.trans hk9 (by simp; exact HPS.out), by have := hgo.2.1; omega⟩
                  clear hr9 hk9 c0 c1
                  by_cases hee : e = 0
                  · subst hee
                    by_cases he9 : e9 = 0
                    · subst he9
                      have hgt : ¬ (l.length : Int) < (l9.length : Int) := by have := hgo.2.1; omega
                      clear hgo
                      repeat (first
                        | (go_wp2_with fail; refine (fail_call _ _ _ _ _ HS9.out).mono ?_; rintro _ _ ⟨rfl, rfl⟩)
                        | (go_wp2_with fail; refine (left_call _ _ _ _ _ HS9.out).mono ?_; rintro _ _ ⟨rfl, rfl⟩))
                      go_wp2
                      go_roundw
                      case rel => exact ⟨j + 1, by omega, by go_num, HT9.out⟩
                      case measure => simp [intOf]; omega
                    · have hl9 : l9 = [] := hgo.2.2 he9
                      subst hl9
                      have hb9 : (e9 != 0) = true := by simp [he9]
                      have hgt : ¬ (l.length : Int) < (([] : List Int).length : Int) := by simp
                      clear he9
                      clear hgo
                      repeat (first
                        | (go_wp2_with fail; refine (fail_call _ _ _ _ _ HS9.out).mono ?_; rintro _ _ ⟨rfl, rfl⟩)
                        | (go_wp2_with fail; refine (left_call _ _ _ _ _ HS9.out).mono ?_; rintro _ _ ⟨rfl, rfl⟩))
                      go_wp2
                      go_roundw
                      case rel => exact ⟨j + 1, by omega, by go_num, HT9.out⟩
                      case measure => simp [intOf]; omega
                  · have h99 : e9 = e := hgo.1 hee
                    subst h99
                    have hl9 : l9 = [] := hgo.2.2 hee
                    have hl0 : l = [] := he6 hee
                    subst hl9; subst hl0
                    have hb9 : (e9 != 0) = true := by simp [hee]
                    have hb99 : (e9 != e9) = false := by simp
                    clear hee
                    clear hgo
                    repeat (first
                      | (go_wp2_with fail; refine (fail_call _ _ _ _ _ HS9.out).mono ?_; rintro _ _ ⟨rfl, rfl⟩)
                      | (go_wp2_with fail; refine (left_call _ _ _ _ _ HS9.out).mono ?_; rintro _ _ ⟨rfl, rfl⟩))
                    go_wp2
                    go_roundw
                    case rel => exact ⟨j + 1, by omega, by go_num, HT9.out⟩
                    case measure => simp [intOf]; omega
              · have hjn : ¬ (j : Int) < (n' : Int) := by omega
                go_wp2_with fail
                refine (end_call _ _ _ _ _ hR).mono ?_
                rintro _ _ ⟨rfl, rfl⟩
                clear hR hS
                go_wp2
                go_ret
                exact ⟨rfl, hK.below (Nat.le_refl _) (by simp)⟩
  · have hb' : (5000 : Int) < (m : Int) := by omega
    go_enter Try.func4, Try.ntmps4
    go_wp2_with fail
    refine (awake_call _).mono ?_
    rintro _ w1 ⟨rfl, hk1⟩
    go_wp2
    go_ret
    exact ⟨rfl, hk1.below (Nat.le_refl _) (by simp)⟩

end Go.Proofs.Ytfmklcnilmhnbab
