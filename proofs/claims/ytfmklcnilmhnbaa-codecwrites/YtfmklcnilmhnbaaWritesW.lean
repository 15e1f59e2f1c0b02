/-
  CodecWrites: the walk.
-/
import Derived.Test.YtfmklcnilmhnbaaRW2
namespace Go.Proofs.Ytfmklcnilmhnbaa
open Go.RowKit

/-- A writer and the document's say the same. -/
def Agree (q r : List Int × Int) : Prop := q.2 = r.2 ∧ (q.2 = 0 → q.1 = r.1) ∧ (q.2 ≠ 0 → q.1 = [])

theorem agree_num {q r : List Int × Int} (h : Agree q r) (n : Int) : Agree (wrNum q.2 q.1 n) (rrNum r.2 r.1 n) := by
  obtain ⟨l, e⟩ := q
  obtain ⟨l', e'⟩ := r
  obtain ⟨h1, h2, h3⟩ := h
  simp only at h1 h2 h3
  subst h1
  unfold wrNum rrNum
  by_cases he : e = 0
  · have := h2 he
    subst this; subst he
    simp only [if_true]
    split <;> simp [Agree]
  · simp [Agree, he]

theorem agree_run {q r : List Int × Int} (h : Agree q r) (m : List Int) : Agree (wrRun q.2 q.1 m) (rrRun r.2 r.1 m) := by
  obtain ⟨l, e⟩ := q
  obtain ⟨l', e'⟩ := r
  obtain ⟨h1, h2, h3⟩ := h
  simp only at h1 h2 h3
  subst h1
  unfold wrRun rrRun
  by_cases he : e = 0
  · have := h2 he
    subst this; subst he
    simp only [if_true]
    split <;> simp [Agree]
  · simp [Agree, he]

theorem agree_thing {q r : List Int × Int} (h : Agree q r) (t : Th) : Agree (wrThing q.2 q.1 t) (rrThing r.2 r.1 t) := by
  unfold wrThing rrThing
  split
  · exact agree_num h t.n
  · split
    · exact agree_run h _
    · split
      · exact agree_run h _
      · obtain ⟨l, e⟩ := q
        obtain ⟨l', e'⟩ := r
        obtain ⟨h1, h2, h3⟩ := h
        simp only at h1 h2 h3
        subst h1
        by_cases he : e = 0
        · have := h2 he
          subst this; subst he
          split
          · simp [Agree, wrFlag, rrFlag]
          · split
            · simp [Agree, wrWord, rrWord]
            · simp [Agree, wrRefuse, rrRefuse]
        · split
          · simp [Agree, wrFlag, rrFlag, he]
          · split
            · simp [Agree, wrWord, rrWord, he]
            · simp [Agree, wrRefuse, rrRefuse, he]

theorem wrThing_len (e : Int) (l : List Int) (t : Th) (h1 : t.s.size ≤ 2000) (h2 : t.bl.length ≤ 2000) : (wrThing e l t).1.length ≤ l.length + 2010 := by
  have hr : ∀ m : List Int, m.length ≤ 2000 → (wrRun e l m).1.length ≤ l.length + 2010 := by
    intro m hm
    unfold wrRun
    split
    · split
      · have := enc_length 5 (m.length : Int); simp [encNum]; omega
      · simp
    · simp
  unfold wrThing
  split
  · unfold wrNum
    split
    · split
      · have := enc_length 5 t.n; simp [encNum]; omega
      · simp
    · simp
  · split
    · exact hr _ (by rw [strOf_length]; exact h1)
    · split
      · exact hr _ h2
      · split
        · unfold wrFlag; split <;> simp
        · split
          · unfold wrWord; split <;> simp [hiB_length]
          · unfold wrRefuse; split <;> simp

theorem rrThing_len (e : Int) (l : List Int) (t : Th) (h1 : t.s.size ≤ 2000) (h2 : t.bl.length ≤ 2000) : (rrThing e l t).1.length ≤ l.length + 2010 := by
  have hr : ∀ m : List Int, m.length ≤ 2000 → (rrRun e l m).1.length ≤ l.length + 2010 := by
    intro m hm
    unfold rrRun
    split
    · split
      · have := enc_length 5 (m.length : Int); simp [encNum]; omega
      · simp
    · simp
  unfold rrThing
  split
  · unfold rrNum
    split
    · split
      · have := enc_length 5 t.n; simp [encNum]; omega
      · simp
    · simp
  · split
    · exact hr _ (by rw [strOf_length]; exact h1)
    · split
      · exact hr _ h2
      · split
        · unfold rrFlag; split <;> simp
        · split
          · unfold rrWord; split <;> simp [hiB_length]
          · unfold rrRefuse; split <;> simp

/-- Two writers beside each other, behind k things. -/
def Two (w : World) (pw pm k : Nat) (wr : World) : Prop :=
  ∃ (gw gm : Option Nat) (q r : List Int × Int), Wr wr pw gw q.1 q.2 ∧ RW wr pm gm r.1 r.2 ∧ Agree q r ∧ q.1.length ≤ 2010 * k ∧ r.1.length ≤ 2010 * k ∧ pw ≠ pm ∧
    (∀ j, gw = some j → j ≠ pm ∧ w.heap.size ≤ j ∧ gm ≠ some j) ∧ (∀ j, gm = some j → j ≠ pw ∧ w.heap.size ≤ j) ∧ w.heap.size ≤ pw ∧ w.heap.size ≤ pm ∧ Kept [] w wr

set_option maxHeartbeats 4000000 in
set_option maxRecDepth 100000 in
theorem writes_walk (w : World) (ao : Option Addr) (n c : Nat) (L : List Th) (ht : Things w ao n c L) :
    Calls Try.prog 4 #[.slice ao n c] w fun r w' => r = .returned (.bool true) ∧ Below w.heap.size w w' := by
  have hn := ht.1
  subst hn
  have hm := ht.2.2.1
  have hc := ht.2.1
  have HT : Hid (Things w ao L.length c L) := ht
  clear ht
  cases hro : roomy L with
  | false =>
    have HRO : Hid (roomy L = false) := hro
    clear hro
    go_enter Try.func4, Try.ntmps4
    go_wp2_with fail
    refine (awake_call _).mono ?_
    rintro _ w1 ⟨rfl, hk1⟩
    go_wp2_with fail
    refine (room_call _ _ _ _ _ (HT.out.kept hk1)).mono ?_
    rw [HRO.out]
    rintro _ _ ⟨rfl, rfl⟩
    go_wp2
    go_ret
    exact ⟨rfl, hk1.below (Nat.le_refl _) (by simp)⟩
  | true =>
    have HRO : Hid (roomy L = true) := hro
    clear hro
    go_enter Try.func4, Try.ntmps4
    go_wp2_with fail
    refine (awake_call _).mono ?_
    rintro _ w1 ⟨rfl, hk1⟩
    go_wp2_with fail
    refine (room_call _ _ _ _ _ (HT.out.kept hk1)).mono ?_
    rw [HRO.out]
    rintro _ _ ⟨rfl, rfl⟩
    go_wp2_with fail
    refine (newWriter_call _).mono ?_
    rintro _ w2 ⟨rfl, hw2, hk2⟩
    obtain ⟨pw, hpw⟩ : ∃ pw, pw = w1.heap.size := ⟨_, rfl⟩
    rw [← hpw] at hw2 ⊢
    have hpw1 : w.heap.size ≤ pw := by rw [hpw]; exact hk1.size
    have hK2 : Kept [] w w2 := hk1.trans hk2 (by simp)
    have hpw2 := hw2.lt.1
    have hRW3 : RW (w2.alloc (.cells #[.slice none 0 0, .int .i64 0] 41)) w2.heap.size none [] 0 := ⟨.slice none 0 0, heap_alloc_new _ _, World.ownsRow_nil _ _ _ _, rfl, by simp⟩
    have hw3 : Wr (w2.alloc (.cells #[.slice none 0 0, .int .i64 0] 41)) pw none [] 0 := Wr.kept (show Kept [] w2 _ from (Kept.refl _ _).alloc _) hw2 (by simp) (by simp)
    have hK3 : Kept [] w (w2.alloc (.cells #[.slice none 0 0, .int .i64 0] 41)) := hK2.alloc _
    have HPW : Hid (pw = w1.heap.size) := hpw
    clear hpw hw2
    have HW3 : Hid (Wr (w2.alloc (.cells #[.slice none 0 0, .int .i64 0] 41)) pw none [] 0) := hw3
    have HR3 : Hid (RW (w2.alloc (.cells #[.slice none 0 0, .int .i64 0] 41)) w2.heap.size none [] 0) := hRW3
    clear hw3 hRW3
    have hpm : w.heap.size ≤ w2.heap.size := hK2.size
    obtain ⟨pm, hpm0⟩ : ∃ pm, pm = w2.heap.size := ⟨_, rfl⟩
    rw [← hpm0] at HR3 hpw2 hpm
    have HPM : Hid (pm = w2.heap.size) := hpm0
    have hT3 : Two w pw pm 0 (w2.alloc (.cells #[.slice none 0 0, .int .i64 0] 41)) :=
      ⟨none, none, ([], 0), ([], 0), HW3.out, HR3.out, ⟨rfl, fun _ => rfl, fun _ => rfl⟩, by simp, by simp, by omega, by simp, by simp, hpw1, hpm, hK3⟩
    have HT3 : Hid (Two w pw pm 0 (w2.alloc (.cells #[.slice none 0 0, .int .i64 0] 41))) := hT3
    clear hT3 HW3 HR3
    go_wp2
    rw [← HPM.out]
    by_cases h0 : L.length = 0
    · have e1 : L = [] := by simpa using h0
      subst e1
      refine wp_loop_rounds 1 ?_
      rw [rounds_succ]
      go_wp2
      go_ret
      exact ⟨rfl, hK3.below (Nat.le_refl _) (by simp)⟩
    · obtain ⟨b, o, rfl, hth⟩ := HT.out.some (by omega)
      have HTH : Hid (∀ i (hi : i < L.length), ThAt w b (o + i * 6) L[i]) := hth
      clear hth hK3 hK2 HPM hpm0
      go_loopw [5] (fun i wr => ∃ (k : Nat), k ≤ L.length ∧ i = .int .i64 k ∧ Two w pw pm k wr) (fun i _ => L.length - (intOf i).toNat)
      case atStart => exact ⟨0, Nat.zero_le _, rfl, HT3.out⟩
      case round =>
        obtain ⟨k, hk, rfl, hTwo⟩ := hrel
        clear HT3
        by_cases hlt : k < L.length
        · obtain ⟨gw, gm, q, r, hW, hR, hA, hlq, hlr, hne, hgw, hgm, hpw, hpm, hK⟩ := hTwo
          have hroom := roomy_at HRO.out hlt
          have hth0 := HTH.out k hlt
          generalize hq : L[k] = t at hroom hth0
          have hth := hth0.kept hK
          obtain ⟨hr1, hr2, hr3⟩ := hroom
          have hlq2 : q.1.length ≤ 603000 := by omega
          have hlr2 : r.1.length ≤ 603000 := by omega
          have hd1 : 0 < t.bn → ∀ j ∈ blk t.bo, j ∉ pw :: gw.toList := by
            intro h0 j hj h7
            have h8 := hth0.sl.lt h0 j hj
            rcases List.mem_cons.1 h7 with h9 | h9
            · omega
            · have := hgw j (by simpa using h9); omega
          have c0 := hth.c0
          have c1 := hth.c1
          have c2 := hth.c2
          have c3 := hth.c3
          have c4 := hth.c4
          have c5 := hth.c5
          clear hq
          have hwrp := hW.lt
          have hwrm := hR.lt
          go_wp2_with fail
          refine (put_call wr pw gw q.1 q.2 t hW (by omega) (by omega) hth.sl hth.oct hd1).mono ?_
          rintro _ w3 ⟨rfl, gw', hW3, hF3, hK3⟩
          have hKw3 : Kept [] w w3 := hK.trans hK3 (by
            intro i hi
            right
            rcases List.mem_cons.1 hi with h9 | h9
            · omega
            · exact (hgw i (by simpa using h9)).2.1)
          have hR3 : RW w3 pm gm r.1 r.2 := RW.kept hK3 hR (by
              intro h7
              rcases List.mem_cons.1 h7 with h9 | h9
              · exact hne h9.symm
              · exact (hgw pm (by simpa using h9)).1 rfl) (by
              intro j hj h7
              rcases List.mem_cons.1 h7 with h9 | h9
              · exact (hgm j hj).1 h9
              · exact (hgw j (by simpa using h9)).2.2 hj)
          have hth3 := hth0.kept hKw3
          have hd2 : 0 < t.bn → ∀ j ∈ blk t.bo, j ∉ pm :: gm.toList := by
            intro h0 j hj h7
            have h8 := hth0.sl.lt h0 j hj
            rcases List.mem_cons.1 h7 with h9 | h9
            · omega
            · have := hgm j (by simpa using h9); omega
          have hgw' : ∀ j, gw' = some j → j ≠ pm ∧ w.heap.size ≤ j ∧ gm ≠ some j := by
            intro j hj
            rcases hF3 j hj with h9 | h9
            · exact hgw j h9
            · refine ⟨by omega, by have := hK.size; omega, fun h10 => ?_⟩
              have := hwrm.2 j h10; omega
          have hA' := agree_thing hA t
          have hlq' := wrThing_len q.2 q.1 t hr2 hr3
          have hlr' := rrThing_len r.2 r.1 t hr2 hr3
          generalize wrThing q.2 q.1 t = q' at hW3 hA' hlq'
          have e0 := hth3.c0
          have e1 := hth3.c1
          have e2 := hth3.c2
          have e3 := hth3.c3
          have e4 := hth3.c4
          have e5 := hth3.c5
          clear c0 c1 c2 c3 c4 c5
          go_wp2_with fail
          refine (model_call w3 pm gm r.1 r.2 t hR3 (by omega) (by omega) hth3.sl hd2).mono ?_
          rintro _ w4 ⟨rfl, gm', hR4, hF4, hK4⟩
          generalize rrThing r.2 r.1 t = r' at hR4 hA' hlr'
          have hKw4 : Kept [] w w4 := hKw3.trans hK4 (by
            intro i hi
            right
            rcases List.mem_cons.1 hi with h9 | h9
            · omega
            · exact (hgm i (by simpa using h9)).2)
          have hW4 : Wr w4 pw gw' q'.1 q'.2 := Wr.kept hK4 hW3 (by
              intro h7
              rcases List.mem_cons.1 h7 with h9 | h9
              · exact hne h9
              · exact (hgm pw (by simpa using h9)).1 rfl) (by
              intro j hj h7
              rcases List.mem_cons.1 h7 with h9 | h9
              · exact (hgw' j hj).1 h9
              · exact (hgw' j hj).2.2 (by simpa using h9))
          have hsz3 := hK3.size
          have hgm' : ∀ j, gm' = some j → j ≠ pw ∧ w.heap.size ≤ j := by
            intro j hj
            rcases hF4 j hj with h9 | h9
            · exact hgm j h9
            · exact ⟨by omega, by have := hKw3.size; omega⟩
          have hgw4 : ∀ j, gw' = some j → j ≠ pm ∧ w.heap.size ≤ j ∧ gm' ≠ some j := by
            intro j hj
            obtain ⟨h1, h2, h3⟩ := hgw' j hj
            refine ⟨h1, h2, fun h7 => ?_⟩
            rcases hF4 j h7 with h9 | h9
            · exact h3 h9
            · have := hW3.lt.2 j hj; omega
          clear hW hR hR3 hW3 e0 e1 e2 e3 e4 e5
          go_wp2_with fail
          refine (done_call _ _ _ _ _ hW4 (by omega)).mono ?_
          rintro _ w5 ⟨a5, c5, rfl, hs5, hb5, hk5⟩
          have hR5 := RW.kept hk5 hR4 (by simp) (by simp)
          go_wp2_with fail
          refine (rwdone_call _ _ _ _ _ hR5 (by omega)).mono ?_
          rintro _ w6 ⟨a6, n6, c6, rfl, hs6, hb6, hk6⟩
          have hTwo' : Two w pw pm (k + 1) w6 := ⟨gw', gm', q', r', Wr.kept hk6 (Wr.kept hk5 hW4 (by simp) (by simp)) (by simp) (by simp), RW.kept hk6 hR5 (by simp) (by simp), hA', by omega, by omega, hne, hgw4, hgm', hpw, hpm, (hKw4.trans hk5 (by simp)).trans hk6 (by simp)⟩
          have HTW : Hid (Two w pw pm (k + 1) w6) := hTwo'
          have hs56 := Sl.kept hk6 hs5 (by simp)
          have hout : q'.1 = rwOut r'.2 r'.1 := by
            unfold rwOut
            obtain ⟨h1, h2, h3⟩ := hA'
            by_cases h4 : q'.2 = 0
            · rw [if_pos (by rw [← h1]; exact h4)]; exact h2 h4
            · rw [if_neg (by rw [← h1]; exact h4)]; exact h3 h4
          have hee : (q'.2 != r'.2) = false := by simp [hA'.1]
          rw [← hout] at hs6
          obtain ⟨l', e'⟩ := q'
          obtain ⟨l'', e''⟩ := r'
          simp only at hee hs6 hs56
          clear hTwo' hA' hout hW4 hR4 hR5 hlq hlr hlq' hlr'
          go_wp2_with fail
          refine (same_call _ _ _ _ _ _ _ _ _ hs56 hs6).mono ?_
          rintro _ w7 ⟨rfl, hk7⟩
          have HTW7 : Hid (Two w pw pm (k + 1) w7) := by
            obtain ⟨gw, gm, q, r, hW, hR, hA, hlq, hlr, hne, hgw, hgm, hpw, hpm, hK⟩ := HTW.out
            exact ⟨gw, gm, q, r, Wr.kept hk7 hW (by simp) (by simp), RW.kept hk7 hR (by simp) (by simp), hA, hlq, hlr, hne, hgw, hgm, hpw, hpm, hK.trans hk7 (by simp)⟩
          clear hs56 hs6 HTW
          have hdl : decide (l' = l') = true := by simp
          go_wp2
          go_roundw
          case rel => exact ⟨k + 1, by omega, by go_num, HTW7.out⟩
          case measure => simp [intOf]; omega
        · obtain ⟨gw, gm, q, r, hW, hR, hA, hlq, hlr, hne, hgw, hgm, hpw, hpm, hK⟩ := hTwo
          clear hW hR
          go_wp2
          go_ret
          exact ⟨rfl, hK.below (Nat.le_refl _) (by simp)⟩

end Go.Proofs.Ytfmklcnilmhnbaa
