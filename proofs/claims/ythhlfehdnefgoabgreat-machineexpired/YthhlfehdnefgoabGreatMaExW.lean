/-
  MachineExpired: the walk.
-/
import Derived.Test.YthhlfehdnefgoabGreatMaTell
import Derived.Test.YthhlfehdnefgoabGreatMtSame
import Derived.Test.YthhlfehdnefgoabGreatEdInts
namespace Go.Proofs.YthhlfehdnefgoabGreat
open Go.RowKit

/-- The sessions that were looked at are others. -/
def ExI (w5 : World) (m : Ma) (q : Rq) (iv : Value) (wr : World) : Prop := ∃ i : Nat, iv = .int .i64 (i : Int) ∧ i ≤ m.s.length ∧ Hid (∀ j (h : j < m.s.length), j < i → m.s[j].i ≠ q.s) ∧ Hid (Kept [] w5 wr)

/-- Nothing changed but the slot. -/
structure ExF (n : Nat) (m m' : Ma) : Prop where
  f : ApF n m'
  g : m'.g = m.g
  s : m'.s = m.s
  e : atL m'.e 549755813888 = atL m.e 549755813888

theorem ExF.step {n : Nat} {m m' : Ma} (h : ExF n m m') (hn : n < 1000) {q : Rq} (h0 : q.k ≠ 0) (h1 : q.k ≠ 1) (hs : ∀ x ∈ m.s, x.i ≠ q.s) : apV 2 m' q = vtC 6 ∧ ExF (n + 1) m (apM 2 3 m' q) := by
  have ha := h.f.a
  obtain ⟨e1, e2⟩ := expired (al := 2) (sz := 3) (m := m') (r := q) h0 h1 (by rw [h.s]; exact hs) (by omega)
  refine ⟨e1, h.f.step hn q, ?_, ?_, ?_⟩
  · rw [e2]; exact h.g
  · rw [e2]; exact h.s
  · rw [e2]
    show atL (cutL m'.e (m'.a + 1)) _ = _
    rw [at_cut h.f.ok.e (by omega)]
    exact h.e

def ExJ (w0 : World) (a z : Nat) (wB : World) (b : Nat) (p : Pl) (n : Nat) (m : Ma) (iv : Value) (wr : World) : Prop := ∃ (i : Nat) (m' : Ma), iv = .int .i64 (i : Int) ∧ i ≤ 9 ∧ Hid (LvA w0 a z wr b p m') ∧ Hid (Tk a z wB wr) ∧ Hid (ExF (n + i) m m') ∧ Hid (Kept [] w0 wr)

set_option maxHeartbeats 32000000 in
set_option maxRecDepth 100000 in
theorem mexpired_walk (W : World) (ao : Option Addr) (n c : Nat) (D : List Rm) (hD : SlR W ao n c D) (x : Rm) (hx : RqIn W x) (tm : Int) (ht : 0 ≤ tm ∧ tm ≤ 255) :
    Calls Tryz.prog 4 #[.slice ao n c, rqV x, .int .u8 tm] W fun e w' => e = .returned (.bool true) ∧ Kept [] W w' := by
  obtain ⟨W1, hW1⟩ : ∃ W1, W1 = W.alloc (.cells (rqC x).toArray 34) := ⟨_, rfl⟩
  have hK1 : Kept [] W W1 := by rw [hW1]; exact (Kept.refl _ _).alloc _
  have HQ1 : Hid (RqB W1 W.heap.size x) := by rw [hW1]; exact heap_alloc_new W _
  have cW := awakeM_call W1
  have hc := hD.2.1
  have hmx := hD.2.2.1
  unfold maxLen at hmx
  have HD := hide (hD.kept hK1)
  have HL := hide hD.1
  have HX := hide (hx.kept hK1)
  have HK1 := hide hK1
  unfold rqC at hW1
  unfold rqV
  clear hD hx hK1
  go_enter Tryz.func4, Tryz.ntmps4
  go_upto_region 1 with fail
  rw [← hW1]
  clear hW1
  go_wp2_with fail
  refine cW.mono ?_
  rintro _ w1 ⟨rfl, hK1⟩
  have HK1w := hide (HK1.out.trans hK1 (by simp))
  have HDw := hide (HD.out.kept hK1)
  have HQw := hide (HQ1.out.kept hK1)
  have HXw := hide (HX.out.kept hK1)
  have cR := roomR_call w1 ao n c D HDw.out 60
  rw [show ((60 : Nat) : Int) = 60 from rfl] at cR
  clear cW hK1
  by_cases hr : RoomR 60 D
  · rw [roomR_ok hr] at cR
    have HR := hide hr
    obtain ⟨w2, hw2⟩ : ∃ w2, w2 = w1.alloc (.cells (rqC x).toArray 34) := ⟨_, rfl⟩
    have hK2 : Kept [] w1 w2 := by rw [hw2]; exact (Kept.refl _ _).alloc _
    have cR2 : Calls Tryz.prog 7 #[.slice (some ⟨w1.heap.size, 0, none⟩) 1 1, .int .i64 1] w2 fun r w' => r = .returned (.bool (roomR 1 [x])) ∧ w' = w2 := by
      rw [hw2]; exact roomR_call _ _ 1 1 [x] (SlR.lit w1 x HXw.out) 1
    obtain ⟨q0, q1, q2, q3, q4, q5, q6, q7, q8, q9, q10⟩ := HQw.out.cells
    have HD2 := hide (HDw.out.kept hK2)
    have HQ2 := hide (HQw.out.kept hK2)
    have HX2 := hide (HXw.out.kept hK2)
    have HK2 := hide (HK1w.out.trans hK2 (by simp))
    unfold rqC at hw2
    clear hr hK2
    go_upto_region 3 with fail
    cases hr2 : roomR 1 [x] with
    | false =>
      rw [hr2] at cR2
      clear hr2
      go_wp2_with (first
        | (go_at_call 7; refine cR.mono ?_; clear cR; rintro _ W0 ⟨rfl, hW0⟩; obtain rfl := hW0.symm)
        | (go_at_call 7; rw [← hw2]; clear hw2; refine cR2.mono ?_; clear cR2; rintro _ W0 ⟨rfl, hW0⟩; obtain rfl := hW0.symm))
      go_ret
      exact ⟨rfl, HK2.out⟩
    | true =>
      have HSm := hide (roomR_one hr2)
      rw [hr2] at cR2
      clear hr2
      have z0 := HQ2.out.cells.q0
      by_cases hk0 : x.r.k = 0
      · have hb0 : (x.r.k == 0) = true := by simpa using hk0
        clear hk0
        go_wp2_with (first
          | (go_at_call 7; refine cR.mono ?_; clear cR; rintro _ W0 ⟨rfl, hW0⟩; obtain rfl := hW0.symm)
          | (go_at_call 7; rw [← hw2]; clear hw2; refine cR2.mono ?_; clear cR2; rintro _ W0 ⟨rfl, hW0⟩; obtain rfl := hW0.symm))
        go_ret
        exact ⟨rfl, HK2.out⟩
      · have hb0 : (x.r.k == 0) = false := by simpa using hk0
        by_cases hk1 : x.r.k = 1
        · have hb1 : (x.r.k == 1) = true := by simpa using hk1
          clear hk0 hk1
          go_wp2_with (first
            | (go_at_call 7; refine cR.mono ?_; clear cR; rintro _ W0 ⟨rfl, hW0⟩; obtain rfl := hW0.symm)
            | (go_at_call 7; rw [← hw2]; clear hw2; refine cR2.mono ?_; clear cR2; rintro _ W0 ⟨rfl, hW0⟩; obtain rfl := hW0.symm))
          go_ret
          exact ⟨rfl, HK2.out⟩
        · have hb1 : (x.r.k == 1) = false := by simpa using hk1
          have HK0 : Hid (x.r.k ≠ 0) := hk0
          have HK1' : Hid (x.r.k ≠ 1) := hk1
          have cF := lv_fresh w2
          clear hk0 hk1
          go_upto_region 5 with (first
            | (go_at_call 7; refine cR.mono ?_; clear cR; rintro _ W0 ⟨rfl, hW0⟩; obtain rfl := hW0.symm)
            | (go_at_call 7; rw [← hw2]; clear hw2; refine cR2.mono ?_; clear cR2; rintro _ W0 ⟨rfl, hW0⟩; obtain rfl := hW0.symm))
          clear q0 q1 q2 q3 q4 q5 q6 q7 q8 q9 q10 z0 hb0 hb1
          go_wp2_with fail
          refine cF.mono ?_
          rintro _ w3 ⟨b, p, rfl, hLv⟩
          have HLv := hide hLv
          clear hLv cF
          go_wp2_with fail
          go_loopw [8] (fun iv wr => LmI w2 b p (newM [0, 1, 2]) D iv wr) (fun iv _ => n - (intOf iv).toNat)
          case atStart => exact ⟨0, rfl, Nat.zero_le _, HLv⟩
          case round =>
            obtain ⟨i, rfl, hi, HLr⟩ := hrel
            have hil : i ≤ n := by rw [← HL.out]; exact hi
            by_cases hlt : i < n
            · have hlt' : (i : Int) < n := by omega
              have hic : i ≤ c := by omega
              have hiD : i < D.length := by rw [HL.out]; exact hlt
              obtain ⟨g, o, he, hat⟩ := HD2.out.2.2.2.1 i hiD
              subst he
              obtain ⟨c0, c1, c2, c3, c4, c5, c6, c7, c8, c9, c10⟩ := hat.kept HLr.out.keeps (by simp)
              have cA := lv_apply HLr.out (apF_take apF_new hi (by have := HR.out.1; omega)) (by have := HR.out.1; omega) D[i] ⟨(HD2.out.2.2.2.2 _ (List.getElem_mem hiD)).kept HLr.out.keeps, HR.out.2 _ (List.getElem_mem hiD)⟩
              have HT := hide (apAll_take (m := newM [0, 1, 2]) hiD)
              generalize apV 2 (apAll (newM [0, 1, 2]) (D.take i)) D[i].r = vv at cA
              generalize D[i] = y at *
              clear hat
              go_wp2_with fail
              refine cA.mono ?_
              rintro _ w4 ⟨a4, n4, c4', rfl, _, HL4, _⟩
              rw [← HT.out] at HL4
              clear cA c0 c1 c2 c3 c4 c5 c6 c7 c8 c9 c10
              go_wp2_with fail
              go_roundw
              case rel => exact ⟨i + 1, by go_num, by omega, HL4⟩
              case measure => simp [intOf]; omega
            · have hlt' : ¬ (i : Int) < n := by omega
              have HF := hide (apF_take apF_new hi (by have := HR.out.1; omega))
              have HN : Hid (0 + i ≤ 100) := by have := HR.out.1; show _ ≤ _; omega
              generalize apAll (newM [0, 1, 2]) (D.take i) = m at *
              generalize hni : 0 + i = ni at HF HN
              clear hni
              have HQr := hide (HQ2.out.kept HLr.out.keeps)
              have HXr : Hid (RqOk wr x) := ⟨HX2.out.kept HLr.out.keeps, HSm.out⟩
              have HKr := hide (HK2.out.trans HLr.out.keeps (by simp))
              obtain ⟨wL, hwL⟩ : ∃ wL, wL = wr := ⟨_, rfl⟩
              subst hwL
              obtain ⟨F, hLF⟩ := id HLr.out
              have cS := mSessions_call hLF
              clear hLF
              have hn3 : m.s.length ≤ 3 := HF.out.ok.sl
              go_wp2_with fail
              refine cS.mono ?_
              rintro _ w5 ⟨v5, X5, rfl, hr5, ho5, hx5, hK5⟩
              have HT5 : Hid (TdS wL.heap.size w5 v5 X5) := ⟨hr5, ho5⟩
              obtain ⟨a5, c5, rfl, hs5⟩ := HT5.out.sl
              have HS5 := hide hs5
              have hxl : X5.length = m.s.length := by rw [← hx5]; simp
              have HX5 := hide hx5
              have HXl := hide hxl
              have hsc := hs5.2.1
              have hsm := hs5.2.2.1
              unfold maxLen at hsm
              rw [hxl] at hsc
              rw [hxl]
              have HK5 := hide hK5
              clear cS hr5 ho5 hx5 hK5 hs5 hxl
              go_wp2_with fail
              go_loopw [10] (fun iv wr => ExI w5 m x.r iv wr) (fun iv _ => m.s.length - (intOf iv).toNat)
              case atStart => exact ⟨0, rfl, Nat.zero_le _, (fun j h h2 => by omega), Kept.refl _ _⟩
              case round =>
                obtain ⟨j, rfl, hj, HJ, HKj⟩ := hrel
                have z2 := (HQr.out.kept (HK5.out.trans HKj.out (by simp))).cells.q2
                by_cases hjl : j < m.s.length
                · have hjl' : (j : Int) < m.s.length := by omega
                  have hjc : j ≤ c5 := by omega
                  have hjx : j < X5.length := by rw [HXl.out]; exact hjl
                  obtain ⟨g, o, he, hse⟩ := HS5.out.2.2.2.2.1 j hjx
                  subst he
                  have y0 := HKj.out.cell hse.c0 (by simp)
                  have hy : X5[j].1 = m.s[j] := fst_get HX5.out hjx hjl
                  rw [hy] at y0
                  clear hse hy
                  by_cases hid : m.s[j].i = x.r.s
                  · have hbi : (m.s[j].i == x.r.s) = true := by simpa using hid
                    clear hid
                    go_upto_region 16 with fail
                    go_quiet (fail)
                    go_wp2_with fail
                    go_ret
                    exact ⟨rfl, ((HKr.out.trans HK5.out (by simp)).trans HKj.out (by simp)).trans (drewN_kept _ _) (by simp)⟩
                  · have hbi : (m.s[j].i == x.r.s) = false := by simpa using hid
                    have HJ2 : Hid (∀ k (h : k < m.s.length), k < j + 1 → m.s[k].i ≠ x.r.s) := fun k h h2 => by
                      by_cases e : k = j
                      · subst e; exact hid
                      · exact HJ.out k h (by omega)
                    clear hid
                    go_upto_region 16 with fail
                    go_quiet (fail)
                    go_wp2_with fail
                    go_roundw
                    case rel => exact ⟨j + 1, by go_num, by omega, HJ2, HKj.out.trans (drewN_kept _ _) (by simp)⟩
                    case measure => simp [intOf]; omega
                · have hjl' : ¬ (j : Int) < m.s.length := by omega
                  have HNo : Hid (∀ y ∈ m.s, y.i ≠ x.r.s) := fun y hy => by
                    obtain ⟨k, hk, rfl⟩ := List.getElem_of_mem hy
                    exact HJ.out k hk (by omega)
                  have hK5j := HK5.out.trans HKj.out (by simp)
                  have HT5j := hide (HT5.out.kept HKj.out)
                  have HK5j := hide hK5j
                  clear hK5j
                  obtain ⟨F, hLF⟩ := id HLr.out
                  have hml := HF.out.g
                  have hEl := HF.out.e
                  have hn1 := HN.out
                  have cC := mCommits_call (hLF.kept HK5j.out) (by omega)
                  have cT := fun W' (hk : Kept [] wr W') => mAt_call ((hLF.kept HK5j.out).kept hk) (by omega) 549755813888
                  clear hLF hml hEl hn1 z2
                  go_wp2_with fail
                  refine cC.mono ?_
                  rintro _ w6 ⟨v6, K6, rfl, hk6, hr6, ho6, hK6⟩
                  have hO6 : KoO wr.heap.size w6 v6 m.g.cs := ⟨K6, hr6, ho6, hk6⟩
                  obtain ⟨a6, n6, c6, rfl⟩ := hO6.ko.one
                  clear cC hk6 hr6 ho6
                  go_wp2_with fail
                  refine (cT _ hK6).mono ?_
                  rintro _ w7 ⟨v7, rfl, hr7, hK7⟩
                  obtain ⟨a7, n7, c7, rfl, _⟩ : ∃ a7 n7 c7, v7 = .slice a7 n7 c7 ∧ True := by
                    obtain ⟨a, cc, e, _⟩ := hr7.sl
                    exact ⟨a, _, cc, e, trivial⟩
                  have hK57 : Kept [] wL w7 := (HK5j.out.trans hK6 (by simp)).trans hK7 (by simp)
                  have HO7 : Hid (KoO wL.heap.size w7 (.slice a6 n6 c6) m.g.cs) := (hO6.mono HK5j.out.size).kept hK7
                  have HT7 := hide ((HT5j.out.kept hK6).kept hK7)
                  have HR7 : Hid (RowI wL.heap.size w7 (.slice a7 n7 c7) (atL m.e 549755813888)) := row_mono hr7 (Nat.le_trans HK5j.out.size hK6.size)
                  have HA7 := hide (HLr.out.apart hK57 w7.heap.size)
                  have HQ7 := hide (HQr.out.kept hK57)
                  have HK7 := hide (HKr.out.trans hK57 (by simp))
                  have HX7 : Hid (∀ W', Kept [] w2 W' → RqOk W' x) := fun W' hk => ⟨HX2.out.kept hk, HSm.out⟩
                  have HF7 : Hid (ExF ni m m) := ⟨HF.out, rfl, rfl, rfl⟩
                  have hz7 : wL.heap.size ≤ w7.heap.size := hK57.size
                  have HZ := hide hz7
                  have hrm : Int.tmod tm 9 = ((tm.toNat % 9 : Nat) : Int) := by rw [Int.tmod_eq_emod_of_nonneg ht.1]; omega
                  have hcv : IntKind.i64.wrap tm = tm := IntWalk.i64_in _ (by omega)
                  obtain ⟨r9, hr9⟩ : ∃ r9 : Nat, r9 = tm.toNat % 9 := ⟨_, rfl⟩
                  rw [← hr9] at hrm
                  have hr9' : r9 < 9 := by omega
                  clear cT hr7 hK6 hK7 hK57 hO6 hr9 hz7 hn3 hsc hsm
                  go_wp2_with fail
                  go_loopw [13] (fun iv wr => ExJ w2 wL.heap.size w7.heap.size w7 b p ni m iv wr) (fun iv _ => 9 - (intOf iv).toNat)
                  case atStart => exact ⟨0, m, rfl, by omega, HA7, Tk.kept (Kept.refl _ _), HF7, HA7.out.lv.keeps⟩
                  case round =>
                    obtain ⟨q, m', rfl, hq, HAq, HTq, HFq, HKq⟩ := hrel
                    by_cases hql : q < r9
                    · have hql' : (q : Int) < r9 := by omega
                      obtain ⟨e1, e2⟩ := HFq.out.step (by have := HN.out; omega) HK0.out HK1'.out HNo.out
                      have cA := lvA_apply HAq.out HTq.out.size HFq.out.f (by have := HN.out; omega) x (HX7.out _ HKq.out)
                      rw [e1] at cA
                      have HF8 := hide e2
                      obtain ⟨q0, q1, q2, q3, q4, q5, q6, q7, q8, q9, q10⟩ := (HQ2.out.kept HKq.out).cells
                      clear e1 e2
                      go_wp2_with fail
                      refine cA.mono ?_
                      rintro _ w8 ⟨a8, n8, c8', rfl, _, HA8, HT8⟩
                      obtain ⟨w9, hw9⟩ : ∃ w9, w9 = w8.alloc (.cells (vdL (vtC 6) (.slice a8 n8 c8')).toArray 30) := ⟨_, rfl⟩
                      have hK9 : Kept [] w8 w9 := by rw [hw9]; exact (Kept.refl _ _).alloc _
                      have HB9 : Hid (VdB w9 w8.heap.size (vtC 6) (.slice a8 n8 c8')) := by rw [hw9]; exact vd_new _ _ _
                      have HA9 := hide (HA8.out.kept hK9)
                      have HT9 := hide ((HTq.out.trans HT8.out).trans (Tk.kept hK9))
                      have HK9 := hide HA9.out.lv.keeps
                      obtain ⟨b0, _, _, _, _, _, _⟩ := HB9.out.cells
                      unfold vdL vtC at hw9
                      unfold vtC at b0
                      dsimp only at b0
                      unfold vtC
                      clear cA q0 q1 q2 q3 q4 q5 q6 q7 q8 q9 q10 hK9
                      go_upto_region 24 with fail
                      rw [← hw9]
                      clear hw9
                      go_wp2_with fail
                      go_roundw
                      case rel => exact ⟨q + 1, _, by go_num, by omega, HA9, HT9, HF8, HK9⟩
                      case measure => simp [intOf]; omega
                    · have hql' : ¬ (q : Int) < r9 := by omega
                      have HO8 := hide (ko_tk HO7.out HTq.out)
                      have HS8 := hide (HT7.out.tk HTq.out)
                      have HR8 : Hid (RowI wL.heap.size wr (.slice a7 n7 c7) (atL m.e 549755813888)) := HTq.out.row _ _ _ _ _ _ HR7.out (by decide)
                      obtain ⟨F, hLF, _⟩ := id HAq.out
                      have hml := HFq.out.f.g
                      have hEl := HFq.out.f.e
                      have hn1 := HN.out
                      have cC := mCommits_call hLF (by omega)
                      have cT := fun W' (hk : Kept [] wr W') => mAt_call (hLF.kept hk) (by omega) 549755813888
                      have cS := fun W' (hk : Kept [] wr W') => mSessions_call (hLF.kept hk)
                      rw [HFq.out.g] at cC
                      rw [HFq.out.s] at cS
                      rw [HFq.out.e] at cT
                      have HKe : Hid (Kept [] W wr) := HK2.out.trans HKq.out (by simp)
                      clear hLF hml hEl hn1
                      go_upto_region 26 with fail
                      go_wp2_with fail
                      refine cC.mono ?_
                      rintro _ wA ⟨vA, KA, rfl, hkA, hrA, hoA, hKA⟩
                      obtain ⟨aA, cA', eA, hsA, _⟩ := hrA.sl hoA
                      obtain ⟨nA, hnA⟩ : ∃ nA, nA = KA.length := ⟨_, rfl⟩
                      rw [← hnA] at eA hsA
                      subst eA
                      obtain ⟨K8, hr8, ho8, he8⟩ := HO8.out.kept hKA
                      obtain ⟨aB, cB, eB, hsB, _⟩ := RowK.sl hr8 ho8
                      obtain ⟨nB, hnB⟩ : ∃ nB, nB = K8.length := ⟨_, rfl⟩
                      rw [← hnB] at eB hsB
                      cases eB
                      have cM := samecs_call wA _ _ _ _ _ _ K8 KA hsB hsA (by rw [he8, hkA])
                      have HKA := hide hKA
                      clear hkA hrA hoA hKA hsA hr8 ho8 he8 hsB hnA hnB cC
                      go_wp2_with fail
                      refine cM.mono ?_
                      rintro _ wB ⟨rfl, hKB⟩
                      have HKB := hide (HKA.out.trans hKB (by simp))
                      clear hKB cM
                      go_wp2_with fail
                      refine (cT _ HKB.out).mono ?_
                      rintro _ wC ⟨vC, rfl, hrC, hKC⟩
                      obtain ⟨aC, cC', eC, hsC⟩ := hrC.sl
                      have hKBC := HKB.out.trans hKC (by simp)
                      have hR9 : RowI wL.heap.size wC (.slice a7 n7 c7) (atL m.e 549755813888) := hKBC.ownsRow HR8.out (by simp)
                      obtain ⟨a7', c7', e7, hs7⟩ := hR9.sl
                      generalize atL m.e 549755813888 = al at *
                      obtain ⟨nl, hnl⟩ : ∃ nl, nl = al.length := ⟨_, rfl⟩
                      rw [← hnl] at eC hsC e7 hs7
                      subst eC
                      cases e7
                      have cI := sameI_call wC _ _ _ _ _ _ _ _ hs7 hsC
                      rw [show decide (al = al) = true by simp] at cI
                      have HKC := hide hKBC
                      clear hrC hKC hsC hR9 hs7 hKBC hnl cT
                      go_wp2_with fail
                      refine cI.mono ?_
                      rintro _ wD ⟨rfl, hKD⟩
                      have HKD := hide (HKC.out.trans hKD (by simp))
                      clear hKD cI
                      go_wp2_with fail
                      refine (cS _ HKD.out).mono ?_
                      rintro _ wE ⟨vE, XE, rfl, hrE, hoE, hxE, hKE⟩
                      have hTE : TdS wD.heap.size wE vE XE := ⟨hrE, hoE⟩
                      obtain ⟨aE, cE, eE, hsE⟩ := hTE.sl
                      obtain ⟨nE, hnE⟩ : ∃ nE, nE = XE.length := ⟨_, rfl⟩
                      rw [← hnE] at eE hsE
                      subst eE
                      have hKDE := HKD.out.trans hKE (by simp)
                      obtain ⟨a5', c5', e5, hs5'⟩ := (HS8.out.kept hKDE).sl
                      have hl5 := HXl.out
                      rw [hl5] at e5 hs5'
                      cases e5
                      have cN := sameSs_call wE _ _ _ _ _ _ X5 XE hs5' hsE (by rw [HX5.out, hxE])
                      have HKE := hide hKDE
                      clear hrE hoE hxE hKE hTE hsE hs5' hKDE hnE hl5 cS
                      go_wp2_with fail
                      refine cN.mono ?_
                      rintro _ wF ⟨rfl, hKF⟩
                      have HKF := hide (HKE.out.trans hKF (by simp))
                      clear hKF cN
                      go_wp2_with fail
                      go_ret
                      exact ⟨rfl, HKe.out.trans HKF.out (by simp)⟩
  · have hrf := roomR_no hr
    rw [hrf] at cR
    clear hr hrf
    go_wp2_with (go_at_call 7; refine cR.mono ?_; clear cR; rintro _ W0 ⟨rfl, hW0⟩; obtain rfl := hW0.symm)
    go_ret
    exact ⟨rfl, HK1w.out⟩

end Go.Proofs.YthhlfehdnefgoabGreat
