/-
  MachineReads: the walk.
-/
import Derived.Test.YthhlfehdnefgoabGreatMaTell
import Derived.Test.YthhlfehdnefgoabGreatMtSame
import Derived.Deep.CutRange
namespace Go.Proofs.YthhlfehdnefgoabGreat
open Go.RowKit

/-- Is there a session that has not done it? -/
def frB (q : Rq) (L : List Se) : Bool := L.any fun x => decide (x.i = q.s) && (decide (x.q < q.q) && decide (1 ≤ q.q))

theorem frB_true {q : Rq} {L : List Se} (h : frB q L = true) : ∃ x ∈ L, x.i = q.s ∧ x.q < q.q ∧ 1 ≤ q.q := by
  unfold frB at h
  rw [List.any_eq_true] at h
  obtain ⟨x, hx, h1⟩ := h
  simp at h1
  exact ⟨x, hx, h1⟩

theorem frB_step {q : Rq} {L : List Se} {j : Nat} (h : j < L.length) : frB q (L.take (j + 1)) = (frB q (L.take j) || (decide (L[j].i = q.s) && (decide (L[j].q < q.q) && decide (1 ≤ q.q)))) := by
  unfold frB
  rw [List.take_succ_eq_append_getElem h, List.any_append]
  simp

/-- Behind so many that look: no commit changed. -/
structure RdF (n : Nat) (m m' : Ma) : Prop where
  f : ApF n m'
  g : m'.g = m.g

def RdI (w0 : World) (a z : Nat) (wB : World) (b : Nat) (p : Pl) (n : Nat) (m : Ma) (E : List Rm) (iv : Value) (wr : World) : Prop := ∃ (i : Nat) (n' : Nat) (m' : Ma), iv = .int .i64 (i : Int) ∧ i ≤ E.length ∧ Hid (LvA w0 a z wr b p m') ∧ Hid (Tk a z wB wr) ∧ Hid (RdF n' m m') ∧ Hid (n' ≤ n + i) ∧ Hid (Kept [] w0 wr)

def RdJ (w5 : World) (q : Rq) (L : List Se) (fv iv : Value) (wr : World) : Prop := ∃ j : Nat, iv = .int .i64 (j : Int) ∧ j ≤ L.length ∧ fv = .bool (frB q (L.take j)) ∧ Hid (Kept [] w5 wr)

/-- A machine, what it told apart: in blocks from a to z, and u. -/
def LvB (w0 : World) (a z : Nat) (w : World) (b : Nat) (p : Pl) (m : Ma) (u : Value) : Prop := ∃ F, LiveM w0 w F [] b p 2 3 m ∧ (∀ k ∈ F, k < a ∨ z ≤ k) ∧ ∀ j, u.ownBlock = some j → j ∉ F

theorem LvB.kept {w0 w w' : World} {a z b : Nat} {p : Pl} {m : Ma} {u : Value} (h : LvB w0 a z w b p m u) (k : Kept [] w w') : LvB w0 a z w' b p m u := by
  obtain ⟨F, h1, h2⟩ := h; exact ⟨F, h1.kept k, h2⟩

theorem LvB.lv {w0 w : World} {a z b : Nat} {p : Pl} {m : Ma} {u : Value} (h : LvB w0 a z w b p m u) : Lv w0 w b p m := by
  obtain ⟨F, h1, _⟩ := h; exact ⟨F, h1⟩

theorem LvB.keeps {w0 w : World} {a z b : Nat} {p : Pl} {m : Ma} {u : Value} (h : LvB w0 a z w b p m u) : Kept [] w0 w := h.lv.keeps

theorem lvB_peek {w0 w : World} {a z b : Nat} {p : Pl} {m : Ma} {n : Nat} (h : LvA w0 a z w b p m) (hz : z ≤ w.heap.size) (hf : ApF n m) (hn : n ≤ 990) (x : Rm) (hx : RqOk w x) :
    Calls Tryz.prog 11 #[.pointer (some ⟨b, 0, none⟩), .agg #[.int .i64 x.r.k, .string (str x.r.n), .int .i64 x.r.s, .int .i64 x.r.q, .int .i64 x.r.b, .string (str x.r.f), .slice x.mo x.m x.mc, .string (str x.r.p), .int .i64 x.r.fr, .int .i64 x.r.mn, .int .i64 x.r.mb]] w fun e w' =>
      ∃ ao nn c, e = .returned (.agg #[.int .i64 (peekT m.g x.r).c, .int .i64 (peekT m.g x.r).s, .int .i64 (peekT m.g x.r).r, .string (str (peekT m.g x.r).p), .int .u64 (peekT m.g x.r).d, .slice ao nn c, .int .i64 (peekT m.g x.r).m]) ∧ Hid (KoO w.heap.size w' (.slice ao nn c) (peekT m.g x.r).k) ∧ Hid (LvB w0 a z w' b p m (.slice ao nn c)) ∧ Hid (Tk a z w w') := by
  obtain ⟨F, h1, h0⟩ := h
  have h2 := hf.g
  have h3 := hf.a
  have cP := peek_call h1 (by omega) x hx
  rw [if_neg (by omega)] at cP
  refine cP.mono fun e w' ⟨ao, nn, c, he, hO, F', k1, k2, k3, k4⟩ => ⟨ao, nn, c, he, hO, ⟨F', k1, fun k hk => ?_, k4⟩, Tk.fr k2 h0⟩
  rcases k3 k hk with e | e
  · exact h0 k e
  · exact .inr (Nat.le_trans hz e)

theorem lvB_apply {w0 w : World} {a z b : Nat} {p : Pl} {m : Ma} {u : Value} {n : Nat} (h : LvB w0 a z w b p m u) (hz : z ≤ w.heap.size) (hf : ApF n m) (hn : n ≤ 990) (x : Rm) (hx : RqOk w x) :
    Calls Tryz.prog 9 #[.pointer (some ⟨b, 0, none⟩), .agg #[.int .i64 x.r.k, .string (str x.r.n), .int .i64 x.r.s, .int .i64 x.r.q, .int .i64 x.r.b, .string (str x.r.f), .slice x.mo x.m x.mc, .string (str x.r.p), .int .i64 x.r.fr, .int .i64 x.r.mn, .int .i64 x.r.mb]] w fun e w' =>
      ∃ ao nn c, e = .returned (.agg #[.int .i64 (apV 2 m x.r).c, .int .i64 (apV 2 m x.r).s, .int .i64 (apV 2 m x.r).r, .string (str (apV 2 m x.r).p), .int .u64 (apV 2 m x.r).d, .slice ao nn c, .int .i64 (apV 2 m x.r).m]) ∧ Hid (KoO w.heap.size w' (.slice ao nn c) (apV 2 m x.r).k) ∧ Hid (LvA w0 a z w' b p (apM 2 3 m x.r)) ∧ Hid (Tk a z w w') ∧ Hid (∀ B k, KoO B w u k → KoO B w' u k) := by
  obtain ⟨F, h1, h0, hu⟩ := h
  have h2 := hf.g
  have h3 := hf.e
  refine (apply_call h1 (by omega) (by omega) x hx).mono fun e w' ⟨ao, nn, c, he, hO, F', k1, k2, k3, k4⟩ => ⟨ao, nn, c, he, hO, ⟨F', k1, fun k hk => ?_⟩, Tk.fr k2 h0, fun B k hk => hk.frU k2 hu⟩
  rcases k3 k hk with e | e
  · exact h0 k e
  · exact .inr (Nat.le_trans hz e)

set_option linter.unusedSimpArgs false in
set_option maxHeartbeats 32000000 in
set_option maxRecDepth 100000 in
theorem mreads_walk (W : World) (ao : Option Addr) (n c : Nat) (D : List Rm) (hD : SlR W ao n c D) (bo : Option Addr) (k d : Nat) (E : List Rm) (hE : SlR W bo k d E) :
    Calls Tryz.prog 3 #[.slice ao n c, .slice bo k d] W fun e w' => e = .returned (.bool true) ∧ Kept [] W w' := by
  have cW := awakeM_call W
  have hc := hD.2.1
  have hmx := hD.2.2.1
  have hd := hE.2.1
  have hmd := hE.2.2.1
  unfold maxLen at hmx hmd
  have HD := hide hD
  have HL := hide hD.1
  have HE := hide hE
  have HM := hide hE.1
  clear hD hE
  go_enter Tryz.func3, Tryz.ntmps3
  go_wp2_with fail
  refine cW.mono ?_
  rintro _ w1 ⟨rfl, hK1⟩
  have HDw := hide (HD.out.kept hK1)
  have HEw := hide (HE.out.kept hK1)
  have HK1 := hide hK1
  have cR := roomR_call w1 ao n c D HDw.out 60
  have cR2 := roomR_call w1 bo k d E HEw.out 60
  rw [show ((60 : Nat) : Int) = 60 from rfl] at cR cR2
  clear cW hK1
  go_upto_region 3 with fail
  by_cases hr : RoomR 60 D
  · rw [roomR_ok hr] at cR
    have HR := hide hr
    by_cases hr2 : RoomR 60 E
    · rw [roomR_ok hr2] at cR2
      have HR2 := hide hr2
      have cF := lv_fresh w1
      have hn60 : n ≤ 60 := by rw [← HL.out]; exact hr.1
      have hk60 : k ≤ 60 := by rw [← HM.out]; exact hr2.1
      clear hr hr2
      go_upto_region 5 with (first
        | (go_at_call 7; refine cR.mono ?_; clear cR; rintro _ W0 ⟨rfl, hW0⟩; obtain rfl := hW0.symm)
        | (go_at_call 7; refine cR2.mono ?_; clear cR2; rintro _ W0 ⟨rfl, hW0⟩; obtain rfl := hW0.symm))
      go_wp2_with fail
      refine cF.mono ?_
      rintro _ w3 ⟨b, p, rfl, hLv⟩
      have HLv := hide hLv
      clear hLv cF
      go_wp2_with fail
      go_loopw [6] (fun iv wr => LmI w1 b p (newM [0, 1, 2]) D iv wr) (fun iv _ => n - (intOf iv).toNat)
      case atStart => exact ⟨0, rfl, Nat.zero_le _, HLv⟩
      case round =>
        obtain ⟨i, rfl, hi, HLr⟩ := hrel
        have hil : i ≤ n := by rw [← HL.out]; exact hi
        by_cases hlt : i < n
        · have hlt' : (i : Int) < n := by omega
          have hic : i ≤ c := by omega
          have hiD : i < D.length := by rw [HL.out]; exact hlt
          obtain ⟨g, o, he, hat⟩ := HDw.out.2.2.2.1 i hiD
          subst he
          obtain ⟨c0, c1, c2, c3, c4, c5, c6, c7, c8, c9, c10⟩ := hat.kept HLr.out.keeps (by simp)
          have cA := lv_apply HLr.out (apF_take apF_new hi (by have := HR.out.1; omega)) (by have := HR.out.1; omega) D[i] ⟨(HDw.out.2.2.2.2 _ (List.getElem_mem hiD)).kept HLr.out.keeps, HR.out.2 _ (List.getElem_mem hiD)⟩
          have HT := hide (apAll_take (m := newM [0, 1, 2]) hiD)
          generalize apV 2 (apAll (newM [0, 1, 2]) (D.take i)) D[i].r = vv at cA
          generalize D[i] = y at *
          clear hat
          go_wp2_with fail
          refine cA.mono ?_
          rintro _ w4 ⟨a4, n4, c4', rfl, _, HL4, _⟩
          rw [← HT.out] at HL4
          clear cA c0 c1 c2 c3 c4 c5 c6 c7 c8 c9 c10
          go_wp2_with fail
          go_roundw
          case rel => exact ⟨i + 1, by go_num, by omega, HL4⟩
          case measure => simp [intOf]; omega
        · have hlt' : ¬ (i : Int) < n := by omega
          have HF := hide (apF_take apF_new hi (by have := HR.out.1; omega))
          have HN : Hid (0 + i ≤ 100) := by have := HR.out.1; show _ ≤ _; omega
          generalize apAll (newM [0, 1, 2]) (D.take i) = m at *
          generalize hni : 0 + i = ni at HF HN
          clear hni
          obtain ⟨wL, hwL⟩ : ∃ wL, wL = wr := ⟨_, rfl⟩
          subst hwL
          obtain ⟨F, hLF⟩ := id HLr.out
          have hml := HF.out.g
          have hn1 := HN.out
          have cC := mCommits_call hLF (by omega)
          clear hLF hml hn1
          go_wp2_with fail
          refine cC.mono ?_
          rintro _ w6 ⟨v6, K6, rfl, hk6, hr6, ho6, hK6⟩
          have hO6 : KoO wL.heap.size w6 v6 m.g.cs := ⟨K6, hr6, ho6, hk6⟩
          obtain ⟨a6, n6, c6, rfl⟩ := hO6.ko.one
          have HO6 := hide hO6
          have HA6 := hide (HLr.out.apart hK6 w6.heap.size)
          have HK6 := hide (HLr.out.keeps.trans hK6 (by simp))
          have HF6 : Hid (RdF ni m m) := ⟨HF.out, rfl⟩
          clear cC hk6 hr6 ho6 hK6 hO6
          go_wp2_with fail
          go_loopw [8] (fun iv wr => RdI w1 wL.heap.size w6.heap.size w6 b p ni m E iv wr) (fun iv _ => k - (intOf iv).toNat)
          case atStart => exact ⟨0, ni, m, rfl, Nat.zero_le _, HA6, Tk.kept (Kept.refl _ _), HF6, by show _ ≤ _; omega, HK6⟩
          case round =>
            obtain ⟨j, nj, mj, rfl, hj, HAj, HTj, HFj, HNj, HKj⟩ := hrel
            have hjl : j ≤ k := by rw [← HM.out]; exact hj
            by_cases hjt : j < k
            · have hjt' : (j : Int) < k := by omega
              have hjc : j ≤ d := by omega
              have hjE : j < E.length := by rw [HM.out]; exact hjt
              obtain ⟨g, o, he, hat⟩ := HEw.out.2.2.2.1 j hjE
              subst he
              obtain ⟨c0, c1, c2, c3, c4, c5, c6', c7, c8, c9, c10⟩ := hat.kept HKj.out (by simp)
              have HXj : Hid (∀ W', Kept [] w1 W' → RqOk W' E[j]) := fun W' hk => ⟨(HEw.out.2.2.2.2 _ (List.getElem_mem hjE)).kept hk, HR2.out.2 _ (List.getElem_mem hjE)⟩
              generalize E[j] = y at *
              obtain ⟨w7, hw7⟩ : ∃ w7, w7 = wr.alloc (.cells (rqC y).toArray 34) := ⟨_, rfl⟩
              have hK7 : Kept [] wr w7 := by rw [hw7]; exact (Kept.refl _ _).alloc _
              have HQ7 : Hid (RqB w7 wr.heap.size y) := by rw [hw7]; exact heap_alloc_new wr _
              have HA7 := hide (HAj.out.kept hK7)
              have HT7 := hide (HTj.out.trans (Tk.kept hK7))
              have HK7 := hide (HKj.out.trans hK7 (by simp))
              unfold rqC at hw7
              clear hat hK7
              go_upto_region 17 with fail
              rw [← hw7]
              clear hw7 c0 c1 c2 c3 c4 c5 c6' c7 c8 c9 c10
              obtain ⟨wq, hwq⟩ : ∃ wq, wq = wr := ⟨_, rfl⟩
              subst hwq
              obtain ⟨q0, q1, q2, q3, q4, q5, q6, q7, q8, q9, q10⟩ := HQ7.out.cells
              have hnj := HNj.out
              have hni := HN.out
              by_cases hlk : y.r.k = 3 ∨ y.r.k = 4 ∨ y.r.k = 5
              · have HLk : Hid (y.r.k = 3 ∨ y.r.k = 4 ∨ y.r.k = 5) := hlk
                go_cut [65] from 53 to 65 (fun s65 wx => s65 = .bool false ∧ w7 = wx)
                case first =>
                  rcases hlk with e | e | e
                  · have hb3 : (y.r.k != 3) = false := by rw [e]; decide
                    have he3 : (y.r.k == 3) = true := by rw [e]; decide
                    clear e
                    go_wp2_with fail
                    go_meet
                    exact ⟨rfl, rfl⟩
                  · have hb3 : (y.r.k != 3) = true := by rw [e]; decide
                    have he3 : (y.r.k == 3) = false := by rw [e]; decide
                    have hb4 : (y.r.k != 4) = false := by rw [e]; decide
                    have he4 : (y.r.k == 4) = true := by rw [e]; decide
                    clear e
                    go_wp2_with fail
                    go_meet
                    exact ⟨rfl, rfl⟩
                  · have hb3 : (y.r.k != 3) = true := by rw [e]; decide
                    have he3 : (y.r.k == 3) = false := by rw [e]; decide
                    have hb4 : (y.r.k != 4) = true := by rw [e]; decide
                    have he4 : (y.r.k == 4) = false := by rw [e]; decide
                    have hb5 : (y.r.k != 5) = false := by rw [e]; decide
                    have he5 : (y.r.k == 5) = true := by rw [e]; decide
                    clear e
                    go_wp2_with fail
                    go_meet
                    exact ⟨rfl, rfl⟩
                case rest =>
                  obtain ⟨rfl, hwc⟩ := hcut
                  subst hwc
                  clear hlk
                  have cP := lvB_peek HA7.out HT7.out.size HFj.out.f (by omega) y (HXj.out _ HK7.out)
                  have HLo := fun (h : y.r.k = 3 ∨ y.r.k = 4 ∨ y.r.k = 5) => looks_only (al := 2) (sz := 3) HFj.out.f.ok h (by have := HFj.out.f.a; omega)
                  have HLo2 := hide (HLo HLk.out)
                  clear HLo
                  generalize peekT mj.g y.r = pv at *
                  go_wp2_with fail
                  refine cP.mono ?_
                  rintro _ w8 ⟨a8, n8, c8', rfl, HO8, HB8, HT8⟩
                  obtain ⟨w9, hw9⟩ : ∃ w9, w9 = w8.alloc (.cells (vdL pv (.slice a8 n8 c8')).toArray 30) := ⟨_, rfl⟩
                  have hK9 : Kept [] w8 w9 := by rw [hw9]; exact (Kept.refl _ _).alloc _
                  have HP9 : Hid (VdB w9 w8.heap.size pv (.slice a8 n8 c8')) := by rw [hw9]; exact vd_new _ _ _
                  have HB9 := hide (HB8.out.kept hK9)
                  have HT9 := hide ((HT7.out.trans HT8.out).trans (Tk.kept hK9))
                  have HQ9 : Hid (RqB w9 wq.heap.size y) := hK9.at (HT8.out.at_ _ _ _ _ HQ7.out (by decide)) (by simp)
                  have HO9 := hide (HO8.out.kept hK9)
                  have HK9 := hide HB9.out.keeps
                  unfold vdL at hw9
                  clear cP q0 q1 q2 q3 q4 q5 q6 q7 q8 q9 q10 hK9
                  go_upto_region 19 with fail
                  rw [← hw9]
                  clear hw9
                  obtain ⟨F9, hL9⟩ := HB9.out.lv
                  have cQ := mApplied_call hL9
                  have cS := mSessions_call hL9
                  rw [HFj.out.f.a] at cQ
                  have hn3 : mj.s.length ≤ 3 := HFj.out.f.ok.sl
                  clear hL9
                  go_wp2_with fail
                  refine cQ.mono ?_
                  rintro _ W0 ⟨rfl, hW0⟩
                  obtain rfl := hW0.symm
                  go_wp2_with fail
                  refine cS.mono ?_
                  rintro _ w10 ⟨v10, X10, rfl, hr10, ho10, hx10, hK10⟩
                  have hT10 : TdS w9.heap.size w10 v10 X10 := ⟨hr10, ho10⟩
                  obtain ⟨a10, c10, rfl, hs10⟩ := hT10.sl
                  have hxl : X10.length = mj.s.length := by rw [← hx10]; simp
                  have hsc := hs10.2.1
                  have hsm := hs10.2.2.1
                  unfold maxLen at hsm
                  rw [hxl] at hsc
                  rw [hxl]
                  have HX10 := hide hx10
                  have HXl := hide hxl
                  have HS10 := hide hs10
                  have HB10 := hide (HB9.out.kept hK10)
                  have HT10 := hide (HT9.out.trans (Tk.kept hK10))
                  have HQ9 := hide (HQ9.out.kept hK10)
                  have HP10 := hide (HP9.out.kept hK10)
                  have HO10 := hide (HO9.out.kept hK10)
                  have HK10 := hide (HK9.out.trans hK10 (by simp))
                  clear cQ cS hr10 ho10 hx10 hK10 hT10 hs10 hxl
                  go_wp2_with fail
                  go_loopw [13, 14] (fun fv iv wr => RdJ w10 y.r mj.s fv iv wr) (fun _ iv _ => mj.s.length - (intOf iv).toNat)
                  case atStart => exact ⟨0, rfl, Nat.zero_le _, rfl, Kept.refl _ _⟩
                  case round =>
                    obtain ⟨t, rfl, ht, rfl, HKt⟩ := hrel
                    obtain ⟨_, _, q2, q3, _, _, _, _, _, _, _⟩ := (HQ9.out.kept HKt.out).cells
                    by_cases htl : t < mj.s.length
                    · have htl' : (t : Int) < mj.s.length := by omega
                      have htc : t ≤ c10 := by omega
                      have htx : t < X10.length := by rw [HXl.out]; exact htl
                      obtain ⟨g5, o5, he, hse⟩ := HS10.out.2.2.2.2.1 t htx
                      subst he
                      have y0 := HKt.out.cell hse.c0 (by simp)
                      have y1 := HKt.out.cell hse.c1 (by simp)
                      have hy : X10[t].1 = mj.s[t] := fst_get HX10.out htx htl
                      rw [hy] at y0 y1
                      have HFs := hide (frB_step (q := y.r) htl)
                      generalize mj.s[t] = ye at *
                      clear hse hy
                      cases hfb : frB y.r (mj.s.take t) with
                      | true =>
                        have HN1 : Hid (frB y.r (mj.s.take (t + 1)) = true) := by show _ = _; rw [HFs.out, hfb]; rfl
                        clear hfb
                        go_upto_region 25 with fail
                        refine wp_region_held_drew (S := fun w' => w'.cell? ⟨g5, o5 + t * 10, none⟩ = some (.int .i64 ye.i) ∧ w'.cell? ⟨g5, o5 + t * 10 + 1, none⟩ = some (.int .i64 ye.q) ∧ w'.cell? ⟨wq.heap.size, 2, none⟩ = some (.int .i64 y.r.s) ∧ w'.cell? ⟨wq.heap.size, 3, none⟩ = some (.int .i64 y.r.q)) (by kernel_rfl) ⟨y0, y1, q2, q3⟩ (fun hHeld => ?_)
                        refine wpAnyH_take (i := 0) (v := ?_) rfl (by kernel_rfl) (by kernel_rfl) (by kernel_rfl) (fun _ _ _ h => h) (Or.inl ⟨by rfl, ?_⟩) hHeld ?_
                        rotate_left
                        · intro w9 hSw; (try dsimp only at hSw); go_simp; (try with_reducible rfl)
                        try simp only [List.getElem_toArray, List.getElem_cons_succ, List.getElem_cons_zero, Act.put, List.setIfInBounds_toArray, List.set_cons_zero, List.set_cons_succ]
                        refine wpAnyH_take (i := 1) (v := ?_) rfl (by kernel_rfl) (by kernel_rfl) (by kernel_rfl) (fun _ _ _ h => h) (Or.inl ⟨by rfl, ?_⟩) hHeld ?_
                        rotate_left
                        · intro w9 hSw; (try dsimp only at hSw); go_simp; (try with_reducible rfl)
                        try simp only [List.getElem_toArray, List.getElem_cons_succ, List.getElem_cons_zero, Act.put, List.setIfInBounds_toArray, List.set_cons_zero, List.set_cons_succ]
                        refine wpAnyH_take (i := 2) (v := undef) rfl (by kernel_rfl) (by kernel_rfl) (by kernel_rfl) (fun _ _ _ h => h) (Or.inr ⟨by rfl, rfl⟩) hHeld ?_
                        try simp only [List.getElem_toArray, List.getElem_cons_succ, List.getElem_cons_zero, Act.put, List.setIfInBounds_toArray, List.set_cons_zero, List.set_cons_succ]
                        refine wpAnyH_take (i := 3) (v := undef) rfl (by kernel_rfl) (by kernel_rfl) (by kernel_rfl) (fun _ _ _ h => h) (Or.inr ⟨by rfl, rfl⟩) hHeld ?_
                        try simp only [List.getElem_toArray, List.getElem_cons_succ, List.getElem_cons_zero, Act.put, List.setIfInBounds_toArray, List.set_cons_zero, List.set_cons_succ]
                        refine wpAnyH_take (i := 4) (v := undef) rfl (by kernel_rfl) (by kernel_rfl) (by kernel_rfl) (fun _ _ _ h => h) (Or.inr ⟨by rfl, rfl⟩) hHeld ?_
                        try simp only [List.getElem_toArray, List.getElem_cons_succ, List.getElem_cons_zero, Act.put, List.setIfInBounds_toArray, List.set_cons_zero, List.set_cons_succ]
                        refine wpAnyH_take (i := 5) (v := undef) rfl (by kernel_rfl) (by kernel_rfl) (by kernel_rfl) (fun _ _ _ h => h) (Or.inr ⟨by rfl, rfl⟩) hHeld ?_
                        try simp only [List.getElem_toArray, List.getElem_cons_succ, List.getElem_cons_zero, Act.put, List.setIfInBounds_toArray, List.set_cons_zero, List.set_cons_succ]
                        refine wpAnyH_take (i := 6) (v := undef) rfl (by kernel_rfl) (by kernel_rfl) (by kernel_rfl) (fun _ _ _ h => h) (Or.inr ⟨by rfl, rfl⟩) hHeld ?_
                        try simp only [List.getElem_toArray, List.getElem_cons_succ, List.getElem_cons_zero, Act.put, List.setIfInBounds_toArray, List.set_cons_zero, List.set_cons_succ]
                        refine wpAnyH_take (i := 7) (v := undef) rfl (by kernel_rfl) (by kernel_rfl) (by kernel_rfl) (fun _ _ _ h => h) (Or.inr ⟨by rfl, rfl⟩) hHeld ?_
                        try simp only [List.getElem_toArray, List.getElem_cons_succ, List.getElem_cons_zero, Act.put, List.setIfInBounds_toArray, List.set_cons_zero, List.set_cons_succ]
                        refine wpAnyH_take (i := 8) (v := undef) rfl (by kernel_rfl) (by kernel_rfl) (by kernel_rfl) (fun _ _ _ h => h) (Or.inr ⟨by rfl, rfl⟩) hHeld ?_
                        try simp only [List.getElem_toArray, List.getElem_cons_succ, List.getElem_cons_zero, Act.put, List.setIfInBounds_toArray, List.set_cons_zero, List.set_cons_succ]
                        refine wpAnyH_take (i := 9) (v := undef) rfl (by kernel_rfl) (by kernel_rfl) (by kernel_rfl) (fun _ _ _ h => h) (Or.inr ⟨by rfl, rfl⟩) hHeld ?_
                        try simp only [List.getElem_toArray, List.getElem_cons_succ, List.getElem_cons_zero, Act.put, List.setIfInBounds_toArray, List.set_cons_zero, List.set_cons_succ]
                        refine wpAnyH_take (i := 10) (v := undef) rfl (by kernel_rfl) (by kernel_rfl) (by kernel_rfl) (fun _ _ _ h => h) (Or.inr ⟨by rfl, rfl⟩) hHeld ?_
                        try simp only [List.getElem_toArray, List.getElem_cons_succ, List.getElem_cons_zero, Act.put, List.setIfInBounds_toArray, List.set_cons_zero, List.set_cons_succ]
                        refine wpAnyH_take (i := 11) (v := undef) rfl (by kernel_rfl) (by kernel_rfl) (by kernel_rfl) (fun _ _ _ h => h) (Or.inr ⟨by rfl, rfl⟩) hHeld ?_
                        try simp only [List.getElem_toArray, List.getElem_cons_succ, List.getElem_cons_zero, Act.put, List.setIfInBounds_toArray, List.set_cons_zero, List.set_cons_succ]
                        refine wpAnyH_take (i := 12) (v := undef) rfl (by kernel_rfl) (by kernel_rfl) (by kernel_rfl) (fun _ _ _ h => h) (Or.inr ⟨by rfl, rfl⟩) hHeld ?_
                        try simp only [List.getElem_toArray, List.getElem_cons_succ, List.getElem_cons_zero, Act.put, List.setIfInBounds_toArray, List.set_cons_zero, List.set_cons_succ]
                        refine wpAnyH_take (i := 13) (v := undef) rfl (by kernel_rfl) (by kernel_rfl) (by kernel_rfl) (fun _ _ _ h => h) (Or.inr ⟨by rfl, rfl⟩) hHeld ?_
                        try simp only [List.getElem_toArray, List.getElem_cons_succ, List.getElem_cons_zero, Act.put, List.setIfInBounds_toArray, List.set_cons_zero, List.set_cons_succ]
                        refine wpAnyH_take (i := 14) (v := undef) rfl (by kernel_rfl) (by kernel_rfl) (by kernel_rfl) (fun _ _ _ h => h) (Or.inr ⟨by rfl, rfl⟩) hHeld ?_
                        try simp only [List.getElem_toArray, List.getElem_cons_succ, List.getElem_cons_zero, Act.put, List.setIfInBounds_toArray, List.set_cons_zero, List.set_cons_succ]
                        refine wpAnyH_take (i := 15) (v := undef) rfl (by kernel_rfl) (by kernel_rfl) (by kernel_rfl) (fun _ _ _ h => h) (Or.inr ⟨by rfl, rfl⟩) hHeld ?_
                        try simp only [List.getElem_toArray, List.getElem_cons_succ, List.getElem_cons_zero, Act.put, List.setIfInBounds_toArray, List.set_cons_zero, List.set_cons_succ]
                        refine wpAnyH_take (i := 16) (v := undef) rfl (by kernel_rfl) (by kernel_rfl) (by kernel_rfl) (fun _ _ _ h => h) (Or.inr ⟨by rfl, rfl⟩) hHeld ?_
                        try simp only [List.getElem_toArray, List.getElem_cons_succ, List.getElem_cons_zero, Act.put, List.setIfInBounds_toArray, List.set_cons_zero, List.set_cons_succ]
                        refine wpAnyH_take (i := 17) (v := undef) rfl (by kernel_rfl) (by kernel_rfl) (by kernel_rfl) (fun _ _ _ h => h) (Or.inr ⟨by rfl, rfl⟩) hHeld ?_
                        try simp only [List.getElem_toArray, List.getElem_cons_succ, List.getElem_cons_zero, Act.put, List.setIfInBounds_toArray, List.set_cons_zero, List.set_cons_succ]
                        refine wpAnyH_take (i := 18) (v := undef) rfl (by kernel_rfl) (by kernel_rfl) (by kernel_rfl) (fun _ _ _ h => h) (Or.inr ⟨by rfl, rfl⟩) hHeld ?_
                        try simp only [List.getElem_toArray, List.getElem_cons_succ, List.getElem_cons_zero, Act.put, List.setIfInBounds_toArray, List.set_cons_zero, List.set_cons_succ]
                        refine wpAnyH_take (i := 19) (v := undef) rfl (by kernel_rfl) (by kernel_rfl) (by kernel_rfl) (fun _ _ _ h => h) (Or.inr ⟨by rfl, rfl⟩) hHeld ?_
                        try simp only [List.getElem_toArray, List.getElem_cons_succ, List.getElem_cons_zero, Act.put, List.setIfInBounds_toArray, List.set_cons_zero, List.set_cons_succ]
                        refine wpAnyH_take (i := 20) (v := undef) rfl (by kernel_rfl) (by kernel_rfl) (by kernel_rfl) (fun _ _ _ h => h) (Or.inr ⟨by rfl, rfl⟩) hHeld ?_
                        try simp only [List.getElem_toArray, List.getElem_cons_succ, List.getElem_cons_zero, Act.put, List.setIfInBounds_toArray, List.set_cons_zero, List.set_cons_succ]
                        refine wpAnyH_take (i := 21) (v := undef) rfl (by kernel_rfl) (by kernel_rfl) (by kernel_rfl) (fun _ _ _ h => h) (Or.inr ⟨by rfl, rfl⟩) hHeld ?_
                        try simp only [List.getElem_toArray, List.getElem_cons_succ, List.getElem_cons_zero, Act.put, List.setIfInBounds_toArray, List.set_cons_zero, List.set_cons_succ]
                        refine wpAnyH_take (i := 22) (v := undef) rfl (by kernel_rfl) (by kernel_rfl) (by kernel_rfl) (fun _ _ _ h => h) (Or.inr ⟨by rfl, rfl⟩) hHeld ?_
                        try simp only [List.getElem_toArray, List.getElem_cons_succ, List.getElem_cons_zero, Act.put, List.setIfInBounds_toArray, List.set_cons_zero, List.set_cons_succ]
                        refine wpAnyH_take (i := 23) (v := undef) rfl (by kernel_rfl) (by kernel_rfl) (by kernel_rfl) (fun _ _ _ h => h) (Or.inr ⟨by rfl, rfl⟩) hHeld ?_
                        try simp only [List.getElem_toArray, List.getElem_cons_succ, List.getElem_cons_zero, Act.put, List.setIfInBounds_toArray, List.set_cons_zero, List.set_cons_succ]
                        refine wpAnyH_take (i := 24) (v := undef) rfl (by kernel_rfl) (by kernel_rfl) (by kernel_rfl) (fun _ _ _ h => h) (Or.inr ⟨by rfl, rfl⟩) hHeld ?_
                        try simp only [List.getElem_toArray, List.getElem_cons_succ, List.getElem_cons_zero, Act.put, List.setIfInBounds_toArray, List.set_cons_zero, List.set_cons_succ]
                        refine wpAnyH_take (i := 25) (v := ?_) rfl (by kernel_rfl) (by kernel_rfl) (by kernel_rfl) (fun _ _ _ h => h) (Or.inl ⟨by rfl, ?_⟩) hHeld ?_
                        rotate_left
                        · intro w9 hSw; (try dsimp only at hSw); go_simp; (try with_reducible rfl)
                        try simp only [List.getElem_toArray, List.getElem_cons_succ, List.getElem_cons_zero, Act.put, List.setIfInBounds_toArray, List.set_cons_zero, List.set_cons_succ]
                        refine wpAnyH_take (i := 26) (v := ?_) rfl (by kernel_rfl) (by kernel_rfl) (by kernel_rfl) (fun _ _ _ h => h) (Or.inl ⟨by rfl, ?_⟩) hHeld ?_
                        rotate_left
                        · intro w9 hSw; (try dsimp only at hSw); go_simp; (try with_reducible rfl)
                        try simp only [List.getElem_toArray, List.getElem_cons_succ, List.getElem_cons_zero, Act.put, List.setIfInBounds_toArray, List.set_cons_zero, List.set_cons_succ]
                        try simp only [List.getElem_toArray, List.getElem_cons_succ, List.getElem_cons_zero, Act.put, List.setIfInBounds_toArray, List.set_cons_zero, List.set_cons_succ]
                        refine wpAnyH_done (by kernel_rfl) ?_ _
                        clear hHeld
                        go_wp2_with fail
                        go_roundw
                        case rel => exact ⟨t + 1, by go_num, by omega, by rw [HN1.out], HKt.out.trans (Kept.refl [] _).drew (by simp)⟩
                        case measure => simp [intOf]; omega
                      | false =>
                        by_cases hid : ye.i = y.r.s
                        · have hbi : (ye.i == y.r.s) = true := by simpa using hid
                          by_cases hsq : ye.q < y.r.q
                          · have hgt : decide (ye.q < y.r.q) = true := by simpa using hsq
                            obtain ⟨bq, hbq⟩ : ∃ bq, bq = decide (1 ≤ y.r.q) := ⟨_, rfl⟩
                            have HN1 : Hid (frB y.r (mj.s.take (t + 1)) = bq) := by show _ = _; rw [HFs.out, hfb, hbq]; simp [hid, hsq]
                            have hge : decide (1 ≤ y.r.q) = bq := hbq.symm
                            clear hfb hid hsq hbq
                            go_upto_region 25 with fail
                            refine wp_region_held_drew (S := fun w' => w'.cell? ⟨g5, o5 + t * 10, none⟩ = some (.int .i64 ye.i) ∧ w'.cell? ⟨g5, o5 + t * 10 + 1, none⟩ = some (.int .i64 ye.q) ∧ w'.cell? ⟨wq.heap.size, 2, none⟩ = some (.int .i64 y.r.s) ∧ w'.cell? ⟨wq.heap.size, 3, none⟩ = some (.int .i64 y.r.q)) (by kernel_rfl) ⟨y0, y1, q2, q3⟩ (fun hHeld => ?_)
                            refine wpAnyH_take (i := 0) (v := ?_) rfl (by kernel_rfl) (by kernel_rfl) (by kernel_rfl) (fun _ _ _ h => h) (Or.inl ⟨by rfl, ?_⟩) hHeld ?_
                            rotate_left
                            · intro w9 hSw; (try dsimp only at hSw); go_simp; (try with_reducible rfl)
                            try simp only [List.getElem_toArray, List.getElem_cons_succ, List.getElem_cons_zero, Act.put, List.setIfInBounds_toArray, List.set_cons_zero, List.set_cons_succ]
                            refine wpAnyH_take (i := 1) (v := ?_) rfl (by kernel_rfl) (by kernel_rfl) (by kernel_rfl) (fun _ _ _ h => h) (Or.inl ⟨by rfl, ?_⟩) hHeld ?_
                            rotate_left
                            · intro w9 hSw; (try dsimp only at hSw); go_simp; (try with_reducible rfl)
                            try simp only [List.getElem_toArray, List.getElem_cons_succ, List.getElem_cons_zero, Act.put, List.setIfInBounds_toArray, List.set_cons_zero, List.set_cons_succ]
                            refine wpAnyH_take (i := 2) (v := ?_) rfl (by kernel_rfl) (by kernel_rfl) (by kernel_rfl) (fun _ _ _ h => h) (Or.inl ⟨by rfl, ?_⟩) hHeld ?_
                            rotate_left
                            · intro w9 hSw; (try dsimp only at hSw); go_simp; (try with_reducible rfl)
                            try simp only [List.getElem_toArray, List.getElem_cons_succ, List.getElem_cons_zero, Act.put, List.setIfInBounds_toArray, List.set_cons_zero, List.set_cons_succ]
                            refine wpAnyH_take (i := 3) (v := ?_) rfl (by kernel_rfl) (by kernel_rfl) (by kernel_rfl) (fun _ _ _ h => h) (Or.inl ⟨by rfl, ?_⟩) hHeld ?_
                            rotate_left
                            · intro w9 hSw; (try dsimp only at hSw); go_simp; (try with_reducible rfl)
                            try simp only [List.getElem_toArray, List.getElem_cons_succ, List.getElem_cons_zero, Act.put, List.setIfInBounds_toArray, List.set_cons_zero, List.set_cons_succ]
                            refine wpAnyH_take (i := 4) (v := ?_) rfl (by kernel_rfl) (by kernel_rfl) (by kernel_rfl) (fun _ _ _ h => h) (Or.inl ⟨by rfl, ?_⟩) hHeld ?_
                            rotate_left
                            · intro w9 hSw; (try dsimp only at hSw); go_simp; (try with_reducible rfl)
                            try simp only [List.getElem_toArray, List.getElem_cons_succ, List.getElem_cons_zero, Act.put, List.setIfInBounds_toArray, List.set_cons_zero, List.set_cons_succ]
                            refine wpAnyH_take (i := 5) (v := ?_) rfl (by kernel_rfl) (by kernel_rfl) (by kernel_rfl) (fun _ _ _ h => h) (Or.inl ⟨by rfl, ?_⟩) hHeld ?_
                            rotate_left
                            · intro w9 hSw; (try dsimp only at hSw); go_simp; (try with_reducible rfl)
                            try simp only [List.getElem_toArray, List.getElem_cons_succ, List.getElem_cons_zero, Act.put, List.setIfInBounds_toArray, List.set_cons_zero, List.set_cons_succ]
                            refine wpAnyH_take (i := 6) (v := ?_) rfl (by kernel_rfl) (by kernel_rfl) (by kernel_rfl) (fun _ _ _ h => h) (Or.inl ⟨by rfl, ?_⟩) hHeld ?_
                            rotate_left
                            · intro w9 hSw; (try dsimp only at hSw); go_simp; (try with_reducible rfl)
                            try simp only [List.getElem_toArray, List.getElem_cons_succ, List.getElem_cons_zero, Act.put, List.setIfInBounds_toArray, List.set_cons_zero, List.set_cons_succ]
                            refine wpAnyH_take (i := 7) (v := ?_) rfl (by kernel_rfl) (by kernel_rfl) (by kernel_rfl) (fun _ _ _ h => h) (Or.inl ⟨by rfl, ?_⟩) hHeld ?_
                            rotate_left
                            · intro w9 hSw; (try dsimp only at hSw); go_simp; (try with_reducible rfl)
                            try simp only [List.getElem_toArray, List.getElem_cons_succ, List.getElem_cons_zero, Act.put, List.setIfInBounds_toArray, List.set_cons_zero, List.set_cons_succ]
                            refine wpAnyH_take (i := 8) (v := ?_) rfl (by kernel_rfl) (by kernel_rfl) (by kernel_rfl) (fun _ _ _ h => h) (Or.inl ⟨by rfl, ?_⟩) hHeld ?_
                            rotate_left
                            · intro w9 hSw; (try dsimp only at hSw); go_simp; (try with_reducible rfl)
                            try simp only [List.getElem_toArray, List.getElem_cons_succ, List.getElem_cons_zero, Act.put, List.setIfInBounds_toArray, List.set_cons_zero, List.set_cons_succ]
                            refine wpAnyH_take (i := 9) (v := ?_) rfl (by kernel_rfl) (by kernel_rfl) (by kernel_rfl) (fun _ _ _ h => h) (Or.inl ⟨by rfl, ?_⟩) hHeld ?_
                            rotate_left
                            · intro w9 hSw; (try dsimp only at hSw); go_simp; (try with_reducible rfl)
                            try simp only [List.getElem_toArray, List.getElem_cons_succ, List.getElem_cons_zero, Act.put, List.setIfInBounds_toArray, List.set_cons_zero, List.set_cons_succ]
                            refine wpAnyH_take (i := 10) (v := ?_) rfl (by kernel_rfl) (by kernel_rfl) (by kernel_rfl) (fun _ _ _ h => h) (Or.inl ⟨by rfl, ?_⟩) hHeld ?_
                            rotate_left
                            · intro w9 hSw; (try dsimp only at hSw); go_simp; (try with_reducible rfl)
                            try simp only [List.getElem_toArray, List.getElem_cons_succ, List.getElem_cons_zero, Act.put, List.setIfInBounds_toArray, List.set_cons_zero, List.set_cons_succ]
                            refine wpAnyH_take (i := 11) (v := ?_) rfl (by kernel_rfl) (by kernel_rfl) (by kernel_rfl) (fun _ _ _ h => h) (Or.inl ⟨by rfl, ?_⟩) hHeld ?_
                            rotate_left
                            · intro w9 hSw; (try dsimp only at hSw); go_simp; (try with_reducible rfl)
                            try simp only [List.getElem_toArray, List.getElem_cons_succ, List.getElem_cons_zero, Act.put, List.setIfInBounds_toArray, List.set_cons_zero, List.set_cons_succ]
                            refine wpAnyH_take (i := 12) (v := ?_) rfl (by kernel_rfl) (by kernel_rfl) (by kernel_rfl) (fun _ _ _ h => h) (Or.inl ⟨by rfl, ?_⟩) hHeld ?_
                            rotate_left
                            · intro w9 hSw; (try dsimp only at hSw); go_simp; (try with_reducible rfl)
                            try simp only [List.getElem_toArray, List.getElem_cons_succ, List.getElem_cons_zero, Act.put, List.setIfInBounds_toArray, List.set_cons_zero, List.set_cons_succ]
                            refine wpAnyH_take (i := 13) (v := ?_) rfl (by kernel_rfl) (by kernel_rfl) (by kernel_rfl) (fun _ _ _ h => h) (Or.inl ⟨by rfl, ?_⟩) hHeld ?_
                            rotate_left
                            · intro w9 hSw; (try dsimp only at hSw); go_simp; (try with_reducible rfl)
                            try simp only [List.getElem_toArray, List.getElem_cons_succ, List.getElem_cons_zero, Act.put, List.setIfInBounds_toArray, List.set_cons_zero, List.set_cons_succ]
                            refine wpAnyH_take (i := 14) (v := ?_) rfl (by kernel_rfl) (by kernel_rfl) (by kernel_rfl) (fun _ _ _ h => h) (Or.inl ⟨by rfl, ?_⟩) hHeld ?_
                            rotate_left
                            · intro w9 hSw; (try dsimp only at hSw); go_simp; (try with_reducible rfl)
                            try simp only [List.getElem_toArray, List.getElem_cons_succ, List.getElem_cons_zero, Act.put, List.setIfInBounds_toArray, List.set_cons_zero, List.set_cons_succ]
                            refine wpAnyH_take (i := 15) (v := ?_) rfl (by kernel_rfl) (by kernel_rfl) (by kernel_rfl) (fun _ _ _ h => h) (Or.inl ⟨by rfl, ?_⟩) hHeld ?_
                            rotate_left
                            · intro w9 hSw; (try dsimp only at hSw); go_simp; (try with_reducible rfl)
                            try simp only [List.getElem_toArray, List.getElem_cons_succ, List.getElem_cons_zero, Act.put, List.setIfInBounds_toArray, List.set_cons_zero, List.set_cons_succ]
                            refine wpAnyH_take (i := 16) (v := ?_) rfl (by kernel_rfl) (by kernel_rfl) (by kernel_rfl) (fun _ _ _ h => h) (Or.inl ⟨by rfl, ?_⟩) hHeld ?_
                            rotate_left
                            · intro w9 hSw; (try dsimp only at hSw); go_simp; (try with_reducible rfl)
                            try simp only [List.getElem_toArray, List.getElem_cons_succ, List.getElem_cons_zero, Act.put, List.setIfInBounds_toArray, List.set_cons_zero, List.set_cons_succ]
                            refine wpAnyH_take (i := 17) (v := ?_) rfl (by kernel_rfl) (by kernel_rfl) (by kernel_rfl) (fun _ _ _ h => h) (Or.inl ⟨by rfl, ?_⟩) hHeld ?_
                            rotate_left
                            · intro w9 hSw; (try dsimp only at hSw); go_simp; (try with_reducible rfl)
                            try simp only [List.getElem_toArray, List.getElem_cons_succ, List.getElem_cons_zero, Act.put, List.setIfInBounds_toArray, List.set_cons_zero, List.set_cons_succ]
                            refine wpAnyH_take (i := 18) (v := ?_) rfl (by kernel_rfl) (by kernel_rfl) (by kernel_rfl) (fun _ _ _ h => h) (Or.inl ⟨by rfl, ?_⟩) hHeld ?_
                            rotate_left
                            · intro w9 hSw; (try dsimp only at hSw); go_simp; (try with_reducible rfl)
                            try simp only [List.getElem_toArray, List.getElem_cons_succ, List.getElem_cons_zero, Act.put, List.setIfInBounds_toArray, List.set_cons_zero, List.set_cons_succ]
                            refine wpAnyH_take (i := 19) (v := ?_) rfl (by kernel_rfl) (by kernel_rfl) (by kernel_rfl) (fun _ _ _ h => h) (Or.inl ⟨by rfl, ?_⟩) hHeld ?_
                            rotate_left
                            · intro w9 hSw; (try dsimp only at hSw); go_simp; (try with_reducible rfl)
                            try simp only [List.getElem_toArray, List.getElem_cons_succ, List.getElem_cons_zero, Act.put, List.setIfInBounds_toArray, List.set_cons_zero, List.set_cons_succ]
                            refine wpAnyH_take (i := 20) (v := ?_) rfl (by kernel_rfl) (by kernel_rfl) (by kernel_rfl) (fun _ _ _ h => h) (Or.inl ⟨by rfl, ?_⟩) hHeld ?_
                            rotate_left
                            · intro w9 hSw; (try dsimp only at hSw); go_simp; (try with_reducible rfl)
                            try simp only [List.getElem_toArray, List.getElem_cons_succ, List.getElem_cons_zero, Act.put, List.setIfInBounds_toArray, List.set_cons_zero, List.set_cons_succ]
                            refine wpAnyH_take (i := 21) (v := ?_) rfl (by kernel_rfl) (by kernel_rfl) (by kernel_rfl) (fun _ _ _ h => h) (Or.inl ⟨by rfl, ?_⟩) hHeld ?_
                            rotate_left
                            · intro w9 hSw; (try dsimp only at hSw); go_simp; (try with_reducible rfl)
                            try simp only [List.getElem_toArray, List.getElem_cons_succ, List.getElem_cons_zero, Act.put, List.setIfInBounds_toArray, List.set_cons_zero, List.set_cons_succ]
                            refine wpAnyH_take (i := 22) (v := ?_) rfl (by kernel_rfl) (by kernel_rfl) (by kernel_rfl) (fun _ _ _ h => h) (Or.inl ⟨by rfl, ?_⟩) hHeld ?_
                            rotate_left
                            · intro w9 hSw; (try dsimp only at hSw); go_simp; (try with_reducible rfl)
                            try simp only [List.getElem_toArray, List.getElem_cons_succ, List.getElem_cons_zero, Act.put, List.setIfInBounds_toArray, List.set_cons_zero, List.set_cons_succ]
                            refine wpAnyH_take (i := 23) (v := ?_) rfl (by kernel_rfl) (by kernel_rfl) (by kernel_rfl) (fun _ _ _ h => h) (Or.inl ⟨by rfl, ?_⟩) hHeld ?_
                            rotate_left
                            · intro w9 hSw; (try dsimp only at hSw); go_simp; (try with_reducible rfl)
                            try simp only [List.getElem_toArray, List.getElem_cons_succ, List.getElem_cons_zero, Act.put, List.setIfInBounds_toArray, List.set_cons_zero, List.set_cons_succ]
                            refine wpAnyH_take (i := 24) (v := ?_) rfl (by kernel_rfl) (by kernel_rfl) (by kernel_rfl) (fun _ _ _ h => h) (Or.inl ⟨by rfl, ?_⟩) hHeld ?_
                            rotate_left
                            · intro w9 hSw; (try dsimp only at hSw); go_simp; (try with_reducible rfl)
                            try simp only [List.getElem_toArray, List.getElem_cons_succ, List.getElem_cons_zero, Act.put, List.setIfInBounds_toArray, List.set_cons_zero, List.set_cons_succ]
                            refine wpAnyH_take (i := 25) (v := ?_) rfl (by kernel_rfl) (by kernel_rfl) (by kernel_rfl) (fun _ _ _ h => h) (Or.inl ⟨by rfl, ?_⟩) hHeld ?_
                            rotate_left
                            · intro w9 hSw; (try dsimp only at hSw); go_simp; (try with_reducible rfl)
                            try simp only [List.getElem_toArray, List.getElem_cons_succ, List.getElem_cons_zero, Act.put, List.setIfInBounds_toArray, List.set_cons_zero, List.set_cons_succ]
                            refine wpAnyH_take (i := 26) (v := ?_) rfl (by kernel_rfl) (by kernel_rfl) (by kernel_rfl) (fun _ _ _ h => h) (Or.inl ⟨by rfl, ?_⟩) hHeld ?_
                            rotate_left
                            · intro w9 hSw; (try dsimp only at hSw); go_simp; (try with_reducible rfl)
                            try simp only [List.getElem_toArray, List.getElem_cons_succ, List.getElem_cons_zero, Act.put, List.setIfInBounds_toArray, List.set_cons_zero, List.set_cons_succ]
                            try simp only [List.getElem_toArray, List.getElem_cons_succ, List.getElem_cons_zero, Act.put, List.setIfInBounds_toArray, List.set_cons_zero, List.set_cons_succ]
                            refine wpAnyH_done (by kernel_rfl) ?_ _
                            clear hHeld
                            go_wp2_with fail
                            go_roundw
                            case rel => exact ⟨t + 1, by go_num, by omega, by rw [HN1.out], HKt.out.trans (Kept.refl [] _).drew (by simp)⟩
                            case measure => simp [intOf]; omega
                          · have hgt : decide (ye.q < y.r.q) = false := by simpa using hsq
                            have HN1 : Hid (frB y.r (mj.s.take (t + 1)) = false) := by show _ = _; rw [HFs.out, hfb]; simp [hsq]
                            clear hfb hid hsq
                            go_upto_region 25 with fail
                            refine wp_region_held_drew (S := fun w' => w'.cell? ⟨g5, o5 + t * 10, none⟩ = some (.int .i64 ye.i) ∧ w'.cell? ⟨g5, o5 + t * 10 + 1, none⟩ = some (.int .i64 ye.q) ∧ w'.cell? ⟨wq.heap.size, 2, none⟩ = some (.int .i64 y.r.s) ∧ w'.cell? ⟨wq.heap.size, 3, none⟩ = some (.int .i64 y.r.q)) (by kernel_rfl) ⟨y0, y1, q2, q3⟩ (fun hHeld => ?_)
                            refine wpAnyH_take (i := 0) (v := ?_) rfl (by kernel_rfl) (by kernel_rfl) (by kernel_rfl) (fun _ _ _ h => h) (Or.inl ⟨by rfl, ?_⟩) hHeld ?_
                            rotate_left
                            · intro w9 hSw; (try dsimp only at hSw); go_simp; (try with_reducible rfl)
                            try simp only [List.getElem_toArray, List.getElem_cons_succ, List.getElem_cons_zero, Act.put, List.setIfInBounds_toArray, List.set_cons_zero, List.set_cons_succ]
                            refine wpAnyH_take (i := 1) (v := ?_) rfl (by kernel_rfl) (by kernel_rfl) (by kernel_rfl) (fun _ _ _ h => h) (Or.inl ⟨by rfl, ?_⟩) hHeld ?_
                            rotate_left
                            · intro w9 hSw; (try dsimp only at hSw); go_simp; (try with_reducible rfl)
                            try simp only [List.getElem_toArray, List.getElem_cons_succ, List.getElem_cons_zero, Act.put, List.setIfInBounds_toArray, List.set_cons_zero, List.set_cons_succ]
                            refine wpAnyH_take (i := 2) (v := ?_) rfl (by kernel_rfl) (by kernel_rfl) (by kernel_rfl) (fun _ _ _ h => h) (Or.inl ⟨by rfl, ?_⟩) hHeld ?_
                            rotate_left
                            · intro w9 hSw; (try dsimp only at hSw); go_simp; (try with_reducible rfl)
                            try simp only [List.getElem_toArray, List.getElem_cons_succ, List.getElem_cons_zero, Act.put, List.setIfInBounds_toArray, List.set_cons_zero, List.set_cons_succ]
                            refine wpAnyH_take (i := 3) (v := ?_) rfl (by kernel_rfl) (by kernel_rfl) (by kernel_rfl) (fun _ _ _ h => h) (Or.inl ⟨by rfl, ?_⟩) hHeld ?_
                            rotate_left
                            · intro w9 hSw; (try dsimp only at hSw); go_simp; (try with_reducible rfl)
                            try simp only [List.getElem_toArray, List.getElem_cons_succ, List.getElem_cons_zero, Act.put, List.setIfInBounds_toArray, List.set_cons_zero, List.set_cons_succ]
                            refine wpAnyH_take (i := 4) (v := ?_) rfl (by kernel_rfl) (by kernel_rfl) (by kernel_rfl) (fun _ _ _ h => h) (Or.inl ⟨by rfl, ?_⟩) hHeld ?_
                            rotate_left
                            · intro w9 hSw; (try dsimp only at hSw); go_simp; (try with_reducible rfl)
                            try simp only [List.getElem_toArray, List.getElem_cons_succ, List.getElem_cons_zero, Act.put, List.setIfInBounds_toArray, List.set_cons_zero, List.set_cons_succ]
                            refine wpAnyH_take (i := 5) (v := ?_) rfl (by kernel_rfl) (by kernel_rfl) (by kernel_rfl) (fun _ _ _ h => h) (Or.inl ⟨by rfl, ?_⟩) hHeld ?_
                            rotate_left
                            · intro w9 hSw; (try dsimp only at hSw); go_simp; (try with_reducible rfl)
                            try simp only [List.getElem_toArray, List.getElem_cons_succ, List.getElem_cons_zero, Act.put, List.setIfInBounds_toArray, List.set_cons_zero, List.set_cons_succ]
                            refine wpAnyH_take (i := 6) (v := ?_) rfl (by kernel_rfl) (by kernel_rfl) (by kernel_rfl) (fun _ _ _ h => h) (Or.inl ⟨by rfl, ?_⟩) hHeld ?_
                            rotate_left
                            · intro w9 hSw; (try dsimp only at hSw); go_simp; (try with_reducible rfl)
                            try simp only [List.getElem_toArray, List.getElem_cons_succ, List.getElem_cons_zero, Act.put, List.setIfInBounds_toArray, List.set_cons_zero, List.set_cons_succ]
                            refine wpAnyH_take (i := 7) (v := ?_) rfl (by kernel_rfl) (by kernel_rfl) (by kernel_rfl) (fun _ _ _ h => h) (Or.inl ⟨by rfl, ?_⟩) hHeld ?_
                            rotate_left
                            · intro w9 hSw; (try dsimp only at hSw); go_simp; (try with_reducible rfl)
                            try simp only [List.getElem_toArray, List.getElem_cons_succ, List.getElem_cons_zero, Act.put, List.setIfInBounds_toArray, List.set_cons_zero, List.set_cons_succ]
                            refine wpAnyH_take (i := 8) (v := ?_) rfl (by kernel_rfl) (by kernel_rfl) (by kernel_rfl) (fun _ _ _ h => h) (Or.inl ⟨by rfl, ?_⟩) hHeld ?_
                            rotate_left
                            · intro w9 hSw; (try dsimp only at hSw); go_simp; (try with_reducible rfl)
                            try simp only [List.getElem_toArray, List.getElem_cons_succ, List.getElem_cons_zero, Act.put, List.setIfInBounds_toArray, List.set_cons_zero, List.set_cons_succ]
                            refine wpAnyH_take (i := 9) (v := ?_) rfl (by kernel_rfl) (by kernel_rfl) (by kernel_rfl) (fun _ _ _ h => h) (Or.inl ⟨by rfl, ?_⟩) hHeld ?_
                            rotate_left
                            · intro w9 hSw; (try dsimp only at hSw); go_simp; (try with_reducible rfl)
                            try simp only [List.getElem_toArray, List.getElem_cons_succ, List.getElem_cons_zero, Act.put, List.setIfInBounds_toArray, List.set_cons_zero, List.set_cons_succ]
                            refine wpAnyH_take (i := 10) (v := ?_) rfl (by kernel_rfl) (by kernel_rfl) (by kernel_rfl) (fun _ _ _ h => h) (Or.inl ⟨by rfl, ?_⟩) hHeld ?_
                            rotate_left
                            · intro w9 hSw; (try dsimp only at hSw); go_simp; (try with_reducible rfl)
                            try simp only [List.getElem_toArray, List.getElem_cons_succ, List.getElem_cons_zero, Act.put, List.setIfInBounds_toArray, List.set_cons_zero, List.set_cons_succ]
                            refine wpAnyH_take (i := 11) (v := ?_) rfl (by kernel_rfl) (by kernel_rfl) (by kernel_rfl) (fun _ _ _ h => h) (Or.inl ⟨by rfl, ?_⟩) hHeld ?_
                            rotate_left
                            · intro w9 hSw; (try dsimp only at hSw); go_simp; (try with_reducible rfl)
                            try simp only [List.getElem_toArray, List.getElem_cons_succ, List.getElem_cons_zero, Act.put, List.setIfInBounds_toArray, List.set_cons_zero, List.set_cons_succ]
                            refine wpAnyH_take (i := 12) (v := ?_) rfl (by kernel_rfl) (by kernel_rfl) (by kernel_rfl) (fun _ _ _ h => h) (Or.inl ⟨by rfl, ?_⟩) hHeld ?_
                            rotate_left
                            · intro w9 hSw; (try dsimp only at hSw); go_simp; (try with_reducible rfl)
                            try simp only [List.getElem_toArray, List.getElem_cons_succ, List.getElem_cons_zero, Act.put, List.setIfInBounds_toArray, List.set_cons_zero, List.set_cons_succ]
                            refine wpAnyH_take (i := 13) (v := ?_) rfl (by kernel_rfl) (by kernel_rfl) (by kernel_rfl) (fun _ _ _ h => h) (Or.inl ⟨by rfl, ?_⟩) hHeld ?_
                            rotate_left
                            · intro w9 hSw; (try dsimp only at hSw); go_simp; (try with_reducible rfl)
                            try simp only [List.getElem_toArray, List.getElem_cons_succ, List.getElem_cons_zero, Act.put, List.setIfInBounds_toArray, List.set_cons_zero, List.set_cons_succ]
                            refine wpAnyH_take (i := 14) (v := ?_) rfl (by kernel_rfl) (by kernel_rfl) (by kernel_rfl) (fun _ _ _ h => h) (Or.inl ⟨by rfl, ?_⟩) hHeld ?_
                            rotate_left
                            · intro w9 hSw; (try dsimp only at hSw); go_simp; (try with_reducible rfl)
                            try simp only [List.getElem_toArray, List.getElem_cons_succ, List.getElem_cons_zero, Act.put, List.setIfInBounds_toArray, List.set_cons_zero, List.set_cons_succ]
                            refine wpAnyH_take (i := 15) (v := ?_) rfl (by kernel_rfl) (by kernel_rfl) (by kernel_rfl) (fun _ _ _ h => h) (Or.inl ⟨by rfl, ?_⟩) hHeld ?_
                            rotate_left
                            · intro w9 hSw; (try dsimp only at hSw); go_simp; (try with_reducible rfl)
                            try simp only [List.getElem_toArray, List.getElem_cons_succ, List.getElem_cons_zero, Act.put, List.setIfInBounds_toArray, List.set_cons_zero, List.set_cons_succ]
                            refine wpAnyH_take (i := 16) (v := ?_) rfl (by kernel_rfl) (by kernel_rfl) (by kernel_rfl) (fun _ _ _ h => h) (Or.inl ⟨by rfl, ?_⟩) hHeld ?_
                            rotate_left
                            · intro w9 hSw; (try dsimp only at hSw); go_simp; (try with_reducible rfl)
                            try simp only [List.getElem_toArray, List.getElem_cons_succ, List.getElem_cons_zero, Act.put, List.setIfInBounds_toArray, List.set_cons_zero, List.set_cons_succ]
                            refine wpAnyH_take (i := 17) (v := ?_) rfl (by kernel_rfl) (by kernel_rfl) (by kernel_rfl) (fun _ _ _ h => h) (Or.inl ⟨by rfl, ?_⟩) hHeld ?_
                            rotate_left
                            · intro w9 hSw; (try dsimp only at hSw); go_simp; (try with_reducible rfl)
                            try simp only [List.getElem_toArray, List.getElem_cons_succ, List.getElem_cons_zero, Act.put, List.setIfInBounds_toArray, List.set_cons_zero, List.set_cons_succ]
                            refine wpAnyH_take (i := 18) (v := ?_) rfl (by kernel_rfl) (by kernel_rfl) (by kernel_rfl) (fun _ _ _ h => h) (Or.inl ⟨by rfl, ?_⟩) hHeld ?_
                            rotate_left
                            · intro w9 hSw; (try dsimp only at hSw); go_simp; (try with_reducible rfl)
                            try simp only [List.getElem_toArray, List.getElem_cons_succ, List.getElem_cons_zero, Act.put, List.setIfInBounds_toArray, List.set_cons_zero, List.set_cons_succ]
                            refine wpAnyH_take (i := 19) (v := ?_) rfl (by kernel_rfl) (by kernel_rfl) (by kernel_rfl) (fun _ _ _ h => h) (Or.inl ⟨by rfl, ?_⟩) hHeld ?_
                            rotate_left
                            · intro w9 hSw; (try dsimp only at hSw); go_simp; (try with_reducible rfl)
                            try simp only [List.getElem_toArray, List.getElem_cons_succ, List.getElem_cons_zero, Act.put, List.setIfInBounds_toArray, List.set_cons_zero, List.set_cons_succ]
                            refine wpAnyH_take (i := 20) (v := ?_) rfl (by kernel_rfl) (by kernel_rfl) (by kernel_rfl) (fun _ _ _ h => h) (Or.inl ⟨by rfl, ?_⟩) hHeld ?_
                            rotate_left
                            · intro w9 hSw; (try dsimp only at hSw); go_simp; (try with_reducible rfl)
                            try simp only [List.getElem_toArray, List.getElem_cons_succ, List.getElem_cons_zero, Act.put, List.setIfInBounds_toArray, List.set_cons_zero, List.set_cons_succ]
                            refine wpAnyH_take (i := 21) (v := undef) rfl (by kernel_rfl) (by kernel_rfl) (by kernel_rfl) (fun _ _ _ h => h) (Or.inr ⟨by rfl, rfl⟩) hHeld ?_
                            try simp only [List.getElem_toArray, List.getElem_cons_succ, List.getElem_cons_zero, Act.put, List.setIfInBounds_toArray, List.set_cons_zero, List.set_cons_succ]
                            refine wpAnyH_take (i := 22) (v := undef) rfl (by kernel_rfl) (by kernel_rfl) (by kernel_rfl) (fun _ _ _ h => h) (Or.inr ⟨by rfl, rfl⟩) hHeld ?_
                            try simp only [List.getElem_toArray, List.getElem_cons_succ, List.getElem_cons_zero, Act.put, List.setIfInBounds_toArray, List.set_cons_zero, List.set_cons_succ]
                            refine wpAnyH_take (i := 23) (v := undef) rfl (by kernel_rfl) (by kernel_rfl) (by kernel_rfl) (fun _ _ _ h => h) (Or.inr ⟨by rfl, rfl⟩) hHeld ?_
                            try simp only [List.getElem_toArray, List.getElem_cons_succ, List.getElem_cons_zero, Act.put, List.setIfInBounds_toArray, List.set_cons_zero, List.set_cons_succ]
                            refine wpAnyH_take (i := 24) (v := ?_) rfl (by kernel_rfl) (by kernel_rfl) (by kernel_rfl) (fun _ _ _ h => h) (Or.inl ⟨by rfl, ?_⟩) hHeld ?_
                            rotate_left
                            · intro w9 hSw; (try dsimp only at hSw); go_simp; (try with_reducible rfl)
                            try simp only [List.getElem_toArray, List.getElem_cons_succ, List.getElem_cons_zero, Act.put, List.setIfInBounds_toArray, List.set_cons_zero, List.set_cons_succ]
                            refine wpAnyH_take (i := 25) (v := ?_) rfl (by kernel_rfl) (by kernel_rfl) (by kernel_rfl) (fun _ _ _ h => h) (Or.inl ⟨by rfl, ?_⟩) hHeld ?_
                            rotate_left
                            · intro w9 hSw; (try dsimp only at hSw); go_simp; (try with_reducible rfl)
                            try simp only [List.getElem_toArray, List.getElem_cons_succ, List.getElem_cons_zero, Act.put, List.setIfInBounds_toArray, List.set_cons_zero, List.set_cons_succ]
                            refine wpAnyH_take (i := 26) (v := ?_) rfl (by kernel_rfl) (by kernel_rfl) (by kernel_rfl) (fun _ _ _ h => h) (Or.inl ⟨by rfl, ?_⟩) hHeld ?_
                            rotate_left
                            · intro w9 hSw; (try dsimp only at hSw); go_simp; (try with_reducible rfl)
                            try simp only [List.getElem_toArray, List.getElem_cons_succ, List.getElem_cons_zero, Act.put, List.setIfInBounds_toArray, List.set_cons_zero, List.set_cons_succ]
                            try simp only [List.getElem_toArray, List.getElem_cons_succ, List.getElem_cons_zero, Act.put, List.setIfInBounds_toArray, List.set_cons_zero, List.set_cons_succ]
                            refine wpAnyH_done (by kernel_rfl) ?_ _
                            clear hHeld
                            go_wp2_with fail
                            go_roundw
                            case rel => exact ⟨t + 1, by go_num, by omega, by rw [HN1.out], HKt.out.trans (Kept.refl [] _).drew (by simp)⟩
                            case measure => simp [intOf]; omega
                        · have hbi : (ye.i == y.r.s) = false := by simpa using hid
                          have HN1 : Hid (frB y.r (mj.s.take (t + 1)) = false) := by show _ = _; rw [HFs.out, hfb]; simp [hid]
                          clear hfb hid
                          go_upto_region 25 with fail
                          refine wp_region_held_drew (S := fun w' => w'.cell? ⟨g5, o5 + t * 10, none⟩ = some (.int .i64 ye.i) ∧ w'.cell? ⟨g5, o5 + t * 10 + 1, none⟩ = some (.int .i64 ye.q) ∧ w'.cell? ⟨wq.heap.size, 2, none⟩ = some (.int .i64 y.r.s) ∧ w'.cell? ⟨wq.heap.size, 3, none⟩ = some (.int .i64 y.r.q)) (by kernel_rfl) ⟨y0, y1, q2, q3⟩ (fun hHeld => ?_)
                          refine wpAnyH_take (i := 0) (v := ?_) rfl (by kernel_rfl) (by kernel_rfl) (by kernel_rfl) (fun _ _ _ h => h) (Or.inl ⟨by rfl, ?_⟩) hHeld ?_
                          rotate_left
                          · intro w9 hSw; (try dsimp only at hSw); go_simp; (try with_reducible rfl)
                          try simp only [List.getElem_toArray, List.getElem_cons_succ, List.getElem_cons_zero, Act.put, List.setIfInBounds_toArray, List.set_cons_zero, List.set_cons_succ]
                          refine wpAnyH_take (i := 1) (v := ?_) rfl (by kernel_rfl) (by kernel_rfl) (by kernel_rfl) (fun _ _ _ h => h) (Or.inl ⟨by rfl, ?_⟩) hHeld ?_
                          rotate_left
                          · intro w9 hSw; (try dsimp only at hSw); go_simp; (try with_reducible rfl)
                          try simp only [List.getElem_toArray, List.getElem_cons_succ, List.getElem_cons_zero, Act.put, List.setIfInBounds_toArray, List.set_cons_zero, List.set_cons_succ]
                          refine wpAnyH_take (i := 2) (v := ?_) rfl (by kernel_rfl) (by kernel_rfl) (by kernel_rfl) (fun _ _ _ h => h) (Or.inl ⟨by rfl, ?_⟩) hHeld ?_
                          rotate_left
                          · intro w9 hSw; (try dsimp only at hSw); go_simp; (try with_reducible rfl)
                          try simp only [List.getElem_toArray, List.getElem_cons_succ, List.getElem_cons_zero, Act.put, List.setIfInBounds_toArray, List.set_cons_zero, List.set_cons_succ]
                          refine wpAnyH_take (i := 3) (v := ?_) rfl (by kernel_rfl) (by kernel_rfl) (by kernel_rfl) (fun _ _ _ h => h) (Or.inl ⟨by rfl, ?_⟩) hHeld ?_
                          rotate_left
                          · intro w9 hSw; (try dsimp only at hSw); go_simp; (try with_reducible rfl)
                          try simp only [List.getElem_toArray, List.getElem_cons_succ, List.getElem_cons_zero, Act.put, List.setIfInBounds_toArray, List.set_cons_zero, List.set_cons_succ]
                          refine wpAnyH_take (i := 4) (v := ?_) rfl (by kernel_rfl) (by kernel_rfl) (by kernel_rfl) (fun _ _ _ h => h) (Or.inl ⟨by rfl, ?_⟩) hHeld ?_
                          rotate_left
                          · intro w9 hSw; (try dsimp only at hSw); go_simp; (try with_reducible rfl)
                          try simp only [List.getElem_toArray, List.getElem_cons_succ, List.getElem_cons_zero, Act.put, List.setIfInBounds_toArray, List.set_cons_zero, List.set_cons_succ]
                          refine wpAnyH_take (i := 5) (v := ?_) rfl (by kernel_rfl) (by kernel_rfl) (by kernel_rfl) (fun _ _ _ h => h) (Or.inl ⟨by rfl, ?_⟩) hHeld ?_
                          rotate_left
                          · intro w9 hSw; (try dsimp only at hSw); go_simp; (try with_reducible rfl)
                          try simp only [List.getElem_toArray, List.getElem_cons_succ, List.getElem_cons_zero, Act.put, List.setIfInBounds_toArray, List.set_cons_zero, List.set_cons_succ]
                          refine wpAnyH_take (i := 6) (v := ?_) rfl (by kernel_rfl) (by kernel_rfl) (by kernel_rfl) (fun _ _ _ h => h) (Or.inl ⟨by rfl, ?_⟩) hHeld ?_
                          rotate_left
                          · intro w9 hSw; (try dsimp only at hSw); go_simp; (try with_reducible rfl)
                          try simp only [List.getElem_toArray, List.getElem_cons_succ, List.getElem_cons_zero, Act.put, List.setIfInBounds_toArray, List.set_cons_zero, List.set_cons_succ]
                          refine wpAnyH_take (i := 7) (v := ?_) rfl (by kernel_rfl) (by kernel_rfl) (by kernel_rfl) (fun _ _ _ h => h) (Or.inl ⟨by rfl, ?_⟩) hHeld ?_
                          rotate_left
                          · intro w9 hSw; (try dsimp only at hSw); go_simp; (try with_reducible rfl)
                          try simp only [List.getElem_toArray, List.getElem_cons_succ, List.getElem_cons_zero, Act.put, List.setIfInBounds_toArray, List.set_cons_zero, List.set_cons_succ]
                          refine wpAnyH_take (i := 8) (v := ?_) rfl (by kernel_rfl) (by kernel_rfl) (by kernel_rfl) (fun _ _ _ h => h) (Or.inl ⟨by rfl, ?_⟩) hHeld ?_
                          rotate_left
                          · intro w9 hSw; (try dsimp only at hSw); go_simp; (try with_reducible rfl)
                          try simp only [List.getElem_toArray, List.getElem_cons_succ, List.getElem_cons_zero, Act.put, List.setIfInBounds_toArray, List.set_cons_zero, List.set_cons_succ]
                          refine wpAnyH_take (i := 9) (v := ?_) rfl (by kernel_rfl) (by kernel_rfl) (by kernel_rfl) (fun _ _ _ h => h) (Or.inl ⟨by rfl, ?_⟩) hHeld ?_
                          rotate_left
                          · intro w9 hSw; (try dsimp only at hSw); go_simp; (try with_reducible rfl)
                          try simp only [List.getElem_toArray, List.getElem_cons_succ, List.getElem_cons_zero, Act.put, List.setIfInBounds_toArray, List.set_cons_zero, List.set_cons_succ]
                          refine wpAnyH_take (i := 10) (v := ?_) rfl (by kernel_rfl) (by kernel_rfl) (by kernel_rfl) (fun _ _ _ h => h) (Or.inl ⟨by rfl, ?_⟩) hHeld ?_
                          rotate_left
                          · intro w9 hSw; (try dsimp only at hSw); go_simp; (try with_reducible rfl)
                          try simp only [List.getElem_toArray, List.getElem_cons_succ, List.getElem_cons_zero, Act.put, List.setIfInBounds_toArray, List.set_cons_zero, List.set_cons_succ]
                          refine wpAnyH_take (i := 11) (v := undef) rfl (by kernel_rfl) (by kernel_rfl) (by kernel_rfl) (fun _ _ _ h => h) (Or.inr ⟨by rfl, rfl⟩) hHeld ?_
                          try simp only [List.getElem_toArray, List.getElem_cons_succ, List.getElem_cons_zero, Act.put, List.setIfInBounds_toArray, List.set_cons_zero, List.set_cons_succ]
                          refine wpAnyH_take (i := 12) (v := undef) rfl (by kernel_rfl) (by kernel_rfl) (by kernel_rfl) (fun _ _ _ h => h) (Or.inr ⟨by rfl, rfl⟩) hHeld ?_
                          try simp only [List.getElem_toArray, List.getElem_cons_succ, List.getElem_cons_zero, Act.put, List.setIfInBounds_toArray, List.set_cons_zero, List.set_cons_succ]
                          refine wpAnyH_take (i := 13) (v := undef) rfl (by kernel_rfl) (by kernel_rfl) (by kernel_rfl) (fun _ _ _ h => h) (Or.inr ⟨by rfl, rfl⟩) hHeld ?_
                          try simp only [List.getElem_toArray, List.getElem_cons_succ, List.getElem_cons_zero, Act.put, List.setIfInBounds_toArray, List.set_cons_zero, List.set_cons_succ]
                          refine wpAnyH_take (i := 14) (v := undef) rfl (by kernel_rfl) (by kernel_rfl) (by kernel_rfl) (fun _ _ _ h => h) (Or.inr ⟨by rfl, rfl⟩) hHeld ?_
                          try simp only [List.getElem_toArray, List.getElem_cons_succ, List.getElem_cons_zero, Act.put, List.setIfInBounds_toArray, List.set_cons_zero, List.set_cons_succ]
                          refine wpAnyH_take (i := 15) (v := undef) rfl (by kernel_rfl) (by kernel_rfl) (by kernel_rfl) (fun _ _ _ h => h) (Or.inr ⟨by rfl, rfl⟩) hHeld ?_
                          try simp only [List.getElem_toArray, List.getElem_cons_succ, List.getElem_cons_zero, Act.put, List.setIfInBounds_toArray, List.set_cons_zero, List.set_cons_succ]
                          refine wpAnyH_take (i := 16) (v := undef) rfl (by kernel_rfl) (by kernel_rfl) (by kernel_rfl) (fun _ _ _ h => h) (Or.inr ⟨by rfl, rfl⟩) hHeld ?_
                          try simp only [List.getElem_toArray, List.getElem_cons_succ, List.getElem_cons_zero, Act.put, List.setIfInBounds_toArray, List.set_cons_zero, List.set_cons_succ]
                          refine wpAnyH_take (i := 17) (v := undef) rfl (by kernel_rfl) (by kernel_rfl) (by kernel_rfl) (fun _ _ _ h => h) (Or.inr ⟨by rfl, rfl⟩) hHeld ?_
                          try simp only [List.getElem_toArray, List.getElem_cons_succ, List.getElem_cons_zero, Act.put, List.setIfInBounds_toArray, List.set_cons_zero, List.set_cons_succ]
                          refine wpAnyH_take (i := 18) (v := undef) rfl (by kernel_rfl) (by kernel_rfl) (by kernel_rfl) (fun _ _ _ h => h) (Or.inr ⟨by rfl, rfl⟩) hHeld ?_
                          try simp only [List.getElem_toArray, List.getElem_cons_succ, List.getElem_cons_zero, Act.put, List.setIfInBounds_toArray, List.set_cons_zero, List.set_cons_succ]
                          refine wpAnyH_take (i := 19) (v := ?_) rfl (by kernel_rfl) (by kernel_rfl) (by kernel_rfl) (fun _ _ _ h => h) (Or.inl ⟨by rfl, ?_⟩) hHeld ?_
                          rotate_left
                          · intro w9 hSw; (try dsimp only at hSw); go_simp; (try with_reducible rfl)
                          try simp only [List.getElem_toArray, List.getElem_cons_succ, List.getElem_cons_zero, Act.put, List.setIfInBounds_toArray, List.set_cons_zero, List.set_cons_succ]
                          refine wpAnyH_take (i := 20) (v := ?_) rfl (by kernel_rfl) (by kernel_rfl) (by kernel_rfl) (fun _ _ _ h => h) (Or.inl ⟨by rfl, ?_⟩) hHeld ?_
                          rotate_left
                          · intro w9 hSw; (try dsimp only at hSw); go_simp; (try with_reducible rfl)
                          try simp only [List.getElem_toArray, List.getElem_cons_succ, List.getElem_cons_zero, Act.put, List.setIfInBounds_toArray, List.set_cons_zero, List.set_cons_succ]
                          refine wpAnyH_take (i := 21) (v := undef) rfl (by kernel_rfl) (by kernel_rfl) (by kernel_rfl) (fun _ _ _ h => h) (Or.inr ⟨by rfl, rfl⟩) hHeld ?_
                          try simp only [List.getElem_toArray, List.getElem_cons_succ, List.getElem_cons_zero, Act.put, List.setIfInBounds_toArray, List.set_cons_zero, List.set_cons_succ]
                          refine wpAnyH_take (i := 22) (v := undef) rfl (by kernel_rfl) (by kernel_rfl) (by kernel_rfl) (fun _ _ _ h => h) (Or.inr ⟨by rfl, rfl⟩) hHeld ?_
                          try simp only [List.getElem_toArray, List.getElem_cons_succ, List.getElem_cons_zero, Act.put, List.setIfInBounds_toArray, List.set_cons_zero, List.set_cons_succ]
                          refine wpAnyH_take (i := 23) (v := undef) rfl (by kernel_rfl) (by kernel_rfl) (by kernel_rfl) (fun _ _ _ h => h) (Or.inr ⟨by rfl, rfl⟩) hHeld ?_
                          try simp only [List.getElem_toArray, List.getElem_cons_succ, List.getElem_cons_zero, Act.put, List.setIfInBounds_toArray, List.set_cons_zero, List.set_cons_succ]
                          refine wpAnyH_take (i := 24) (v := ?_) rfl (by kernel_rfl) (by kernel_rfl) (by kernel_rfl) (fun _ _ _ h => h) (Or.inl ⟨by rfl, ?_⟩) hHeld ?_
                          rotate_left
                          · intro w9 hSw; (try dsimp only at hSw); go_simp; (try with_reducible rfl)
                          try simp only [List.getElem_toArray, List.getElem_cons_succ, List.getElem_cons_zero, Act.put, List.setIfInBounds_toArray, List.set_cons_zero, List.set_cons_succ]
                          refine wpAnyH_take (i := 25) (v := ?_) rfl (by kernel_rfl) (by kernel_rfl) (by kernel_rfl) (fun _ _ _ h => h) (Or.inl ⟨by rfl, ?_⟩) hHeld ?_
                          rotate_left
                          · intro w9 hSw; (try dsimp only at hSw); go_simp; (try with_reducible rfl)
                          try simp only [List.getElem_toArray, List.getElem_cons_succ, List.getElem_cons_zero, Act.put, List.setIfInBounds_toArray, List.set_cons_zero, List.set_cons_succ]
                          refine wpAnyH_take (i := 26) (v := ?_) rfl (by kernel_rfl) (by kernel_rfl) (by kernel_rfl) (fun _ _ _ h => h) (Or.inl ⟨by rfl, ?_⟩) hHeld ?_
                          rotate_left
                          · intro w9 hSw; (try dsimp only at hSw); go_simp; (try with_reducible rfl)
                          try simp only [List.getElem_toArray, List.getElem_cons_succ, List.getElem_cons_zero, Act.put, List.setIfInBounds_toArray, List.set_cons_zero, List.set_cons_succ]
                          try simp only [List.getElem_toArray, List.getElem_cons_succ, List.getElem_cons_zero, Act.put, List.setIfInBounds_toArray, List.set_cons_zero, List.set_cons_succ]
                          refine wpAnyH_done (by kernel_rfl) ?_ _
                          clear hHeld
                          go_wp2_with fail
                          go_roundw
                          case rel => exact ⟨t + 1, by go_num, by omega, by rw [HN1.out], HKt.out.trans (Kept.refl [] _).drew (by simp)⟩
                          case measure => simp [intOf]; omega
                    · have htl' : ¬ (t : Int) < mj.s.length := by omega
                      have htn : mj.s.take t = mj.s := List.take_of_length_le (by omega)
                      rw [htn]
                      clear htn
                      have HB11 := hide (HB10.out.kept HKt.out)
                      have HT11 := hide (HT10.out.trans (Tk.kept HKt.out))
                      have HP11 := hide (HP10.out.kept HKt.out)
                      have HO11 := hide (HO10.out.kept HKt.out)
                      have HK11 := hide (HK10.out.trans HKt.out (by simp))
                      have cA := lvB_apply HB11.out HT11.out.size HFj.out.f (by omega) y (HXj.out _ HK11.out)
                      have HF12 : Hid (RdF (nj + 1) m (apM 2 3 mj y.r)) := ⟨HFj.out.f.step (by omega) _, HLo2.out.1.trans HFj.out.g⟩
                      obtain ⟨q0, q1, _, _, q4, q5, q6, q7, q8, q9, q10⟩ := (HQ9.out.kept HKt.out).cells
                      have hav : Hid (frB y.r mj.s = true → apV 2 mj y.r = pv) := fun h => HLo2.out.2 (frB_true h)
                      generalize apV 2 mj y.r = av at *
                      generalize apM 2 3 mj y.r = m12 at *
                      obtain ⟨wp, hwp⟩ : ∃ wp, wp = wr := ⟨_, rfl⟩
                      subst hwp
                      cases hfb : frB y.r mj.s with
                      | true =>
                        have hv := hav.out hfb
                        subst hv
                        clear hfb
                        go_wp2_with fail
                        refine cA.mono ?_
                        rintro _ w12 ⟨a12, n12, c12, rfl, HO12, HA12, HT12, HU12⟩
                        obtain ⟨w13, hw13⟩ : ∃ w13, w13 = w12.alloc (.cells (vdL av (.slice a12 n12 c12)).toArray 30) := ⟨_, rfl⟩
                        have hK13 : Kept [] w12 w13 := by rw [hw13]; exact (Kept.refl _ _).alloc _
                        have HB13 : Hid (VdB w13 w12.heap.size av (.slice a12 n12 c12)) := by rw [hw13]; exact vd_new _ _ _
                        have HP13 : Hid (VdB w13 w8.heap.size av (.slice a8 n8 c8')) := hK13.at (HT12.out.at_ _ _ _ _ HP11.out (by decide)) (by simp)
                        have HA13 := hide (HA12.out.kept hK13)
                        have HT13 := hide ((HT11.out.trans HT12.out).trans (Tk.kept hK13))
                        have cK := alikeT_call w13 av _ _ (HO12.out.kept hK13).ko ((HU12.out _ _ HO11.out).kept hK13).ko
                        obtain ⟨F13, hL13, _⟩ := id HA13.out
                        have cQ := fun W' (hk : Kept [] w13 W') => mApplied_call (hL13.kept hk)
                        rw [HF12.out.f.a] at cQ
                        rw [show ((nj + 1 : Nat) : Int) = (nj : Int) + 1 by omega] at cQ
                        obtain ⟨s0, s1, s2, s3, s4, s5, s6⟩ := HB13.out.cells
                        obtain ⟨t0, t1, t2, t3, t4, t5, t6⟩ := HP13.out.cells
                        have HK13 := hide HA13.out.lv.keeps
                        unfold vtV at cK
                        unfold vdL at hw13
                        clear cA q0 q1 q2 q3 q4 q5 q6 q7 q8 q9 q10 hK13 hL13
                        go_upto_region 27 with fail
                        rw [← hw13]
                        clear hw13
                        go_wp2_with fail
                        refine cK.mono ?_
                        rintro _ w14 ⟨rfl, hK14⟩
                        have HA14 := hide (HA13.out.kept hK14)
                        have HT14 := hide (HT13.out.trans (Tk.kept hK14))
                        have HK14 := hide (HK13.out.trans hK14 (by simp))
                        have cQ1 := cQ _ hK14
                        clear cK cQ hK14 s0 s1 s2 s3 s4 s5 s6 t0 t1 t2 t3 t4 t5 t6
                        go_wp2_with fail
                        refine cQ1.mono ?_
                        rintro _ W0 ⟨rfl, hW0⟩
                        obtain rfl := hW0.symm
                        go_wp2_with fail
                        go_roundw
                        case rel => exact ⟨j + 1, nj + 1, m12, by go_num, by omega, HA14, HT14, HF12, by show _ ≤ _; omega, HK14⟩
                        case measure => simp [intOf]; omega
                      | false =>
                        clear hfb
                        go_wp2_with fail
                        refine cA.mono ?_
                        rintro _ w12 ⟨a12, n12, c12, rfl, HO12, HA12, HT12, HU12⟩
                        obtain ⟨w13, hw13⟩ : ∃ w13, w13 = w12.alloc (.cells (vdL av (.slice a12 n12 c12)).toArray 30) := ⟨_, rfl⟩
                        have hK13 : Kept [] w12 w13 := by rw [hw13]; exact (Kept.refl _ _).alloc _
                        have HA13 := hide (HA12.out.kept hK13)
                        have HT13 := hide ((HT11.out.trans HT12.out).trans (Tk.kept hK13))
                        obtain ⟨F13, hL13, _⟩ := id HA13.out
                        have cQ := mApplied_call hL13
                        rw [HF12.out.f.a] at cQ
                        rw [show ((nj + 1 : Nat) : Int) = (nj : Int) + 1 by omega] at cQ
                        have HK13 := hide HA13.out.lv.keeps
                        unfold vdL at hw13
                        clear cA q0 q1 q2 q3 q4 q5 q6 q7 q8 q9 q10 hK13 hL13
                        go_upto_region 27 with fail
                        rw [← hw13]
                        clear hw13
                        go_wp2_with fail
                        refine cQ.mono ?_
                        rintro _ W0 ⟨rfl, hW0⟩
                        obtain rfl := hW0.symm
                        go_wp2_with fail
                        go_roundw
                        case rel => exact ⟨j + 1, nj + 1, m12, by go_num, by omega, HA13, HT13, HF12, by show _ ≤ _; omega, HK13⟩
                        case measure => simp [intOf]; omega
              · have hb3 : (y.r.k != 3) = true := by simp; omega
                have hb4 : (y.r.k != 4) = true := by simp; omega
                have hb5 : (y.r.k != 5) = true := by simp; omega
                have he3 : (y.r.k == 3) = false := by simp; omega
                have he4 : (y.r.k == 4) = false := by simp; omega
                have he5 : (y.r.k == 5) = false := by simp; omega
                clear hlk
                go_wp2_with fail
                go_roundw
                case rel => exact ⟨j + 1, nj, mj, by go_num, by omega, HA7, HT7, HFj, by show _ ≤ _; omega, HK7⟩
                case measure => simp [intOf]; omega
            · have hjt' : ¬ (j : Int) < k := by omega
              have HO14 := hide (ko_tk HO6.out HTj.out)
              obtain ⟨F, hLF, _⟩ := id HAj.out
              have cC := mCommits_call hLF (by have := HFj.out.f.g; have := HNj.out; have := HN.out; omega)
              rw [HFj.out.g] at cC
              have HKe : Hid (Kept [] W wr) := HK1.out.trans HKj.out (by simp)
              clear hLF
              go_wp2_with fail
              refine cC.mono ?_
              rintro _ wA ⟨vA, KA, rfl, hkA, hrA, hoA, hKA⟩
              obtain ⟨aA, cA', eA, hsA, _⟩ := hrA.sl hoA
              obtain ⟨nA, hnA⟩ : ∃ nA, nA = KA.length := ⟨_, rfl⟩
              rw [← hnA] at eA hsA
              subst eA
              obtain ⟨K8, hr8, ho8, he8⟩ := HO14.out.kept hKA
              obtain ⟨aB, cB, eB, hsB, _⟩ := RowK.sl hr8 ho8
              obtain ⟨nB, hnB⟩ : ∃ nB, nB = K8.length := ⟨_, rfl⟩
              rw [← hnB] at eB hsB
              cases eB
              have cM := samecs_call wA _ _ _ _ _ _ K8 KA hsB hsA (by rw [he8, hkA])
              have HKA := hide hKA
              clear hkA hrA hoA hKA hsA hr8 ho8 he8 hsB hnA hnB cC
              go_wp2_with fail
              refine cM.mono ?_
              rintro _ wB ⟨rfl, hKB⟩
              have HKB := hide (HKA.out.trans hKB (by simp))
              clear hKB cM
              go_wp2_with fail
              go_ret
              exact ⟨rfl, HKe.out.trans HKB.out (by simp)⟩
    · have hrf := roomR_no hr2
      rw [hrf] at cR2
      clear hr hr2 hrf
      go_wp2_with (first
        | (go_at_call 7; refine cR.mono ?_; clear cR; rintro _ W0 ⟨rfl, hW0⟩; obtain rfl := hW0.symm)
        | (go_at_call 7; refine cR2.mono ?_; clear cR2; rintro _ W0 ⟨rfl, hW0⟩; obtain rfl := hW0.symm))
      go_ret
      exact ⟨rfl, HK1.out⟩
  · have hrf := roomR_no hr
    rw [hrf] at cR
    clear hr hrf cR2
    go_wp2_with (go_at_call 7; refine cR.mono ?_; clear cR; rintro _ W0 ⟨rfl, hW0⟩; obtain rfl := hW0.symm)
    go_ret
    exact ⟨rfl, HK1.out⟩

end Go.Proofs.YthhlfehdnefgoabGreat
