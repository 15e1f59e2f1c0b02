/-
  MachineLegal: the walk.
-/
import Derived.Test.YthhlfehdnefgoaaGreatMaLoop
import Derived.Test.YthhlfehdnefgoaaGreatGrLegF
import Derived.Laws.MakeOwn
namespace Go.Proofs.YthhlfehdnefgoaaGreat
open Go.RowKit

/-- Marks in a block: those from 1 to h. -/
def MkAt (w : World) (b N h : Nat) : Prop := w.heap[b]? = some (.cells (((List.range N).map fun k => Value.bool (decide (1 ≤ k ∧ k ≤ h))).toArray) 4 (0, 0))

theorem MkAt.cell {w : World} {b N h : Nat} (hm : MkAt w b N h) {k : Nat} (hk : k < N) : w.cell? ⟨b, k, none⟩ = some (.bool (decide (1 ≤ k ∧ k ≤ h))) :=
  cell_inC hm (by simp [hk])

theorem MkAt.new {w : World} {b N : Nat} (h : w.heap[b]? = some (.cells (madeCells #[.bool false] N) 4 (0, 0))) : MkAt w b N 0 := by
  unfold MkAt
  rw [h]
  congr 2
  apply Array.ext'
  rw [toList_madeCells_one]
  refine List.ext_getElem (by simp) fun i h1 h2 => ?_
  simp
  omega

theorem MkAt.set {w : World} {b N h : Nat} (hm : MkAt w b N h) {q h' : Nat} (hq : 1 ≤ q) (hqN : q < N) (hh : (h' = h ∧ q ≤ h) ∨ (h' = h + 1 ∧ q = h + 1)) : MkAt (w.setCell ⟨b, q, none⟩ (.bool true)) b N h' := by
  unfold MkAt
  rw [heap_setCell_same _ _ q _ _ _ hm]
  congr 2
  apply Array.ext_getElem?
  intro i
  rw [Array.getElem?_setIfInBounds]
  by_cases e : q = i
  · subst e
    simp [hqN]
    omega
  · rw [if_neg e]
    by_cases hi : i < N
    · rcases hh with ⟨rfl, _⟩ | ⟨rfl, rfl⟩
      · rfl
      · rw [List.getElem?_toArray, List.getElem?_toArray, List.getElem?_map, List.getElem?_map, List.getElem?_range hi]
        simp only [Option.map_some, Option.some.injEq, Value.bool.injEq, decide_eq_decide]
        omega
    · simp [hi]

/-- Behind so many requests. -/
def LgM (w0 : World) (b : Nat) (p : Pl) (br N : Nat) (D : List Rm) (nv iv : Value) (wr : World) : Prop := ∃ i : Nat, iv = .int .i64 (i : Int) ∧ i ≤ D.length ∧ nv = .int .i64 ((apAll (newM [0, 1, 2]) (D.take i)).g.cs.length : Int) ∧ Hid (Lv w0 wr b p (apAll (newM [0, 1, 2]) (D.take i))) ∧ Hid (MkAt wr br N (apAll (newM [0, 1, 2]) (D.take i)).g.cs.length) ∧ Hid (w0.heap.size ≤ br)

theorem Lv.set {w0 w : World} {b : Nat} {p : Pl} {m : Ma} (h : Lv w0 w b p m) {br N k : Nat} (hb : MkAt w br N k) (hlt : w0.heap.size ≤ br) (q : Nat) (v : Value) : Lv w0 (w.setCell ⟨br, q, none⟩ v) b p m := by
  obtain ⟨F, S, vt, X, h1, h2, h3, h4, h5, h6⟩ := h
  have k : Kept [br] w (w.setCell ⟨br, q, none⟩ v) := (Kept.refl _ _).setCell (by simp) _
  have hT : Typed w [br] [4] := typed1 hb
  refine ⟨F, S, vt, X, ⟨k.typed hT h1.at_ (by decide), h1.g.keep k (fun i hi hm => ?_) hT (by decide) (by decide) (by decide), h1.t.keep k (fun i hi hm => ?_) hT (by decide) (by decide), h1.e.keep k hT (by decide) (by decide)⟩, h2, h3.trans k (fun i hi => .inr (by simp at hi; omega)), h4, (fun i hi => by cases hi), h6⟩
  · rw [List.mem_singleton] at hm
    rw [hm] at hi
    have := h1.g.typed _ hi _ _ _ hb
    simp at this
  · rw [List.mem_singleton] at hm
    rw [hm] at hi
    obtain ⟨cur', t, hh, ht⟩ := h1.t.typed hi
    rw [show w.heap[br]? = _ from hb] at hh
    cases hh
    rcases ht with ht | ht <;> simp at ht

theorem info_bool : (Tryz.prog.info? 4).map (fun i => (i.zero, i.size, i.bytes)) = some (some (.bool false), 1, 1) := by kernel_rfl

set_option maxHeartbeats 16000000 in
set_option maxRecDepth 100000 in
theorem mlegal_walk (W : World) (ao : Option Addr) (n c : Nat) (D : List Rm) (hD : SlR W ao n c D) :
    Calls Tryz.prog 6 #[.slice ao n c] W fun e w' => e = .returned (.bool true) ∧ Kept [] W w' := by
  have cW := awakeM_call W
  have hc := hD.2.1
  have hmx := hD.2.2.1
  unfold maxLen at hmx
  have HD := hide hD
  have HL := hide hD.1
  clear hD
  go_enter Tryz.func6, Tryz.ntmps6
  go_wp2_with fail
  refine cW.mono ?_
  rintro _ w1 ⟨rfl, hK1⟩
  have HDw := hide (HD.out.kept hK1)
  have HK1 := hide hK1
  have cR := roomR_call w1 ao n c D HDw.out 100
  rw [show ((100 : Nat) : Int) = 100 from rfl] at cR
  clear cW hK1
  by_cases hr : RoomR 100 D
  · rw [roomR_ok hr] at cR
    have HR := hide hr
    have hn100 : n ≤ 100 := by rw [← HL.out]; exact hr.1
    have cF := lv_fresh w1
    obtain ⟨i0, hi0, hz0, hz1, hz2⟩ := info_parts info_bool
    have hmk : ∀ w : World, (Instr.makeSlice 51 (.int .i64 ((n : Int) + 2)) (.int .i64 ((n : Int) + 2))).run Tryz.prog w = .ok (.slice (some ⟨w.heap.size, 0, none⟩) (n + 2) (n + 2)) (w.alloc (.cells (madeCells #[.bool false] (n + 2)) 4)) := fun w => by
      have := run_makeSlice w 51 4 i0 (.bool false) Tryz.underlying51 hi0 hz0 .i64 .i64 ((n : Int) + 2) ((n : Int) + 2) (by omega) (Int.le_refl _) (by rw [hz1]; omega) (by rw [hz2]; omega) (by omega)
      rw [hz1] at this
      rw [this]
      rw [show ((n : Int) + 2).toNat = n + 2 by omega, Nat.mul_one]
      rfl
    clear hr hi0 hz0 hz1 hz2
    go_wp2_with (go_at_call 15; refine cR.mono ?_; clear cR; rintro _ W0 ⟨rfl, hW0⟩; obtain rfl := hW0.symm)
    refine cF.mono ?_
    rintro _ w3 ⟨b, p, rfl, hLv⟩
    have hz3 := hLv.keeps.size
    have HLv := hide hLv
    clear hLv cF
    go_upto_region 9 with fail
    obtain ⟨w4, hw4⟩ : ∃ w4, w4 = w3.alloc (.cells (madeCells #[.bool false] (n + 2)) 4) := ⟨_, rfl⟩
    have HL4 : Hid (Lv w1 w4 b p (newM [0, 1, 2])) := by rw [hw4]; exact HLv.out.kept ((Kept.refl _ _).alloc _)
    have HM4 : Hid (MkAt w4 w3.heap.size (n + 2) 0) := by rw [hw4]; exact MkAt.new (heap_alloc_new w3 _)
    have HZ3 := hide hz3
    rw [← hw4]
    clear hw4 hmk hz3
    generalize w3.heap.size = br at *
    go_wp2_with fail
    go_loopw [5, 6] (fun nv iv wr => LgM w1 b p br (n + 2) D nv iv wr) (fun _ iv _ => n - (intOf iv).toNat)
    case atStart => exact ⟨0, rfl, Nat.zero_le _, rfl, HL4, HM4, HZ3⟩
    case round =>
      obtain ⟨i, rfl, hi, rfl, HLr, HMr, _⟩ := hrel
      have hil : i ≤ n := by rw [← HL.out]; exact hi
      have hf := apF_take apF_new hi (by have := HR.out.1; omega)
      have HF := hide hf
      have hg := hf.g
      by_cases hlt : i < n
      · have hlt' : (i : Int) < n := by omega
        have hic : i ≤ c := by omega
        have hiD : i < D.length := by rw [HL.out]; exact hlt
        obtain ⟨g, o, he, hat⟩ := HDw.out.2.2.2.1 i hiD
        subst he
        obtain ⟨c0, c1, c2, c3, c4, c5, c6, c7, c8, c9, c10⟩ := hat.kept HLr.out.keeps (by simp)
        have cA := lv_apply HLr.out hf (by omega) D[i] ⟨(HDw.out.2.2.2.2 _ (List.getElem_mem hiD)).kept HLr.out.keeps, HR.out.2 _ (List.getElem_mem hiD)⟩
        have ha := hf.a
        have HLd := hide (landed (al := 2) (sz := 3) hf.l D[i].r (by omega))
        have HT := hide (apAll_take (m := newM [0, 1, 2]) hiD)
        rw [← HT.out] at cA HLd
        generalize apV 2 (apAll (newM [0, 1, 2]) (D.take i)) D[i].r = vv at *
        generalize hh1 : (apAll (newM [0, 1, 2]) (D.take i)).g.cs.length = h1 at *
        generalize hh2 : (apAll (newM [0, 1, 2]) (D.take (i + 1))).g.cs.length = h2 at *
        have HH2 := hide hh2
        generalize D[i] = y at *
        clear hat hf hh1 hh2
        go_wp2_with fail
        refine cA.mono ?_
        rintro _ w5 ⟨a5, n5, c5', rfl, _, HL5, HO5⟩
        obtain ⟨w6, hw6⟩ : ∃ w6, w6 = w5.alloc (.cells (vdL vv (.slice a5 n5 c5')).toArray 28) := ⟨_, rfl⟩
        have hK6 : Kept [] w5 w6 := by rw [hw6]; exact (Kept.refl _ _).alloc _
        have HB6 : Hid (VdB w6 w5.heap.size vv (.slice a5 n5 c5')) := by rw [hw6]; exact vd_new _ _ _
        have HM6 : Hid (MkAt w6 br (n + 2) h1) := hK6.at (HO5.out.at HMr.out (by decide)) (by simp)
        have HL6 := hide (HL5.out.kept hK6)
        obtain ⟨b0, _, b2, _, _, _, _⟩ := HB6.out.cells
        unfold vdL at hw6
        clear cA c0 c1 c2 c3 c4 c5 c6 c7 c8 c9 c10 hK6
        go_upto_region 14 with fail
        rw [← hw6]
        clear hw6
        by_cases hcd : vv.c = 2
        · have hcb : (vv.c == 2) = true := by simpa using hcd
          have hcn : (vv.c != 2) = false := by simp [hcd]
          have hld := HLd.out.1 hcd
          obtain ⟨rn, hrn⟩ : ∃ rn : Nat, vv.r = rn := ⟨vv.r.toNat, by rcases hld with h | h <;> omega⟩
          rw [hrn] at b2 hld
          have hr1 : ¬ (rn : Int) < 1 := by rcases hld with h | h <;> omega
          have hr2 : ¬ (n : Int) < rn := by rcases hld with h | h <;> omega
          have hr3 : rn < n + 2 := by omega
          have hm := HM6.out.cell (k := rn) hr3
          have hfz := froz3 HM6.out rn
          rcases hld with ⟨e1, e2⟩ | ⟨e1, e2, e3⟩
          · -- it is new
            have hd : decide (1 ≤ rn ∧ rn ≤ h1) = false := by simp; omega
            rw [hd] at hm
            have HM7 : Hid (MkAt (w6.setCell ⟨br, rn, none⟩ (.bool true)) br (n + 2) h2) := HM6.out.set (by omega) hr3 (.inr ⟨e1, by omega⟩)
            have HL7 := hide (HL6.out.set HM6.out HZ3.out rn (.bool true))
            have hn2 : (h1 : Int) + 1 = h2 := by omega
            clear hd hcd e1 e2
            go_wp2_with fail
            go_roundw
            case rel => exact ⟨i + 1, by go_num, by omega, by rw [HH2.out], HL7, by rw [HH2.out]; exact HM7, HZ3⟩
            case measure => simp [intOf]; omega
          · have hd : decide (1 ≤ rn ∧ rn ≤ h1) = true := by simp; omega
            rw [hd] at hm
            have HM7 : Hid (MkAt (w6.setCell ⟨br, rn, none⟩ (.bool true)) br (n + 2) h2) := HM6.out.set (by omega) hr3 (.inl ⟨e1, by omega⟩)
            have HL7 := hide (HL6.out.set HM6.out HZ3.out rn (.bool true))
            clear hd hcd e2 e3
            subst e1
            go_wp2_with fail
            go_roundw
            case rel => exact ⟨i + 1, by go_num, by omega, by rw [HH2.out], HL7, by rw [HH2.out]; exact HM7, HZ3⟩
            case measure => simp [intOf]; omega
        · have hcb : (vv.c == 2) = false := by simpa using hcd
          have hcn : (vv.c != 2) = true := by simp [hcd]
          have e1 := HLd.out.2.1 hcd
          clear hcd
          subst e1
          go_wp2_with fail
          go_roundw
          case rel => exact ⟨i + 1, by go_num, by omega, by rw [HH2.out], HL6, by rw [HH2.out]; exact HM6, HZ3⟩
          case measure => simp [intOf]; omega
      · have hlt' : ¬ (i : Int) < n := by omega
        generalize apAll (newM [0, 1, 2]) (D.take i) = m at *
        obtain ⟨F, hLF⟩ := id HLr.out
        have cC := mCommits_call hLF (by omega)
        have cH := fun W' (hk : Kept [] wr W') => mHead_call (hLF.kept hk)
        have HRe := hide HF.out.ok.g
        have hgm : m.g.cs.length ≤ 1000000 := by omega
        clear hLF
        go_wp2_with (first
          | (go_at_call 24; refine cC.mono ?_; clear cC; rintro _ w6 ⟨v6, K6, rfl, hk6, hr6, ho6, hK6⟩
             obtain ⟨a6, c6, rfl, hs6, _⟩ := hr6.sl ho6
             have cG := legal_call w6 a6 _ c6 K6 hs6 (by have := congrArg List.length hk6; simp at this; omega) (by rw [hk6]; exact HRe.out.legal)
             have HK6 := hide hK6
             clear hk6 hr6 ho6 hK6 hs6)
          | (go_at_call 23; refine cG.mono ?_; clear cG; rintro _ w7 ⟨rfl, hK7⟩; have HK7 := hide (HK6.out.trans hK7 (by simp)); clear hK7)
          | (go_at_call 21; refine (cH _ HK7.out).mono ?_; clear cH; rintro _ W0 ⟨rfl, hW0⟩; obtain rfl := hW0.symm))
        go_ret
        exact ⟨by first | rfl | simp, (HK1.out.trans HLr.out.keeps (by simp)).trans HK7.out (by simp)⟩
  · have hrf := roomR_no hr
    rw [hrf] at cR
    clear hr hrf
    go_wp2_with (go_at_call 15; refine cR.mono ?_; clear cR; rintro _ W0 ⟨rfl, hW0⟩; obtain rfl := hW0.symm)
    go_ret
    exact ⟨rfl, HK1.out⟩

end Go.Proofs.YthhlfehdnefgoaaGreat
