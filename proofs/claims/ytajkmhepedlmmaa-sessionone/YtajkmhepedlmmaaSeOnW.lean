/-
  SessionOne: the walk.
-/
import Derived.Test.YtajkmhepedlmmaaSeLive
import Derived.Test.YtajkmhepedlmmaaSeOnP0
import Derived.Test.YtajkmhepedlmmaaSeRoom
import Derived.BigQuiet
namespace Go.Proofs.Ytajkmhepedlmmaa
open Go.RowKit

def OnI (w1 : World) (b sz n : Nat) (iv : Value) (wr : World) : Prop := ∃ (i : Nat) (L : List Se), iv = .int .i64 (i : Int) ∧ i ≤ n ∧ Hid (LiveT w1 wr b sz L) ∧ Hid (Uniq L)

def WsI (w3 : World) (n : List UInt8) (id : Int) (L : List Se) (wv kv : Value) (wr : World) : Prop := ∃ k : Nat, kv = .int .i64 (k : Int) ∧ k ≤ L.length ∧ wv = .int .i64 (wasI n id (L.take k)) ∧ Hid (Kept [] w3 wr)

set_option maxHeartbeats 16000000 in
set_option maxRecDepth 100000 in
theorem sone_walk (W : World) (size : Int) (ao : Option Addr) (n c : Nat) (D : List (Dd × Value)) (hD : SlDd W ao n c D) :
    Calls Try.prog 8 #[.int .i64 size, .slice ao n c] W fun e w' => e = .returned (.bool true) ∧ Kept [] W w' := by
  have cW := awakeT_call W
  have hc := hD.2.1
  have hm := hD.2.2.1
  unfold maxLen at hm
  have HD := hide hD
  have HL := hide hD.1
  clear hD
  go_enter Try.func8, Try.ntmps8
  go_wp2_with fail
  refine cW.mono ?_
  rintro _ w0 ⟨rfl, hK0⟩
  have cR := roomD_call w0 ao n c D (HD.out.kept hK0)
  clear cW
  go_wp2_with fail
  refine cR.mono ?_
  rintro _ w1 ⟨r, rfl, hr, hK1⟩
  have HK1 := hide (hK0.trans hK1 (by simp))
  clear cR hK0 hK1
  cases r with
  | false =>
    go_wp2_with fail
    go_ret
    exact ⟨rfl, HK1.out⟩
  | true =>
    have hn := hr rfl
    clear hr
    by_cases hs : 1 ≤ size ∧ size ≤ 16
    · obtain ⟨sz, rfl⟩ : ∃ sz : Nat, size = sz := ⟨size.toNat, by omega⟩
      have cN := liveT_new w1 sz (by omega) (by omega)
      go_wp2_with fail
      refine cN.mono ?_
      rintro _ w2 ⟨b, rfl, hT2⟩
      have HT2 := hide hT2
      clear cN hT2
      go_wp2_with fail
      go_loopw [7] (fun iv wr => OnI w1 b sz n iv wr) (fun iv _ => n - (intOf iv).toNat)
      case atStart => exact ⟨0, [], rfl, Nat.zero_le _, HT2, uniq_nil⟩
      case round =>
        obtain ⟨i, L, rfl, hi, HLv0, HUq0⟩ := hrel
        by_cases hlt : i < n
        · have hlt' : (i : Int) < n := by omega
          have hic : i ≤ c := by omega
          have hiD : i < D.length := by rw [HL.out]; exact hlt
          have hDw := HD.out.kept (HK1.out.trans HLv0.out.keeps (by simp))
          obtain ⟨g, o, he, hx⟩ := hDw.2.2.2.1 i hiD
          subst he
          obtain ⟨hko, hod⟩ := hDw.2.2.2.2 _ (List.getElem_mem hiD)
          obtain ⟨mo, mm, mc, hm2⟩ := hko.one
          obtain ⟨x0, x1, x2, x3, x4, x5, x6, x7, x8, x9, x10⟩ := hx
          rw [hm2] at x9 hko
          generalize D[i].1 = y at *
          have HKo := hide hko
          have HOd := hide hod
          have hKa : Kept [] wr (wr.alloc (.cells #[.int .i64 y.o, .int .i64 y.i, .int .i64 y.q, .string (str y.n), .int .i64 y.v.c, .int .i64 y.v.s, .int .i64 y.v.r, .string (str y.v.p), .int .u64 y.v.d, .slice mo mm mc, .int .i64 y.v.m] 40)) := (Kept.refl _ _).alloc _
          have HBx := hide (heap_alloc_new wr (.cells #[.int .i64 y.o, .int .i64 y.i, .int .i64 y.q, .string (str y.n), .int .i64 y.v.c, .int .i64 y.v.s, .int .i64 y.v.r, .string (str y.v.p), .int .u64 y.v.d, .slice mo mm mc, .int .i64 y.v.m] 40))
          have cA := liveT_all (HLv0.out.kept hKa)
          clear hDw hko hod hm2 hiD
          go_wp2_with fail
          refine cA.mono ?_
          rintro _ w3 ⟨v3, X3, rfl, hR3, _, hM3, hK3⟩
          obtain ⟨ao3, c3, rfl, hc3, hm3, _, hat3⟩ := hR3.t.shape
          unfold maxLen at hm3
          have HM3 := hide hM3
          clear cA hR3 hM3 x0 x1 x2 x3 x4 x5 x6 x7 x8 x9 x10
          by_cases ho : y.o ≤ 1
          · have HBx3 := hide (hK3.at HBx.out (by simp))
            have HLv3 := hide ((HLv0.out.kept hKa).kept hK3)
            have d0 := cell_inC (k := 0) HBx3.out rfl
            have d1 := cell_inC (k := 1) HBx3.out rfl
            have d3 := cell_inC (k := 3) HBx3.out rfl
            have h01 : y.o ≤ 1 := ho
            have HAt3 := hide hat3
            obtain ⟨m3, hm3e⟩ : ∃ m3, m3 = X3.length := ⟨_, rfl⟩
            have HME3 := hide hm3e
            rw [← hm3e] at hc3 ⊢
            have hm16 : m3 ≤ 16 := by have h1 := HLv0.out.pos; have h2 : X3.length = L.length := by rw [← HM3.out]; simp
                                      omega
            clear hat3 hm3e
            go_wp2_with fail
            go_loopw [10, 11] (fun wv kv wr2 => WsI w3 y.n y.i L wv kv wr2) (fun _ kv _ => m3 - (intOf kv).toNat)
            case atStart => exact ⟨0, rfl, Nat.zero_le _, rfl, Kept.refl _ _⟩
            case round =>
              obtain ⟨k, rfl, hk, rfl, HKk⟩ := hrel
              have dd3 := HKk.out.cell d3 (by simp)
              have dd1 := HKk.out.cell d1 (by simp)
              by_cases hklt : k < m3
              · have hklt' : (k : Int) < m3 := by omega
                have hkX : k < X3.length := by rw [← HME3.out]; exact hklt
                have hX3L : X3.length = L.length := by rw [← HM3.out]; simp
                have hkL : k < L.length := by omega
                obtain ⟨g5, he5, hxk⟩ := HAt3.out k hkX
                subst he5
                have e1 := fst_get HM3.out hkX hkL
                have p0 := (hxk.kept HKk.out (by simp)).c0
                have p2 := (hxk.kept HKk.out (by simp)).c2
                have HNx := hide (was_next (n := y.n) (id := y.i) hkL)
                rw [e1] at p0 p2
                generalize L[k] = xk at *
                have hkc : k ≤ c3 := by omega
                clear hxk e1 hkX hX3L
                by_cases hnm : xk.n = y.n
                · have u3 : ((str xk.n).toList == (str y.n).toList) = true := by rw [str_dec]; simp [hnm]
                  have HN2 : Hid (wasI y.n y.i (L.take (k + 1)) = xk.i) := by show _ = _; rw [HNx.out, if_pos hnm]
                  clear hnm HNx
                  go_wp2_with fail
                  go_quiet (fail)
                  go_wp2_with fail
                  go_roundw
                  case rel => exact ⟨k + 1, by go_num, hkL, by rw [HN2.out], HKk.out.trans (drewN_kept _ _) (by simp)⟩
                  case measure => simp [intOf]; omega
                · have u3 : ((str xk.n).toList == (str y.n).toList) = false := by rw [str_dec]; simp [hnm]
                  have HN2 : Hid (wasI y.n y.i (L.take (k + 1)) = wasI y.n y.i (L.take k)) := by show _ = _; rw [HNx.out, if_neg hnm]
                  clear hnm HNx
                  go_wp2_with fail
                  go_quiet (fail)
                  go_wp2_with fail
                  go_roundw
                  case rel => exact ⟨k + 1, by go_num, hkL, by rw [HN2.out], HKk.out.trans (drewN_kept _ _) (by simp)⟩
                  case measure => simp [intOf]; omega
              · have hklt' : ¬ (k : Int) < m3 := by omega
                have hX3L : X3.length = L.length := by rw [← HM3.out]; simp
                have HW : Hid (wasI y.n y.i (L.take k) = openI y.n y.i L) := by
                  show _ = _
                  rw [List.take_of_length_le (by have h := HME3.out; omega)]
                  exact was_open HUq0.out y.n y.i
                rw [HW.out]
                have hLk := HLv3.out.kept HKk.out
                have cO := liveT_open hLk y.n HOd.out.1 y.i
                have HUq := hide (uniq_open HUq0.out sz y.n y.i)
                clear hLk hX3L
                go_wp2_with fail
                refine cO.mono ?_
                rintro _ w4 ⟨rfl, hL4, _⟩
                obtain ⟨L4, hL4e⟩ : ∃ L4, L4 = openL sz y.n y.i L := ⟨_, rfl⟩
                rw [← hL4e] at hL4 HUq
                have HLv := hide hL4
                clear hL4 hL4e cO HAt3 HLv3 HME3 HBx3 HW dd1 dd3 d0 d1 d3
                have cAl := liveT_all HLv.out
                clear hK3
                go_wp2_with fail
                refine cAl.mono ?_
                rintro _ w5 ⟨v5, X5, rfl, hR5, _, hM5, hK5⟩
                obtain ⟨ao5, c5, rfl, hc5, hm5, _, hat5⟩ := hR5.t.shape
                unfold maxLen at hm5
                have HAt := hide hat5
                have HM5 := hide hM5
                have HL5 := hide (HLv.out.kept hK5)
                have hl5 : X5.length = L4.length := by rw [← hM5]; simp
                have hsz5 := HLv.out.pos
                have HXL := hide hl5
                obtain ⟨m5, hm5e⟩ : ∃ m5, m5 = X5.length := ⟨_, rfl⟩
                have HME := hide hm5e
                rw [← hm5e] at hc5 ⊢
                have hle5 : ¬ (sz : Int) < m5 := by omega
                have hm16 : m5 ≤ 16 := by omega
                clear cAl hR5 hM5 hat5 hl5 hm5e hK5 hsz5
                go_wp2_with fail
                go_loopw [12] (fun kv wr2 => RmI w5 m5 kv wr2) (fun kv _ => m5 - (intOf kv).toNat)
                case atStart => exact ⟨0, rfl, Nat.zero_le _, Kept.refl _ _⟩
                case round =>
                  obtain ⟨k, rfl, hk, HKk⟩ := hrel
                  obtain ⟨wk, hwk⟩ : ∃ wk, wk = wr := ⟨_, rfl⟩
                  have HWk := hide hwk
                  clear hwk
                  by_cases hklt : k < m5
                  · have hklt' : (k : Int) < m5 := by omega
                    go_wp2_with fail
                    go_loopw [13] (fun jv wr2 => RmI w5 k jv wr2) (fun jv _ => k - (intOf jv).toNat)
                    case atStart => exact ⟨0, rfl, Nat.zero_le _, HKk⟩
                    case round =>
                      obtain ⟨j, rfl, hj, HKj⟩ := hrel
                      by_cases hjlt : j < k
                      · have hjlt' : (j : Int) < k := by omega
                        have hkX : k < X5.length := by rw [← HME.out]; exact hklt
                        have hjX : j < X5.length := by omega
                        obtain ⟨g5, he5, hxk⟩ := HAt.out k hkX
                        subst he5
                        obtain ⟨g5', he5', hxj⟩ := HAt.out j hjX
                        cases he5'
                        have e1 := fst_get HM5.out hkX (by rw [← HXL.out]; exact hkX)
                        have e2 := fst_get HM5.out hjX (by rw [← HXL.out]; exact hjX)
                        obtain ⟨u1, u2⟩ := uniq_ne HUq.out (by rw [← HXL.out]; exact hkX) (by rw [← HXL.out]; exact hjX) hjlt
                        rw [← e1, ← e2] at u1 u2
                        have p0 := (hxk.kept HKj.out (by simp)).c0
                        have p2 := (hxk.kept HKj.out (by simp)).c2
                        have q0 := (hxj.kept HKj.out (by simp)).c0
                        have q2 := (hxj.kept HKj.out (by simp)).c2
                        have u3 : ((str X5[k].1.n).toList == (str X5[j].1.n).toList) = false := by rw [str_dec]; simp [u2]
                        generalize X5[k].1 = xk at *
                        generalize X5[j].1 = xj at *
                        have hjm : (j : Int) < m5 := by omega
                        have hjc : j ≤ c5 := by omega
                        have hkc : k ≤ c5 := by omega
                        clear hxk hxj e1 e2 u2 hkX hjX
                        go_wp2_with fail
                        go_quiet (fail)
                        go_wp2_with fail
                        go_roundw
                        case rel => exact ⟨j + 1, by go_num, by omega, HKj.out.trans (drewN_kept _ _) (by simp)⟩
                        case measure => simp [intOf]; omega
                      · have hjlt' : ¬ (j : Int) < k := by omega
                        go_wp2_with fail
                        go_roundw
                        case rel => exact ⟨k + 1, by go_num, by omega, HKj⟩
                        case measure => simp [intOf]; omega
                  · have hklt' : ¬ (k : Int) < m5 := by omega
                    have HFn : Hid (LiveT w1 wr b sz L4) := HL5.out.kept HKk.out
                    go_wp2_with fail
                    go_roundw
                    case rel => exact ⟨i + 1, L4, by go_num, by omega, HFn, HUq⟩
                    case measure => simp [intOf]; omega
          · by_cases ho4 : y.o ≤ 4
            · have hBx3 := hK3.at HBx.out (by simp)
              have hLk := (HLv0.out.kept hKa).kept hK3
              have d0 := cell_inC (k := 0) hBx3 rfl
              have d1 := cell_inC (k := 1) hBx3 rfl
              have d2 := cell_inC (k := 2) hBx3 rfl
              have h01 : ¬ y.o ≤ 1 := ho
              have h04 : y.o ≤ 4 := ho4
              have cO := liveT_ask hLk y.i y.q
              have HUq := hide (uniq_ask HUq0.out y.i)
              clear hLk hBx3 hat3
              go_wp2_with fail
              refine cO.mono ?_
              rintro _ w4 ⟨⟨a4, n4, c4, rfl, _⟩, hL4, _⟩
              obtain ⟨L4, hL4e⟩ : ∃ L4, L4 = askL y.i L := ⟨_, rfl⟩
              rw [← hL4e] at hL4 HUq
              have HLv := hide hL4
              clear hL4 hL4e cO d0 d1 d2

              have cAl := liveT_all HLv.out
              clear hK3
              go_wp2_with fail
              refine cAl.mono ?_
              rintro _ w5 ⟨v5, X5, rfl, hR5, _, hM5, hK5⟩
              obtain ⟨ao5, c5, rfl, hc5, hm5, _, hat5⟩ := hR5.t.shape
              unfold maxLen at hm5
              have HAt := hide hat5
              have HM5 := hide hM5
              have HL5 := hide (HLv.out.kept hK5)
              have hl5 : X5.length = L4.length := by rw [← hM5]; simp
              have hsz5 := HLv.out.pos
              have HXL := hide hl5
              obtain ⟨m5, hm5e⟩ : ∃ m5, m5 = X5.length := ⟨_, rfl⟩
              have HME := hide hm5e
              rw [← hm5e] at hc5 ⊢
              have hle5 : ¬ (sz : Int) < m5 := by omega
              have hm16 : m5 ≤ 16 := by omega
              clear cAl hR5 hM5 hat5 hl5 hm5e hK5 hsz5
              go_wp2_with fail
              go_loopw [12] (fun kv wr2 => RmI w5 m5 kv wr2) (fun kv _ => m5 - (intOf kv).toNat)
              case atStart => exact ⟨0, rfl, Nat.zero_le _, Kept.refl _ _⟩
              case round =>
                obtain ⟨k, rfl, hk, HKk⟩ := hrel
                obtain ⟨wk, hwk⟩ : ∃ wk, wk = wr := ⟨_, rfl⟩
                have HWk := hide hwk
                clear hwk
                by_cases hklt : k < m5
                · have hklt' : (k : Int) < m5 := by omega
                  go_wp2_with fail
                  go_loopw [13] (fun jv wr2 => RmI w5 k jv wr2) (fun jv _ => k - (intOf jv).toNat)
                  case atStart => exact ⟨0, rfl, Nat.zero_le _, HKk⟩
                  case round =>
                    obtain ⟨j, rfl, hj, HKj⟩ := hrel
                    by_cases hjlt : j < k
                    · have hjlt' : (j : Int) < k := by omega
                      have hkX : k < X5.length := by rw [← HME.out]; exact hklt
                      have hjX : j < X5.length := by omega
                      obtain ⟨g5, he5, hxk⟩ := HAt.out k hkX
                      subst he5
                      obtain ⟨g5', he5', hxj⟩ := HAt.out j hjX
                      cases he5'
                      have e1 := fst_get HM5.out hkX (by rw [← HXL.out]; exact hkX)
                      have e2 := fst_get HM5.out hjX (by rw [← HXL.out]; exact hjX)
                      obtain ⟨u1, u2⟩ := uniq_ne HUq.out (by rw [← HXL.out]; exact hkX) (by rw [← HXL.out]; exact hjX) hjlt
                      rw [← e1, ← e2] at u1 u2
                      have p0 := (hxk.kept HKj.out (by simp)).c0
                      have p2 := (hxk.kept HKj.out (by simp)).c2
                      have q0 := (hxj.kept HKj.out (by simp)).c0
                      have q2 := (hxj.kept HKj.out (by simp)).c2
                      have u3 : ((str X5[k].1.n).toList == (str X5[j].1.n).toList) = false := by rw [str_dec]; simp [u2]
                      generalize X5[k].1 = xk at *
                      generalize X5[j].1 = xj at *
                      have hjm : (j : Int) < m5 := by omega
                      have hjc : j ≤ c5 := by omega
                      have hkc : k ≤ c5 := by omega
                      clear hxk hxj e1 e2 u2 hkX hjX
                      go_wp2_with fail
                      go_quiet (fail)
                      go_wp2_with fail
                      go_roundw
                      case rel => exact ⟨j + 1, by go_num, by omega, HKj.out.trans (drewN_kept _ _) (by simp)⟩
                      case measure => simp [intOf]; omega
                    · have hjlt' : ¬ (j : Int) < k := by omega
                      go_wp2_with fail
                      go_roundw
                      case rel => exact ⟨k + 1, by go_num, by omega, HKj⟩
                      case measure => simp [intOf]; omega
                · have hklt' : ¬ (k : Int) < m5 := by omega
                  have HFn : Hid (LiveT w1 wr b sz L4) := HL5.out.kept HKk.out
                  go_wp2_with fail
                  go_roundw
                  case rel => exact ⟨i + 1, L4, by go_num, by omega, HFn, HUq⟩
                  case measure => simp [intOf]; omega
            · have hBx3 := hK3.at HBx.out (by simp)
              have hLk := (HLv0.out.kept hKa).kept hK3
              have d0 := cell_inC (k := 0) hBx3 rfl
              have d1 := cell_inC (k := 1) hBx3 rfl
              have d2 := cell_inC (k := 2) hBx3 rfl
              have d4 := cell_inC (k := 4) hBx3 rfl
              have d5 := cell_inC (k := 5) hBx3 rfl
              have d6 := cell_inC (k := 6) hBx3 rfl
              have d7 := cell_inC (k := 7) hBx3 rfl
              have d8 := cell_inC (k := 8) hBx3 rfl
              have d9 := cell_inC (k := 9) hBx3 rfl
              have d10 := cell_inC (k := 10) hBx3 rfl
              have h01 : ¬ y.o ≤ 1 := ho
              have h04 : ¬ y.o ≤ 4 := ho4
              have cO := liveT_done hLk y.i y.q y.v (.slice mo mm mc) ((HKo.out.kept hKa).kept hK3) HOd.out.2
              unfold vtV at cO
              have HUq := hide (uniq_done HUq0.out y.i y.q y.v)
              clear hLk hBx3 hat3
              go_wp2_with fail
              refine cO.mono ?_
              rintro _ w4 ⟨rfl, hL4, _⟩
              obtain ⟨L4, hL4e⟩ : ∃ L4, L4 = doneL y.i y.q y.v L := ⟨_, rfl⟩
              rw [← hL4e] at hL4 HUq
              have HLv := hide hL4
              clear hL4 hL4e cO d0 d1 d2 d4 d5 d6 d7 d8 d9 d10

              have cAl := liveT_all HLv.out
              clear hK3
              go_wp2_with fail
              refine cAl.mono ?_
              rintro _ w5 ⟨v5, X5, rfl, hR5, _, hM5, hK5⟩
              obtain ⟨ao5, c5, rfl, hc5, hm5, _, hat5⟩ := hR5.t.shape
              unfold maxLen at hm5
              have HAt := hide hat5
              have HM5 := hide hM5
              have HL5 := hide (HLv.out.kept hK5)
              have hl5 : X5.length = L4.length := by rw [← hM5]; simp
              have hsz5 := HLv.out.pos
              have HXL := hide hl5
              obtain ⟨m5, hm5e⟩ : ∃ m5, m5 = X5.length := ⟨_, rfl⟩
              have HME := hide hm5e
              rw [← hm5e] at hc5 ⊢
              have hle5 : ¬ (sz : Int) < m5 := by omega
              have hm16 : m5 ≤ 16 := by omega
              clear cAl hR5 hM5 hat5 hl5 hm5e hK5 hsz5
              go_wp2_with fail
              go_loopw [12] (fun kv wr2 => RmI w5 m5 kv wr2) (fun kv _ => m5 - (intOf kv).toNat)
              case atStart => exact ⟨0, rfl, Nat.zero_le _, Kept.refl _ _⟩
              case round =>
                obtain ⟨k, rfl, hk, HKk⟩ := hrel
                obtain ⟨wk, hwk⟩ : ∃ wk, wk = wr := ⟨_, rfl⟩
                have HWk := hide hwk
                clear hwk
                by_cases hklt : k < m5
                · have hklt' : (k : Int) < m5 := by omega
                  go_wp2_with fail
                  go_loopw [13] (fun jv wr2 => RmI w5 k jv wr2) (fun jv _ => k - (intOf jv).toNat)
                  case atStart => exact ⟨0, rfl, Nat.zero_le _, HKk⟩
                  case round =>
                    obtain ⟨j, rfl, hj, HKj⟩ := hrel
                    by_cases hjlt : j < k
                    · have hjlt' : (j : Int) < k := by omega
                      have hkX : k < X5.length := by rw [← HME.out]; exact hklt
                      have hjX : j < X5.length := by omega
                      obtain ⟨g5, he5, hxk⟩ := HAt.out k hkX
                      subst he5
                      obtain ⟨g5', he5', hxj⟩ := HAt.out j hjX
                      cases he5'
                      have e1 := fst_get HM5.out hkX (by rw [← HXL.out]; exact hkX)
                      have e2 := fst_get HM5.out hjX (by rw [← HXL.out]; exact hjX)
                      obtain ⟨u1, u2⟩ := uniq_ne HUq.out (by rw [← HXL.out]; exact hkX) (by rw [← HXL.out]; exact hjX) hjlt
                      rw [← e1, ← e2] at u1 u2
                      have p0 := (hxk.kept HKj.out (by simp)).c0
                      have p2 := (hxk.kept HKj.out (by simp)).c2
                      have q0 := (hxj.kept HKj.out (by simp)).c0
                      have q2 := (hxj.kept HKj.out (by simp)).c2
                      have u3 : ((str X5[k].1.n).toList == (str X5[j].1.n).toList) = false := by rw [str_dec]; simp [u2]
                      generalize X5[k].1 = xk at *
                      generalize X5[j].1 = xj at *
                      have hjm : (j : Int) < m5 := by omega
                      have hjc : j ≤ c5 := by omega
                      have hkc : k ≤ c5 := by omega
                      clear hxk hxj e1 e2 u2 hkX hjX
                      go_wp2_with fail
                      go_quiet (fail)
                      go_wp2_with fail
                      go_roundw
                      case rel => exact ⟨j + 1, by go_num, by omega, HKj.out.trans (drewN_kept _ _) (by simp)⟩
                      case measure => simp [intOf]; omega
                    · have hjlt' : ¬ (j : Int) < k := by omega
                      go_wp2_with fail
                      go_roundw
                      case rel => exact ⟨k + 1, by go_num, by omega, HKj⟩
                      case measure => simp [intOf]; omega
                · have hklt' : ¬ (k : Int) < m5 := by omega
                  have HFn : Hid (LiveT w1 wr b sz L4) := HL5.out.kept HKk.out
                  go_wp2_with fail
                  go_roundw
                  case rel => exact ⟨i + 1, L4, by go_num, by omega, HFn, HUq⟩
                  case measure => simp [intOf]; omega
        · have hlt' : ¬ (i : Int) < n := by omega
          have HF := hide (HK1.out.trans HLv0.out.keeps (by simp))
          go_wp2_with fail
          go_ret
          exact ⟨rfl, HF.out⟩
    · have cN := newT_bad w1 size hs
      go_wp2_with fail
      refine cN.mono ?_
      rintro _ W2 ⟨rfl, hW0⟩
      obtain rfl := hW0.symm
      go_wp2_with fail
      go_ret
      exact ⟨rfl, HK1.out⟩

end Go.Proofs.Ytajkmhepedlmmaa
