/-
  Read.
-/
import Derived.Test.YtfoghemiaidnhaaGreatM9
namespace Go.Proofs.YtfoghemiaidnhaaGreat
open Go.RowKit

def zeroVd : Array Value := #[.int .i64 0, .int .i64 0, .int .i64 0, .string ⟨#[]⟩, .int .u64 0, .slice none 0 0, .int .i64 0]

/-- The end of a function whose result is a verdict's block. -/
theorem vd_result {w : World} {g : Nat} {cs : Array Value} {fn : Func} {p : Tmp} (hr : fn.results = #[.cell p 28]) (tmps : Array Value) (hp : tmps.getD p undef = .pointer (some ⟨g, 0, none⟩)) (hg : w.heap[g]? = some (.cells cs 28 (0, 0))) (hs : cs.size = 7) :
    (results fn tmps).run Tryz.prog w = .ok (.agg cs) w :=
  results_cell_row hr tmps w g _ cs _ _ hp hg Tryz.underlying28 rfl (by rw [hs]; exact size_vd)

set_option maxHeartbeats 8000000 in
theorem read_call {w : World} {b : Nat} {v : Value} {p : Option Addr} {t : Tr} {mb : Nat} {K : List (Com × Value)} {G : Gr} (h : GA w b v p t mb K G) (q : List UInt8) (hq : q.length ≤ 1000000000) :
    Calls Tryz.prog 10 #[.pointer (some ⟨b, 0, none⟩), .string (str q)] w fun e w' => e = .returned (vdV (readV G q)) ∧ Kept [] w w' := by
  have hK1 : Kept [] w (w0L w) := (Kept.refl _ _).alloc _
  have hG1 := h.kept hK1
  have HB : Hid ((w0L w).heap[w.heap.size]? = some (.cells zeroVd 28 (0, 0))) := heap_alloc_new w _
  have cM := made_call hG1
  have cN := normal_call q (w0L w) (by omega)
  have cG := fun W (hk : Kept [] (w0L w) W) => tGet_call _ W p t q ((hG1.kept hk).tree) (by omega)
  rw [get_mem h.good.1, h.list] at cG
  have HG1 : Hid (GA (w0L w) b v p t mb K G) := hG1
  have hfind := show findL q G.ls = G.ls.find? (fun y => decide (q = y.p)) from rfl
  rw [← hfind] at cG
  clear hfind hG1 h
  cases hN : normB q with
  | none =>
    have HV : Hid (readV G q = ⟨5, 0, [], 0⟩) := by show readV G q = _; simp [readV, hN]
    rw [hN] at cN
    simp only [tup] at cN
    clear cG hN
    unfold w0L at *
    go_enter Tryz.func10, Tryz.ntmps10
    go_wp2_with fail
    refine cM.mono ?_
    rintro _ _ ⟨rfl, rfl⟩
    go_wp2_with fail
    refine cN.mono ?_
    rintro _ w2 ⟨rfl, hK2⟩
    have hB2 := hK2.at HB.out (by simp)
    obtain ⟨r0, r1, r2, r3, r4, r5, r6⟩ := cells7 hB2
    have f := frozen_in hB2
    have HB2 : Hid (w2.heap[w.heap.size]? = some (.cells zeroVd 28 (0, 0))) := hB2
    clear hB2
    go_wp2_with fail
    refine bodyPost_ret (vd_result (by rfl) _ (by rfl) (set7 HB2.out _ _ _ _ _ _ _) rfl) rfl ?_
    exact ⟨by rw [HV.out]; rfl, (hK1.trans hK2 (by simp)).trans (set7_kept (Kept.refl [w.heap.size] w2) (by simp) _ _ _ _ _ _ _) (by simp)⟩
  | some q' =>
    by_cases hqq : q' = q
    · subst hqq
      rw [hN] at cN
      simp only [tup] at cN
      cases hF : findL q' G.ls with
      | none =>
        have HV : Hid (readV G q' = ⟨10, 0, q', 0⟩) := by show readV G q' = _; simp [readV, hN, hF]
        rw [hF] at cG
        simp only [tupL] at cG
        clear hN hF
        unfold w0L at *
        go_enter Tryz.func10, Tryz.ntmps10
        go_wp2_with fail
        refine cM.mono ?_
        rintro _ _ ⟨rfl, rfl⟩
        go_wp2_with fail
        refine cN.mono ?_
        rintro _ w2 ⟨rfl, hK2⟩
        obtain ⟨e0, e1, e2⟩ := cells3 (HG1.out.kept hK2).at_
        go_wp2_with fail
        refine (cG _ hK2).mono ?_
        rintro _ w3 ⟨rfl, hK3⟩
        replace hK3 := hK2.trans hK3 (by simp)
        have hKb := (Kept.refl [] w3).alloc (.cells #[.string ⟨#[]⟩, .int .u64 0, .int .i64 0, .bool false] 79)
        have hB3 := hKb.at (hK3.at HB.out (by simp)) (by simp)
        obtain ⟨r0, r1, r2, r3, r4, r5, r6⟩ := cells7 hB3
        have f0 := frozen_in hB3 0
        have f1 := frozen_in hB3 1
        have f2 := frozen_in hB3 2
        have f3 := frozen_in hB3 3
        have f4 := frozen_in hB3 4
        have f5 := frozen_in hB3 5
        have f6 := frozen_in hB3 6
        have HB3 : Hid ((w3.alloc (.cells #[.string ⟨#[]⟩, .int .u64 0, .int .i64 0, .bool false] 79)).heap[w.heap.size]? = some (.cells zeroVd 28 (0, 0))) := hB3
        clear hB3 e0 e1 e2
        go_wp2_with fail
        refine bodyPost_ret (vd_result (by rfl) _ (by rfl) (set7 HB3.out _ _ _ _ _ _ _) rfl) rfl ?_
        exact ⟨by rw [HV.out]; rfl, ((hK1.trans hK3 (by simp)).trans hKb (by simp)).trans (set7_kept (Kept.refl [w.heap.size] _) (by simp) _ _ _ _ _ _ _) (by simp)⟩
      | some y =>
        cases hy : y.g with
        | true =>
          have HV : Hid (readV G q' = ⟨10, 0, q', 0⟩) := by show readV G q' = _; simp [readV, hN, hF, hy]
          rw [hF] at cG
          simp only [tupL, lfV, hy] at cG
          clear hN hF
          unfold w0L at *
          go_enter Tryz.func10, Tryz.ntmps10
          go_wp2_with fail
          refine cM.mono ?_
          rintro _ _ ⟨rfl, rfl⟩
          go_wp2_with fail
          refine cN.mono ?_
          rintro _ w2 ⟨rfl, hK2⟩
          obtain ⟨e0, e1, e2⟩ := cells3 (HG1.out.kept hK2).at_
          go_wp2_with fail
          refine (cG _ hK2).mono ?_
          rintro _ w3 ⟨rfl, hK3⟩
          replace hK3 := hK2.trans hK3 (by simp)
          have hKb := (Kept.refl [] w3).alloc (.cells #[.string (str y.p), .int .u64 y.d, .int .i64 y.r, .bool true] 79)
          have hB3 := hKb.at (hK3.at HB.out (by simp)) (by simp)
          obtain ⟨r0, r1, r2, r3, r4, r5, r6⟩ := cells7 hB3
          have f0 := frozen_in hB3 0
          have f1 := frozen_in hB3 1
          have f2 := frozen_in hB3 2
          have f3 := frozen_in hB3 3
          have f4 := frozen_in hB3 4
          have f5 := frozen_in hB3 5
          have f6 := frozen_in hB3 6
          have HB3 : Hid ((w3.alloc (.cells #[.string (str y.p), .int .u64 y.d, .int .i64 y.r, .bool true] 79)).heap[w.heap.size]? = some (.cells zeroVd 28 (0, 0))) := hB3
          clear hB3 e0 e1 e2
          go_wp2_with fail
          refine bodyPost_ret (vd_result (by rfl) _ (by rfl) (set7 HB3.out _ _ _ _ _ _ _) rfl) rfl ?_
          exact ⟨by rw [HV.out]; rfl, ((hK1.trans hK3 (by simp)).trans hKb (by simp)).trans (set7_kept (Kept.refl [w.heap.size] _) (by simp) _ _ _ _ _ _ _) (by simp)⟩
        | false =>
          have HV : Hid (readV G q' = ⟨9, y.r, q', y.d⟩) := by show readV G q' = _; simp [readV, hN, hF, hy]
          rw [hF] at cG
          simp only [tupL, lfV, hy] at cG
          clear hN hF
          unfold w0L at *
          go_enter Tryz.func10, Tryz.ntmps10
          go_wp2_with fail
          refine cM.mono ?_
          rintro _ _ ⟨rfl, rfl⟩
          go_wp2_with fail
          refine cN.mono ?_
          rintro _ w2 ⟨rfl, hK2⟩
          obtain ⟨e0, e1, e2⟩ := cells3 (HG1.out.kept hK2).at_
          go_wp2_with fail
          refine (cG _ hK2).mono ?_
          rintro _ w3 ⟨rfl, hK3⟩
          replace hK3 := hK2.trans hK3 (by simp)
          have hKb := (Kept.refl [] w3).alloc (.cells #[.string (str y.p), .int .u64 y.d, .int .i64 y.r, .bool false] 79)
          have hB3 := hKb.at (hK3.at HB.out (by simp)) (by simp)
          obtain ⟨r0, r1, r2, r3, r4, r5, r6⟩ := cells7 hB3
          have f0 := frozen_in hB3 0
          have f1 := frozen_in hB3 1
          have f2 := frozen_in hB3 2
          have f3 := frozen_in hB3 3
          have f4 := frozen_in hB3 4
          have f5 := frozen_in hB3 5
          have f6 := frozen_in hB3 6
          have HB3 : Hid ((w3.alloc (.cells #[.string (str y.p), .int .u64 y.d, .int .i64 y.r, .bool false] 79)).heap[w.heap.size]? = some (.cells zeroVd 28 (0, 0))) := hB3
          clear hB3 e0 e1 e2
          go_wp2_with fail
          refine bodyPost_ret (vd_result (by rfl) _ (by rfl) (set7 HB3.out _ _ _ _ _ _ _) rfl) rfl ?_
          exact ⟨by rw [HV.out]; rfl, ((hK1.trans hK3 (by simp)).trans hKb (by simp)).trans (set7_kept (Kept.refl [w.heap.size] _) (by simp) _ _ _ _ _ _ _) (by simp)⟩
    · have HV : Hid (readV G q = ⟨5, 0, [], 0⟩) := by show readV G q = _; simp [readV, hN, hqq]
      have hne : ((str q').toList == (str q).toList) = false := by rw [str_eqC]; simpa using hqq
      rw [hN] at cN
      simp only [tup] at cN
      clear cG hN
      unfold w0L at *
      go_enter Tryz.func10, Tryz.ntmps10
      go_wp2_with fail
      refine cM.mono ?_
      rintro _ _ ⟨rfl, rfl⟩
      go_wp2_with fail
      refine cN.mono ?_
      rintro _ w2 ⟨rfl, hK2⟩
      have hB2 := hK2.at HB.out (by simp)
      obtain ⟨r0, r1, r2, r3, r4, r5, r6⟩ := cells7 hB2
      have f := frozen_in hB2
      have HB2 : Hid (w2.heap[w.heap.size]? = some (.cells zeroVd 28 (0, 0))) := hB2
      clear hB2
      go_wp2_with fail
      refine bodyPost_ret (vd_result (by rfl) _ (by rfl) (set7 HB2.out _ _ _ _ _ _ _) rfl) rfl ?_
      exact ⟨by rw [HV.out]; rfl, (hK1.trans hK2 (by simp)).trans (set7_kept (Kept.refl [w.heap.size] w2) (by simp) _ _ _ _ _ _ _) (by simp)⟩

end Go.Proofs.YtfoghemiaidnhaaGreat
