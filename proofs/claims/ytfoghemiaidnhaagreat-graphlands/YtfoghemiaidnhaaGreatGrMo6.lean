/-
  The document's own graph: Read, CopyCommit, Log.
-/
import Derived.Test.YtfoghemiaidnhaaGreatGrMo3
import Derived.Test.YtfoghemiaidnhaaGreatGrLog
import Derived.Test.YtfoghemiaidnhaaGreatM6
namespace Go.Proofs.YtfoghemiaidnhaaGreat
open Go.RowKit

theorem hid_of {p : Prop} (h : p) : Hid p := h

set_option maxHeartbeats 8000000 in
theorem mread_call (w : World) (a0 aoL a2 : Option Addr) (n0 c0 nl cpL n2 c2 : Nat) {G : Gr} (hs : SlL w aoL nl cpL G.ls) (hW : Wf G) (q : List UInt8) (hq : q.length ≤ 1000000) :
    Calls Tryz.prog 16 #[.agg #[.slice a0 n0 c0, .slice aoL nl cpL, .slice a2 n2 c2], .string (str q)] w fun e w' => e = .returned (vdV (readV G q)) ∧ Kept [] w w' := by
  obtain ⟨W0, hW0⟩ : ∃ W0, W0 = (w.alloc (.cells #[.slice a0 n0 c0, .slice aoL nl cpL, .slice a2 n2 c2] 46)).alloc (.cells #[.int .i64 0, .int .i64 0, .int .i64 0, .string ⟨#[]⟩, .int .u64 0, .slice none 0 0, .int .i64 0] 28) := ⟨_, rfl⟩
  have hK0 : Kept [] w W0 := by rw [hW0]; exact ((Kept.refl _ _).alloc _).alloc _
  have hQ : W0.heap[w.heap.size]? = some (.cells #[.slice a0 n0 c0, .slice aoL nl cpL, .slice a2 n2 c2] 46 (0, 0)) := by
    rw [hW0]; exact (Below.heap_alloc _ _ _ (by simp)).trans (heap_alloc_new w _)
  have hB : W0.heap[w.heap.size + 1]? = some (.cells #[.int .i64 0, .int .i64 0, .int .i64 0, .string ⟨#[]⟩, .int .u64 0, .slice none 0 0, .int .i64 0] 28 (0, 0)) := by
    rw [hW0]
    have := heap_alloc_new (w.alloc (.cells #[.slice a0 n0 c0, .slice aoL nl cpL, .slice a2 n2 c2] 46)) (.cells #[.int .i64 0, .int .i64 0, .int .i64 0, .string ⟨#[]⟩, .int .u64 0, .slice none 0 0, .int .i64 0] 28)
    rw [World.size_alloc] at this
    exact this
  have cN := rnormal_call q W0 (by omega)
  have cG := fun W (hk : Kept [] W0 W) => rget_call W aoL nl cpL G.ls ((hs.kept hK0).kept hk) hW.srt (fun y hy => by have := hW.path y hy; omega) q (by omega)
  have hfind := show findL q G.ls = G.ls.find? (fun y => decide (q = y.p)) from rfl
  rw [← hfind] at cG
  have HQ := hid_of hQ
  have HB := hid_of hB
  clear hfind hs hQ hB
  cases hN : normB q with
  | none =>
    have HV : Hid (readV G q = ⟨5, 0, [], 0⟩) := by show readV G q = _; simp [readV, hN]
    rw [hN] at cN
    simp only [tup] at cN
    clear cG hN
    go_enter Tryz.func16, Tryz.ntmps16
    go_wp2_with fail
    rw [← hW0]
    clear hW0
    refine cN.mono ?_
    rintro _ w2 ⟨rfl, hK2⟩
    have hB3 := hK2.at HB.out (by simp)
    obtain ⟨r0, r1, r2, r3, r4, r5, r6⟩ := cells7 hB3
    have f0 := frozen_in hB3 0
    have f1 := frozen_in hB3 1
    have f2 := frozen_in hB3 2
    have f3 := frozen_in hB3 3
    have f4 := frozen_in hB3 4
    have f5 := frozen_in hB3 5
    have f6 := frozen_in hB3 6
    have HB3 := hid_of hB3
    clear hB3
    go_wp2_with fail
    refine bodyPost_ret (vd_result (by rfl) _ (by rfl) (set7 HB3.out _ _ _ _ _ _ _) rfl) rfl ?_
    exact ⟨by rw [HV.out]; rfl, (hK0.trans hK2 (by simp)).trans (set7_kept (Kept.refl [w.heap.size + 1] _) (.inl (by simp)) _ _ _ _ _ _ _) (fun k hk => .inr (by simp at hk; omega))⟩
  | some q' =>
    by_cases hqq : q' = q
    · subst hqq
      rw [hN] at cN
      simp only [tup] at cN
      cases hF : findL q' G.ls with
      | none =>
        have HV : Hid (readV G q' = ⟨10, 0, q', 0⟩) := by show readV G q' = _; simp [readV, hN, hF]
        rw [hF] at cG
        simp only [tupL] at cG
        clear hN hF
        go_enter Tryz.func16, Tryz.ntmps16
        go_wp2_with fail
        rw [← hW0]
        clear hW0
        refine cN.mono ?_
        rintro _ w2 ⟨rfl, hK2⟩
        obtain ⟨e0, e1, e2⟩ := cells3 (hK2.at HQ.out (by simp))
        go_wp2_with fail
        refine (cG _ hK2).mono ?_
        rintro _ w3 ⟨rfl, hK3⟩
        replace hK3 := hK2.trans hK3 (by simp)
        have hKb := (Kept.refl [] w3).alloc (.cells #[.string ⟨#[]⟩, .int .u64 0, .int .i64 0, .bool false] 79)
        clear e0 e1 e2
        have hB3 := hKb.at (hK3.at HB.out (by simp)) (by simp)
        obtain ⟨r0, r1, r2, r3, r4, r5, r6⟩ := cells7 hB3
        have f0 := frozen_in hB3 0
        have f1 := frozen_in hB3 1
        have f2 := frozen_in hB3 2
        have f3 := frozen_in hB3 3
        have f4 := frozen_in hB3 4
        have f5 := frozen_in hB3 5
        have f6 := frozen_in hB3 6
        have HB3 := hid_of hB3
        clear hB3
        go_wp2_with fail
        refine bodyPost_ret (vd_result (by rfl) _ (by rfl) (set7 HB3.out _ _ _ _ _ _ _) rfl) rfl ?_
        exact ⟨by rw [HV.out]; rfl, ((hK0.trans hK3 (by simp)).trans hKb (by simp)).trans (set7_kept (Kept.refl [w.heap.size + 1] _) (.inl (by simp)) _ _ _ _ _ _ _) (fun k hk => .inr (by simp at hk; omega))⟩
      | some y =>
        cases hy : y.g with
        | true =>
          have HV : Hid (readV G q' = ⟨10, 0, q', 0⟩) := by show readV G q' = _; simp [readV, hN, hF, hy]
          rw [hF] at cG
          simp only [tupL, lfV, hy] at cG
          clear hN hF
          go_enter Tryz.func16, Tryz.ntmps16
          go_wp2_with fail
          rw [← hW0]
          clear hW0
          refine cN.mono ?_
          rintro _ w2 ⟨rfl, hK2⟩
          obtain ⟨e0, e1, e2⟩ := cells3 (hK2.at HQ.out (by simp))
          go_wp2_with fail
          refine (cG _ hK2).mono ?_
          rintro _ w3 ⟨rfl, hK3⟩
          replace hK3 := hK2.trans hK3 (by simp)
          have hKb := (Kept.refl [] w3).alloc (.cells #[.string (str y.p), .int .u64 y.d, .int .i64 y.r, .bool true] 79)
          clear e0 e1 e2
          have hB3 := hKb.at (hK3.at HB.out (by simp)) (by simp)
          obtain ⟨r0, r1, r2, r3, r4, r5, r6⟩ := cells7 hB3
          have f0 := frozen_in hB3 0
          have f1 := frozen_in hB3 1
          have f2 := frozen_in hB3 2
          have f3 := frozen_in hB3 3
          have f4 := frozen_in hB3 4
          have f5 := frozen_in hB3 5
          have f6 := frozen_in hB3 6
          have HB3 := hid_of hB3
          clear hB3
          go_wp2_with fail
          refine bodyPost_ret (vd_result (by rfl) _ (by rfl) (set7 HB3.out _ _ _ _ _ _ _) rfl) rfl ?_
          exact ⟨by rw [HV.out]; rfl, ((hK0.trans hK3 (by simp)).trans hKb (by simp)).trans (set7_kept (Kept.refl [w.heap.size + 1] _) (.inl (by simp)) _ _ _ _ _ _ _) (fun k hk => .inr (by simp at hk; omega))⟩
        | false =>
          have HV : Hid (readV G q' = ⟨9, y.r, q', y.d⟩) := by show readV G q' = _; simp [readV, hN, hF, hy]
          rw [hF] at cG
          simp only [tupL, lfV, hy] at cG
          clear hN hF
          go_enter Tryz.func16, Tryz.ntmps16
          go_wp2_with fail
          rw [← hW0]
          clear hW0
          refine cN.mono ?_
          rintro _ w2 ⟨rfl, hK2⟩
          obtain ⟨e0, e1, e2⟩ := cells3 (hK2.at HQ.out (by simp))
          go_wp2_with fail
          refine (cG _ hK2).mono ?_
          rintro _ w3 ⟨rfl, hK3⟩
          replace hK3 := hK2.trans hK3 (by simp)
          have hKb := (Kept.refl [] w3).alloc (.cells #[.string (str y.p), .int .u64 y.d, .int .i64 y.r, .bool false] 79)
          clear e0 e1 e2
          have hB3 := hKb.at (hK3.at HB.out (by simp)) (by simp)
          obtain ⟨r0, r1, r2, r3, r4, r5, r6⟩ := cells7 hB3
          have f0 := frozen_in hB3 0
          have f1 := frozen_in hB3 1
          have f2 := frozen_in hB3 2
          have f3 := frozen_in hB3 3
          have f4 := frozen_in hB3 4
          have f5 := frozen_in hB3 5
          have f6 := frozen_in hB3 6
          have HB3 := hid_of hB3
          clear hB3
          go_wp2_with fail
          refine bodyPost_ret (vd_result (by rfl) _ (by rfl) (set7 HB3.out _ _ _ _ _ _ _) rfl) rfl ?_
          exact ⟨by rw [HV.out]; rfl, ((hK0.trans hK3 (by simp)).trans hKb (by simp)).trans (set7_kept (Kept.refl [w.heap.size + 1] _) (.inl (by simp)) _ _ _ _ _ _ _) (fun k hk => .inr (by simp at hk; omega))⟩
    · have HV : Hid (readV G q = ⟨5, 0, [], 0⟩) := by show readV G q = _; simp [readV, hN, hqq]
      have hne : ((str q').toList == (str q).toList) = false := by rw [str_eqC]; simpa using hqq
      rw [hN] at cN
      simp only [tup] at cN
      clear cG hN
      go_enter Tryz.func16, Tryz.ntmps16
      go_wp2_with fail
      rw [← hW0]
      clear hW0
      refine cN.mono ?_
      rintro _ w2 ⟨rfl, hK2⟩
      have hB3 := hK2.at HB.out (by simp)
      obtain ⟨r0, r1, r2, r3, r4, r5, r6⟩ := cells7 hB3
      have f0 := frozen_in hB3 0
      have f1 := frozen_in hB3 1
      have f2 := frozen_in hB3 2
      have f3 := frozen_in hB3 3
      have f4 := frozen_in hB3 4
      have f5 := frozen_in hB3 5
      have f6 := frozen_in hB3 6
      have HB3 := hid_of hB3
      clear hB3
      go_wp2_with fail
      refine bodyPost_ret (vd_result (by rfl) _ (by rfl) (set7 HB3.out _ _ _ _ _ _ _) rfl) rfl ?_
      exact ⟨by rw [HV.out]; rfl, (hK0.trans hK2 (by simp)).trans (set7_kept (Kept.refl [w.heap.size + 1] _) (.inl (by simp)) _ _ _ _ _ _ _) (fun k hk => .inr (by simp at hk; omega))⟩

end Go.Proofs.YtfoghemiaidnhaaGreat
