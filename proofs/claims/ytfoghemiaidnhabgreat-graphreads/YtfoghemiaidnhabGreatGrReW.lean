/-
  GraphReads: the walk.
-/
import Derived.Test.YtfoghemiaidnhabGreatGrReB
import Derived.Deep.QuietTactic
import Derived.BigQuiet
import Derived.Deep.CutRange
import Derived.Handy
import Derived.Laws.Cover1
namespace Go.Proofs.YtfoghemiaidnhabGreat
open Go.RowKit

set_option linter.unusedSimpArgs false in
set_option maxHeartbeats 16000000 in
set_option maxRecDepth 100000 in
theorem reads_walk (w : World) (ao : Option Addr) (n c : Nat) (D : List De) (hS : SlD w ao n c D) (p : List UInt8) (_hp : p.length ≤ maxLen) (part : Int) :
    Calls Tryz.prog 3 #[.slice ao n c, .string (str p), .int .i64 part] w fun e w' => e = .returned (.bool true) ∧ Kept [] w w' := by
  clear _hp
  have hl := hS.1
  subst hl
  have hc := hS.2.1
  have hm := hS.2.2.1
  unfold maxLen at hm
  have cR := fun W (hk : Kept [] w W) => room_callD W ao D.length c D (hS.kept hk)
  have HS : Hid (SlD w ao D.length c D) := hS
  clear hS
  cases hroom : roomD D with
  | false =>
    rw [hroom] at cR
    clear hroom
    go_enter Tryz.func3, Tryz.ntmps3
    go_wp2_with fail
    refine (awake_callG w).mono ?_
    rintro _ w1 ⟨rfl, hK1⟩
    go_wp2_with fail
    refine (cR w1 hK1).mono ?_
    rintro _ W ⟨rfl, hW0⟩
    obtain rfl := hW0.symm
    go_wp2_with fail
    go_ret
    exact ⟨rfl, hK1⟩
  | true =>
    have HR : Hid (RoomD D) := roomD_true.1 hroom
    rw [hroom] at cR
    clear hroom
    have hD100 : D.length ≤ 100 := HR.out.1
    by_cases hp3 : ((str p).size : Int) ≤ 300
    · have HP : Hid (p.length ≤ 1000000000) := by have h := hp3; rw [str_size] at h; show _ ≤ _; omega
      go_enter Tryz.func3, Tryz.ntmps3
      go_wp2_with fail
      refine (awake_callG w).mono ?_
      rintro _ w1 ⟨rfl, hK1⟩
      go_wp2_with fail
      refine (cR w1 hK1).mono ?_
      rintro _ W ⟨rfl, hW0⟩
      obtain rfl := hW0.symm
      go_wp2_with fail
      refine (live_new w1).mono ?_
      rintro _ w2 ⟨b, rfl, hG2⟩
      have HD : Hid (SlD w1 ao D.length c D) := HS.out.kept hK1
      have HK1 : Hid (Kept [] w w1) := hK1
      have HG2 : Hid (Live w1 w2 b voidG) := hG2
      clear cR hK1 hG2 HS
      go_wp2_with fail
      go_loopw [8] (fun iv wr => LdI w1 b D iv wr) (fun iv _ => D.length - (intOf iv).toNat)
      case atStart => exact ⟨0, rfl, Nat.zero_le _, HG2.out⟩
      case round =>
        obtain ⟨i, rfl, hi, HLv⟩ := hrel
        by_cases hlt : i < D.length
        · have hlt' : (i : Int) < D.length := by omega
          have hic : i ≤ c := by omega
          obtain ⟨g, o, rfl, hx⟩ := HD.out.2.2.2 i hlt
          have hxr := hx.kept HLv.out.keeps
          have cL := fun W (hk : Kept [] wr W) => live_landD (HLv.out.kept hk) hlt HR.out (hxr.sl.kept hk (by simp)) hxr.nil
          obtain ⟨k0, k1, k2, _, _⟩ := hx
          obtain ⟨c0, c1, c2, _, _⟩ := hxr
          generalize D[i] = x at *
          go_wp2_with fail
          go_region_held3 (fun w' => w'.cell? ⟨g, o + i * 3, none⟩ = some (.int .i64 x.b) ∧ w'.cell? ⟨g, o + i * 3 + 1, none⟩ = some (.string (str x.n)) ∧ w'.cell? ⟨g, o + i * 3 + 2, none⟩ = some (.slice x.mo x.m x.mc))
            (first | go_keep | exact ⟨hL3.keeps.cell k0 (by simp), hL3.keeps.cell k1 (by simp), hL3.keeps.cell k2 (by simp)⟩)
            (first
              | (go_at_call 7; refine (cL _ ?_).mono ?_; exact (Kept.refl [] _).drew; rintro e w3 ⟨rfl, hL3, hO3⟩))
          go_wp2_with fail
          go_roundw
          case rel => exact ⟨i + 1, by go_num, by omega, hL3⟩
          case measure => (simp [intOf] <;> omega)
        · have hlt' : ¬ (i : Int) < D.length := by omega
          have HLe : Hid (Live w1 wr b (landAll D)) := by have := HLv.out; rw [List.take_of_length_le (by omega)] at this; exact this
          clear HLv
          have hRe := landAll_reach D
          have hle := landAll_len D
          have HRe : Hid (Reach (landAll D)) := hRe
          generalize landAll D = G at *
          have hg100 : G.cs.length ≤ 100 := by omega
          have HG100 : Hid (G.cs.length ≤ 100) := hg100
          have cC := live_commits HLe.out HRe.out.wf (by omega)
          clear hRe hle hg100
          go_wp2_with fail
          refine cC.mono ?_
          rintro _ w4 ⟨v4, K4, rfl, hc4, hR4, hO4, hK4⟩
          obtain ⟨ao4, cp4, rfl, hS4, _⟩ := hR4.sl hO4
          have hkl : K4.length = G.cs.length := by rw [← hc4]; simp
          have HS4 : Hid (SlK w4 ao4 K4.length cp4 K4) := hS4
          have HC4 : Hid (K4.map Prod.fst = G.cs) := hc4
          have hc4b := hS4.2.1
          have hm4b := hS4.2.2.1
          unfold maxLen at hm4b
          have HLv4 : Hid (Live w1 w4 b G) := HLe.out.kept hK4
          obtain ⟨kn, hkn⟩ : ∃ kn : Nat, kn = K4.length := ⟨_, rfl⟩
          have HKn : Hid (kn = K4.length) := hkn
          rw [← hkn] at HS4 hc4b ⊢
          have HKg : Hid (kn = G.cs.length) := hkn.trans hkl
          have hk100 : (kn : Int) ≤ 100 := by have := HG100.out; have := HKg.out; omega
          have HW6 : Hid (WanR w4 (wantV p (lastC p (G.cs.take 0))) (w4.alloc (.cells #[.int .i64 10, .int .i64 0, .int .i64 0, .string (str p), .int .u64 0, .slice none 0 0, .int .i64 0] 30))) := ⟨(Kept.refl [] w4).alloc _, heap_alloc_new _ _⟩
          clear hkn hkl hS4 hO4 hR4 hK4 hc4 cC HLe
          go_wp2_with fail
          go_loopw [11] (fun kv wr => ReK w4 G.cs p kv wr) (fun kv _ => kn - (intOf kv).toNat)
          case atStart => exact ⟨0, rfl, Nat.zero_le _, HW6⟩
          case round =>
            obtain ⟨k, rfl, hk, HWk⟩ := hrel
            by_cases hlk : k < kn
            · have hlk' : (k : Int) < kn := by omega
              have hkc : k ≤ cp4 := by omega
              have hkk : k < K4.length := by rw [← HKn.out]; exact hlk
              have hkg : k < G.cs.length := by rw [← HKg.out]; exact hlk
              have HCk : Hid (K4[k].1 = G.cs[k]) := by
                show K4[k].1 = G.cs[k]
                have h1 : (K4.map Prod.fst)[k]'(by simpa using hkk) = G.cs[k] := by simp only [HC4.out]
                simpa using h1
              obtain ⟨g4, o4, mo, mm, mc, rfl, h40, _, _, h43, hsl⟩ := HS4.out.at hkk
              rw [HCk.out] at h40 hsl
              have HNk : Hid (lastC p (G.cs.take (k + 1)) = lastIn p G.cs[k].r (lastC p (G.cs.take k)) G.cs[k].c) := lastC_take hkg
              obtain ⟨ck, hck⟩ : ∃ ck, ck = G.cs[k] := ⟨_, rfl⟩
              rw [← hck] at h40 hsl HNk
              obtain ⟨oo, hoo⟩ : ∃ oo, oo = lastC p (G.cs.take k) := ⟨_, rfl⟩
              rw [← hoo] at HNk HWk
              have HSl : Hid (SlC w4 mo mm mc ck.c) := hsl
              have hml := hsl.1
              have hmc := hsl.2.1
              have hmm := hsl.2.2.1
              unfold maxLen at hmm
              have HML : Hid (ck.c.length = mm) := hml
              have H43 : Hid (w4.cell? ⟨g4, o4 + k * 4 + 3, none⟩ = some (.slice mo mm mc)) := h43
              have H40 : Hid (w4.cell? ⟨g4, o4 + k * 4, none⟩ = some (.int .i64 ck.r)) := h40
              clear hsl HCk hck hoo h40 h43 hml hkg
              go_wp2_with fail
              go_loopw [12] (fun jv wr => ReJ w4 ck.r ck.c p oo jv wr) (fun jv _ => mm - (intOf jv).toNat)
              case atStart => exact ⟨0, rfl, Nat.zero_le _, HWk⟩
              case round =>
                obtain ⟨j, rfl, hj, HWj⟩ := hrel
                have e43 := HWj.out.1.cell H43.out (by simp)
                have e40 := HWj.out.1.cell H40.out (by simp)
                by_cases hlj : j < mm
                · have hlj' : (j : Int) < mm := by omega
                  have hjc : j ≤ mc := by omega
                  have hjl : j < ck.c.length := by rw [HML.out]; exact hlj
                  obtain ⟨g8, o8, rfl, hz8⟩ := (HSl.out.kept HWj.out.1 (by simp)).2.2.2 j hjl
                  have HT : Hid (lastIn p ck.r oo (ck.c.take (j + 1)) = if ck.c[j].p = p then some ⟨ck.c[j].p, ck.c[j].d, ck.r, ck.c[j].g⟩ else lastIn p ck.r oo (ck.c.take j)) := lastIn_take hjl
                  obtain ⟨z, hze⟩ : ∃ z, z = ck.c[j] := ⟨_, rfl⟩
                  rw [← hze] at hz8 HT
                  have e80 := hz8.c0
                  have e81 := hz8.c1
                  have e82 := hz8.c2
                  clear hz8 hze
                  by_cases hzp : z.p = p
                  · rw [hzp] at e80
                    by_cases hzg : z.g = true
                    · have HT2 : Hid (wantV p (lastIn p ck.r oo (ck.c.take (j + 1))) = ⟨10, 0, p, 0⟩) := by show wantV _ _ = _; rw [HT.out, if_pos hzp]; simp [wantV, hzg]
                      have HX := HWj.out.alloc (.cells #[.string (str p), .bool true, .int .u64 z.d] 39)
                      have HNx : Hid (WanR w4 ⟨10, 0, p, 0⟩ (set7w (wr.alloc (.cells #[.string (str p), .bool true, .int .u64 z.d] 39)) w4.heap.size (.int .i64 10) (.int .i64 0) (.int .i64 0) (.string (str p)) (.int .u64 0) (.slice none 0 0) (.int .i64 0))) := wanR_set HX ⟨10, 0, p, 0⟩
                      have hwb := HX.2
                      unfold vdA at hwb
                      obtain ⟨r0, r1, r2, r3, r4, r5, r6⟩ := cells7 hwb
                      have f0 := frozen_in hwb 0
                      have f1 := frozen_in hwb 1
                      have f2 := frozen_in hwb 2
                      have f3 := frozen_in hwb 3
                      have f4 := frozen_in hwb 4
                      have f5 := frozen_in hwb 5
                      have f6 := frozen_in hwb 6
                      rw [hzg] at e81
                      clear hzp hzg HX hwb
                      generalize wantV p (lastIn p ck.r oo (ck.c.take j)) = vj at *
                      go_wp2_with fail
                      go_roundw
                      case rel => exact ⟨j + 1, by go_num, by omega, by rw [HT2.out]; exact HNx.out⟩
                      case measure => (simp [intOf] <;> omega)
                    · have HT2 : Hid (wantV p (lastIn p ck.r oo (ck.c.take (j + 1))) = ⟨9, ck.r, p, z.d⟩) := by show wantV _ _ = _; rw [HT.out, if_pos hzp]; simp [wantV, hzg]
                      have hzf : z.g = false := by simpa using hzg
                      have HX := HWj.out.alloc (.cells #[.string (str p), .bool false, .int .u64 z.d] 39)
                      have HNx : Hid (WanR w4 ⟨9, ck.r, p, z.d⟩ (set7w (wr.alloc (.cells #[.string (str p), .bool false, .int .u64 z.d] 39)) w4.heap.size (.int .i64 9) (.int .i64 0) (.int .i64 ck.r) (.string (str p)) (.int .u64 z.d) (.slice none 0 0) (.int .i64 0)).drew) := wanR_drew (wanR_set HX ⟨9, ck.r, p, z.d⟩)
                      have hwb := HX.2
                      unfold vdA at hwb
                      obtain ⟨r0, r1, r2, r3, r4, r5, r6⟩ := cells7 hwb
                      have f0 := frozen_in hwb 0
                      have f1 := frozen_in hwb 1
                      have f2 := frozen_in hwb 2
                      have f3 := frozen_in hwb 3
                      have f4 := frozen_in hwb 4
                      have f5 := frozen_in hwb 5
                      have f6 := frozen_in hwb 6
                      rw [hzf] at e81
                      have n40 := HX.1.cell H40.out (by simp)
                      have n13 : (wr.alloc (.cells #[.string (str p), .bool false, .int .u64 z.d] 39)).cell? ⟨wr.heap.size, 2, none⟩ = some (.int .u64 z.d) := cell_in (heap_alloc_new _ _) rfl
                      clear hzp hzg hzf HX hwb
                      generalize wantV p (lastIn p ck.r oo (ck.c.take j)) = vj at *
                      have hS0 := set7_off (w := wr.alloc (.cells #[.string (str p), .bool false, .int .u64 z.d] 39)) (b := w4.heap.size) (g := wr.heap.size) (o := 2) (u0 := .int .i64 9) (u1 := .int .i64 0) (u2 := .int .i64 ck.r) (u3 := .string (str p)) (u4 := .int .u64 z.d) (u5 := .slice none 0 0) (u6 := .int .i64 0) (by have := HWj.out.lt; omega) n13
                      have hS1 := HNx.out.1.cell H40.out (by simp)
                      have HS0 : Hid ((set7w (wr.alloc (.cells #[.string (str p), .bool false, .int .u64 z.d] 39)) w4.heap.size (.int .i64 9) (.int .i64 0) (.int .i64 ck.r) (.string (str p)) (.int .u64 z.d) (.slice none 0 0) (.int .i64 0)).drew.cell? ⟨wr.heap.size, 2, none⟩ = some (.int .u64 z.d)) := hS0
                      have HS1 : Hid ((set7w (wr.alloc (.cells #[.string (str p), .bool false, .int .u64 z.d] 39)) w4.heap.size (.int .i64 9) (.int .i64 0) (.int .i64 ck.r) (.string (str p)) (.int .u64 z.d) (.slice none 0 0) (.int .i64 0)).drew.cell? ⟨g4, o4 + k * 4, none⟩ = some (.int .i64 ck.r)) := hS1
                      clear hS0 hS1
                      go_wp2_with fail
                      refine wp_region_held_drew (S := fun w' => w'.cell? ⟨wr.heap.size, 2, none⟩ = some (.int .u64 z.d) ∧ w'.cell? ⟨g4, o4 + k * 4, none⟩ = some (.int .i64 ck.r)) (by kernel_rfl) ⟨n13, n40⟩ (fun hHeld => ?_)
                      refine wpAnyH_take (i := 0) (v := ?_) rfl (by kernel_rfl) (by kernel_rfl) (by kernel_rfl) (fun _ _ _ h => h) (Or.inl ⟨by rfl, ?_⟩) hHeld ?_
                      rotate_left
                      · intro w9 hSw; (try dsimp only at hSw); go_simp; (try with_reducible rfl)
                      try simp only [Act.put, List.setIfInBounds_toArray, List.set_cons_zero, List.set_cons_succ]
                      refine wpAnyH_take (i := 1) (v := ?_) rfl (by kernel_rfl) (by kernel_rfl) (by kernel_rfl) (fun _ _ _ h => h) (Or.inl ⟨by rfl, ?_⟩) hHeld ?_
                      rotate_left
                      · intro w9 hSw; (try dsimp only at hSw); go_simp; (try with_reducible rfl)
                      try simp only [Act.put, List.setIfInBounds_toArray, List.set_cons_zero, List.set_cons_succ]
                      refine wpAnyH_take (i := 2) (v := ?_) rfl (by kernel_rfl) (by kernel_rfl) (by kernel_rfl) (fun _ _ _ h => h) (Or.inl ⟨by rfl, ?_⟩) hHeld ?_
                      rotate_left
                      · intro w9 hSw; (try dsimp only at hSw); go_simp; (try with_reducible rfl)
                      try simp only [Act.put, List.setIfInBounds_toArray, List.set_cons_zero, List.set_cons_succ]
                      refine wpAnyH_take (i := 3) (v := ?_) rfl (by kernel_rfl) (by kernel_rfl) (by kernel_rfl) (fun _ _ _ h => h) (Or.inl ⟨by rfl, ?_⟩) hHeld ?_
                      rotate_left
                      · intro w9 hSw; (try dsimp only at hSw); go_simp; (try with_reducible rfl)
                      try simp only [Act.put, List.setIfInBounds_toArray, List.set_cons_zero, List.set_cons_succ]
                      refine wpAnyH_take (i := 4) (v := ?_) rfl (by kernel_rfl) (by kernel_rfl) (by kernel_rfl) (fun _ _ _ h => h) (Or.inl ⟨by rfl, ?_⟩) hHeld ?_
                      rotate_left
                      · intro w9 hSw; (try dsimp only at hSw); go_simp; (try with_reducible rfl)
                      try simp only [Act.put, List.setIfInBounds_toArray, List.set_cons_zero, List.set_cons_succ]
                      refine wpAnyH_take (i := 5) (v := ?_) rfl (by kernel_rfl) (by kernel_rfl) (by kernel_rfl) (fun _ _ _ h => h) (Or.inl ⟨by rfl, ?_⟩) hHeld ?_
                      rotate_left
                      · intro w9 hSw; (try dsimp only at hSw); go_simp; (try with_reducible rfl)
                      try simp only [Act.put, List.setIfInBounds_toArray, List.set_cons_zero, List.set_cons_succ]
                      refine wpAnyH_take (i := 6) (v := ?_) rfl (by kernel_rfl) (by kernel_rfl) (by kernel_rfl) (fun _ _ _ h => h) (Or.inl ⟨by rfl, ?_⟩) hHeld ?_
                      rotate_left
                      · intro w9 hSw; (try dsimp only at hSw); go_simp; (try with_reducible rfl)
                      try simp only [Act.put, List.setIfInBounds_toArray, List.set_cons_zero, List.set_cons_succ]
                      refine wpAnyH_take (i := 7) (v := ?_) rfl (by kernel_rfl) (by kernel_rfl) (by kernel_rfl) (fun _ _ _ h => h) (Or.inl ⟨by rfl, ?_⟩) hHeld ?_
                      rotate_left
                      · intro w9 hSw; (try dsimp only at hSw); go_simp; (try with_reducible rfl)
                      try simp only [Act.put, List.setIfInBounds_toArray, List.set_cons_zero, List.set_cons_succ]
                      refine wpAnyH_take (i := 8) (v := ?_) rfl (by kernel_rfl) (by kernel_rfl) (by kernel_rfl) (fun _ _ _ h => h) (Or.inl ⟨by rfl, ?_⟩) hHeld ?_
                      rotate_left
                      · intro w9 hSw; (try dsimp only at hSw); go_simp; (try with_reducible rfl)
                      try simp only [Act.put, List.setIfInBounds_toArray, List.set_cons_zero, List.set_cons_succ]
                      refine wpAnyH_ready (rs := [9]) (by kernel_rfl) (by simp) (AllReadyH.cons rfl (fun K0 hK0 => ?_) AllReadyH.nil)
                      go_simp
                      refine hK0.out _ _ ?_ (fun hHeld => ?_)
                      · exact And.intro HS0.out HS1.out
                      refine wpAnyH_done (by kernel_rfl) ?_ _
                      all_goals go_wp2_with fail
                      all_goals go_roundw
                      all_goals first | exact ⟨j + 1, by go_num, by omega, by rw [HT2.out]; exact HNx.out⟩ | (simp [intOf] <;> omega)
                  · have hpe : ((str z.p).toList == (str p).toList) = false := by rw [str_eqC]; simpa using hzp
                    have HT2 : Hid (lastIn p ck.r oo (ck.c.take (j + 1)) = lastIn p ck.r oo (ck.c.take j)) := by show lastIn _ _ _ _ = _; rw [HT.out, if_neg hzp]
                    clear hzp
                    have HWa := HWj.out.alloc (.cells #[.string (str z.p), .bool z.g, .int .u64 z.d] 39)
                    have HWa2 : Hid (WanR w4 (wantV p (lastIn p ck.r oo (List.take j ck.c))) (wr.alloc (.cells #[.string (str z.p), .bool z.g, .int .u64 z.d] 39))) := HWa
                    clear HWa
                    go_wp2_with fail
                    go_roundw
                    case rel => exact ⟨j + 1, by go_num, by omega, by rw [HT2.out]; exact HWa2.out⟩
                    case measure => (simp [intOf] <;> omega)
                · have hlj' : ¬ (j : Int) < mm := by omega
                  have HE9 : Hid (WanR w4 (wantV p (lastC p (G.cs.take (k + 1)))) wr) := by
                    have := HWj.out; rw [List.take_of_length_le (by rw [HML.out]; omega), ← HNk.out] at this; exact this
                  clear HWj
                  go_wp2_with fail
                  go_roundw
                  case rel => exact ⟨k + 1, by go_num, by have := HKg.out; omega, HE9⟩
                  case measure => (simp [intOf] <;> omega)
            · have hlk' : ¬ (k : Int) < kn := by omega
              have HE : Hid (WanR w4 (wantV p (lastC p G.cs)) wr) := by
                have := HWk.out; rw [List.take_of_length_le (by have := HKg.out; omega)] at this; exact this
              have HLv6 : Hid (Live w1 wr b G) := HLv4.out.kept HE.out.1
              have cV := live_readR HLv6.out p HP.out
              have hvv := read_want HRe.out p
              generalize readV G p = vv at *
              obtain ⟨w6, rfl⟩ : ∃ w6, w6 = wr := ⟨_, rfl⟩
              clear HWk HW6
              simp only [vdV, vdW] at cV
              go_wp2_with fail
              refine cV.mono ?_
              rintro _ w7 ⟨rfl, hK7⟩
              have hK7a := hK7.alloc (.cells #[.int .i64 vv.c, .int .i64 0, .int .i64 vv.r, .string (str vv.p), .int .u64 vv.d, .slice none 0 0, .int .i64 0] 30)
              have hwb := hK7a.at HE.out.2 (by simp)
              have HLv7 : Hid (Live w1 w7 b G) := HLv6.out.kept hK7
              have HS7 : Hid (SlK w7 ao4 kn cp4 K4) := (HS4.out.kept HE.out.1).kept hK7
              have cA := fun W => alike_plain W vv
              simp only [vdV, vdW] at cA
              clear hK7 hK7a cV HLv6 HLv4 HS4 HE
              go_upto_region 26 with fail
              go_cut [119] from 111 to 119 (fun sv wx => sv = .bool false ∧ Kept [] w7 wx)
              case first =>
                rcases hvv with rfl | ⟨hv5, hv⟩
                · clear hwb cA
                  go_wp2_with fail
                  go_meet
                  exact ⟨rfl, (Kept.refl [] _).alloc _⟩
                · have hv5' : ¬ vv.c = 5 := hv5
                  rw [← hv] at hwb
                  unfold vdA at hwb
                  obtain ⟨r0, r1, r2, r3, r4, r5, r6⟩ := cells7 hwb
                  clear hwb hv hv5
                  go_wp2_with fail
                  refine (cA _).mono ?_
                  rintro _ w8 ⟨rfl, hK8⟩
                  have HK8 : Hid (Kept [] w7 w8) := ((Kept.refl [] w7).alloc _).trans hK8 (by simp)
                  clear hK8
                  go_wp2_with fail
                  go_meet
                  exact ⟨rfl, HK8.out⟩
              case rest =>
                obtain ⟨rfl, hKc⟩ := hcut
                clear hvv hwb cA
                have HLv8 : Hid (Live w1 wc b G) := HLv7.out.kept hKc
                have HS8 : Hid (SlK wc ao4 kn cp4 K4) := HS7.out.kept hKc
                have cF := live_refsR HLv8.out HRe.out.wf (by have := HG100.out; omega)
                clear hKc HLv7 HS7
                go_wp2_with fail
                refine cF.mono ?_
                rintro _ w9 ⟨v9, rfl, hO9, hK9⟩
                obtain ⟨ao9, c9, rfl, hc9, hm9, hat9⟩ := hO9.at
                unfold maxLen at hm9
                have HAt : Hid (∀ i (hi : i < G.rs.length), ∃ g, ao9 = some ⟨g, 0, none⟩ ∧ w9.cell? ⟨g, i * 2, none⟩ = some (.string (str G.rs[i].1)) ∧ w9.cell? ⟨g, i * 2 + 1, none⟩ = some (.int .i64 G.rs[i].2)) := hat9
                obtain ⟨rn, hrn⟩ : ∃ rn : Nat, rn = G.rs.length := ⟨_, rfl⟩
                have HRn : Hid (rn = G.rs.length) := hrn
                rw [← hrn] at hc9 ⊢
                have HLv9 : Hid (Live w1 w9 b G) := HLv8.out.kept hK9
                have HS9 : Hid (SlK w9 ao4 kn cp4 K4) := HS8.out.kept hK9
                clear hO9 hat9 hrn hK9 HLv8 HS8 cF
                go_wp2_with fail
                go_loopw [16] (fun iv wr => ReI w9 rn iv wr) (fun iv _ => rn - (intOf iv).toNat)
                case atStart => exact ⟨0, rfl, Nat.zero_le _, Kept.refl _ _⟩
                case round =>
                  obtain ⟨i, rfl, hi, HWi⟩ := hrel
                  by_cases hlt : i < rn
                  · have hlt' : (i : Int) < rn := by omega
                    have hir : i < G.rs.length := by rw [← HRn.out]; exact hlt
                    have hi9 : i ≤ c9 := by omega
                    obtain ⟨g9, rfl, d0, d1⟩ := HAt.out i hir
                    have HX : Hid (refL G.rs[i].1 G.cs = G.rs[i].2) := HRe.out.refs _ (List.getElem_mem hir)
                    have HY : Hid (∀ a, a + 1 = i → ∃ y, w9.cell? ⟨g9, a * 2, none⟩ = some (.string (str y)) ∧ y < G.rs[i].1) := by
                      intro a ha
                      subst ha
                      obtain ⟨g9', e, d, _⟩ := HAt.out a (by omega)
                      cases e
                      exact ⟨_, d, refs_rise HRe.out hir⟩
                    have D0 : Hid (w9.cell? ⟨g9, i * 2, none⟩ = some (.string (str G.rs[i].1))) := d0
                    have D1 : Hid (w9.cell? ⟨g9, i * 2 + 1, none⟩ = some (.int .i64 G.rs[i].2)) := d1
                    clear d0 d1
                    generalize G.rs[i] = x at *
                    obtain ⟨wi, rfl⟩ : ∃ w6, w6 = wr := ⟨_, rfl⟩
                    go_wp2_with fail
                    go_loopw [17, 18] (fun lv kv wr => ReL w9 x.1 G.cs lv kv wr) (fun _ kv _ => kn - (intOf kv).toNat)
                    case atStart => exact ⟨0, rfl, rfl, Nat.zero_le _, HWi⟩
                    case round =>
                      obtain ⟨q, rfl, rfl, hq, HWq⟩ := hrel
                      have d0 := HWq.out.cell D0.out (by simp)
                      have d1 := HWq.out.cell D1.out (by simp)
                      by_cases hlq : q < kn
                      · have hlq' : (q : Int) < kn := by omega
                        have hqc : q ≤ cp4 := by omega
                        have hqk : q < K4.length := by rw [← HKn.out]; exact hlq
                        have hqg : q < G.cs.length := by rw [← HKg.out]; exact hlq
                        have HCq : Hid (K4[q].1 = G.cs[q]) := by
                          show K4[q].1 = G.cs[q]
                          have h1 : (K4.map Prod.fst)[q]'(by simpa using hqk) = G.cs[q] := by simp only [HC4.out]
                          simpa using h1
                        obtain ⟨g4, o4, mo, mm, mc, rfl, h40, h41, h42, h43, hsl⟩ := (HS9.out.kept HWq.out).at hqk
                        rw [HCq.out] at h40 h42
                        have HT : Hid (refL x.1 (G.cs.take (q + 1)) = if G.cs[q].n = x.1 then G.cs[q].r else refL x.1 (G.cs.take q)) := refL_take hqg
                        obtain ⟨cq, hcq⟩ : ∃ cq, cq = G.cs[q] := ⟨_, rfl⟩
                        rw [← hcq] at h40 h42 HT
                        clear h41 h43 hsl HCq hcq hqg hqk
                        by_cases hn : cq.n = x.1
                        · have hpe : ((str cq.n).toList == (str x.1).toList) = true := by rw [str_eqC]; simpa using hn
                          have HT2 : Hid (refL x.1 (G.cs.take (q + 1)) = cq.r) := by show refL _ _ = _; rw [HT.out, if_pos hn]
                          clear hn
                          generalize refL x.1 (G.cs.take q) = lq at *
                          go_wp2_with fail
                          go_region_held3 (fun w' => w'.cell? ⟨g4, o4 + q * 4 + 2, none⟩ = some (.string (str cq.n)) ∧ w'.cell? ⟨g9, i * 2, none⟩ = some (.string (str x.1))) (go_keep) (fail)
                          go_wp2_with fail
                          go_roundw
                          case rel => exact ⟨q + 1, by rw [HT2.out], by go_num, by have := HKg.out; omega, HWq.out.drew⟩
                          case measure => (simp [intOf] <;> omega)
                        · have hpe : ((str cq.n).toList == (str x.1).toList) = false := by rw [str_eqC]; simpa using hn
                          have HT2 : Hid (refL x.1 (G.cs.take (q + 1)) = refL x.1 (G.cs.take q)) := by show refL _ _ = _; rw [HT.out, if_neg hn]
                          clear hn
                          obtain ⟨lq, hlqe⟩ : ∃ lq, lq = refL x.1 (G.cs.take q) := ⟨_, rfl⟩
                          rw [← hlqe] at HT2 ⊢
                          clear hlqe
                          go_wp2_with fail
                          go_region_held3 (fun w' => w'.cell? ⟨g4, o4 + q * 4 + 2, none⟩ = some (.string (str cq.n)) ∧ w'.cell? ⟨g9, i * 2, none⟩ = some (.string (str x.1))) (go_keep) (fail)
                          go_wp2_with fail
                          go_roundw
                          case rel => exact ⟨q + 1, by rw [HT2.out], by go_num, by have := HKg.out; omega, HWq.out.drew⟩
                          case measure => (simp [intOf] <;> omega)
                      · have hlq' : ¬ (q : Int) < kn := by omega
                        have hE : refL x.1 (G.cs.take q) = x.2 := by rw [List.take_of_length_le (by have := HKg.out; omega)]; exact HX.out
                        rw [hE]
                        clear hE
                        have hne : (x.2 != x.2) = false := by simp
                        by_cases hi0 : i = 0
                        · subst hi0
                          have hz0 : decide ((0 : Int) < 0) = false := rfl
                          go_wp2_with fail
                          go_quiet (fail)
                          go_wp2_with fail
                          go_roundw
                          case rel => exact ⟨1, by go_num, by omega, HWq.out.trans (drewN_kept _ _) (by simp)⟩
                          case measure => (simp [intOf] <;> omega)
                        · obtain ⟨a, hai⟩ : ∃ a, a + 1 = i := ⟨i - 1, by omega⟩
                          obtain ⟨y, hy0, hyx⟩ := HY.out a hai
                          have hy := HWq.out.cell hy0 (by simp)
                          have hle : Op.bytesLess (str y).toList (str x.1).toList = true := less_strR hyx
                          have hac : a ≤ c9 := by omega
                          have har : (a : Int) < rn := by omega
                          have hi1 : (0 : Int) < i := by omega
                          have hi2 : decide ((0 : Int) < i) = true := decide_eq_true hi1
                          have hi5 : 0 < i := by omega
                          have hi6 : decide (0 < i) = true := decide_eq_true hi5
                          have hi3 : IntKind.i64.wrap ((i : Int) - 1) = (a : Int) := by rw [IntWalk.i64_in _ (by omega)]; omega
                          clear hyx hy0 hai hi0
                          go_wp2_with fail
                          go_quiet (fail)
                          go_wp2_with fail
                          go_roundw
                          case rel => exact ⟨i + 1, by go_num, by omega, HWq.out.trans (drewN_kept _ _) (by simp)⟩
                          case measure => (simp [intOf] <;> omega)
                  · have hlt' : ¬ (i : Int) < rn := by omega
                    have HLvB : Hid (Live w1 wr b G) := HLv9.out.kept HWi.out
                    have HSB : Hid (SlK wr ao4 kn cp4 K4) := HS9.out.kept HWi.out
                    obtain ⟨wB, rfl⟩ : ∃ w6, w6 = wr := ⟨_, rfl⟩
                    obtain ⟨h70, h77⟩ := and7 part
                    obtain ⟨pt, hpt⟩ : ∃ pt : Nat, 1 + bits BinOp.and IntKind.i64 part 7 = (pt : Int) := ⟨(1 + bits BinOp.and IntKind.i64 part 7).toNat, by omega⟩
                    have hpt1 : 1 ≤ pt := by omega
                    have hpt8 : pt ≤ 8 := by omega
                    have hqw : IntKind.i64.wrap (1 + bits BinOp.and IntKind.i64 part 7) = (pt : Int) := by rw [hpt]; exact IntWalk.i64_in _ (by omega)
                    clear HWi HLv9 HS9 HAt h70 h77 hpt
                    go_wp2_with fail
                    go_loopw [19, 20] (fun av tv wr => ReA wB G.cs av tv wr) (fun _ tv _ => (1000 - intOf tv).toNat)
                    case atStart => exact ⟨0, [], by go_num, by omega, rfl, RowK.nil _ _, fun x hx => by simp at hx, Kept.refl _ _⟩
                    case round =>
                      obtain ⟨a, K, rfl, ha, HKa, HRa, HOa, HWa⟩ := hrel
                      by_cases hla : a < kn
                      · have hla' : (a : Int) + 1 ≤ kn := by omega
                        have hag : a < G.cs.length := by rw [← HKg.out]; exact hla
                        have cG := live_logR (HLvB.out.kept HWa.out) HRe.out.wf (by have := HG100.out; omega) ((a : Int) + 1) (pt : Int) (by omega) (by omega) (by omega) (by omega)
                        have HLg := log_part G.cs a (pt : Int) (by omega) (by omega)
                        have HNe : Hid (0 < (logL G.cs ((a : Int) + 1) (pt : Int)).length) := log_ne hag (by omega)
                        have HLg2 : Hid (G.cs.take a ++ logL G.cs ((a : Int) + 1) (pt : Int) = G.cs.take (a + pt)) := by show _ = _; rw [HLg]; simp
                        have HLl : Hid ((logL G.cs ((a : Int) + 1) (pt : Int)).length ≤ 100) := by
                          show _ ≤ _
                          unfold logL; have := HG100.out; simp; omega
                        clear HLg hag
                        unfold logV at cG
                        obtain ⟨w10, rfl⟩ : ∃ w6, w6 = wr := ⟨_, rfl⟩
                        go_wp2_with fail
                        refine cG.mono ?_
                        rintro _ w11 ⟨v11, K11, rfl, h11, hR11, hO11, hK11⟩
                        have hne11 : 0 < K11.length := by have := HNe.out; rw [← h11, List.length_map] at this; exact this
                        have hle11 : K11.length ≤ 100 := by have := HLl.out; rw [← h11, List.length_map] at this; exact this
                        have hleK : K.length ≤ 100 := by have h := congrArg List.length HKa.out; rw [List.length_map, List.length_take] at h; have := HG100.out; omega
                        obtain ⟨ao11, c11, rfl, hs11, _⟩ := hR11.sl hO11
                        obtain ⟨g11, c11', he11, _, _⟩ := World.ownsRow.form hR11 hne11
                        obtain ⟨rfl, rfl⟩ : ao11 = some ⟨g11, 0, none⟩ ∧ c11 = c11' := by simpa using he11
                        have HRb : Hid (RowK wB.heap.size w11 u19 K) := hK11.ownsRow HRa.out (by simp)
                        have hszB : wB.heap.size ≤ w11.heap.size := by have h1 := HWa.out.size; have h2 := hK11.size; omega
                        obtain ⟨n11, hn11⟩ : ∃ n11, n11 = K11.length := ⟨_, rfl⟩
                        have HN11 : Hid (n11 = K11.length) := hn11
                        have HS11 : Hid (SlK w11 (some ⟨g11, 0, none⟩) K11.length c11 K11) := hs11
                        have HL11 : Hid (K.length + K11.length ≤ 1000000000) := by show _ ≤ _; omega
                        have HF : Hid (∀ v2 w12, RowK wB.heap.size w12 v2 (K ++ K11) → w11.grownBy w12 u19.ownBlock → ReA wB G.cs v2 (.int .i64 ((a : Int) + pt + 1)) w12) := by
                          intro v2 w12 h1 h2
                          refine ⟨a + pt, K ++ K11, by push_cast; rfl, by omega, ?_, h1, ?_, ?_⟩
                          · show _ = _
                            rw [List.map_append, HKa.out, h11, HLg2.out]
                          · intro x hx
                            rcases List.mem_append.1 hx with hx | hx
                            · exact own_grow HRb.out h2 (fun y hy => hK11.ownsRow (HOa.out y hy) (by simp)) x hx
                            · exact (own_grow HRb.out h2 hO11 x hx).mono HWa.out.size
                          · exact (HWa.out.trans hK11 (by simp)).grown h2 fun k hk => .inr (World.ownsRow.lt HRb.out k hk).1
                        have hfd : ∀ W : World, (Instr.field 30 (.agg #[.int .i64 11, .int .i64 0, .int .i64 0, .string ⟨#[]⟩, .int .u64 0, .slice (some ⟨g11, 0, none⟩) n11 c11, .int .i64 0]) 5).run Tryz.prog W = .ok (.slice (some ⟨g11, 0, none⟩) n11 c11) W := fun _ => by kernel_rfl
                        rw [← hn11]
                        clear hn11 hs11 hO11 hR11 hK11 h11 he11 hne11 hle11 hleK cG
                        go_wp2_with (at_builtin; refine wp_appK rfl _ _ rfl wB.heap.size _ K rfl HRb.out ⟨g11, 0, none⟩ n11 c11 K11 rfl HN11.out HS11.out.runs HS11.out.ones HL11.out hszB ?a1)
                        case a1 =>
                          intro v2 w12 hO2 hg2
                          have HF2 : Hid (ReA wB G.cs v2 (.int .i64 ((a : Int) + pt + 1)) w12) := HF.out v2 w12 hO2 hg2
                          clear hO2 hg2
                          go_wp2_with fail
                          go_roundw
                          case rel => have h := HF2.out; have e : (a : Int) + 1 + pt = (a : Int) + pt + 1 := by omega
                                      rw [e]; exact h
                          case measure => (simp [intOf] <;> omega)
                      · have hla' : ¬ (a : Int) + 1 ≤ kn := by omega
                        have HAll : Hid (K.map Prod.fst = K4.map Prod.fst) := by show _ = _; rw [HKa.out, HC4.out, List.take_of_length_le (by have := HKg.out; omega)]
                        obtain ⟨ao12, c12, rfl, hs12, _⟩ := HRa.out.sl HOa.out
                        have cS := samecs_call wr ao12 ao4 K.length kn c12 cp4 K K4 hs12 (HSB.out.kept HWa.out) HAll.out
                        have HKe : Hid (Kept [] w wr) := (HK1.out.trans HLvB.out.keeps (by simp)).trans HWa.out (by simp)
                        clear hs12
                        generalize K.length = n12 at *
                        go_wp2_with fail
                        refine cS.mono ?_
                        rintro _ w13 ⟨rfl, hK13⟩
                        go_wp2_with fail
                        go_ret
                        exact ⟨rfl, HKe.out.trans hK13 (by simp)⟩
    · go_enter Tryz.func3, Tryz.ntmps3
      go_wp2_with fail
      refine (awake_callG w).mono ?_
      rintro _ w1 ⟨rfl, hK1⟩
      go_wp2_with fail
      refine (cR w1 hK1).mono ?_
      rintro _ W ⟨rfl, hW0⟩
      obtain rfl := hW0.symm
      go_wp2_with fail
      go_ret
      exact ⟨rfl, hK1⟩

end Go.Proofs.YtfoghemiaidnhabGreat
