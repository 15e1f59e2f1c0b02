/-
  GraphLands: the walk.
-/
import Derived.Test.YtfoghemiaidnhaaGreatGrPair
import Derived.Deep.CutRange
import Derived.Handy
namespace Go.Proofs.YtfoghemiaidnhaaGreat
open Go.RowKit

def LaI (w0 : World) (b bm : Nat) (D : List De) (iv : Value) (wr : World) : Prop := ∃ i : Nat, iv = .int .i64 (i : Int) ∧ i ≤ D.length ∧ Hid (Pair w0 wr b bm (landAll (D.take i)) (landAll (D.take i)))

theorem box_offP {w w3 : World} {v0 v1 v2 v3 v4 v5 v6 : Value} (hO : OffP (w.alloc (.cells #[v0, v1, v2, v3, v4, v5, v6] 28)).drew w3) : Hid (w3.heap[w.heap.size]? = some (.cells #[v0, v1, v2, v3, v4, v5, v6] 28 (0, 0))) :=
  hO _ _ _ (heap_alloc_new w _) (by decide) (by decide) (by decide)

set_option linter.unusedSimpArgs false in
set_option maxHeartbeats 16000000 in
set_option maxRecDepth 100000 in
theorem lands_walk (w : World) (ao : Option Addr) (n c : Nat) (D : List De) (hS : SlD w ao n c D) (p : List UInt8) (_hp : p.length ≤ maxLen) (f : Int) (hf63 : f < 2 ^ 63) :
    Calls Tryz.prog 4 #[.slice ao n c, .string (str p), .int .i64 f] w fun e w' => e = .returned (.bool true) ∧ Kept [] w w' := by
  clear _hp
  have hl := hS.1
  subst hl
  have hc := hS.2.1
  have hm := hS.2.2.1
  unfold maxLen at hm
  have cR := fun W (hk : Kept [] w W) => room_callD W ao D.length c D (hS.kept hk)
  have HS : Hid (SlD w ao D.length c D) := hS
  have HF63 := hid_of hf63
  clear hS hf63
  cases hroom : roomD D with
  | false =>
    rw [hroom] at cR
    clear hroom
    go_enter Tryz.func4, Tryz.ntmps4
    go_wp2_with fail
    refine (awake_callG w).mono ?_
    rintro _ w1 ⟨rfl, hK1⟩
    go_wp2_with fail
    refine (cR w1 hK1).mono ?_
    rintro _ W ⟨rfl, hW0⟩
    obtain rfl := hW0.symm
    go_wp2_with fail
    go_ret
    exact ⟨rfl, hK1⟩
  | true =>
    have HR : Hid (RoomD D) := roomD_true.1 hroom
    rw [hroom] at cR
    clear hroom
    have hD100 : D.length ≤ 100 := HR.out.1
    by_cases hp3 : ((str p).size : Int) ≤ 300
    · have HP : Hid (p.length ≤ 1000) := by have h := hp3; rw [str_size] at h; show _ ≤ _; omega
      go_enter Tryz.func4, Tryz.ntmps4
      go_wp2_with fail
      refine (awake_callG w).mono ?_
      rintro _ w1 ⟨rfl, hK1⟩
      go_wp2_with fail
      refine (cR w1 hK1).mono ?_
      rintro _ W ⟨rfl, hW0⟩
      obtain rfl := hW0.symm
      go_wp2_with fail
      refine (live_new w1).mono ?_
      rintro _ w2 ⟨b, rfl, hG2⟩
      have HD : Hid (SlD w1 ao D.length c D) := HS.out.kept hK1
      have HK1 : Hid (Kept [] w w1) := hK1
      have HG2 := hid_of (pair_new hG2)
      clear cR hK1 hG2 HS
      go_wp2_with fail
      obtain ⟨bm, hbm⟩ : ∃ bm, bm = w2.heap.size := ⟨_, rfl⟩
      rw [← hbm] at HG2 ⊢
      clear hbm
      go_loopw [9] (fun iv wr => LaI w1 b bm D iv wr) (fun iv _ => D.length - (intOf iv).toNat)
      case atStart => exact ⟨0, rfl, Nat.zero_le _, HG2.out⟩
      case round =>
        obtain ⟨i, rfl, hi, HLv⟩ := hrel
        by_cases hlt : i < D.length
        · have hlt' : (i : Int) < D.length := by omega
          have hic : i ≤ c := by omega
          obtain ⟨g, o, rfl, hx⟩ := HD.out.2.2.2 i hlt
          have hxr := hx.kept HLv.out.keeps
          have cL := fun W (hk : Kept [] wr W) => pair_landD (HLv.out.kept hk) hlt HR.out (hxr.sl.kept hk (by simp)) hxr.nil
          have HML : Hid (∀ W, Pair w1 W b bm (landAll (D.take (i + 1))) (landAll (D.take i)) → Calls Tryz.prog 14 #[.pointer (some ⟨bm, 0, none⟩), .int .i64 D[i].b, .string (str D[i].n), .slice D[i].mo D[i].m D[i].mc] W fun e w' => e = .returned (vdV (landV (landAll (D.take i)) D[i].b D[i].n D[i].l)) ∧ Pair w1 w' b bm (landAll (D.take (i + 1))) (landAll (D.take (i + 1))) ∧ OffP W w') := fun W hP => pair_mlandD hP hlt HR.out (hx.sl.kept hP.keeps (by simp))
          have HRe2 : Hid (Reach (landAll (D.take (i + 1)))) := landAll_reach _
          have HLen : Hid ((landAll (D.take (i + 1))).cs.length ≤ 10000) := by have h2 := landAll_len (D.take (i + 1)); have h3 := List.length_take_le (i + 1) D; show _ ≤ _; omega
          obtain ⟨k0, k1, k2, _, _⟩ := hx
          obtain ⟨c0, c1, c2, _, _⟩ := hxr
          have HK0 := hid_of k0
          have HK1' := hid_of k1
          have HK2 := hid_of k2
          generalize D[i] = x at *
          obtain ⟨G, hGe⟩ : ∃ G, G = landAll (D.take i) := ⟨_, rfl⟩
          obtain ⟨G2, hG2e⟩ : ∃ G2, G2 = landAll (D.take (i + 1)) := ⟨_, rfl⟩
          rw [← hGe] at HLv cL HML
          have HG2e : Hid (G2 = landAll (D.take (i + 1))) := hG2e
          rw [← hG2e] at HRe2 HLen cL HML
          obtain ⟨vv, hvv⟩ : ∃ vv, vv = landV G x.b x.n x.l := ⟨_, rfl⟩
          rw [← hvv] at cL HML
          simp only [vdV, vdW] at cL
          clear hGe hG2e hvv
          go_upto_region 12 with fail
          go_cut [10] from 26 to 102 (fun s10 wx => ∃ Bk : Nat, s10 = .pointer (some ⟨Bk, 0, none⟩) ∧ wx.heap[Bk]? = some (.cells #[.int .i64 vv.c, .int .i64 0, .int .i64 vv.r, .string (str vv.p), .int .u64 vv.d, .slice none 0 0, .int .i64 0] 28 (0, 0)) ∧ Hid (Pair w1 wx b bm G2 G))
          case first =>
            refine wp_region_held_drew (S := fun w' => w'.cell? ⟨g, o + i * 3, none⟩ = some (.int .i64 x.b) ∧ w'.cell? ⟨g, o + i * 3 + 1, none⟩ = some (.string (str x.n)) ∧ w'.cell? ⟨g, o + i * 3 + 2, none⟩ = some (.slice x.mo x.m x.mc)) (by kernel_rfl) ⟨c0, c1, c2⟩ (fun hHeld => ?_)
            refine wpAnyH_take (i := 0) (v := ?_) rfl (by kernel_rfl) (by kernel_rfl) (by kernel_rfl) (fun _ _ _ h => h) (Or.inl ⟨by rfl, ?_⟩) hHeld ?_
            rotate_left
            · intro w9 hSw; (try dsimp only at hSw); go_simp; (try with_reducible rfl)
            try simp only [Act.put, List.setIfInBounds_toArray, List.set_cons_zero, List.set_cons_succ, List.getElem_toArray, List.getElem_cons_succ, List.getElem_cons_zero]
            refine wpAnyH_take (i := 1) (v := ?_) rfl (by kernel_rfl) (by kernel_rfl) (by kernel_rfl) (fun _ _ _ h => h) (Or.inl ⟨by rfl, ?_⟩) hHeld ?_
            rotate_left
            · intro w9 hSw; (try dsimp only at hSw); go_simp; (try with_reducible rfl)
            try simp only [Act.put, List.setIfInBounds_toArray, List.set_cons_zero, List.set_cons_succ, List.getElem_toArray, List.getElem_cons_succ, List.getElem_cons_zero]
            refine wpAnyH_take (i := 2) (v := ?_) rfl (by kernel_rfl) (by kernel_rfl) (by kernel_rfl) (fun _ _ _ h => h) (Or.inl ⟨by rfl, ?_⟩) hHeld ?_
            rotate_left
            · intro w9 hSw; (try dsimp only at hSw); go_simp; (try with_reducible rfl)
            try simp only [Act.put, List.setIfInBounds_toArray, List.set_cons_zero, List.set_cons_succ, List.getElem_toArray, List.getElem_cons_succ, List.getElem_cons_zero]
            refine wpAnyH_take (i := 3) (v := ?_) rfl (by kernel_rfl) (by kernel_rfl) (by kernel_rfl) (fun _ _ _ h => h) (Or.inl ⟨by rfl, ?_⟩) hHeld ?_
            rotate_left
            · intro w9 hSw; (try dsimp only at hSw); go_simp; (try with_reducible rfl)
            try simp only [Act.put, List.setIfInBounds_toArray, List.set_cons_zero, List.set_cons_succ, List.getElem_toArray, List.getElem_cons_succ, List.getElem_cons_zero]
            refine wpAnyH_take (i := 4) (v := ?_) rfl (by kernel_rfl) (by kernel_rfl) (by kernel_rfl) (fun _ _ _ h => h) (Or.inl ⟨by rfl, ?_⟩) hHeld ?_
            rotate_left
            · intro w9 hSw; (try dsimp only at hSw); go_simp; (try with_reducible rfl)
            try simp only [Act.put, List.setIfInBounds_toArray, List.set_cons_zero, List.set_cons_succ, List.getElem_toArray, List.getElem_cons_succ, List.getElem_cons_zero]
            refine wpAnyH_take (i := 5) (v := ?_) rfl (by kernel_rfl) (by kernel_rfl) (by kernel_rfl) (fun _ _ _ h => h) (Or.inl ⟨by rfl, ?_⟩) hHeld ?_
            rotate_left
            · intro w9 hSw; (try dsimp only at hSw); go_simp; (try with_reducible rfl)
            try simp only [Act.put, List.setIfInBounds_toArray, List.set_cons_zero, List.set_cons_succ, List.getElem_toArray, List.getElem_cons_succ, List.getElem_cons_zero]
            refine wpAnyH_take (i := 6) (v := ?_) rfl (by kernel_rfl) (by kernel_rfl) (by kernel_rfl) (fun _ _ _ h => h) (Or.inl ⟨by rfl, ?_⟩) hHeld ?_
            rotate_left
            · intro w9 hSw; (try dsimp only at hSw); go_simp; (try with_reducible rfl)
            try simp only [Act.put, List.setIfInBounds_toArray, List.set_cons_zero, List.set_cons_succ, List.getElem_toArray, List.getElem_cons_succ, List.getElem_cons_zero]
            refine wpAnyH_take (i := 7) (v := ?_) rfl (by kernel_rfl) (by kernel_rfl) (by kernel_rfl) (fun _ _ _ h => h) (Or.inl ⟨by rfl, ?_⟩) hHeld ?_
            rotate_left
            · intro w9 hSw; (try dsimp only at hSw); go_simp; (try with_reducible rfl)
            try simp only [Act.put, List.setIfInBounds_toArray, List.set_cons_zero, List.set_cons_succ, List.getElem_toArray, List.getElem_cons_succ, List.getElem_cons_zero]
            refine wpAnyH_take (i := 8) (v := ?_) rfl (by kernel_rfl) (by kernel_rfl) (by kernel_rfl) (fun _ _ _ h => h) (Or.inl ⟨by rfl, ?_⟩) hHeld ?_
            rotate_left
            · intro w9 hSw; (try dsimp only at hSw); go_simp; (try with_reducible rfl)
            try simp only [Act.put, List.setIfInBounds_toArray, List.set_cons_zero, List.set_cons_succ, List.getElem_toArray, List.getElem_cons_succ, List.getElem_cons_zero]
            refine wpAnyH_take (i := 9) (v := ?_) rfl (by kernel_rfl) (by kernel_rfl) (by kernel_rfl) (fun _ _ _ h => h) (Or.inl ⟨by rfl, ?_⟩) hHeld ?_
            rotate_left
            · intro w9 hSw; (try dsimp only at hSw); go_simp; (try with_reducible rfl)
            try simp only [Act.put, List.setIfInBounds_toArray, List.set_cons_zero, List.set_cons_succ, List.getElem_toArray, List.getElem_cons_succ, List.getElem_cons_zero]
            refine wpAnyH_take (i := 10) (v := ?_) rfl (by kernel_rfl) (by kernel_rfl) (by kernel_rfl) (fun _ _ _ h => h) (Or.inl ⟨by rfl, ?_⟩) hHeld ?_
            rotate_left
            · intro w9 hSw; (try dsimp only at hSw); go_simp; (try with_reducible rfl)
            try simp only [Act.put, List.setIfInBounds_toArray, List.set_cons_zero, List.set_cons_succ, List.getElem_toArray, List.getElem_cons_succ, List.getElem_cons_zero]
            refine wpAnyH_take (i := 11) (v := ?_) rfl (by kernel_rfl) (by kernel_rfl) (by kernel_rfl) (fun _ _ _ h => h) (Or.inl ⟨by rfl, ?_⟩) hHeld ?_
            rotate_left
            · intro w9 hSw; (try dsimp only at hSw); go_simp; (try with_reducible rfl)
            try simp only [Act.put, List.setIfInBounds_toArray, List.set_cons_zero, List.set_cons_succ, List.getElem_toArray, List.getElem_cons_succ, List.getElem_cons_zero]
            refine wpAnyH_take (i := 12) (v := ?_) rfl (by kernel_rfl) (by kernel_rfl) (by kernel_rfl) (fun _ _ _ h => h) (Or.inl ⟨by rfl, ?_⟩) hHeld ?_
            rotate_left
            · intro w9 hSw; (try dsimp only at hSw); go_simp; (try with_reducible rfl)
            try simp only [Act.put, List.setIfInBounds_toArray, List.set_cons_zero, List.set_cons_succ, List.getElem_toArray, List.getElem_cons_succ, List.getElem_cons_zero]
            refine wpAnyH_take (i := 13) (v := ?_) rfl (by kernel_rfl) (by kernel_rfl) (by kernel_rfl) (fun _ _ _ h => h) (Or.inl ⟨by rfl, ?_⟩) hHeld ?_
            rotate_left
            · intro w9 hSw; (try dsimp only at hSw); go_simp; (try with_reducible rfl)
            try simp only [Act.put, List.setIfInBounds_toArray, List.set_cons_zero, List.set_cons_succ, List.getElem_toArray, List.getElem_cons_succ, List.getElem_cons_zero]
            refine wpAnyH_take (i := 14) (v := ?_) rfl (by kernel_rfl) (by kernel_rfl) (by kernel_rfl) (fun _ _ _ h => h) (Or.inl ⟨by rfl, ?_⟩) hHeld ?_
            rotate_left
            · intro w9 hSw; (try dsimp only at hSw); go_simp; (try with_reducible rfl)
            try simp only [Act.put, List.setIfInBounds_toArray, List.set_cons_zero, List.set_cons_succ, List.getElem_toArray, List.getElem_cons_succ, List.getElem_cons_zero]
            refine wpAnyH_take (i := 15) (v := ?_) rfl (by kernel_rfl) (by kernel_rfl) (by kernel_rfl) (fun _ _ _ h => h) (Or.inl ⟨by rfl, ?_⟩) hHeld ?_
            rotate_left
            · intro w9 hSw; (try dsimp only at hSw); go_simp; (try with_reducible rfl)
            try simp only [Act.put, List.setIfInBounds_toArray, List.set_cons_zero, List.set_cons_succ, List.getElem_toArray, List.getElem_cons_succ, List.getElem_cons_zero]
            refine wpAnyH_ready (rs := [16, 17]) (by kernel_rfl) (by simp) (AllReadyH.cons rfl (fun K0 hK0 => ?_) (AllReadyH.cons rfl (fun K0 hK0 => ?_) AllReadyH.nil))
            · go_simp
              refine (cL _ (Kept.refl [] _).drew).mono ?_
              rintro e w3 ⟨rfl, hL3, hO3⟩
              go_wp2_with fail
              refine hK0.out _ _ ⟨hL3.keeps.cell k0 (by simp), hL3.keeps.cell k1 (by simp), hL3.keeps.cell k2 (by simp)⟩ (fun hHeld => ?_)
              clear hK0 K0
              try simp only [Act.put, List.setIfInBounds_toArray, List.set_cons_zero, List.set_cons_succ, List.getElem_toArray, List.getElem_cons_succ, List.getElem_cons_zero]
              refine wpAnyH_ready (rs := [17]) (by kernel_rfl) (by simp) (AllReadyH.cons rfl (fun K0 hK0 => ?_) AllReadyH.nil)
              go_simp
              have hKa := (Kept.refl [] w3).alloc (.cells #[.int .i64 0, .int .i64 0, .int .i64 0, .string ⟨#[]⟩, .int .u64 0, .slice none 0 0, .int .i64 0] 28)
              refine hK0.out _ _ ⟨hKa.cell (hL3.keeps.cell k0 (by simp)) (by simp), hKa.cell (hL3.keeps.cell k1 (by simp)) (by simp), hKa.cell (hL3.keeps.cell k2 (by simp)) (by simp)⟩ (fun hHeld => ?_)
              clear hK0 K0
              try simp only [Act.put, List.setIfInBounds_toArray, List.set_cons_zero, List.set_cons_succ, List.getElem_toArray, List.getElem_cons_succ, List.getElem_cons_zero]
              refine wpAnyH_ready (rs := [18]) (by kernel_rfl) (by simp) (AllReadyH.cons rfl (fun K0 hK0 => ?_) AllReadyH.nil)
              go_simp
              have hKb := (Kept.refl [] w3).alloc (.cells #[.int .i64 vv.c, .int .i64 0, .int .i64 vv.r, .string (str vv.p), .int .u64 vv.d, .slice none 0 0, .int .i64 0] 28)
              refine hK0.out _ _ ⟨hKb.cell (hL3.keeps.cell k0 (by simp)) (by simp), hKb.cell (hL3.keeps.cell k1 (by simp)) (by simp), hKb.cell (hL3.keeps.cell k2 (by simp)) (by simp)⟩ (fun hHeld => ?_)
              refine wpAnyH_done (by kernel_rfl) ?_ _
              go_wp2_with fail
              go_meet
              exact ⟨w3.heap.size, rfl, heap_alloc_new w3 _, hL3.kept hKb⟩
            · go_simp
              have hKa := (Kept.refl [] wr.drew).alloc (.cells #[.int .i64 0, .int .i64 0, .int .i64 0, .string ⟨#[]⟩, .int .u64 0, .slice none 0 0, .int .i64 0] 28)
              refine hK0.out _ _ ⟨hKa.cell c0 (by simp), hKa.cell c1 (by simp), hKa.cell c2 (by simp)⟩ (fun hHeld => ?_)
              clear hK0 K0
              try simp only [Act.put, List.setIfInBounds_toArray, List.set_cons_zero, List.set_cons_succ, List.getElem_toArray, List.getElem_cons_succ, List.getElem_cons_zero]
              refine wpAnyH_ready (rs := [16]) (by kernel_rfl) (by simp) (AllReadyH.cons rfl (fun K0 hK0 => ?_) AllReadyH.nil)
              go_simp
              refine (cL _ ((Kept.refl [] _).alloc _).drew).mono ?_
              rintro e w3 ⟨rfl, hL3, hO3⟩
              go_wp2_with fail
              have hB3 := box_offP hO3
              refine hK0.out _ _ ⟨hL3.keeps.cell k0 (by simp), hL3.keeps.cell k1 (by simp), hL3.keeps.cell k2 (by simp)⟩ (fun hHeld => ?_)
              clear hK0 K0
              try simp only [Act.put, List.setIfInBounds_toArray, List.set_cons_zero, List.set_cons_succ, List.getElem_toArray, List.getElem_cons_succ, List.getElem_cons_zero]
              refine wpAnyH_ready (rs := [18]) (by kernel_rfl) (by simp) (AllReadyH.cons rfl (fun K0 hK0 => ?_) AllReadyH.nil)
              have f0 := frozen_in hB3.out 0
              have f1 := frozen_in hB3.out 1
              have f2 := frozen_in hB3.out 2
              have f3 := frozen_in hB3.out 3
              have f4 := frozen_in hB3.out 4
              have f5 := frozen_in hB3.out 5
              have f6 := frozen_in hB3.out 6
              obtain ⟨m0, m1, m2, m3, m4, m5, m6⟩ := cells7 hB3.out
              go_simp
              have hKb : Kept [wr.heap.size] w3 (set7w w3 wr.heap.size (.int .i64 vv.c) (.int .i64 0) (.int .i64 vv.r) (.string (str vv.p)) (.int .u64 vv.d) (.slice none 0 0) (.int .i64 0)) := set7_kept (Kept.refl _ _) (.inl (by simp)) _ _ _ _ _ _ _
              have hl1 : w1.heap.size ≤ wr.heap.size := HLv.out.keeps.size
              have hL4 := pair_box hL3 hB3.out hKb hl1
              refine hK0.out _ _ ⟨hL4.keeps.cell k0 (by simp), hL4.keeps.cell k1 (by simp), hL4.keeps.cell k2 (by simp)⟩ (fun hHeld => ?_)
              refine wpAnyH_done (by kernel_rfl) ?_ _
              go_wp2_with fail
              go_meet
              exact ⟨wr.heap.size, rfl, set7 hB3.out _ _ _ _ _ _ _, hL4⟩
          case rest =>
            obtain ⟨Bk, rfl, hBk, HP3⟩ := hcut
            clear cL c0 c1 c2 k0 k1 k2
            have k0 := HP3.out.keeps.cell HK0.out (by simp)
            have k1 := HP3.out.keeps.cell HK1'.out (by simp)
            have k2 := HP3.out.keeps.cell HK2.out (by simp)
            obtain ⟨r0, r1, r2, r3, r4, r5, r6⟩ := cells7 hBk
            have HBk := hid_of hBk
            have cML := HML.out
            have cA := fun W => alike_plain W vv
            simp only [vdV, vdW] at cML cA
            obtain ⟨yv, hyv⟩ : ∃ yv, yv = readV G2 p := ⟨_, rfl⟩
            have cY := fun W => alike_plain W yv
            have HY := hid_of hyv
            simp only [vdV, vdW] at cY
            have hi3 : IntKind.i64.wrap ((i : Int) - 3) = (i : Int) - 3 := IntWalk.i64_in _ (by omega)
            obtain ⟨mi, hmi⟩ : ∃ mi : Int, mi = (i : Int) - 3 := ⟨_, rfl⟩
            have HMi := hid_of hmi
            rw [← hmi] at hi3
            have hi3b : (i : Int) - 3 = mi := hmi.symm
            clear hBk hyv hmi
            go_wp2_with fail
            refine wp_region_held_drew (S := fun w' => (w'.cell? ⟨g, o + i * 3, none⟩ = some (.int .i64 x.b) ∧ w'.cell? ⟨g, o + i * 3 + 1, none⟩ = some (.string (str x.n)) ∧ w'.cell? ⟨g, o + i * 3 + 2, none⟩ = some (.slice x.mo x.m x.mc)) ∧ w'.cell? ⟨Bk, 0, none⟩ = some (.int .i64 vv.c) ∧ w'.cell? ⟨Bk, 1, none⟩ = some (.int .i64 0) ∧ w'.cell? ⟨Bk, 2, none⟩ = some (.int .i64 vv.r) ∧ w'.cell? ⟨Bk, 3, none⟩ = some (.string (str vv.p)) ∧ w'.cell? ⟨Bk, 4, none⟩ = some (.int .u64 vv.d) ∧ w'.cell? ⟨Bk, 5, none⟩ = some (.slice none 0 0) ∧ w'.cell? ⟨Bk, 6, none⟩ = some (.int .i64 0)) (by kernel_rfl) ⟨⟨k0, k1, k2⟩, r0, r1, r2, r3, r4, r5, r6⟩ (fun hHeld => ?_)
            refine wpAnyH_list (fuel' := 54) (l' := #[false, false, false, false, false, false, false, false, false, false, false, false, false, false, false, false, false, false, false, false, false, false, false, false, false, false, false, false, false, false, false, false, false, false, false, false, false, false, false, false, false, false, false, false, false, false, false, false, false, false, false, false, false, false]) (by kernel_rfl) (by kernel_rfl) ?_
            refine wpAnyH_take (i := 0) (v := ?_) rfl (by kernel_rfl) (by kernel_rfl) (by kernel_rfl) (fun _ _ _ h => h) (Or.inl ⟨by rfl, ?_⟩) hHeld ?_
            rotate_left
            · intro w9 hSw; (try dsimp only at hSw); go_simp; (try with_reducible rfl)
            try simp only [Act.put, List.setIfInBounds_toArray, List.set_cons_zero, List.set_cons_succ, List.getElem_toArray, List.getElem_cons_succ, List.getElem_cons_zero]
            refine wpAnyH_take (i := 1) (v := ?_) rfl (by kernel_rfl) (by kernel_rfl) (by kernel_rfl) (fun _ _ _ h => h) (Or.inl ⟨by rfl, ?_⟩) hHeld ?_
            rotate_left
            · intro w9 hSw; (try dsimp only at hSw); go_simp; (try with_reducible rfl)
            try simp only [Act.put, List.setIfInBounds_toArray, List.set_cons_zero, List.set_cons_succ, List.getElem_toArray, List.getElem_cons_succ, List.getElem_cons_zero]
            refine wpAnyH_take (i := 2) (v := ?_) rfl (by kernel_rfl) (by kernel_rfl) (by kernel_rfl) (fun _ _ _ h => h) (Or.inl ⟨by rfl, ?_⟩) hHeld ?_
            rotate_left
            · intro w9 hSw; (try dsimp only at hSw); go_simp; (try with_reducible rfl)
            try simp only [Act.put, List.setIfInBounds_toArray, List.set_cons_zero, List.set_cons_succ, List.getElem_toArray, List.getElem_cons_succ, List.getElem_cons_zero]
            refine wpAnyH_take (i := 3) (v := ?_) rfl (by kernel_rfl) (by kernel_rfl) (by kernel_rfl) (fun _ _ _ h => h) (Or.inl ⟨by rfl, ?_⟩) hHeld ?_
            rotate_left
            · intro w9 hSw; (try dsimp only at hSw); go_simp; (try with_reducible rfl)
            try simp only [Act.put, List.setIfInBounds_toArray, List.set_cons_zero, List.set_cons_succ, List.getElem_toArray, List.getElem_cons_succ, List.getElem_cons_zero]
            refine wpAnyH_take (i := 4) (v := ?_) rfl (by kernel_rfl) (by kernel_rfl) (by kernel_rfl) (fun _ _ _ h => h) (Or.inl ⟨by rfl, ?_⟩) hHeld ?_
            rotate_left
            · intro w9 hSw; (try dsimp only at hSw); go_simp; (try with_reducible rfl)
            try simp only [Act.put, List.setIfInBounds_toArray, List.set_cons_zero, List.set_cons_succ, List.getElem_toArray, List.getElem_cons_succ, List.getElem_cons_zero]
            refine wpAnyH_take (i := 5) (v := ?_) rfl (by kernel_rfl) (by kernel_rfl) (by kernel_rfl) (fun _ _ _ h => h) (Or.inl ⟨by rfl, ?_⟩) hHeld ?_
            rotate_left
            · intro w9 hSw; (try dsimp only at hSw); go_simp; (try with_reducible rfl)
            try simp only [Act.put, List.setIfInBounds_toArray, List.set_cons_zero, List.set_cons_succ, List.getElem_toArray, List.getElem_cons_succ, List.getElem_cons_zero]
            refine wpAnyH_take (i := 6) (v := ?_) rfl (by kernel_rfl) (by kernel_rfl) (by kernel_rfl) (fun _ _ _ h => h) (Or.inl ⟨by rfl, ?_⟩) hHeld ?_
            rotate_left
            · intro w9 hSw; (try dsimp only at hSw); go_simp; (try with_reducible rfl)
            try simp only [Act.put, List.setIfInBounds_toArray, List.set_cons_zero, List.set_cons_succ, List.getElem_toArray, List.getElem_cons_succ, List.getElem_cons_zero]
            refine wpAnyH_take (i := 7) (v := ?_) rfl (by kernel_rfl) (by kernel_rfl) (by kernel_rfl) (fun _ _ _ h => h) (Or.inl ⟨by rfl, ?_⟩) hHeld ?_
            rotate_left
            · intro w9 hSw; (try dsimp only at hSw); go_simp; (try with_reducible rfl)
            try simp only [Act.put, List.setIfInBounds_toArray, List.set_cons_zero, List.set_cons_succ, List.getElem_toArray, List.getElem_cons_succ, List.getElem_cons_zero]
            refine wpAnyH_take (i := 8) (v := ?_) rfl (by kernel_rfl) (by kernel_rfl) (by kernel_rfl) (fun _ _ _ h => h) (Or.inl ⟨by rfl, ?_⟩) hHeld ?_
            rotate_left
            · intro w9 hSw; (try dsimp only at hSw); go_simp; (try with_reducible rfl)
            try simp only [Act.put, List.setIfInBounds_toArray, List.set_cons_zero, List.set_cons_succ, List.getElem_toArray, List.getElem_cons_succ, List.getElem_cons_zero]
            refine wpAnyH_take (i := 9) (v := ?_) rfl (by kernel_rfl) (by kernel_rfl) (by kernel_rfl) (fun _ _ _ h => h) (Or.inl ⟨by rfl, ?_⟩) hHeld ?_
            rotate_left
            · intro w9 hSw; (try dsimp only at hSw); go_simp; (try with_reducible rfl)
            try simp only [Act.put, List.setIfInBounds_toArray, List.set_cons_zero, List.set_cons_succ, List.getElem_toArray, List.getElem_cons_succ, List.getElem_cons_zero]
            refine wpAnyH_take (i := 10) (v := ?_) rfl (by kernel_rfl) (by kernel_rfl) (by kernel_rfl) (fun _ _ _ h => h) (Or.inl ⟨by rfl, ?_⟩) hHeld ?_
            rotate_left
            · intro w9 hSw; (try dsimp only at hSw); go_simp; (try with_reducible rfl)
            try simp only [Act.put, List.setIfInBounds_toArray, List.set_cons_zero, List.set_cons_succ, List.getElem_toArray, List.getElem_cons_succ, List.getElem_cons_zero]
            refine wpAnyH_take (i := 11) (v := ?_) rfl (by kernel_rfl) (by kernel_rfl) (by kernel_rfl) (fun _ _ _ h => h) (Or.inl ⟨by rfl, ?_⟩) hHeld ?_
            rotate_left
            · intro w9 hSw; (try dsimp only at hSw); go_simp; (try with_reducible rfl)
            try simp only [Act.put, List.setIfInBounds_toArray, List.set_cons_zero, List.set_cons_succ, List.getElem_toArray, List.getElem_cons_succ, List.getElem_cons_zero]
            refine wpAnyH_take (i := 12) (v := ?_) rfl (by kernel_rfl) (by kernel_rfl) (by kernel_rfl) (fun _ _ _ h => h) (Or.inl ⟨by rfl, ?_⟩) hHeld ?_
            rotate_left
            · intro w9 hSw; (try dsimp only at hSw); go_simp; (try with_reducible rfl)
            try simp only [Act.put, List.setIfInBounds_toArray, List.set_cons_zero, List.set_cons_succ, List.getElem_toArray, List.getElem_cons_succ, List.getElem_cons_zero]
            refine wpAnyH_take (i := 13) (v := ?_) rfl (by kernel_rfl) (by kernel_rfl) (by kernel_rfl) (fun _ _ _ h => h) (Or.inl ⟨by rfl, ?_⟩) hHeld ?_
            rotate_left
            · intro w9 hSw; (try dsimp only at hSw); go_simp; (try with_reducible rfl)
            try simp only [Act.put, List.setIfInBounds_toArray, List.set_cons_zero, List.set_cons_succ, List.getElem_toArray, List.getElem_cons_succ, List.getElem_cons_zero]
            refine wpAnyH_take (i := 14) (v := ?_) rfl (by kernel_rfl) (by kernel_rfl) (by kernel_rfl) (fun _ _ _ h => h) (Or.inl ⟨by rfl, ?_⟩) hHeld ?_
            rotate_left
            · intro w9 hSw; (try dsimp only at hSw); go_simp; (try with_reducible rfl)
            try simp only [Act.put, List.setIfInBounds_toArray, List.set_cons_zero, List.set_cons_succ, List.getElem_toArray, List.getElem_cons_succ, List.getElem_cons_zero]
            refine wpAnyH_take (i := 15) (v := ?_) rfl (by kernel_rfl) (by kernel_rfl) (by kernel_rfl) (fun _ _ _ h => h) (Or.inl ⟨by rfl, ?_⟩) hHeld ?_
            rotate_left
            · intro w9 hSw; (try dsimp only at hSw); go_simp; (try with_reducible rfl)
            try simp only [Act.put, List.setIfInBounds_toArray, List.set_cons_zero, List.set_cons_succ, List.getElem_toArray, List.getElem_cons_succ, List.getElem_cons_zero]
            refine wpAnyH_take (i := 16) (v := ?_) rfl (by kernel_rfl) (by kernel_rfl) (by kernel_rfl) (fun _ _ _ h => h) (Or.inl ⟨by rfl, ?_⟩) hHeld ?_
            rotate_left
            · intro w9 hSw; (try dsimp only at hSw); go_simp; (try with_reducible rfl)
            try simp only [Act.put, List.setIfInBounds_toArray, List.set_cons_zero, List.set_cons_succ, List.getElem_toArray, List.getElem_cons_succ, List.getElem_cons_zero]
            refine wpAnyH_ready (rs := [17]) (by kernel_rfl) (by simp) (AllReadyH.cons rfl (fun K0 hK0 => ?_) AllReadyH.nil)
            go_simp
            refine (cML _ (HP3.out.kept (Kept.refl [] _).drew)).mono ?_
            rintro e w4 ⟨rfl, hP4, hO4⟩
            have hB4 := hO4 _ _ _ (drewM_at HBk.out) (by decide) (by decide) (by decide)
            obtain ⟨a0, n0, p0, a1, n1, p1, a2, n2, p2, K4, hC4, hsK4, hcom4, hsL4⟩ := hP4.cells
            have S4d : (fun w' => w'.cell? ⟨g, o + i * 3, none⟩ = some (.int .i64 x.b) ∧ w'.cell? ⟨g, o + i * 3 + 1, none⟩ = some (.string (str x.n)) ∧ w'.cell? ⟨g, o + i * 3 + 2, none⟩ = some (.slice x.mo x.m x.mc)) w4 := ⟨hP4.keeps.cell HK0.out (by simp), hP4.keeps.cell HK1'.out (by simp), hP4.keeps.cell HK2.out (by simp)⟩
            have HKp : Hid (∀ W, Kept [] w4 W → (fun w' => ((w'.cell? ⟨g, o + i * 3, none⟩ = some (.int .i64 x.b) ∧ w'.cell? ⟨g, o + i * 3 + 1, none⟩ = some (.string (str x.n)) ∧ w'.cell? ⟨g, o + i * 3 + 2, none⟩ = some (.slice x.mo x.m x.mc)) ∧ w'.cell? ⟨Bk, 0, none⟩ = some (.int .i64 vv.c) ∧ w'.cell? ⟨Bk, 1, none⟩ = some (.int .i64 0) ∧ w'.cell? ⟨Bk, 2, none⟩ = some (.int .i64 vv.r) ∧ w'.cell? ⟨Bk, 3, none⟩ = some (.string (str vv.p)) ∧ w'.cell? ⟨Bk, 4, none⟩ = some (.int .u64 vv.d) ∧ w'.cell? ⟨Bk, 5, none⟩ = some (.slice none 0 0) ∧ w'.cell? ⟨Bk, 6, none⟩ = some (.int .i64 0)) ∧ w'.cell? ⟨bm, 0, none⟩ = some (.slice a0 n0 p0) ∧ w'.cell? ⟨bm, 1, none⟩ = some (.slice a1 n1 p1) ∧ w'.cell? ⟨bm, 2, none⟩ = some (.slice a2 n2 p2)) W) := fun W hk => ⟨⟨⟨hk.cell S4d.1 (by simp), hk.cell S4d.2.1 (by simp), hk.cell S4d.2.2 (by simp)⟩, cells7 (hk.at hB4 (by simp))⟩, cells3 (hk.at hC4 (by simp))⟩
            have HP4 := hid_of hP4
            have HsK := hid_of hsK4
            have HsL := hid_of hsL4
            have HCm := hid_of hcom4
            go_wp2_with fail
            refine hK0.out _ _ (HKp.out w4 (Kept.refl _ _)).1 (fun hHeld => ?_)
            clear hK0 K0 hHeld
            refine wpAnyH_more (S' := fun w' => ((w'.cell? ⟨g, o + i * 3, none⟩ = some (.int .i64 x.b) ∧ w'.cell? ⟨g, o + i * 3 + 1, none⟩ = some (.string (str x.n)) ∧ w'.cell? ⟨g, o + i * 3 + 2, none⟩ = some (.slice x.mo x.m x.mc)) ∧ w'.cell? ⟨Bk, 0, none⟩ = some (.int .i64 vv.c) ∧ w'.cell? ⟨Bk, 1, none⟩ = some (.int .i64 0) ∧ w'.cell? ⟨Bk, 2, none⟩ = some (.int .i64 vv.r) ∧ w'.cell? ⟨Bk, 3, none⟩ = some (.string (str vv.p)) ∧ w'.cell? ⟨Bk, 4, none⟩ = some (.int .u64 vv.d) ∧ w'.cell? ⟨Bk, 5, none⟩ = some (.slice none 0 0) ∧ w'.cell? ⟨Bk, 6, none⟩ = some (.int .i64 0)) ∧ w'.cell? ⟨bm, 0, none⟩ = some (.slice a0 n0 p0) ∧ w'.cell? ⟨bm, 1, none⟩ = some (.slice a1 n1 p1) ∧ w'.cell? ⟨bm, 2, none⟩ = some (.slice a2 n2 p2)) (fun _ h => h.1) _ _ _ _ ?_
            have hHeld := HKp.out w4 (Kept.refl _ _)
            clear hP4 hO4 hB4 hC4 hsK4 hcom4 hsL4 S4d
            try simp only [Act.put, List.setIfInBounds_toArray, List.set_cons_zero, List.set_cons_succ, List.getElem_toArray, List.getElem_cons_succ, List.getElem_cons_zero]
            refine wpAnyH_ready (rs := [18]) (by kernel_rfl) (by simp) (AllReadyH.cons rfl (fun K0 hK0 => ?_) AllReadyH.nil)
            go_simp
            refine (cA _).mono ?_
            rintro e w5 ⟨rfl, hK5⟩
            go_wp2_with fail
            refine hK0.out _ _ (HKp.out w5 hK5) (fun hHeld => ?_)
            clear hK0 K0
            try simp only [Act.put, List.setIfInBounds_toArray, List.set_cons_zero, List.set_cons_succ, List.getElem_toArray, List.getElem_cons_succ, List.getElem_cons_zero]
            refine wpAnyH_take (i := 19) (v := ?_) rfl (by kernel_rfl) (by kernel_rfl) (by kernel_rfl) (fun _ _ _ h => h) (Or.inl ⟨by rfl, ?_⟩) hHeld ?_
            rotate_left
            · intro w9 hSw; (try dsimp only at hSw); go_simp; (try with_reducible rfl)
            try simp only [Act.put, List.setIfInBounds_toArray, List.set_cons_zero, List.set_cons_succ, List.getElem_toArray, List.getElem_cons_succ, List.getElem_cons_zero]
            refine wpAnyH_take (i := 20) (v := ?_) rfl (by kernel_rfl) (by kernel_rfl) (by kernel_rfl) (fun _ _ _ h => h) (Or.inl ⟨by rfl, ?_⟩) hHeld ?_
            rotate_left
            · intro w9 hSw; (try dsimp only at hSw); go_simp; (try with_reducible rfl)
            try simp only [Act.put, List.setIfInBounds_toArray, List.set_cons_zero, List.set_cons_succ, List.getElem_toArray, List.getElem_cons_succ, List.getElem_cons_zero]
            refine wpAnyH_take (i := 21) (v := ?_) rfl (by kernel_rfl) (by kernel_rfl) (by kernel_rfl) (fun _ _ _ h => h) (Or.inl ⟨by rfl, ?_⟩) hHeld ?_
            rotate_left
            · intro w9 hSw; (try dsimp only at hSw); go_simp; (try with_reducible rfl)
            try simp only [Act.put, List.setIfInBounds_toArray, List.set_cons_zero, List.set_cons_succ, List.getElem_toArray, List.getElem_cons_succ, List.getElem_cons_zero]
            refine wpAnyH_take (i := 22) (v := ?_) rfl (by kernel_rfl) (by kernel_rfl) (by kernel_rfl) (fun _ _ _ h => h) (Or.inl ⟨by rfl, ?_⟩) hHeld ?_
            rotate_left
            · intro w9 hSw; (try dsimp only at hSw); go_simp; (try with_reducible rfl)
            try simp only [Act.put, List.setIfInBounds_toArray, List.set_cons_zero, List.set_cons_succ, List.getElem_toArray, List.getElem_cons_succ, List.getElem_cons_zero]
            refine wpAnyH_ready (rs := [23]) (by kernel_rfl) (by simp) (AllReadyH.cons rfl (fun K0 hK0 => ?_) AllReadyH.nil)
            go_simp
            refine (pair_looks (HP4.out.kept hK5) HRe2.out.wf HLen.out).mono ?_
            rintro e w6 ⟨rfl, hK6⟩
            replace hK6 := hK5.trans hK6 (by simp)
            go_wp2_with fail
            refine hK0.out _ _ (HKp.out w6 hK6) (fun hHeld => ?_)
            clear hK0 K0
            try simp only [Act.put, List.setIfInBounds_toArray, List.set_cons_zero, List.set_cons_succ, List.getElem_toArray, List.getElem_cons_succ, List.getElem_cons_zero]
            refine wpAnyH_take (i := 24) (v := ?_) rfl (by kernel_rfl) (by kernel_rfl) (by kernel_rfl) (fun _ _ _ h => h) (Or.inl ⟨by rfl, ?_⟩) hHeld ?_
            rotate_left
            · intro w9 hSw; (try dsimp only at hSw); go_simp; (try with_reducible rfl)
            try simp only [Act.put, List.setIfInBounds_toArray, List.set_cons_zero, List.set_cons_succ, List.getElem_toArray, List.getElem_cons_succ, List.getElem_cons_zero]
            refine wpAnyH_take (i := 25) (v := ?_) rfl (by kernel_rfl) (by kernel_rfl) (by kernel_rfl) (fun _ _ _ h => h) (Or.inl ⟨by rfl, ?_⟩) hHeld ?_
            rotate_left
            · intro w9 hSw; (try dsimp only at hSw); go_simp; (try with_reducible rfl)
            try simp only [Act.put, List.setIfInBounds_toArray, List.set_cons_zero, List.set_cons_succ, List.getElem_toArray, List.getElem_cons_succ, List.getElem_cons_zero]
            refine wpAnyH_take (i := 26) (v := ?_) rfl (by kernel_rfl) (by kernel_rfl) (by kernel_rfl) (fun _ _ _ h => h) (Or.inl ⟨by rfl, ?_⟩) hHeld ?_
            rotate_left
            · intro w9 hSw; (try dsimp only at hSw); go_simp; (try with_reducible rfl)
            try simp only [Act.put, List.setIfInBounds_toArray, List.set_cons_zero, List.set_cons_succ, List.getElem_toArray, List.getElem_cons_succ, List.getElem_cons_zero]
            refine wpAnyH_take (i := 27) (v := ?_) rfl (by kernel_rfl) (by kernel_rfl) (by kernel_rfl) (fun _ _ _ h => h) (Or.inl ⟨by rfl, ?_⟩) hHeld ?_
            rotate_left
            · intro w9 hSw; (try dsimp only at hSw); go_simp; (try with_reducible rfl)
            try simp only [Act.put, List.setIfInBounds_toArray, List.set_cons_zero, List.set_cons_succ, List.getElem_toArray, List.getElem_cons_succ, List.getElem_cons_zero]
            refine wpAnyH_take (i := 28) (v := ?_) rfl (by kernel_rfl) (by kernel_rfl) (by kernel_rfl) (fun _ _ _ h => h) (Or.inl ⟨by rfl, ?_⟩) hHeld ?_
            rotate_left
            · intro w9 hSw; (try dsimp only at hSw); go_simp; (try with_reducible rfl)
            try simp only [Act.put, List.setIfInBounds_toArray, List.set_cons_zero, List.set_cons_succ, List.getElem_toArray, List.getElem_cons_succ, List.getElem_cons_zero]
            refine wpAnyH_take (i := 30) (v := ?_) rfl (by kernel_rfl) (by kernel_rfl) (by kernel_rfl) (fun _ _ _ h => h) (Or.inl ⟨by rfl, ?_⟩) hHeld ?_
            rotate_left
            · intro w9 hSw; (try dsimp only at hSw); go_simp; (try with_reducible rfl)
            try simp only [Act.put, List.setIfInBounds_toArray, List.set_cons_zero, List.set_cons_succ, List.getElem_toArray, List.getElem_cons_succ, List.getElem_cons_zero]
            refine wpAnyH_take (i := 31) (v := ?_) rfl (by kernel_rfl) (by kernel_rfl) (by kernel_rfl) (fun _ _ _ h => h) (Or.inl ⟨by rfl, ?_⟩) hHeld ?_
            rotate_left
            · intro w9 hSw; (try dsimp only at hSw); go_simp; (try with_reducible rfl)
            try simp only [Act.put, List.setIfInBounds_toArray, List.set_cons_zero, List.set_cons_succ, List.getElem_toArray, List.getElem_cons_succ, List.getElem_cons_zero]
            refine wpAnyH_take (i := 32) (v := ?_) rfl (by kernel_rfl) (by kernel_rfl) (by kernel_rfl) (fun _ _ _ h => h) (Or.inl ⟨by rfl, ?_⟩) hHeld ?_
            rotate_left
            · intro w9 hSw; (try dsimp only at hSw); go_simp; (try with_reducible rfl)
            try simp only [Act.put, List.setIfInBounds_toArray, List.set_cons_zero, List.set_cons_succ, List.getElem_toArray, List.getElem_cons_succ, List.getElem_cons_zero]
            refine wpAnyH_take (i := 33) (v := ?_) rfl (by kernel_rfl) (by kernel_rfl) (by kernel_rfl) (fun _ _ _ h => h) (Or.inl ⟨by rfl, ?_⟩) hHeld ?_
            rotate_left
            · intro w9 hSw; (try dsimp only at hSw); go_simp; (try with_reducible rfl)
            try simp only [Act.put, List.setIfInBounds_toArray, List.set_cons_zero, List.set_cons_succ, List.getElem_toArray, List.getElem_cons_succ, List.getElem_cons_zero]
            refine wpAnyH_ready (rs := [29]) (by kernel_rfl) (by simp) (AllReadyH.cons rfl (fun K0 hK0 => ?_) AllReadyH.nil)
            go_simp
            refine (live_readL ((HP4.out.kept hK6).live) p (by have := HP.out; omega)).mono ?_
            rintro e w7 ⟨rfl, hK7⟩
            replace hK7 := hK6.trans hK7 (by simp)
            rw [← HY.out]
            simp only [vdV, vdW]
            go_wp2_with fail
            refine hK0.out _ _ (HKp.out w7 hK7) (fun hHeld => ?_)
            clear hK0 K0
            try simp only [Act.put, List.setIfInBounds_toArray, List.set_cons_zero, List.set_cons_succ, List.getElem_toArray, List.getElem_cons_succ, List.getElem_cons_zero]
            refine wpAnyH_ready (rs := [34]) (by kernel_rfl) (by simp) (AllReadyH.cons rfl (fun K0 hK0 => ?_) AllReadyH.nil)
            go_simp
            refine (mread_call _ a0 a1 a2 n0 p0 n1 p1 n2 p2 (HsL.out.kept hK7) HRe2.out.wf p (by have := HP.out; omega)).mono ?_
            rintro e w8 ⟨rfl, hK8⟩
            replace hK8 := hK7.trans hK8 (by simp)
            rw [← HY.out]
            simp only [vdV, vdW]
            go_wp2_with fail
            refine hK0.out _ _ (HKp.out w8 hK8) (fun hHeld => ?_)
            clear hK0 K0
            try simp only [Act.put, List.setIfInBounds_toArray, List.set_cons_zero, List.set_cons_succ, List.getElem_toArray, List.getElem_cons_succ, List.getElem_cons_zero]
            refine wpAnyH_ready (rs := [35]) (by kernel_rfl) (by simp) (AllReadyH.cons rfl (fun K0 hK0 => ?_) AllReadyH.nil)
            go_simp
            refine (cY _).mono ?_
            rintro e w9 ⟨rfl, hK9⟩
            replace hK9 := hK8.trans hK9 (by simp)
            go_wp2_with fail
            refine hK0.out _ _ (HKp.out w9 hK9) (fun hHeld => ?_)
            clear hK0 K0
            try simp only [Act.put, List.setIfInBounds_toArray, List.set_cons_zero, List.set_cons_succ, List.getElem_toArray, List.getElem_cons_succ, List.getElem_cons_zero]
            refine wpAnyH_take (i := 36) (v := ?_) rfl (by kernel_rfl) (by kernel_rfl) (by kernel_rfl) (fun _ _ _ h => h) (Or.inl ⟨by rfl, ?_⟩) hHeld ?_
            rotate_left
            · intro w9 hSw; (try dsimp only at hSw); go_simp; (try with_reducible rfl)
            try simp only [Act.put, List.setIfInBounds_toArray, List.set_cons_zero, List.set_cons_succ, List.getElem_toArray, List.getElem_cons_succ, List.getElem_cons_zero]
            refine wpAnyH_take (i := 37) (v := ?_) rfl (by kernel_rfl) (by kernel_rfl) (by kernel_rfl) (fun _ _ _ h => h) (Or.inl ⟨by rfl, ?_⟩) hHeld ?_
            rotate_left
            · intro w9 hSw; (try dsimp only at hSw); go_simp; (try with_reducible rfl)
            try simp only [Act.put, List.setIfInBounds_toArray, List.set_cons_zero, List.set_cons_succ, List.getElem_toArray, List.getElem_cons_succ, List.getElem_cons_zero]
            refine wpAnyH_take (i := 38) (v := ?_) rfl (by kernel_rfl) (by kernel_rfl) (by kernel_rfl) (fun _ _ _ h => h) (Or.inl ⟨by rfl, ?_⟩) hHeld ?_
            rotate_left
            · intro w9 hSw; (try dsimp only at hSw); go_simp; (try with_reducible rfl)
            try simp only [Act.put, List.setIfInBounds_toArray, List.set_cons_zero, List.set_cons_succ, List.getElem_toArray, List.getElem_cons_succ, List.getElem_cons_zero]
            refine wpAnyH_take (i := 39) (v := ?_) rfl (by kernel_rfl) (by kernel_rfl) (by kernel_rfl) (fun _ _ _ h => h) (Or.inl ⟨by rfl, ?_⟩) hHeld ?_
            rotate_left
            · intro w9 hSw; (try dsimp only at hSw); go_simp; (try with_reducible rfl)
            try simp only [Act.put, List.setIfInBounds_toArray, List.set_cons_zero, List.set_cons_succ, List.getElem_toArray, List.getElem_cons_succ, List.getElem_cons_zero]
            refine wpAnyH_take (i := 40) (v := ?_) rfl (by kernel_rfl) (by kernel_rfl) (by kernel_rfl) (fun _ _ _ h => h) (Or.inl ⟨by rfl, ?_⟩) hHeld ?_
            rotate_left
            · intro w9 hSw; (try dsimp only at hSw); go_simp; (try with_reducible rfl)
            try simp only [Act.put, List.setIfInBounds_toArray, List.set_cons_zero, List.set_cons_succ, List.getElem_toArray, List.getElem_cons_succ, List.getElem_cons_zero]
            refine wpAnyH_take (i := 41) (v := ?_) rfl (by kernel_rfl) (by kernel_rfl) (by kernel_rfl) (fun _ _ _ h => h) (Or.inl ⟨by rfl, ?_⟩) hHeld ?_
            rotate_left
            · intro w9 hSw; (try dsimp only at hSw); go_simp; (try with_reducible rfl)
            try simp only [Act.put, List.setIfInBounds_toArray, List.set_cons_zero, List.set_cons_succ, List.getElem_toArray, List.getElem_cons_succ, List.getElem_cons_zero]
            refine wpAnyH_take (i := 42) (v := ?_) rfl (by kernel_rfl) (by kernel_rfl) (by kernel_rfl) (fun _ _ _ h => h) (Or.inl ⟨by rfl, ?_⟩) hHeld ?_
            rotate_left
            · intro w9 hSw; (try dsimp only at hSw); go_simp; (try with_reducible rfl)
            try simp only [Act.put, List.setIfInBounds_toArray, List.set_cons_zero, List.set_cons_succ, List.getElem_toArray, List.getElem_cons_succ, List.getElem_cons_zero]
            refine wpAnyH_take (i := 44) (v := ?_) rfl (by kernel_rfl) (by kernel_rfl) (by kernel_rfl) (fun _ _ _ h => h) (Or.inl ⟨by rfl, ?_⟩) hHeld ?_
            rotate_left
            · intro w9 hSw; (try dsimp only at hSw); go_simp; (try with_reducible rfl)
            try simp only [Act.put, List.setIfInBounds_toArray, List.set_cons_zero, List.set_cons_succ, List.getElem_toArray, List.getElem_cons_succ, List.getElem_cons_zero]
            refine wpAnyH_take (i := 45) (v := ?_) rfl (by kernel_rfl) (by kernel_rfl) (by kernel_rfl) (fun _ _ _ h => h) (Or.inl ⟨by rfl, ?_⟩) hHeld ?_
            rotate_left
            · intro w9 hSw; (try dsimp only at hSw); go_simp; (try with_reducible rfl)
            try simp only [Act.put, List.setIfInBounds_toArray, List.set_cons_zero, List.set_cons_succ, List.getElem_toArray, List.getElem_cons_succ, List.getElem_cons_zero]
            refine wpAnyH_take (i := 46) (v := ?_) rfl (by kernel_rfl) (by kernel_rfl) (by kernel_rfl) (fun _ _ _ h => h) (Or.inl ⟨by rfl, ?_⟩) hHeld ?_
            rotate_left
            · intro w9 hSw; (try dsimp only at hSw); go_simp; (try with_reducible rfl)
            try simp only [Act.put, List.setIfInBounds_toArray, List.set_cons_zero, List.set_cons_succ, List.getElem_toArray, List.getElem_cons_succ, List.getElem_cons_zero]
            refine wpAnyH_take (i := 47) (v := ?_) rfl (by kernel_rfl) (by kernel_rfl) (by kernel_rfl) (fun _ _ _ h => h) (Or.inl ⟨by rfl, ?_⟩) hHeld ?_
            rotate_left
            · intro w9 hSw; (try dsimp only at hSw); go_simp; (try with_reducible rfl)
            try simp only [Act.put, List.setIfInBounds_toArray, List.set_cons_zero, List.set_cons_succ, List.getElem_toArray, List.getElem_cons_succ, List.getElem_cons_zero]
            refine wpAnyH_take (i := 48) (v := ?_) rfl (by kernel_rfl) (by kernel_rfl) (by kernel_rfl) (fun _ _ _ h => h) (Or.inl ⟨by rfl, ?_⟩) hHeld ?_
            rotate_left
            · intro w9 hSw; (try dsimp only at hSw); go_simp; (try with_reducible rfl)
            try simp only [Act.put, List.setIfInBounds_toArray, List.set_cons_zero, List.set_cons_succ, List.getElem_toArray, List.getElem_cons_succ, List.getElem_cons_zero]
            refine wpAnyH_take (i := 49) (v := ?_) rfl (by kernel_rfl) (by kernel_rfl) (by kernel_rfl) (fun _ _ _ h => h) (Or.inl ⟨by rfl, ?_⟩) hHeld ?_
            rotate_left
            · intro w9 hSw; (try dsimp only at hSw); go_simp; (try with_reducible rfl)
            try simp only [Act.put, List.setIfInBounds_toArray, List.set_cons_zero, List.set_cons_succ, List.getElem_toArray, List.getElem_cons_succ, List.getElem_cons_zero]
            by_cases hlg : f < 1 ∨ mi < 1
            · have cB := fun W => alike_plain W ⟨5, 0, [], 0⟩
              simp only [vdV, vdW] at cB
              refine wpAnyH_ready (rs := [43]) (by kernel_rfl) (by simp) (AllReadyH.cons rfl (fun K0 hK0 => ?_) AllReadyH.nil)
              go_simp
              refine (live_logB ((HP4.out.kept hK9).live) f mi hlg).mono ?_
              rintro e w10 ⟨rfl, hK10⟩
              replace hK10 := hK9.trans hK10 (by simp)
              simp only [vdV, vdW]
              go_wp2_with fail
              refine hK0.out _ _ (HKp.out w10 hK10) (fun hHeld => ?_)
              clear hK0 K0
              try simp only [Act.put, List.setIfInBounds_toArray, List.set_cons_zero, List.set_cons_succ, List.getElem_toArray, List.getElem_cons_succ, List.getElem_cons_zero]
              refine wpAnyH_ready (rs := [50]) (by kernel_rfl) (by simp) (AllReadyH.cons rfl (fun K0 hK0 => ?_) AllReadyH.nil)
              go_simp
              refine (mlog_bad _ a0 a1 a2 n0 p0 n1 p1 n2 p2 f mi hlg).mono ?_
              rintro e w11 ⟨rfl, hK11⟩
              replace hK11 := hK10.trans hK11 (by simp)
              simp only [vdV, vdW]
              go_wp2_with fail
              refine hK0.out _ _ (HKp.out w11 hK11) (fun hHeld => ?_)
              clear hK0 K0
              try simp only [Act.put, List.setIfInBounds_toArray, List.set_cons_zero, List.set_cons_succ, List.getElem_toArray, List.getElem_cons_succ, List.getElem_cons_zero]
              refine wpAnyH_ready (rs := [51]) (by kernel_rfl) (by simp) (AllReadyH.cons rfl (fun K0 hK0 => ?_) AllReadyH.nil)
              go_simp
              refine (cB _).mono ?_
              rintro e w12 ⟨rfl, hK12⟩
              replace hK12 := hK11.trans hK12 (by simp)
              go_wp2_with fail
              refine hK0.out _ _ (HKp.out w12 hK12) (fun hHeld => ?_)
              clear hK0 K0
              try simp only [Act.put, List.setIfInBounds_toArray, List.set_cons_zero, List.set_cons_succ, List.getElem_toArray, List.getElem_cons_succ, List.getElem_cons_zero]
              refine wpAnyH_take (i := 52) (v := ?_) rfl (by kernel_rfl) (by kernel_rfl) (by kernel_rfl) (fun _ _ _ h => h) (Or.inl ⟨by rfl, ?_⟩) hHeld ?_
              rotate_left
              · intro w9 hSw; (try dsimp only at hSw); go_simp; (try with_reducible rfl)
              try simp only [Act.put, List.setIfInBounds_toArray, List.set_cons_zero, List.set_cons_succ, List.getElem_toArray, List.getElem_cons_succ, List.getElem_cons_zero]
              refine wpAnyH_take (i := 53) (v := ?_) rfl (by kernel_rfl) (by kernel_rfl) (by kernel_rfl) (fun _ _ _ h => h) (Or.inl ⟨by rfl, ?_⟩) hHeld ?_
              rotate_left
              · intro w9 hSw; (try dsimp only at hSw); go_simp; (try with_reducible rfl)
              try simp only [Act.put, List.setIfInBounds_toArray, List.set_cons_zero, List.set_cons_succ, List.getElem_toArray, List.getElem_cons_succ, List.getElem_cons_zero]
              have HN := hid_of (HP4.out.kept hK12)
              refine wpAnyH_done (by kernel_rfl) ?_ _
              go_wp2_with fail
              go_roundw
              case rel => exact ⟨i + 1, by go_num, by omega, by rw [← HG2e.out]; exact HN.out⟩
              case measure => (simp [intOf] <;> omega)
            · have hl1 : 1 ≤ f := by omega
              have hl2 : 1 ≤ mi := by omega
              refine wpAnyH_ready (rs := [43]) (by kernel_rfl) (by simp) (AllReadyH.cons rfl (fun K0 hK0 => ?_) AllReadyH.nil)
              go_simp
              refine (live_logL ((HP4.out.kept hK9).live) HRe2.out.wf HLen.out f mi hl1 hl2 HF63.out (by have := HMi.out; omega)).mono ?_
              rintro e w10 ⟨⟨v10, K10, rfl, hc10, hR10, hO10⟩, hK10⟩
              obtain ⟨ao10, cp10, rfl, hs10, _⟩ := hR10.sl hO10
              replace hK10 := hK9.trans hK10 (by simp)
              have HS10 := hid_of hs10
              have HC10 := hid_of hc10
              simp only [vdW]
              generalize hq10 : K10.length = q10 at *
              go_wp2_with fail
              refine hK0.out _ _ (HKp.out w10 hK10) (fun hHeld => ?_)
              clear hK0 K0
              try simp only [Act.put, List.setIfInBounds_toArray, List.set_cons_zero, List.set_cons_succ, List.getElem_toArray, List.getElem_cons_succ, List.getElem_cons_zero]
              refine wpAnyH_ready (rs := [50]) (by kernel_rfl) (by simp) (AllReadyH.cons rfl (fun K0 hK0 => ?_) AllReadyH.nil)
              go_simp
              refine (mlogL _ a0 a1 a2 n0 p0 n1 p1 n2 p2 (HsK.out.kept hK10) HCm.out HRe2.out.wf HLen.out f mi hl1 hl2 HF63.out).mono ?_
              rintro e w11 ⟨⟨v11, K11, rfl, hc11, hR11, hO11⟩, hK11⟩
              obtain ⟨ao11, cp11, rfl, hs11, _⟩ := hR11.sl hO11
              have cZ := alike_call w11 ⟨11, 0, [], 0⟩ ao10 ao11 q10 K11.length cp10 cp11 K10 K11 (HS10.out.kept hK11) hs11 (by rw [HC10.out, hc11])
              replace hK11 := hK10.trans hK11 (by simp)
              simp only [vdW] at cZ ⊢
              generalize hq11 : K11.length = q11 at *
              go_wp2_with fail
              refine hK0.out _ _ (HKp.out w11 hK11) (fun hHeld => ?_)
              clear hK0 K0
              try simp only [Act.put, List.setIfInBounds_toArray, List.set_cons_zero, List.set_cons_succ, List.getElem_toArray, List.getElem_cons_succ, List.getElem_cons_zero]
              refine wpAnyH_ready (rs := [51]) (by kernel_rfl) (by simp) (AllReadyH.cons rfl (fun K0 hK0 => ?_) AllReadyH.nil)
              go_simp
              refine cZ.mono ?_
              rintro e w12 ⟨rfl, hK12⟩
              replace hK12 := hK11.trans hK12 (by simp)
              go_wp2_with fail
              refine hK0.out _ _ (HKp.out w12 hK12) (fun hHeld => ?_)
              clear hK0 K0
              try simp only [Act.put, List.setIfInBounds_toArray, List.set_cons_zero, List.set_cons_succ, List.getElem_toArray, List.getElem_cons_succ, List.getElem_cons_zero]
              refine wpAnyH_take (i := 52) (v := ?_) rfl (by kernel_rfl) (by kernel_rfl) (by kernel_rfl) (fun _ _ _ h => h) (Or.inl ⟨by rfl, ?_⟩) hHeld ?_
              rotate_left
              · intro w9 hSw; (try dsimp only at hSw); go_simp; (try with_reducible rfl)
              try simp only [Act.put, List.setIfInBounds_toArray, List.set_cons_zero, List.set_cons_succ, List.getElem_toArray, List.getElem_cons_succ, List.getElem_cons_zero]
              refine wpAnyH_take (i := 53) (v := ?_) rfl (by kernel_rfl) (by kernel_rfl) (by kernel_rfl) (fun _ _ _ h => h) (Or.inl ⟨by rfl, ?_⟩) hHeld ?_
              rotate_left
              · intro w9 hSw; (try dsimp only at hSw); go_simp; (try with_reducible rfl)
              try simp only [Act.put, List.setIfInBounds_toArray, List.set_cons_zero, List.set_cons_succ, List.getElem_toArray, List.getElem_cons_succ, List.getElem_cons_zero]
              have HN := hid_of (HP4.out.kept hK12)
              refine wpAnyH_done (by kernel_rfl) ?_ _
              go_wp2_with fail
              go_roundw
              case rel => exact ⟨i + 1, by go_num, by omega, by rw [← HG2e.out]; exact HN.out⟩
              case measure => (simp [intOf] <;> omega)
        · have hlt' : ¬ (i : Int) < D.length := by omega
          go_wp2_with fail
          go_ret
          exact ⟨rfl, HK1.out.trans HLv.out.keeps (by simp)⟩
    · go_enter Tryz.func4, Tryz.ntmps4
      go_wp2_with fail
      refine (awake_callG w).mono ?_
      rintro _ w1 ⟨rfl, hK1⟩
      go_wp2_with fail
      refine (cR w1 hK1).mono ?_
      rintro _ W ⟨rfl, hW0⟩
      obtain rfl := hW0.symm
      go_wp2_with fail
      go_ret
      exact ⟨rfl, hK1⟩

end Go.Proofs.YtfoghemiaidnhaaGreat
