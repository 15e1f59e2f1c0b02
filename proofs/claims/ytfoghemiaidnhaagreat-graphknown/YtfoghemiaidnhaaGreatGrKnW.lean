/-
  GraphKnown: chapter 5's examples.
-/
import Derived.Test.YtfoghemiaidnhaaGreatGrAwake
import Derived.Test.YtfoghemiaidnhaaGreatGrRefs
namespace Go.Proofs.YtfoghemiaidnhaaGreat
open Go.RowKit

theorem live_read {w0 w : World} {b : Nat} {G : Gr} (h : Live w0 w b G) (q : List UInt8) (hq : q.length ≤ 1000000000) :
    Calls Tryz.prog 10 #[.pointer (some ⟨b, 0, none⟩), .string (str q)] w fun e w' => e = .returned (vdV (readV G q)) ∧ Kept [] w w' := by
  obtain ⟨S, ⟨v, p, t, mb, K, hG, rfl⟩, h2, h3⟩ := h
  exact read_call hG q hq

theorem live_refs {w0 w : World} {b : Nat} {G : Gr} (h : Live w0 w b G) (hW : Wf G) (hl : G.cs.length ≤ 10000) :
    Calls Tryz.prog 11 #[.pointer (some ⟨b, 0, none⟩)] w fun e w' => ∃ v', e = .returned v' ∧ OwnR w.heap.size w' v' G.rs ∧ Kept [] w w' := by
  obtain ⟨S, ⟨v, p, t, mb, K, hG, rfl⟩, h2, h3⟩ := h
  exact refs_call hG hW.srs (by have := hW.refs; omega) (fun x hx => by have := (hW.name x hx).2; omega)

def exC1 : Com := ⟨1, 0, [], [⟨[97], false, 5⟩]⟩
def exC2 : Com := ⟨2, 0, [109, 97, 105, 110], [⟨[98], false, 6⟩]⟩
def exC3 : Com := ⟨3, 1, [], [⟨[97], false, 7⟩]⟩
def exG2 : Gr := ⟨[exC1, exC2], [⟨[97], 5, 1, false⟩, ⟨[98], 6, 2, false⟩], [([109, 97, 105, 110], 2)]⟩
def exG3 : Gr := ⟨[exC1, exC2, exC3], [⟨[97], 7, 3, false⟩, ⟨[98], 6, 2, false⟩], [([109, 97, 105, 110], 2)]⟩

theorem bad_main : badB 0 [109, 97, 105, 110] [⟨[98], false, 6⟩] = false := by
  have h : wordB false [109, 97, 105, 110] = true := by decide
  simp [badB, check_one norm_b, h]

theorem kn_2 : endV exG1 0 [109, 97, 105, 110] [⟨[98], false, 6⟩] = none := by
  rw [endV_conf bad_main (by simp [exG1])]; decide
theorem kn_2g : landG exG1 0 [109, 97, 105, 110] [⟨[98], false, 6⟩] = exG2 := by rw [(landV_none kn_2).2]; unfold addG exG2; rw [Gr.mk.injEq]; exact ⟨by decide, by decide, by decide⟩
theorem kn_3 : endV exG2 1 [] [⟨[97], false, 7⟩] = none := by
  rw [end_one norm_a (by omega) (by simp [exG2])]; decide
theorem kn_3g : landG exG2 1 [] [⟨[97], false, 7⟩] = exG3 := by rw [(landV_none kn_3).2]; unfold addG exG3; rw [Gr.mk.injEq]; exact ⟨by decide, by decide, by decide⟩
theorem kn_4 : endV exG3 0 [] [⟨[97], false, 8⟩] = some ⟨3, 3, [97], 0⟩ := by
  rw [end_one norm_a (by omega) (by simp [exG3])]; decide
theorem kn_5 : endV exG3 9 [] [⟨[97], false, 1⟩] = some ⟨4, 3, [], 0⟩ := by
  rw [endV_ahead (bad_one norm_a (by omega)) (by simp [exG3])]; rfl
theorem exG2_wf : Wf exG2 := by rw [← kn_2g]; exact wf_land exG1_wf _ _ _
theorem exG3_wf : Wf exG3 := by rw [← kn_3g]; exact wf_land exG2_wf _ _ _
theorem kn_6 : readV exG3 [97] = ⟨9, 3, [97], 7⟩ := by decide
theorem kn_7 : readV exG3 [99] = ⟨10, 0, [99], 0⟩ := by decide

set_option maxHeartbeats 8000000 in
set_option maxRecDepth 100000 in
theorem known_walkG (w : World) :
    Calls Tryz.prog 3 #[] w fun e w' => e = .returned (.bool true) ∧ Kept [] w w' := by
  have t1 : ((str [99]).toList == [99]) = true := by rw [str_toList]; rfl
  have t2 : ((str [109, 97, 105, 110]).toList == [109, 97, 105, 110]) = true := by rw [str_toList]; rfl
  go_enter Tryz.func3, Tryz.ntmps3
  go_wp2_with fail
  refine (awake_callG w).mono ?_
  rintro _ w0 ⟨rfl, hK0⟩
  go_wp2_with fail
  refine (live_new w0).mono ?_
  rintro _ w1 ⟨b, rfl, hG1⟩
  have hKa := (Kept.refl [] w1).alloc (.cells #[.string ⟨#[97]⟩, .bool false, .int .u64 5] 31)
  have cL := live_land (hG1.kept hKa) wf_void (by decide) 0 [] (by decide) _ _ _ [⟨[97], false, 5⟩] (SlC.lit w1 [⟨[97], false, 5⟩] rfl (by decide) rfl) (by simp) (by decide) (by decide)
  rw [ex_1v, ex_1g] at cL
  simp only [vdV, vdW] at cL
  go_wp2_with fail
  refine Calls.mono cL ?_
  rintro _ w2 ⟨rfl, hG2, hO2⟩
  have hKv := (Kept.refl [] w2).alloc (.cells #[.int .i64 2, .int .i64 0, .int .i64 1, .string (str []), .int .u64 0, .slice none 0 0, .int .i64 0] 28)
  have hF : Off w1 (w2.alloc (.cells #[.int .i64 2, .int .i64 0, .int .i64 1, .string (str []), .int .u64 0, .slice none 0 0, .int .i64 0] 28)) := Off.trans (fun k vs t (h : w1.heap[k]? = some (.cells vs t (0, 0))) h1 h2 => hO2 k vs t (hKa.at h (by simp)) h1 h2 : Off w1 w2) (off_kept hKv)
  have HB2 : Hid ((w2.alloc (.cells #[.int .i64 2, .int .i64 0, .int .i64 1, .string (str []), .int .u64 0, .slice none 0 0, .int .i64 0] 28)).heap[w2.heap.size]? = some (.cells #[.int .i64 2, .int .i64 0, .int .i64 1, .string (str []), .int .u64 0, .slice none 0 0, .int .i64 0] 28 (0, 0))) := heap_alloc_new _ _
  replace hG2 := hG2.kept hKv
  clear hKa cL hG1 hF hKv
  have hKa := (Kept.refl [] (w2.alloc (.cells #[.int .i64 2, .int .i64 0, .int .i64 1, .string (str []), .int .u64 0, .slice none 0 0, .int .i64 0] 28))).alloc (.cells #[.string ⟨#[98]⟩, .bool false, .int .u64 6] 31)
  have cL := live_land (hG2.kept hKa) exG1_wf (by decide) 0 [109, 97, 105, 110] (by decide) _ _ _ [⟨[98], false, 6⟩] (SlC.lit (w2.alloc (.cells #[.int .i64 2, .int .i64 0, .int .i64 1, .string (str []), .int .u64 0, .slice none 0 0, .int .i64 0] 28)) [⟨[98], false, 6⟩] rfl (by decide) rfl) (by simp) (by decide) (by decide)
  rw [(landV_none kn_2).1, kn_2g] at cL
  simp only [vdV, vdW] at cL
  rw [World.size_alloc] at cL
  go_wp2_with fail
  refine Calls.mono cL ?_
  rintro _ w3 ⟨rfl, hG3, hO3⟩
  have hKv := (Kept.refl [] w3).alloc (.cells #[.int .i64 2, .int .i64 0, .int .i64 2, .string (str []), .int .u64 0, .slice none 0 0, .int .i64 0] 28)
  have hF : Off (w2.alloc (.cells #[.int .i64 2, .int .i64 0, .int .i64 1, .string (str []), .int .u64 0, .slice none 0 0, .int .i64 0] 28)) (w3.alloc (.cells #[.int .i64 2, .int .i64 0, .int .i64 2, .string (str []), .int .u64 0, .slice none 0 0, .int .i64 0] 28)) := Off.trans (fun k vs t (h : (w2.alloc (.cells #[.int .i64 2, .int .i64 0, .int .i64 1, .string (str []), .int .u64 0, .slice none 0 0, .int .i64 0] 28)).heap[k]? = some (.cells vs t (0, 0))) h1 h2 => hO3 k vs t (hKa.at h (by simp)) h1 h2 : Off (w2.alloc (.cells #[.int .i64 2, .int .i64 0, .int .i64 1, .string (str []), .int .u64 0, .slice none 0 0, .int .i64 0] 28)) w3) (off_kept hKv)
  replace HB2 : Hid ((w3.alloc (.cells #[.int .i64 2, .int .i64 0, .int .i64 2, .string (str []), .int .u64 0, .slice none 0 0, .int .i64 0] 28)).heap[w2.heap.size]? = some (.cells #[.int .i64 2, .int .i64 0, .int .i64 1, .string (str []), .int .u64 0, .slice none 0 0, .int .i64 0] 28 (0, 0))) := hF _ _ _ HB2.out (by decide) (by decide)
  have HB3 : Hid ((w3.alloc (.cells #[.int .i64 2, .int .i64 0, .int .i64 2, .string (str []), .int .u64 0, .slice none 0 0, .int .i64 0] 28)).heap[w3.heap.size]? = some (.cells #[.int .i64 2, .int .i64 0, .int .i64 2, .string (str []), .int .u64 0, .slice none 0 0, .int .i64 0] 28 (0, 0))) := heap_alloc_new _ _
  replace hG3 := hG3.kept hKv
  clear hKa cL hG2 hF hKv
  have hKa := (Kept.refl [] (w3.alloc (.cells #[.int .i64 2, .int .i64 0, .int .i64 2, .string (str []), .int .u64 0, .slice none 0 0, .int .i64 0] 28))).alloc (.cells #[.string ⟨#[97]⟩, .bool false, .int .u64 7] 31)
  have cL := live_land (hG3.kept hKa) exG2_wf (by decide) 1 [] (by decide) _ _ _ [⟨[97], false, 7⟩] (SlC.lit (w3.alloc (.cells #[.int .i64 2, .int .i64 0, .int .i64 2, .string (str []), .int .u64 0, .slice none 0 0, .int .i64 0] 28)) [⟨[97], false, 7⟩] rfl (by decide) rfl) (by simp) (by decide) (by decide)
  rw [(landV_none kn_3).1, kn_3g] at cL
  simp only [vdV, vdW] at cL
  rw [World.size_alloc] at cL
  go_wp2_with fail
  refine Calls.mono cL ?_
  rintro _ w4 ⟨rfl, hG4, hO4⟩
  have hKv := (Kept.refl [] w4).alloc (.cells #[.int .i64 2, .int .i64 0, .int .i64 3, .string (str []), .int .u64 0, .slice none 0 0, .int .i64 0] 28)
  have hF : Off (w3.alloc (.cells #[.int .i64 2, .int .i64 0, .int .i64 2, .string (str []), .int .u64 0, .slice none 0 0, .int .i64 0] 28)) (w4.alloc (.cells #[.int .i64 2, .int .i64 0, .int .i64 3, .string (str []), .int .u64 0, .slice none 0 0, .int .i64 0] 28)) := Off.trans (fun k vs t (h : (w3.alloc (.cells #[.int .i64 2, .int .i64 0, .int .i64 2, .string (str []), .int .u64 0, .slice none 0 0, .int .i64 0] 28)).heap[k]? = some (.cells vs t (0, 0))) h1 h2 => hO4 k vs t (hKa.at h (by simp)) h1 h2 : Off (w3.alloc (.cells #[.int .i64 2, .int .i64 0, .int .i64 2, .string (str []), .int .u64 0, .slice none 0 0, .int .i64 0] 28)) w4) (off_kept hKv)
  replace HB2 : Hid ((w4.alloc (.cells #[.int .i64 2, .int .i64 0, .int .i64 3, .string (str []), .int .u64 0, .slice none 0 0, .int .i64 0] 28)).heap[w2.heap.size]? = some (.cells #[.int .i64 2, .int .i64 0, .int .i64 1, .string (str []), .int .u64 0, .slice none 0 0, .int .i64 0] 28 (0, 0))) := hF _ _ _ HB2.out (by decide) (by decide)
  replace HB3 : Hid ((w4.alloc (.cells #[.int .i64 2, .int .i64 0, .int .i64 3, .string (str []), .int .u64 0, .slice none 0 0, .int .i64 0] 28)).heap[w3.heap.size]? = some (.cells #[.int .i64 2, .int .i64 0, .int .i64 2, .string (str []), .int .u64 0, .slice none 0 0, .int .i64 0] 28 (0, 0))) := hF _ _ _ HB3.out (by decide) (by decide)
  have HB4 : Hid ((w4.alloc (.cells #[.int .i64 2, .int .i64 0, .int .i64 3, .string (str []), .int .u64 0, .slice none 0 0, .int .i64 0] 28)).heap[w4.heap.size]? = some (.cells #[.int .i64 2, .int .i64 0, .int .i64 3, .string (str []), .int .u64 0, .slice none 0 0, .int .i64 0] 28 (0, 0))) := heap_alloc_new _ _
  replace hG4 := hG4.kept hKv
  clear hKa cL hG3 hF hKv
  have hKa := (Kept.refl [] (w4.alloc (.cells #[.int .i64 2, .int .i64 0, .int .i64 3, .string (str []), .int .u64 0, .slice none 0 0, .int .i64 0] 28))).alloc (.cells #[.string ⟨#[97]⟩, .bool false, .int .u64 8] 31)
  have cL := live_land (hG4.kept hKa) exG3_wf (by decide) 0 [] (by decide) _ _ _ [⟨[97], false, 8⟩] (SlC.lit (w4.alloc (.cells #[.int .i64 2, .int .i64 0, .int .i64 3, .string (str []), .int .u64 0, .slice none 0 0, .int .i64 0] 28)) [⟨[97], false, 8⟩] rfl (by decide) rfl) (by simp) (by decide) (by decide)
  rw [(landV_some kn_4).1, (landV_some kn_4).2] at cL
  simp only [vdV, vdW] at cL
  rw [World.size_alloc] at cL
  go_wp2_with fail
  refine Calls.mono cL ?_
  rintro _ w5 ⟨rfl, hG5, hO5⟩
  have hKv := (Kept.refl [] w5).alloc (.cells #[.int .i64 3, .int .i64 0, .int .i64 3, .string (str [97]), .int .u64 0, .slice none 0 0, .int .i64 0] 28)
  have hF : Off (w4.alloc (.cells #[.int .i64 2, .int .i64 0, .int .i64 3, .string (str []), .int .u64 0, .slice none 0 0, .int .i64 0] 28)) (w5.alloc (.cells #[.int .i64 3, .int .i64 0, .int .i64 3, .string (str [97]), .int .u64 0, .slice none 0 0, .int .i64 0] 28)) := Off.trans (fun k vs t (h : (w4.alloc (.cells #[.int .i64 2, .int .i64 0, .int .i64 3, .string (str []), .int .u64 0, .slice none 0 0, .int .i64 0] 28)).heap[k]? = some (.cells vs t (0, 0))) h1 h2 => hO5 k vs t (hKa.at h (by simp)) h1 h2 : Off (w4.alloc (.cells #[.int .i64 2, .int .i64 0, .int .i64 3, .string (str []), .int .u64 0, .slice none 0 0, .int .i64 0] 28)) w5) (off_kept hKv)
  replace HB2 : Hid ((w5.alloc (.cells #[.int .i64 3, .int .i64 0, .int .i64 3, .string (str [97]), .int .u64 0, .slice none 0 0, .int .i64 0] 28)).heap[w2.heap.size]? = some (.cells #[.int .i64 2, .int .i64 0, .int .i64 1, .string (str []), .int .u64 0, .slice none 0 0, .int .i64 0] 28 (0, 0))) := hF _ _ _ HB2.out (by decide) (by decide)
  replace HB3 : Hid ((w5.alloc (.cells #[.int .i64 3, .int .i64 0, .int .i64 3, .string (str [97]), .int .u64 0, .slice none 0 0, .int .i64 0] 28)).heap[w3.heap.size]? = some (.cells #[.int .i64 2, .int .i64 0, .int .i64 2, .string (str []), .int .u64 0, .slice none 0 0, .int .i64 0] 28 (0, 0))) := hF _ _ _ HB3.out (by decide) (by decide)
  replace HB4 : Hid ((w5.alloc (.cells #[.int .i64 3, .int .i64 0, .int .i64 3, .string (str [97]), .int .u64 0, .slice none 0 0, .int .i64 0] 28)).heap[w4.heap.size]? = some (.cells #[.int .i64 2, .int .i64 0, .int .i64 3, .string (str []), .int .u64 0, .slice none 0 0, .int .i64 0] 28 (0, 0))) := hF _ _ _ HB4.out (by decide) (by decide)
  have HB5 : Hid ((w5.alloc (.cells #[.int .i64 3, .int .i64 0, .int .i64 3, .string (str [97]), .int .u64 0, .slice none 0 0, .int .i64 0] 28)).heap[w5.heap.size]? = some (.cells #[.int .i64 3, .int .i64 0, .int .i64 3, .string (str [97]), .int .u64 0, .slice none 0 0, .int .i64 0] 28 (0, 0))) := heap_alloc_new _ _
  replace hG5 := hG5.kept hKv
  clear hKa cL hG4 hF hKv
  have hKa := (Kept.refl [] (w5.alloc (.cells #[.int .i64 3, .int .i64 0, .int .i64 3, .string (str [97]), .int .u64 0, .slice none 0 0, .int .i64 0] 28))).alloc (.cells #[.string ⟨#[97]⟩, .bool false, .int .u64 1] 31)
  have cL := live_land (hG5.kept hKa) exG3_wf (by decide) 9 [] (by decide) _ _ _ [⟨[97], false, 1⟩] (SlC.lit (w5.alloc (.cells #[.int .i64 3, .int .i64 0, .int .i64 3, .string (str [97]), .int .u64 0, .slice none 0 0, .int .i64 0] 28)) [⟨[97], false, 1⟩] rfl (by decide) rfl) (by simp) (by decide) (by decide)
  rw [(landV_some kn_5).1, (landV_some kn_5).2] at cL
  simp only [vdV, vdW] at cL
  rw [World.size_alloc] at cL
  go_wp2_with fail
  refine Calls.mono cL ?_
  rintro _ w6 ⟨rfl, hG6, hO6⟩
  have hKv := (Kept.refl [] w6).alloc (.cells #[.int .i64 4, .int .i64 0, .int .i64 3, .string (str []), .int .u64 0, .slice none 0 0, .int .i64 0] 28)
  have hF : Off (w5.alloc (.cells #[.int .i64 3, .int .i64 0, .int .i64 3, .string (str [97]), .int .u64 0, .slice none 0 0, .int .i64 0] 28)) (w6.alloc (.cells #[.int .i64 4, .int .i64 0, .int .i64 3, .string (str []), .int .u64 0, .slice none 0 0, .int .i64 0] 28)) := Off.trans (fun k vs t (h : (w5.alloc (.cells #[.int .i64 3, .int .i64 0, .int .i64 3, .string (str [97]), .int .u64 0, .slice none 0 0, .int .i64 0] 28)).heap[k]? = some (.cells vs t (0, 0))) h1 h2 => hO6 k vs t (hKa.at h (by simp)) h1 h2 : Off (w5.alloc (.cells #[.int .i64 3, .int .i64 0, .int .i64 3, .string (str [97]), .int .u64 0, .slice none 0 0, .int .i64 0] 28)) w6) (off_kept hKv)
  replace HB2 : Hid ((w6.alloc (.cells #[.int .i64 4, .int .i64 0, .int .i64 3, .string (str []), .int .u64 0, .slice none 0 0, .int .i64 0] 28)).heap[w2.heap.size]? = some (.cells #[.int .i64 2, .int .i64 0, .int .i64 1, .string (str []), .int .u64 0, .slice none 0 0, .int .i64 0] 28 (0, 0))) := hF _ _ _ HB2.out (by decide) (by decide)
  replace HB3 : Hid ((w6.alloc (.cells #[.int .i64 4, .int .i64 0, .int .i64 3, .string (str []), .int .u64 0, .slice none 0 0, .int .i64 0] 28)).heap[w3.heap.size]? = some (.cells #[.int .i64 2, .int .i64 0, .int .i64 2, .string (str []), .int .u64 0, .slice none 0 0, .int .i64 0] 28 (0, 0))) := hF _ _ _ HB3.out (by decide) (by decide)
  replace HB4 : Hid ((w6.alloc (.cells #[.int .i64 4, .int .i64 0, .int .i64 3, .string (str []), .int .u64 0, .slice none 0 0, .int .i64 0] 28)).heap[w4.heap.size]? = some (.cells #[.int .i64 2, .int .i64 0, .int .i64 3, .string (str []), .int .u64 0, .slice none 0 0, .int .i64 0] 28 (0, 0))) := hF _ _ _ HB4.out (by decide) (by decide)
  replace HB5 : Hid ((w6.alloc (.cells #[.int .i64 4, .int .i64 0, .int .i64 3, .string (str []), .int .u64 0, .slice none 0 0, .int .i64 0] 28)).heap[w5.heap.size]? = some (.cells #[.int .i64 3, .int .i64 0, .int .i64 3, .string (str [97]), .int .u64 0, .slice none 0 0, .int .i64 0] 28 (0, 0))) := hF _ _ _ HB5.out (by decide) (by decide)
  have HB6 : Hid ((w6.alloc (.cells #[.int .i64 4, .int .i64 0, .int .i64 3, .string (str []), .int .u64 0, .slice none 0 0, .int .i64 0] 28)).heap[w6.heap.size]? = some (.cells #[.int .i64 4, .int .i64 0, .int .i64 3, .string (str []), .int .u64 0, .slice none 0 0, .int .i64 0] 28 (0, 0))) := heap_alloc_new _ _
  replace hG6 := hG6.kept hKv
  clear hKa cL hG5 hF hKv
  have cL := live_read hG6 [97] (by decide)
  rw [kn_6] at cL
  simp only [vdV, vdW] at cL
  go_wp2_with fail
  refine Calls.mono cL ?_
  rintro _ w7 ⟨rfl, hK7⟩
  have hG7 := hG6.kept hK7
  have hKv := (Kept.refl [] w7).alloc (.cells #[.int .i64 9, .int .i64 0, .int .i64 3, .string (str [97]), .int .u64 7, .slice none 0 0, .int .i64 0] 28)
  have hF : Off (w6.alloc (.cells #[.int .i64 4, .int .i64 0, .int .i64 3, .string (str []), .int .u64 0, .slice none 0 0, .int .i64 0] 28)) (w7.alloc (.cells #[.int .i64 9, .int .i64 0, .int .i64 3, .string (str [97]), .int .u64 7, .slice none 0 0, .int .i64 0] 28)) := Off.trans (off_kept hK7 : Off (w6.alloc (.cells #[.int .i64 4, .int .i64 0, .int .i64 3, .string (str []), .int .u64 0, .slice none 0 0, .int .i64 0] 28)) w7) (off_kept hKv)
  replace HB2 : Hid ((w7.alloc (.cells #[.int .i64 9, .int .i64 0, .int .i64 3, .string (str [97]), .int .u64 7, .slice none 0 0, .int .i64 0] 28)).heap[w2.heap.size]? = some (.cells #[.int .i64 2, .int .i64 0, .int .i64 1, .string (str []), .int .u64 0, .slice none 0 0, .int .i64 0] 28 (0, 0))) := hF _ _ _ HB2.out (by decide) (by decide)
  replace HB3 : Hid ((w7.alloc (.cells #[.int .i64 9, .int .i64 0, .int .i64 3, .string (str [97]), .int .u64 7, .slice none 0 0, .int .i64 0] 28)).heap[w3.heap.size]? = some (.cells #[.int .i64 2, .int .i64 0, .int .i64 2, .string (str []), .int .u64 0, .slice none 0 0, .int .i64 0] 28 (0, 0))) := hF _ _ _ HB3.out (by decide) (by decide)
  replace HB4 : Hid ((w7.alloc (.cells #[.int .i64 9, .int .i64 0, .int .i64 3, .string (str [97]), .int .u64 7, .slice none 0 0, .int .i64 0] 28)).heap[w4.heap.size]? = some (.cells #[.int .i64 2, .int .i64 0, .int .i64 3, .string (str []), .int .u64 0, .slice none 0 0, .int .i64 0] 28 (0, 0))) := hF _ _ _ HB4.out (by decide) (by decide)
  replace HB5 : Hid ((w7.alloc (.cells #[.int .i64 9, .int .i64 0, .int .i64 3, .string (str [97]), .int .u64 7, .slice none 0 0, .int .i64 0] 28)).heap[w5.heap.size]? = some (.cells #[.int .i64 3, .int .i64 0, .int .i64 3, .string (str [97]), .int .u64 0, .slice none 0 0, .int .i64 0] 28 (0, 0))) := hF _ _ _ HB5.out (by decide) (by decide)
  replace HB6 : Hid ((w7.alloc (.cells #[.int .i64 9, .int .i64 0, .int .i64 3, .string (str [97]), .int .u64 7, .slice none 0 0, .int .i64 0] 28)).heap[w6.heap.size]? = some (.cells #[.int .i64 4, .int .i64 0, .int .i64 3, .string (str []), .int .u64 0, .slice none 0 0, .int .i64 0] 28 (0, 0))) := hF _ _ _ HB6.out (by decide) (by decide)
  have HB7 : Hid ((w7.alloc (.cells #[.int .i64 9, .int .i64 0, .int .i64 3, .string (str [97]), .int .u64 7, .slice none 0 0, .int .i64 0] 28)).heap[w7.heap.size]? = some (.cells #[.int .i64 9, .int .i64 0, .int .i64 3, .string (str [97]), .int .u64 7, .slice none 0 0, .int .i64 0] 28 (0, 0))) := heap_alloc_new _ _
  replace hG7 := hG7.kept hKv
  clear cL hG6 hF hKv
  have cL := live_read hG7 [99] (by decide)
  rw [kn_7] at cL
  simp only [vdV, vdW] at cL
  go_wp2_with fail
  refine Calls.mono cL ?_
  rintro _ w8 ⟨rfl, hK8⟩
  have hG8 := hG7.kept hK8
  have hKv := (Kept.refl [] w8).alloc (.cells #[.int .i64 10, .int .i64 0, .int .i64 0, .string (str [99]), .int .u64 0, .slice none 0 0, .int .i64 0] 28)
  have hF : Off (w7.alloc (.cells #[.int .i64 9, .int .i64 0, .int .i64 3, .string (str [97]), .int .u64 7, .slice none 0 0, .int .i64 0] 28)) (w8.alloc (.cells #[.int .i64 10, .int .i64 0, .int .i64 0, .string (str [99]), .int .u64 0, .slice none 0 0, .int .i64 0] 28)) := Off.trans (off_kept hK8 : Off (w7.alloc (.cells #[.int .i64 9, .int .i64 0, .int .i64 3, .string (str [97]), .int .u64 7, .slice none 0 0, .int .i64 0] 28)) w8) (off_kept hKv)
  replace HB2 : Hid ((w8.alloc (.cells #[.int .i64 10, .int .i64 0, .int .i64 0, .string (str [99]), .int .u64 0, .slice none 0 0, .int .i64 0] 28)).heap[w2.heap.size]? = some (.cells #[.int .i64 2, .int .i64 0, .int .i64 1, .string (str []), .int .u64 0, .slice none 0 0, .int .i64 0] 28 (0, 0))) := hF _ _ _ HB2.out (by decide) (by decide)
  replace HB3 : Hid ((w8.alloc (.cells #[.int .i64 10, .int .i64 0, .int .i64 0, .string (str [99]), .int .u64 0, .slice none 0 0, .int .i64 0] 28)).heap[w3.heap.size]? = some (.cells #[.int .i64 2, .int .i64 0, .int .i64 2, .string (str []), .int .u64 0, .slice none 0 0, .int .i64 0] 28 (0, 0))) := hF _ _ _ HB3.out (by decide) (by decide)
  replace HB4 : Hid ((w8.alloc (.cells #[.int .i64 10, .int .i64 0, .int .i64 0, .string (str [99]), .int .u64 0, .slice none 0 0, .int .i64 0] 28)).heap[w4.heap.size]? = some (.cells #[.int .i64 2, .int .i64 0, .int .i64 3, .string (str []), .int .u64 0, .slice none 0 0, .int .i64 0] 28 (0, 0))) := hF _ _ _ HB4.out (by decide) (by decide)
  replace HB5 : Hid ((w8.alloc (.cells #[.int .i64 10, .int .i64 0, .int .i64 0, .string (str [99]), .int .u64 0, .slice none 0 0, .int .i64 0] 28)).heap[w5.heap.size]? = some (.cells #[.int .i64 3, .int .i64 0, .int .i64 3, .string (str [97]), .int .u64 0, .slice none 0 0, .int .i64 0] 28 (0, 0))) := hF _ _ _ HB5.out (by decide) (by decide)
  replace HB6 : Hid ((w8.alloc (.cells #[.int .i64 10, .int .i64 0, .int .i64 0, .string (str [99]), .int .u64 0, .slice none 0 0, .int .i64 0] 28)).heap[w6.heap.size]? = some (.cells #[.int .i64 4, .int .i64 0, .int .i64 3, .string (str []), .int .u64 0, .slice none 0 0, .int .i64 0] 28 (0, 0))) := hF _ _ _ HB6.out (by decide) (by decide)
  replace HB7 : Hid ((w8.alloc (.cells #[.int .i64 10, .int .i64 0, .int .i64 0, .string (str [99]), .int .u64 0, .slice none 0 0, .int .i64 0] 28)).heap[w7.heap.size]? = some (.cells #[.int .i64 9, .int .i64 0, .int .i64 3, .string (str [97]), .int .u64 7, .slice none 0 0, .int .i64 0] 28 (0, 0))) := hF _ _ _ HB7.out (by decide) (by decide)
  have HB8 : Hid ((w8.alloc (.cells #[.int .i64 10, .int .i64 0, .int .i64 0, .string (str [99]), .int .u64 0, .slice none 0 0, .int .i64 0] 28)).heap[w8.heap.size]? = some (.cells #[.int .i64 10, .int .i64 0, .int .i64 0, .string (str [99]), .int .u64 0, .slice none 0 0, .int .i64 0] 28 (0, 0))) := heap_alloc_new _ _
  replace hG8 := hG8.kept hKv
  clear cL hG7 hF hKv
  have cR := live_refs hG8 exG3_wf (by decide)
  go_wp2_with fail
  refine Calls.mono cR ?_
  rintro _ w9 ⟨rv, rfl, hR, hK9⟩
  obtain ⟨g, cap, rfl, _, _⟩ := World.ownsRow.form hR (by decide)
  have d0 := World.ownsRow.cellAt hR 0 (by decide)
  have d1 := World.ownsRow.cellAt hR 1 (by decide)
  replace d0 : w9.cell? ⟨g, 0, none⟩ = some (.string (str [109, 97, 105, 110])) := d0
  replace d1 : w9.cell? ⟨g, 1, none⟩ = some (.int .i64 2) := d1
  have hcap : 1 ≤ cap := by
    obtain ⟨_, h2⟩ := hR
    rcases h2 with ⟨h3, h4⟩ | ⟨g', cap', cur, h3, _, _, h4, _⟩
    · cases h4
    · cases h3; exact h4
  obtain ⟨p20, p21, p22, p23, p24, p25, p26⟩ := cells7 (hK9.at HB2.out (by simp))
  obtain ⟨p30, p31, p32, p33, p34, p35, p36⟩ := cells7 (hK9.at HB3.out (by simp))
  obtain ⟨p40, p41, p42, p43, p44, p45, p46⟩ := cells7 (hK9.at HB4.out (by simp))
  obtain ⟨p50, p51, p52, p53, p54, p55, p56⟩ := cells7 (hK9.at HB5.out (by simp))
  obtain ⟨p60, p61, p62, p63, p64, p65, p66⟩ := cells7 (hK9.at HB6.out (by simp))
  obtain ⟨p70, p71, p72, p73, p74, p75, p76⟩ := cells7 (hK9.at HB7.out (by simp))
  obtain ⟨p80, p81, p82, p83, p84, p85, p86⟩ := cells7 (hK9.at HB8.out (by simp))
  have HK : Hid (Kept [] w w9) := hK0.trans (hG8.kept hK9).keeps (by simp)
  simp only [exG3, List.length_cons, List.length_nil] at *
  clear cR hG8 hR hK9 hK0 HB2 HB3 HB4 HB5 HB6 HB7 HB8
  go_wp2_with fail
  go_ret
  exact ⟨rfl, HK.out⟩

end Go.Proofs.YtfoghemiaidnhaaGreat
