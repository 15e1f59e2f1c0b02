/-
  awake.
-/
import Derived.Test.YtfoghemiaidnhaaGreatM9
namespace Go.Proofs.YtfoghemiaidnhaaGreat
open Go.RowKit

theorem gland_call {w : World} {b : Nat} {S : List Nat} {G : Gr} (h : GAt w b S G) (hW : Wf G) (hl : G.cs.length ≤ 10000)
    (base : Int) (n : List UInt8) (hn : n.length ≤ 1000000) (ao : Option Addr) (m c : Nat) (L : List Ch) (hS : SlC w ao m c L) (hnil : ao = none → c = 0) (hm : m ≤ 1000000) (hp : ∀ x ∈ L, x.p.length ≤ 1000000000) :
    Calls Tryz.prog 9 #[.pointer (some ⟨b, 0, none⟩), .int .i64 base, .string (str n), .slice ao m c] w fun e w' => e = .returned (vdV (landV G base n L)) ∧ LandP w b S (landG G base n L) w' := by
  obtain ⟨v, p, t, mb, K, hG, rfl⟩ := h
  exact land_call hG hW hl base n hn ao m c L hS hnil hm hp

theorem check_one {p : List UInt8} {d : Int} (h : normB p = some p) : errC [⟨p, false, d⟩] = 0 := by
  refine errC_ok ((checkOK_iff _).2 ⟨by simp, by simp, ?_, by simp⟩)
  intro x hx
  simp at hx; subst hx
  simp [mayB, h]

theorem norm_a : normB [97] = some [97] := by decide
theorem norm_b : normB [98] = some [98] := by decide

theorem bad_one {p : List UInt8} {d b : Int} (h : normB p = some p) (hb : 0 ≤ b) : badB b [] [⟨p, false, d⟩] = false := by
  simp [badB, check_one h]; omega

theorem end_one {G : Gr} {p : List UInt8} {d b : Int} (h : normB p = some p) (hb : 0 ≤ b) (hl : ¬ (G.cs.length : Int) < b) : endV G b [] [⟨p, false, d⟩] = (confl G.ls b [⟨p, false, d⟩]).map fun x => ⟨3, x.2, x.1, 0⟩ := by
  rw [endV_conf (bad_one h hb) hl]; rfl

/-- The first commit of the examples. -/
def exG1 : Gr := ⟨[⟨1, 0, [], [⟨[97], false, 5⟩]⟩], [⟨[97], 5, 1, false⟩], []⟩

theorem ex_1 : endV voidG 0 [] [⟨[97], false, 5⟩] = none := by
  rw [end_one norm_a (by omega) (by simp [voidG])]; rfl
theorem ex_1v : landV voidG 0 [] [⟨[97], false, 5⟩] = ⟨2, 1, [], 0⟩ := by rw [(landV_none ex_1).1]; rfl
theorem ex_1g : landG voidG 0 [] [⟨[97], false, 5⟩] = exG1 := by rw [(landV_none ex_1).2]; rfl
theorem ex_2 : endV exG1 0 [] [⟨[97], false, 6⟩] = some ⟨3, 1, [97], 0⟩ := by
  rw [end_one norm_a (by omega) (by simp [exG1])]; rfl
theorem exG1_wf : Wf exG1 := by rw [← ex_1g]; exact wf_land wf_void _ _ _

/-- A graph that was made behind w0. -/
def Live (w0 w : World) (b : Nat) (G : Gr) : Prop := ∃ S, GAt w b S G ∧ Kept [] w0 w ∧ ∀ k ∈ S, w0.heap.size ≤ k

/-- Blocks that no graph owns stay. -/
def Off (w w' : World) : Prop := ∀ (k : Nat) (vs : Array Value) (t : TypeId), w.heap[k]? = some (.cells vs t (0, 0)) → t ≠ 69 → t ≠ 54 → w'.heap[k]? = some (.cells vs t (0, 0))

theorem off_kept {w w' : World} (h : Kept [] w w') : Off w w' := fun k vs t hk _ _ => h.at hk (by simp)
theorem Off.trans {a b c : World} (h : Off a b) (h2 : Off b c) : Off a c := fun k vs t hk h3 h4 => h2 k vs t (h k vs t hk h3 h4) h3 h4

theorem Live.kept {w0 w w' : World} {b : Nat} {G : Gr} (h : Live w0 w b G) (k : Kept [] w w') : Live w0 w' b G := by
  obtain ⟨S, h1, h2, h3⟩ := h
  exact ⟨S, h1.kept k, h2.trans k (by simp), h3⟩

theorem Live.keeps {w0 w : World} {b : Nat} {G : Gr} (h : Live w0 w b G) : Kept [] w0 w := by
  obtain ⟨S, h1, h2, h3⟩ := h; exact h2

theorem live_new (w : World) : Calls Tryz.prog 8 #[] w fun e w' => ∃ b, e = .returned (.pointer (some ⟨b, 0, none⟩)) ∧ Live w w' b voidG :=
  (gnew_call w).mono fun _ _ ⟨b, S, h1, h2, h3, h4⟩ => ⟨b, h1, S, h2, h3, h4⟩

theorem live_land {w0 w : World} {b : Nat} {G : Gr} (h : Live w0 w b G) (hW : Wf G) (hl : G.cs.length ≤ 10000)
    (base : Int) (n : List UInt8) (hn : n.length ≤ 1000000) (ao : Option Addr) (m c : Nat) (L : List Ch) (hS : SlC w ao m c L) (hnil : ao = none → c = 0) (hm : m ≤ 1000000) (hp : ∀ x ∈ L, x.p.length ≤ 1000000000) :
    Calls Tryz.prog 9 #[.pointer (some ⟨b, 0, none⟩), .int .i64 base, .string (str n), .slice ao m c] w fun e w' => e = .returned (vdV (landV G base n L)) ∧ Live w0 w' b (landG G base n L) ∧ Off w w' := by
  obtain ⟨S, h1, h2, h3⟩ := h
  refine (gland_call h1 hW hl base n hn ao m c L hS hnil hm hp).mono fun e w' ⟨he, S', h4, h5, h6⟩ => ⟨he, ⟨S', h4, h2.trans h5 (fun i hi => .inr (h3 i hi)), fun k hk => ?_⟩, fun k vs t hk ht ht2 => h5.typed h1.typed hk (by simp [ht, ht2])⟩
  rcases h6 k hk with h7 | h7
  · exact h3 k h7
  · exact Nat.le_trans h2.size h7

theorem live_head {w0 w : World} {b : Nat} {G : Gr} (h : Live w0 w b G) :
    Calls Tryz.prog 24 #[.pointer (some ⟨b, 0, none⟩)] w fun e w' => e = .returned (.int .i64 (G.cs.length : Int)) ∧ w' = w := by
  obtain ⟨S, h1, h2, h3⟩ := h
  exact ghead_call h1

set_option maxHeartbeats 4000000 in
set_option maxRecDepth 100000 in
theorem awake_callG (w : World) :
    Calls Tryz.prog 7 #[] w fun e w' => e = .returned (.bool true) ∧ Kept [] w w' := by
  go_enter Tryz.func7, Tryz.ntmps7
  go_wp2_with fail
  refine (live_new w).mono ?_
  rintro _ w1 ⟨b, rfl, hG1⟩
  have hKa := (Kept.refl [] w1).alloc (.cells #[.string ⟨#[97]⟩, .bool false, .int .u64 5] 31)
  have cL := live_land (hG1.kept hKa) wf_void (by simp [voidG]) 0 [] (by simp) _ _ _ [⟨[97], false, 5⟩] (SlC.lit w1 [⟨[97], false, 5⟩] rfl (by simp [maxLen]) rfl) (by simp) (by simp) (by simp)
  rw [ex_1v, ex_1g] at cL
  simp only [vdV, vdW] at cL
  go_wp2_with fail
  refine Calls.mono cL ?_
  rintro _ w2 ⟨rfl, hG2, _⟩
  clear cL hG1 hKa
  have hKv := (Kept.refl [] w2).alloc (.cells #[.int .i64 2, .int .i64 0, .int .i64 1, .string (str []), .int .u64 0, .slice none 0 0, .int .i64 0] 28)
  have HB2 : Hid ((w2.alloc (.cells #[.int .i64 2, .int .i64 0, .int .i64 1, .string (str []), .int .u64 0, .slice none 0 0, .int .i64 0] 28)).heap[w2.heap.size]? = some (.cells #[.int .i64 2, .int .i64 0, .int .i64 1, .string (str []), .int .u64 0, .slice none 0 0, .int .i64 0] 28 (0, 0))) := heap_alloc_new _ _
  replace hG2 := hG2.kept hKv
  have hKa := (Kept.refl [] (w2.alloc (.cells #[.int .i64 2, .int .i64 0, .int .i64 1, .string (str []), .int .u64 0, .slice none 0 0, .int .i64 0] 28))).alloc (.cells #[.string ⟨#[97]⟩, .bool false, .int .u64 6] 31)
  have cL := live_land (hG2.kept hKa) exG1_wf (by simp [exG1]) 0 [] (by simp) _ _ _ [⟨[97], false, 6⟩] (SlC.lit (w2.alloc (.cells #[.int .i64 2, .int .i64 0, .int .i64 1, .string (str []), .int .u64 0, .slice none 0 0, .int .i64 0] 28)) [⟨[97], false, 6⟩] rfl (by simp [maxLen]) rfl) (by simp) (by simp) (by simp)
  rw [(landV_some ex_2).1, (landV_some ex_2).2, World.size_alloc] at cL
  simp only [vdV, vdW] at cL
  clear hKv
  go_wp2_with fail
  refine Calls.mono cL ?_
  rintro _ w3 ⟨rfl, hG3, hO3⟩
  have hB3 := hO3 _ _ _ (hKa.at HB2.out (by simp)) (by decide) (by decide)
  have hKv := (Kept.refl [] w3).alloc (.cells #[.int .i64 3, .int .i64 0, .int .i64 1, .string (str [97]), .int .u64 0, .slice none 0 0, .int .i64 0] 28)
  obtain ⟨r0, r1, r2, r3, r4, r5, r6⟩ := cells7 (hKv.at hB3 (by simp))
  have cH := live_head (hG3.kept hKv)
  simp only [exG1] at cH
  have t1 : ((str [97]).toList == [97]) = true := by rw [str_toList]; rfl
  have HK : Hid (Kept [] w (w3.alloc (.cells #[.int .i64 3, .int .i64 0, .int .i64 1, .string (str [97]), .int .u64 0, .slice none 0 0, .int .i64 0] 28))) := (hG3.kept hKv).keeps
  clear cL hG2 hG3 hKa hB3 HB2 hO3 hKv
  go_wp2_with fail
  refine cH.mono ?_
  rintro _ _ ⟨rfl, rfl⟩
  go_wp2_with fail
  go_ret
  exact ⟨rfl, HK.out⟩

end Go.Proofs.YtfoghemiaidnhaaGreat
