/-
  landsAs, Load.
-/
import Derived.Test.YtfoghemiaidnhaaGreatGrAwake
import Derived.Test.YtfoghemiaidnhaaGreatGrCopy
import Derived.Deep.QuietTactic
import Derived.BigQuiet
namespace Go.Proofs.YtfoghemiaidnhaaGreat
open Go.RowKit

theorem quiet_q {P : Program} {f : FuncId} {args : Array Value} {w : World} {n : Nat} {v : Value}
    (h : Calls P f args (w.drewN n) fun e w' => e = .returned v ∧ ∃ q, w' = (w.drewN n).drewN q) : Calls P f args (w.drewN n) fun e w'' => e = .returned v ∧ ∃ m, w'' = w.drewN m :=
  h.mono fun _ _ ⟨he, q, hm⟩ => ⟨he, n + q, by rw [hm]; simp [World.drewN, Nat.add_assoc]⟩

theorem step_some {G : Gr} {x : Com} : (stepL G x).isSome = (decide ((landV G x.b x.n x.c).c = 2) && (decide ((landV G x.b x.n x.c).r = x.r) && decide (sortC x.c = x.c))) := by
  unfold stepL
  by_cases h1 : (landV G x.b x.n x.c).c = 2 <;> by_cases h2 : (landV G x.b x.n x.c).r = x.r <;> by_cases h3 : sortC x.c = x.c <;> simp [h1, h2, h3]

/-- The last commit of a graph that has just landed one. -/
theorem Live.lastRow {w0 w : World} {b : Nat} {G : Gr} {c : Com} (h : Live w0 w b (addG G c)) :
    ∃ g cap p mb mo m mc, w.heap[b]? = some (.cells #[.slice (some ⟨g, 0, none⟩) (G.cs.length + 1) cap, .pointer p, .map (some mb)] 69 (0, 0)) ∧ G.cs.length + 1 ≤ cap ∧ cap ≤ maxLen ∧
      w.cell? ⟨g, G.cs.length * 4 + 3, none⟩ = some (.slice mo m mc) ∧ SlC w mo m mc c.c := by
  obtain ⟨S, ⟨v, p, t, mb, K, hG, _⟩, _, _⟩ := h
  have hl : K.length = G.cs.length + 1 := by have := congrArg List.length hG.com; simpa [addG] using this
  obtain ⟨ao, cap, rfl, hs, _⟩ := hG.row.sl hG.own
  obtain ⟨g, o, mo, m, mc, rfl, _, _, _, h3, h4⟩ : ∃ g o mo m mc, ao = some ⟨g, o, none⟩ ∧ True ∧ True ∧ True ∧ w.cell? ⟨g, o + G.cs.length * 4 + 3, none⟩ = some (.slice mo m mc) ∧ SlC w mo m mc (K[G.cs.length]'(by omega)).1.c := by
    obtain ⟨g, o, e, h1⟩ := hs.2.2.2.1 G.cs.length (by omega)
    obtain ⟨mo, m, mc, e2, h2, _⟩ := hs.2.2.2.2 _ (List.getElem_mem (show G.cs.length < K.length by omega))
    exact ⟨g, o, mo, m, mc, e, trivial, trivial, trivial, by rw [← e2]; exact h1.c3, h2⟩
  have ho : o = 0 := by
    obtain ⟨_, h2⟩ := hG.row
    rcases h2 with ⟨h2, _⟩ | ⟨g', cap', cur, hv, _⟩
    · cases h2
    · simp at hv; exact hv.1.2
  subst ho
  have hK : (K[G.cs.length]'(by omega)).1 = c := by
    have h1 : (K.map Prod.fst)[G.cs.length]'(by simp; omega) = (addG G c).cs[G.cs.length]'(by simp [addG]) := by simp only [hG.com]
    simpa [addG] using h1
  rw [hK] at h4
  have hc := hs.2.1
  have hm := hs.2.2.1
  refine ⟨g, cap, p, mb, mo, m, mc, ?_, by omega, hm, by simpa using h3, h4⟩
  have := hG.at_
  rw [hl] at this
  exact this

theorem live_of {w0 w wa w2 : World} {b : Nat} {S S2 : List Nat} {G : Gr} (hK : Kept [] w0 w) (hKa : Kept [] w wa) (hS : ∀ k ∈ S, w0.heap.size ≤ k) (hG2 : GAt w2 b S2 G) (hK2 : Kept S wa w2) (hS2 : ∀ k ∈ S2, k ∈ S ∨ wa.heap.size ≤ k) : Live w0 w2 b G :=
  ⟨S2, hG2, (hK.trans hKa (by simp)).trans hK2 (fun i hi => .inr (hS i hi)), fun k hk => by
    rcases hS2 k hk with h | h
    · exact hS k h
    · exact Nat.le_trans (Nat.le_trans hK.size hKa.size) h⟩

set_option maxHeartbeats 8000000 in
set_option maxRecDepth 100000 in
theorem lands_call {w0 w : World} {b : Nat} {G : Gr} (h : Live w0 w b G) (hW : Wf G) (hl : G.cs.length ≤ 10000) (x : Com) (mo : Option Addr) (m mc : Nat) (hs : SlC w0 mo m mc x.c) (hnil : mo = none → mc = 0)
    (hn : x.n.length ≤ 1000000) (hm : m ≤ 1000000) (hp : ∀ y ∈ x.c, y.p.length ≤ 1000000000) :
    Calls Tryz.prog 50 #[.pointer (some ⟨b, 0, none⟩), .agg #[.int .i64 x.r, .int .i64 x.b, .string (str x.n), .slice mo m mc]] w fun e w' => e = .returned (.bool (stepL G x).isSome) ∧ Live w0 w' b (landG G x.b x.n x.c) := by
  have hKa := (Kept.refl [] w).alloc (.cells #[.int .i64 x.r, .int .i64 x.b, .string (str x.n), .slice mo m mc] 54)
  have hbox := heap_alloc_new w (.cells #[.int .i64 x.r, .int .i64 x.b, .string (str x.n), .slice mo m mc] 54)
  obtain ⟨S, hG, hK, hS⟩ := h
  have cL := gland_call (hG.kept hKa) hW hl x.b x.n hn mo m mc x.c ((hs.kept hK (by simp)).kept hKa (by simp)) hnil hm hp
  have HLt : Hid (∀ k ∈ S, k < w.heap.size) := hG.lt
  have HBx : Hid ((w.alloc (.cells #[.int .i64 x.r, .int .i64 x.b, .string (str x.n), .slice mo m mc] 54)).heap[w.heap.size]? = some (.cells #[.int .i64 x.r, .int .i64 x.b, .string (str x.n), .slice mo m mc] 54 (0, 0))) := hbox
  have HK : Hid (Kept [] w0 w) := hK
  have HS : Hid (∀ k ∈ S, w0.heap.size ≤ k) := hS
  have HSl : Hid (SlC w0 mo m mc x.c) := hs
  rw [step_some]
  cases he : endV G x.b x.n x.c with
  | some v =>
    obtain ⟨hv, hg⟩ := landV_some he
    have hc2 : ¬ v.c = 2 := fun e => by have := (landV_code G x.b x.n x.c).1 (by rw [hv]; exact e); rw [he] at this; cases this
    have hc2b : ((v.c : Int) == 2) = false := by simpa using hc2
    rw [hv, decide_eq_false hc2, Bool.false_and]
    rw [hv] at cL
    simp only [vdV, vdW] at cL
    clear he hv hg hc2 hG hK hS hs hbox
    go_enter Tryz.func50, Tryz.ntmps50
    go_wp2_with fail
    refine cL.mono ?_
    rintro _ w2 ⟨rfl, S2, hG2, hK2, hS2⟩
    have hKv := (Kept.refl [] w2).alloc (.cells #[.int .i64 v.c, .int .i64 0, .int .i64 v.r, .string (str v.p), .int .u64 v.d, .slice none 0 0, .int .i64 0] 28)
    obtain ⟨b0, b1, b2, b3⟩ := cells4 (hKv.at (hK2.at HBx.out (fun hm => by have := HLt.out _ hm; omega)) (by simp))
    have HLv : Hid (Live w0 (w2.alloc (.cells #[.int .i64 v.c, .int .i64 0, .int .i64 v.r, .string (str v.p), .int .u64 v.d, .slice none 0 0, .int .i64 0] 28)) b (landG G x.b x.n x.c)) := Live.kept (live_of HK.out hKa HS.out hG2 hK2 hS2) hKv
    clear hG2 hK2 hS2 hKv cL
    go_wp2_with fail
    go_quiet (fail)
    go_wp2_with fail
    go_ret
    exact ⟨rfl, HLv.out.kept (drewN_kept _ _)⟩
  | none =>
    obtain ⟨hv, hg⟩ := landV_none he
    rw [hv, hg] at cL
    simp only [vdV, vdW] at cL
    have h22 : decide ((2 : Int) = 2) = true := rfl
    rw [hv, hg, h22, Bool.true_and]
    have HW2 : Hid (landG G x.b x.n x.c = addG G (newC G x.b x.n x.c)) := hg
    have hl' : (G.cs.length : Int) ≤ 10000 := by omega
    by_cases hr : (G.cs.length : Int) + 1 = x.r
    · rw [decide_eq_true hr, Bool.true_and]
      have hrb : (((G.cs.length : Int) + 1) == x.r) = true := by simpa using hr
      clear he hv hg hr hG hK hS hs hbox
      go_enter Tryz.func50, Tryz.ntmps50
      go_wp2_with fail
      refine cL.mono ?_
      rintro _ w2 ⟨rfl, S2, hG2, hK2, hS2⟩
      have hKv := (Kept.refl [] w2).alloc (.cells #[.int .i64 2, .int .i64 0, .int .i64 ((G.cs.length : Int) + 1), .string (str []), .int .u64 0, .slice none 0 0, .int .i64 0] 28)
      obtain ⟨b0, b1, b2, b3⟩ := cells4 (hKv.at (hK2.at HBx.out (fun hm => by have := HLt.out _ hm; omega)) (by simp))
      have hLv : Live w0 (w2.alloc (.cells #[.int .i64 2, .int .i64 0, .int .i64 ((G.cs.length : Int) + 1), .string (str []), .int .u64 0, .slice none 0 0, .int .i64 0] 28)) b (addG G (newC G x.b x.n x.c)) := Live.kept (live_of HK.out hKa HS.out hG2 hK2 hS2) hKv
      have HLv : Hid (Live w0 (w2.alloc (.cells #[.int .i64 2, .int .i64 0, .int .i64 ((G.cs.length : Int) + 1), .string (str []), .int .u64 0, .slice none 0 0, .int .i64 0] 28)) b (addG G (newC G x.b x.n x.c))) := hLv
      obtain ⟨g, cap, p, mb, mo2, m2, mc2, hat, hcap, hcm, h3, h4⟩ := hLv.lastRow
      unfold maxLen at hcm
      obtain ⟨e0, e1, e2⟩ := cells3 hat
      have cS := fun k => same_callC _ mo2 mo m2 m mc2 mc _ _ (h4.kept (drewN_kept _ k) (by simp)) ((HSl.out.kept hLv.keeps (by simp)).kept (drewN_kept _ k) (by simp))
      simp only [newC] at cS
      have hcapi : (G.cs.length : Int) + 1 ≤ cap := by omega
      obtain ⟨ln, hln⟩ : ∃ ln : Nat, ln = G.cs.length := ⟨_, rfl⟩
      clear hG2 hK2 hS2 hKv cL hLv hat h4
      go_wp2_with fail
      go_quiet ((go_at_call 77; exact quiet_q (cS _)))
      go_wp2_with fail
      go_ret
      exact ⟨rfl, HLv.out.kept (drewN_kept _ _)⟩
    · have hrb : (((G.cs.length : Int) + 1) == x.r) = false := by simpa using hr
      rw [decide_eq_false hr, Bool.false_and]
      clear he hv hg hr hG hK hS hs hbox
      go_enter Tryz.func50, Tryz.ntmps50
      go_wp2_with fail
      refine cL.mono ?_
      rintro _ w2 ⟨rfl, S2, hG2, hK2, hS2⟩
      have hKv := (Kept.refl [] w2).alloc (.cells #[.int .i64 2, .int .i64 0, .int .i64 ((G.cs.length : Int) + 1), .string (str []), .int .u64 0, .slice none 0 0, .int .i64 0] 28)
      obtain ⟨b0, b1, b2, b3⟩ := cells4 (hKv.at (hK2.at HBx.out (fun hm => by have := HLt.out _ hm; omega)) (by simp))
      have HLv : Hid (Live w0 (w2.alloc (.cells #[.int .i64 2, .int .i64 0, .int .i64 ((G.cs.length : Int) + 1), .string (str []), .int .u64 0, .slice none 0 0, .int .i64 0] 28)) b (addG G (newC G x.b x.n x.c))) := Live.kept (live_of HK.out hKa HS.out hG2 hK2 hS2) hKv
      clear hG2 hK2 hS2 hKv cL
      go_wp2_with fail
      go_quiet (fail)
      go_wp2_with fail
      go_ret
      exact ⟨rfl, HLv.out.kept (drewN_kept _ _)⟩

/-- What Load comes to. -/
def LoadP (w : World) (o : Option Gr) (e : Ending) (w' : World) : Prop :=
  match o with
  | none => e = .returned (.tuple #[.pointer none, .int .i64 4]) ∧ Kept [] w w'
  | some G => ∃ b, e = .returned (.tuple #[.pointer (some ⟨b, 0, none⟩), .int .i64 0]) ∧ Live w w' b G

def LoI (w : World) (b : Nat) (cs : List Com) (iv : Value) (wr : World) : Prop :=
  ∃ (i : Nat) (G : Gr), iv = .int .i64 (i : Int) ∧ i ≤ cs.length ∧ Hid (loadL voidG (cs.take i) = some G) ∧ Hid (Live w wr b G)

theorem load_next {cs : List Com} {i : Nat} {G : Gr} (hi : i < cs.length) (h : loadL voidG (cs.take i) = some G) : loadL voidG (cs.take (i + 1)) = stepL G cs[i] := by
  rw [List.take_succ_eq_append_getElem hi, loadL_app, h]
  simp only [Option.bind, loadL]
  cases stepL G cs[i] <;> rfl

theorem load_stop {cs : List Com} {i : Nat} (h : loadL voidG (cs.take i) = none) : loadL voidG cs = none := by
  rw [← List.take_append_drop i cs, loadL_app, h]; rfl

/-- Commits that are few and small. -/
def SmallC (c : Com) : Prop := c.n.length ≤ 1000000 ∧ c.c.length ≤ 1000000 ∧ ∀ y ∈ c.c, y.p.length ≤ 1000000000

set_option maxHeartbeats 4000000 in
set_option maxRecDepth 100000 in
theorem load_call (w : World) (ao : Option Addr) (n c : Nat) (K : List (Com × Value)) (hS : SlK w ao n c K) (hn : n ≤ 1000) (hsm : ∀ x ∈ K, SmallC x.1) :
    Calls Tryz.prog 19 #[.slice ao n c] w fun e w' => LoadP w (loadL voidG (K.map Prod.fst)) e w' := by
  have hl := hS.1
  subst hl
  have hc := hS.2.1
  have hm := hS.2.2.1
  unfold maxLen at hm
  have HS : Hid (SlK w ao K.length c K) := hS
  have HSm : Hid (∀ x ∈ K, SmallC x.1) := hsm
  obtain ⟨R, hR⟩ : ∃ R, R = loadL voidG (K.map Prod.fst) := ⟨_, rfl⟩
  rw [← hR]
  have HR : Hid (R = loadL voidG (K.map Prod.fst)) := hR
  clear hS hsm hR
  go_enter Tryz.func19, Tryz.ntmps19
  go_wp2_with fail
  refine (live_new w).mono ?_
  rintro _ w1 ⟨b, rfl, hG1⟩
  have HG1 : Hid (Live w w1 b voidG) := hG1
  clear hG1
  go_wp2_with fail
  go_loopw [10] (fun iv wr => LoI w b (K.map Prod.fst) iv wr) (fun iv _ => K.length - (intOf iv).toNat)
  case atStart => exact ⟨0, voidG, rfl, Nat.zero_le _, rfl, HG1⟩
  case round =>
    obtain ⟨i, G, rfl, hi, HLo, HLv⟩ := hrel
    have hi' : i ≤ K.length := by simpa using hi
    by_cases hlt : i < K.length
    · have hlt' : (i : Int) < K.length := by omega
      have hic : i ≤ c := by omega
      obtain ⟨g, o, rfl, hx⟩ := HS.out.2.2.2.1 i hlt
      obtain ⟨mo, m, mc, e2, hsl, hnl⟩ := HS.out.2.2.2.2 _ (List.getElem_mem hlt)
      obtain ⟨x0, x1, x2, x3⟩ := hx.kept HLv.out.keeps (by simp)
      rw [e2] at x3
      obtain ⟨s1, s2, s3⟩ := HSm.out _ (List.getElem_mem hlt)
      have hml := hsl.1
      obtain ⟨hwf, hcs⟩ := wf_loads wf_void HLo.out
      have hglen : G.cs.length ≤ 10000 := by rw [hcs]; simp [voidG]; omega
      have hKb := (Kept.refl [] wr).alloc (.cells #[.int .i64 K[i].1.r, .int .i64 K[i].1.b, .string (str K[i].1.n), .slice mo m mc] 54)
      have cA := lands_call (HLv.out.kept hKb) hwf hglen K[i].1 mo m mc hsl hnl s1 (by omega) s3
      have HNx : Hid (loadL voidG ((K.map Prod.fst).take (i + 1)) = stepL G K[i].1) := by
        have h := load_next (cs := K.map Prod.fst) (by simpa using hlt) HLo.out
        simp only [List.getElem_map] at h
        exact h
      obtain ⟨x, hxe⟩ : ∃ x, x = K[i].1 := ⟨_, rfl⟩
      rw [← hxe] at x0 x1 x2 cA HNx
      clear hx e2 hsl hnl s1 s2 s3 hml hwf hcs hglen hxe hKb
      cases hst : stepL G x with
      | none =>
        rw [hst] at cA HNx
        have HE : Hid (R = none) := by show R = none; rw [HR.out]; exact load_stop HNx.out
        simp only [Option.isSome] at cA
        clear hst
        go_wp2_with fail
        refine cA.mono ?_
        rintro _ w3 ⟨rfl, hL3⟩
        go_wp2_with fail
        go_ret2
        rw [HE.out]
        exact ⟨rfl, hL3.keeps⟩
      | some G2 =>
        have HG2 : Hid (landG G x.b x.n x.c = G2) := by
          show _ = _
          unfold stepL at hst
          split at hst
          · cases hst; rfl
          · cases hst
        rw [hst] at cA HNx
        simp only [Option.isSome] at cA
        rw [HG2.out] at cA
        clear hst
        go_wp2_with fail
        refine cA.mono ?_
        rintro _ w3 ⟨rfl, hL3⟩
        have HL3 : Hid (Live w w3 b G2) := hL3
        clear hL3
        go_wp2_with fail
        go_roundw
        case rel => exact ⟨i + 1, G2, by go_num, by simp; omega, HNx, HL3⟩
        case measure => (simp [intOf] <;> omega)
    · have hlt' : ¬ (i : Int) < K.length := by omega
      have HE : Hid (R = some G) := by
        show R = _
        have := HLo.out
        rw [List.take_of_length_le (by simp; omega)] at this
        rw [HR.out, this]
      go_wp2_with fail
      go_ret2
      rw [HE.out]
      exact ⟨b, rfl, HLv.out⟩

end Go.Proofs.YtfoghemiaidnhaaGreat
