/-
  Texts of this claim that are laid as one: GrMoL, GrLoW.
-/
import Derived.Test.YtfoghemiaidnhaaGreatM11
import Derived.Test.YtfoghemiaidnhaaGreatChKept
import Derived.Test.YtfoghemiaidnhaaGreatGrCopy
import Derived.Deep.CutRange
import Derived.Deep.QuietTactic
import Derived.BigQuiet
import Derived.Laws.ResultCell
import Derived.Handy
import Derived.Test.YtfoghemiaidnhaaGreatM19
import Derived.Test.YtfoghemiaidnhaaGreatGrLoad
/-
  The document's own graph: SameCommit of any two, Load.
-/
namespace Go.Proofs.YtfoghemiaidnhaaGreat
open Go.RowKit

theorem hidL {p : Prop} (h : p) : Hid p := h

set_option maxHeartbeats 2000000 in
theorem samec2_call (w : World) (r1 r2 b : Int) (n : List UInt8) (ao bo : Option Addr) (n1 m1 c1 d1 : Nat) (L M : List Ch) (h1 : SlC w ao n1 c1 L) (h2 : SlC w bo m1 d1 M) :
    Calls Tryz.prog 52 #[.agg #[.int .i64 r1, .int .i64 b, .string (str n), .slice ao n1 c1], .agg #[.int .i64 r2, .int .i64 b, .string (str n), .slice bo m1 d1]] w fun e w' => e = .returned (.bool (decide (r1 = r2) && decide (L = M))) ∧ Kept [] w w' := by
  have hKa : Kept [] w ((w.alloc (.cells #[.int .i64 r1, .int .i64 b, .string (str n), .slice ao n1 c1] 54)).alloc (.cells #[.int .i64 r2, .int .i64 b, .string (str n), .slice bo m1 d1] 54)) := ((Kept.refl [] w).alloc _).alloc _
  have cS := rsame_kept _ ao bo n1 m1 c1 d1 L M (h1.kept hKa (by simp)) (h2.kept hKa (by simp))
  generalize decide (L = M) = bb at *
  clear h1 h2
  by_cases hr : r1 = r2
  · subst hr
    have hd : decide (r1 = r1) = true := decide_eq_true rfl
    rw [hd, Bool.true_and]
    go_enter Tryz.func52, Tryz.ntmps52
    go_wp2_with fail
    refine cS.mono ?_
    rintro _ w1 ⟨rfl, hK⟩
    go_wp2_with fail
    go_ret
    exact ⟨rfl, hKa.trans hK (by simp)⟩
  · rw [decide_eq_false hr, Bool.false_and]
    have hrb : (r1 == r2) = false := by simpa using hr
    clear hr
    go_enter Tryz.func52, Tryz.ntmps52
    go_wp2_with fail
    go_ret
    exact ⟨rfl, hKa⟩

/-- The document's graph, made behind w0. -/
def MLv (w0 w : World) (b : Nat) (G : Gr) : Prop := ∃ M, MAt w b M G ∧ Kept [] w0 w ∧ ∀ k ∈ M, w0.heap.size ≤ k

theorem MLv.keeps {w0 w : World} {b : Nat} {G : Gr} (h : MLv w0 w b G) : Kept [] w0 w := by obtain ⟨M, _, h, _⟩ := h; exact h

theorem MLv.kept {w0 w w' : World} {b : Nat} {G : Gr} (h : MLv w0 w b G) (k : Kept [] w w') : MLv w0 w' b G := by
  obtain ⟨M, h1, h2, h3⟩ := h
  exact ⟨M, h1.kept k, h2.trans k (by simp), h3⟩

theorem MLv.parts {w0 w : World} {b : Nat} {G : Gr} (h : MLv w0 w b G) : ∃ a0 n0 c0 a1 n1 c1 a2 n2 c2 K, MA w b (.slice a0 n0 c0) (.slice a1 n1 c1) (.slice a2 n2 c2) K G ∧ (G.ls = [] → Value.slice a1 n1 c1 = .slice none 0 0) ∧ SlK w a0 n0 c0 K := by
  obtain ⟨M, ⟨v, vL, vR, K, hm, hn, _⟩, _, _⟩ := h
  obtain ⟨aoC, cpC, rfl, hsC, _⟩ := hm.row.sl hm.own
  obtain ⟨aoL, cpL, rfl, _⟩ := hm.lvs.sl
  obtain ⟨aoR, cpR, rfl, _⟩ := hm.rfs.at
  exact ⟨_, _, _, _, _, _, _, _, _, K, hm, hn, hsC⟩

theorem mlv_new (w : World) : MLv w (w.alloc (.cells #[.slice none 0 0, .slice none 0 0, .slice none 0 0] 46)) w.heap.size voidG := by
  refine ⟨_, ⟨_, _, _, [], MA.new w, fun _ => rfl, rfl⟩, (Kept.refl [] w).alloc _, fun k hk => ?_⟩
  simp [ownM, Value.ownBlock] at hk
  subst hk; exact Nat.le_refl _

def OffM (w w' : World) : Prop := ∀ (k : Nat) (vs : Array Value) (t : TypeId), w.heap[k]? = some (.cells vs t (0, 0)) → t ≠ 46 → t ≠ 54 → w'.heap[k]? = some (.cells vs t (0, 0))

theorem mlv_land {w0 w : World} {b : Nat} {G : Gr} (h : MLv w0 w b G) (hW : Wf G) (hl : G.cs.length ≤ 10000)
    (base : Int) (n : List UInt8) (hn : n.length ≤ 1000000) (ao : Option Addr) (m c : Nat) (L : List Ch) (hS : SlC w ao m c L) (hm : m ≤ 1000000) (hp : ∀ x ∈ L, x.p.length ≤ 1000000000) :
    Calls Tryz.prog 14 #[.pointer (some ⟨b, 0, none⟩), .int .i64 base, .string (str n), .slice ao m c] w fun e w' => e = .returned (vdV (landV G base n L)) ∧ MLv w0 w' b (landG G base n L) ∧ OffM w w' := by
  obtain ⟨M, h2, h4, h6⟩ := h
  have hT := h2.typed
  obtain ⟨v, vL, vR, K, hM, hnl, rfl⟩ := h2
  refine (mland_call hM hnl hW hl base n hn ao m c L hS hm hp).mono fun e w' ⟨he, M', g1, k1, hs'⟩ => ⟨he, ⟨M', g1, h4.trans k1 (fun i hi => .inr (h6 i hi)), fun k hk => ?_⟩, fun k vs t hk ht2 ht3 => k1.typed hT hk (by simp [ht2, ht3])⟩
  rcases hs' k hk with h7 | h7
  · exact h6 k h7
  · exact Nat.le_trans h4.size h7

theorem mlv_box {w0 w w' : World} {b Bk : Nat} {G : Gr} {cur : Array Value} {mk : Nat × Nat} (h : MLv w0 w b G) (hB : w.heap[Bk]? = some (.cells cur 28 mk)) (k : Kept [Bk] w w') (hlt : w0.heap.size ≤ Bk) : MLv w0 w' b G := by
  obtain ⟨M, h2, h4, h6⟩ := h
  have hT : Typed w [Bk] [28] := fun i hi cur' t' mk' hh => by
    rw [List.mem_singleton] at hi
    subst hi
    rw [hB] at hh; cases hh; simp
  refine ⟨M, h2.keep k (fun i hi hm => ?_) hT (by decide) (by decide) (by decide), h4.trans k (fun i hi => ?_), h6⟩
  · rw [List.mem_singleton] at hm
    subst hm
    exact absurd (h2.typed i hi _ _ _ hB) (by decide)
  · rw [List.mem_singleton] at hi
    subst hi
    exact .inr hlt

theorem box_offM {w w3 : World} {v0 v1 v2 v3 v4 v5 v6 : Value} (hO : OffM (w.alloc (.cells #[v0, v1, v2, v3, v4, v5, v6] 28)).drew w3) : Hid (w3.heap[w.heap.size]? = some (.cells #[v0, v1, v2, v3, v4, v5, v6] 28 (0, 0))) :=
  hO _ _ _ (heap_alloc_new w _) (by decide) (by decide)

/-- What Load comes to. -/
def MldP (w : World) : Option Gr → Ending → World → Prop
  | none, e, w' => e = .returned (.tuple #[.agg #[.slice none 0 0, .slice none 0 0, .slice none 0 0], .int .i64 4]) ∧ Kept [] w w'
  | some G, e, w' => ∃ a0 n0 c0 a1 n1 c1 a2 n2 c2, e = .returned (.tuple #[.agg #[.slice a0 n0 c0, .slice a1 n1 c1, .slice a2 n2 c2], .int .i64 0]) ∧ (∃ M, MAt (w'.alloc (.cells #[.slice a0 n0 c0, .slice a1 n1 c1, .slice a2 n2 c2] 46)) w'.heap.size M G) ∧ Kept [] w w'

theorem mld_end {wr : World} {b h0 : Nat} {v vL vR : Value} {K : List (Com × Value)} {G : Gr} {vs : Array Value} (h : MA wr b v vL vR K G) (hnl : G.ls = [] → vL = .slice none 0 0) (hat : wr.heap[h0]? = some (.cells vs 46 (0, 0))) :
    ∃ M, MAt ((((wr.setCell ⟨h0, 0, none⟩ v).setCell ⟨h0, 1, none⟩ vL).setCell ⟨h0, 2, none⟩ vR).alloc (.cells #[v, vL, vR] 46)) (((wr.setCell ⟨h0, 0, none⟩ v).setCell ⟨h0, 1, none⟩ vL).setCell ⟨h0, 2, none⟩ vR).heap.size M G := by
  have hk : Kept [h0] wr (((wr.setCell ⟨h0, 0, none⟩ v).setCell ⟨h0, 1, none⟩ vL).setCell ⟨h0, 2, none⟩ vR) := (((Kept.refl _ _).setCell (.inl (by simp)) _).setCell (.inl (by simp)) _).setCell (.inl (by simp)) _
  have hT : Typed wr [h0] [46] := fun k hk cur t' mk hh => by
    simp at hk; subst hk; rw [hat] at hh; cases hh; simp
  have ha := (Kept.refl [] (((wr.setCell ⟨h0, 0, none⟩ v).setCell ⟨h0, 1, none⟩ vL).setCell ⟨h0, 2, none⟩ vR)).alloc (.cells #[v, vL, vR] 46)
  exact ⟨_, v, vL, vR, K, ⟨heap_alloc_new _ _, ha.ownsRow (row_typed hk hT h.row (by decide)) (by simp), fun x hx => ha.ownsRow (row_typed hk hT (h.own x hx) (by decide)) (by simp), h.com, ha.ownsRow (row_typed hk hT h.lvs (by decide)) (by simp), ha.ownsRow (row_typed hk hT h.rfs (by decide)) (by simp)⟩, hnl, rfl⟩

def MldI (W0 : World) (b : Nat) (cs : List Com) (iv : Value) (wr : World) : Prop := ∃ (i : Nat) (G : Gr), iv = .int .i64 (i : Int) ∧ i ≤ cs.length ∧ Hid (MLv W0 wr b G) ∧ Hid (loadL voidG (cs.take i) = some G)

theorem load_step {cs : List Com} {i : Nat} (h : i < cs.length) {G : Gr} (hG : loadL voidG (cs.take i) = some G) : loadL voidG (cs.take (i + 1)) = stepL G cs[i] := by
  rw [List.take_succ_eq_append_getElem h, loadL_app, hG]
  show (stepL G cs[i]).bind _ = _
  cases stepL G cs[i] <;> rfl

theorem load_none {cs : List Com} {i : Nat} (h : loadL voidG (cs.take i) = none) : loadL voidG cs = none := by
  rw [← List.take_append_drop i cs, loadL_app, h]; rfl

set_option linter.unusedSimpArgs false in
set_option maxHeartbeats 16000000 in
set_option maxRecDepth 100000 in
theorem mload_call (w : World) (ao : Option Addr) (n c : Nat) (K : List (Com × Value)) (hS : SlK w ao n c K) (hn : n ≤ 1000) (hK : ∀ x ∈ K, x.1.n.length ≤ 1000000 ∧ x.1.c.length ≤ 1000000 ∧ ∀ y ∈ x.1.c, y.p.length ≤ 1000000000) :
    Calls Tryz.prog 21 #[.slice ao n c] w fun e w' => MldP w (loadL voidG (K.map Prod.fst)) e w' := by
  obtain ⟨W0, hW0⟩ : ∃ W0, W0 = w.alloc (.cells #[.slice none 0 0, .slice none 0 0, .slice none 0 0] 46) := ⟨_, rfl⟩
  have hsz : W0.heap.size = w.heap.size + 1 := by rw [hW0, World.size_alloc]
  have hK0 : Kept [] w W0 := by rw [hW0]; exact (Kept.refl _ _).alloc _
  have hQ : W0.heap[w.heap.size]? = some (.cells #[.slice none 0 0, .slice none 0 0, .slice none 0 0] 46 (0, 0)) := by rw [hW0]; exact heap_alloc_new w _
  have hM := mlv_new W0
  rw [hsz] at hM
  have hl := hS.1
  subst hl
  have hc := hS.2.1
  have hm := hS.2.2.1
  unfold maxLen at hm
  have HS : Hid (SlK W0 ao K.length c K) := hS.kept hK0
  have HB := hidL hK
  have HQ := hidL hQ
  have HK0 := hidL hK0
  have HM := hidL hM
  obtain ⟨cs, hcs⟩ : ∃ cs, cs = K.map Prod.fst := ⟨_, rfl⟩
  have HCs := hidL hcs
  have HCl : Hid (cs.length = K.length) := by rw [hcs]; simp; exact trivial
  rw [← hcs]
  obtain ⟨nk, hnk⟩ : ∃ nk, nk = K.length := ⟨_, rfl⟩
  have HNk := hidL hnk
  rw [← hnk] at hc hn ⊢
  clear hS hK hQ hK0 hM hcs hnk hsz
  go_enter Tryz.func21, Tryz.ntmps21
  go_wp2_with fail
  rw [← hW0]
  go_loopw [5] (fun iv wr => MldI W0 (w.heap.size + 1) cs iv wr) (fun iv _ => nk - (intOf iv).toNat)
  case atStart => exact ⟨0, voidG, rfl, Nat.zero_le _, HM.out, rfl⟩
  case round =>
    clear hW0
    obtain ⟨i, G, rfl, hi, HMr, HLd⟩ := hrel
    have hQr := HMr.out.keeps.at HQ.out (by simp)
    have HWf : Hid (Wf G ∧ G.cs.length = i) := by
      obtain ⟨h1, h2⟩ := wf_loads wf_void HLd.out
      refine ⟨h1, ?_⟩
      rw [h2]; simp [voidG]; omega
    by_cases hlt : i < nk
    · have hlt' : (i : Int) < nk := by omega
      have hic : i ≤ c := by omega
      have hiK : i < K.length := by rw [← HNk.out]; exact hlt
      have hics : i < cs.length := by rw [HCl.out]; exact hiK
      have HX : Hid (cs[i] = K[i].1) := by show cs[i] = K[i].1; have h := HCs.out; subst h; simp
      obtain ⟨g, o, rfl, hx⟩ := HS.out.2.2.2.1 i hiK
      obtain ⟨mo, mm, mc, hmv, hsl, hnil⟩ := HS.out.2.2.2.2 _ (List.getElem_mem hiK)
      obtain ⟨hb1, hb2, hb3⟩ := HB.out _ (List.getElem_mem hiK)
      obtain ⟨k0, k1, k2, k3⟩ := hx
      rw [hmv] at k3
      have HSt := hidL (load_step hics HLd.out)
      rw [HX.out] at HSt
      obtain ⟨x, hxe⟩ : ∃ x, x = K[i].1 := ⟨_, rfl⟩
      rw [← hxe] at k0 k1 k2 hsl hb1 hb2 hb3 HSt
      have HSl := hidL hsl
      have E0 := hidL k0
      have E1 := hidL k1
      have E2 := hidL k2
      have E3 := hidL k3
      have hmm : mm ≤ 1000000 := by have := hsl.1; omega
      have cL := fun W (hk : Kept [] wr W) => mlv_land (HMr.out.kept hk) HWf.out.1 (by have := HWf.out.2; omega) x.b x.n hb1 mo mm mc x.c ((hsl.kept HMr.out.keeps (by simp)).kept hk (by simp)) hmm hb3
      have c0 := HMr.out.keeps.cell k0 (by simp)
      have c1 := HMr.out.keeps.cell k1 (by simp)
      have c2 := HMr.out.keeps.cell k2 (by simp)
      have c3 := HMr.out.keeps.cell k3 (by simp)
      obtain ⟨G2, hG2⟩ : ∃ G2, G2 = landG G x.b x.n x.c := ⟨_, rfl⟩
      obtain ⟨vv, hvv⟩ : ∃ vv, vv = landV G x.b x.n x.c := ⟨_, rfl⟩
      have HG2 := hidL hG2
      have HVV := hidL hvv
      rw [← hG2, ← hvv] at cL
      simp only [vdV, vdW] at cL
      clear hmv hxe hG2 hvv hsl hnil hb1 hb2 hb3
      go_upto_region 5 with fail
      go_cut [6] from 8 to 46 (fun s6 wx => ∃ Bk : Nat, s6 = .pointer (some ⟨Bk, 0, none⟩) ∧ wx.heap[Bk]? = some (.cells #[.int .i64 vv.c, .int .i64 0, .int .i64 vv.r, .string (str vv.p), .int .u64 vv.d, .slice none 0 0, .int .i64 0] 28 (0, 0)) ∧ Hid (MLv W0 wx (w.heap.size + 1) G2))
      case first =>
        refine wp_region_held_drew (S := fun w' => w'.cell? ⟨g, o + i * 4 + 1, none⟩ = some (.int .i64 x.b) ∧ w'.cell? ⟨g, o + i * 4 + 2, none⟩ = some (.string (str x.n)) ∧ w'.cell? ⟨g, o + i * 4 + 3, none⟩ = some (.slice mo mm mc)) (by kernel_rfl) ⟨c1, c2, c3⟩ (fun hHeld => ?_)
        refine wpAnyH_take (i := 0) (v := ?_) rfl (by kernel_rfl) (by kernel_rfl) (by kernel_rfl) (fun _ _ _ h => h) (Or.inl ⟨by rfl, ?_⟩) hHeld ?_
        rotate_left
        · intro w9 hSw; (try dsimp only at hSw); go_simp; (try with_reducible rfl)
        try simp only [Act.put, List.setIfInBounds_toArray, List.set_cons_zero, List.set_cons_succ]
        refine wpAnyH_take (i := 1) (v := ?_) rfl (by kernel_rfl) (by kernel_rfl) (by kernel_rfl) (fun _ _ _ h => h) (Or.inl ⟨by rfl, ?_⟩) hHeld ?_
        rotate_left
        · intro w9 hSw; (try dsimp only at hSw); go_simp; (try with_reducible rfl)
        try simp only [Act.put, List.setIfInBounds_toArray, List.set_cons_zero, List.set_cons_succ]
        refine wpAnyH_take (i := 2) (v := ?_) rfl (by kernel_rfl) (by kernel_rfl) (by kernel_rfl) (fun _ _ _ h => h) (Or.inl ⟨by rfl, ?_⟩) hHeld ?_
        rotate_left
        · intro w9 hSw; (try dsimp only at hSw); go_simp; (try with_reducible rfl)
        try simp only [Act.put, List.setIfInBounds_toArray, List.set_cons_zero, List.set_cons_succ]
        refine wpAnyH_take (i := 3) (v := ?_) rfl (by kernel_rfl) (by kernel_rfl) (by kernel_rfl) (fun _ _ _ h => h) (Or.inl ⟨by rfl, ?_⟩) hHeld ?_
        rotate_left
        · intro w9 hSw; (try dsimp only at hSw); go_simp; (try with_reducible rfl)
        try simp only [Act.put, List.setIfInBounds_toArray, List.set_cons_zero, List.set_cons_succ]
        refine wpAnyH_take (i := 4) (v := ?_) rfl (by kernel_rfl) (by kernel_rfl) (by kernel_rfl) (fun _ _ _ h => h) (Or.inl ⟨by rfl, ?_⟩) hHeld ?_
        rotate_left
        · intro w9 hSw; (try dsimp only at hSw); go_simp; (try with_reducible rfl)
        try simp only [Act.put, List.setIfInBounds_toArray, List.set_cons_zero, List.set_cons_succ]
        refine wpAnyH_take (i := 5) (v := ?_) rfl (by kernel_rfl) (by kernel_rfl) (by kernel_rfl) (fun _ _ _ h => h) (Or.inl ⟨by rfl, ?_⟩) hHeld ?_
        rotate_left
        · intro w9 hSw; (try dsimp only at hSw); go_simp; (try with_reducible rfl)
        try simp only [Act.put, List.setIfInBounds_toArray, List.set_cons_zero, List.set_cons_succ]
        refine wpAnyH_take (i := 6) (v := ?_) rfl (by kernel_rfl) (by kernel_rfl) (by kernel_rfl) (fun _ _ _ h => h) (Or.inl ⟨by rfl, ?_⟩) hHeld ?_
        rotate_left
        · intro w9 hSw; (try dsimp only at hSw); go_simp; (try with_reducible rfl)
        try simp only [Act.put, List.setIfInBounds_toArray, List.set_cons_zero, List.set_cons_succ]
        refine wpAnyH_take (i := 7) (v := ?_) rfl (by kernel_rfl) (by kernel_rfl) (by kernel_rfl) (fun _ _ _ h => h) (Or.inl ⟨by rfl, ?_⟩) hHeld ?_
        rotate_left
        · intro w9 hSw; (try dsimp only at hSw); go_simp; (try with_reducible rfl)
        try simp only [Act.put, List.setIfInBounds_toArray, List.set_cons_zero, List.set_cons_succ]
        refine wpAnyH_take (i := 8) (v := ?_) rfl (by kernel_rfl) (by kernel_rfl) (by kernel_rfl) (fun _ _ _ h => h) (Or.inl ⟨by rfl, ?_⟩) hHeld ?_
        rotate_left
        · intro w9 hSw; (try dsimp only at hSw); go_simp; (try with_reducible rfl)
        try simp only [Act.put, List.setIfInBounds_toArray, List.set_cons_zero, List.set_cons_succ]
        refine wpAnyH_take (i := 9) (v := ?_) rfl (by kernel_rfl) (by kernel_rfl) (by kernel_rfl) (fun _ _ _ h => h) (Or.inl ⟨by rfl, ?_⟩) hHeld ?_
        rotate_left
        · intro w9 hSw; (try dsimp only at hSw); go_simp; (try with_reducible rfl)
        try simp only [Act.put, List.setIfInBounds_toArray, List.set_cons_zero, List.set_cons_succ]
        refine wpAnyH_take (i := 10) (v := ?_) rfl (by kernel_rfl) (by kernel_rfl) (by kernel_rfl) (fun _ _ _ h => h) (Or.inl ⟨by rfl, ?_⟩) hHeld ?_
        rotate_left
        · intro w9 hSw; (try dsimp only at hSw); go_simp; (try with_reducible rfl)
        try simp only [Act.put, List.setIfInBounds_toArray, List.set_cons_zero, List.set_cons_succ]
        refine wpAnyH_take (i := 11) (v := ?_) rfl (by kernel_rfl) (by kernel_rfl) (by kernel_rfl) (fun _ _ _ h => h) (Or.inl ⟨by rfl, ?_⟩) hHeld ?_
        rotate_left
        · intro w9 hSw; (try dsimp only at hSw); go_simp; (try with_reducible rfl)
        try simp only [Act.put, List.setIfInBounds_toArray, List.set_cons_zero, List.set_cons_succ]
        refine wpAnyH_take (i := 12) (v := ?_) rfl (by kernel_rfl) (by kernel_rfl) (by kernel_rfl) (fun _ _ _ h => h) (Or.inl ⟨by rfl, ?_⟩) hHeld ?_
        rotate_left
        · intro w9 hSw; (try dsimp only at hSw); go_simp; (try with_reducible rfl)
        try simp only [Act.put, List.setIfInBounds_toArray, List.set_cons_zero, List.set_cons_succ]
        refine wpAnyH_take (i := 13) (v := ?_) rfl (by kernel_rfl) (by kernel_rfl) (by kernel_rfl) (fun _ _ _ h => h) (Or.inl ⟨by rfl, ?_⟩) hHeld ?_
        rotate_left
        · intro w9 hSw; (try dsimp only at hSw); go_simp; (try with_reducible rfl)
        try simp only [Act.put, List.setIfInBounds_toArray, List.set_cons_zero, List.set_cons_succ]
        refine wpAnyH_take (i := 14) (v := ?_) rfl (by kernel_rfl) (by kernel_rfl) (by kernel_rfl) (fun _ _ _ h => h) (Or.inl ⟨by rfl, ?_⟩) hHeld ?_
        rotate_left
        · intro w9 hSw; (try dsimp only at hSw); go_simp; (try with_reducible rfl)
        try simp only [Act.put, List.setIfInBounds_toArray, List.set_cons_zero, List.set_cons_succ]
        refine wpAnyH_ready (rs := [15, 16]) (by kernel_rfl) (by simp) (AllReadyH.cons rfl (fun K0 hK0 => ?_) (AllReadyH.cons rfl (fun K0 hK0 => ?_) AllReadyH.nil))
        · go_simp
          refine (cL _ (Kept.refl [] _).drew).mono ?_
          rintro e w3 ⟨rfl, hL3, hO3⟩
          go_wp2_with fail
          refine hK0.out _ _ ⟨hL3.keeps.cell k1 (by simp), hL3.keeps.cell k2 (by simp), hL3.keeps.cell k3 (by simp)⟩ (fun hHeld => ?_)
          clear hK0 K0
          try simp only [Act.put, List.setIfInBounds_toArray, List.set_cons_zero, List.set_cons_succ]
          refine wpAnyH_ready (rs := [16]) (by kernel_rfl) (by simp) (AllReadyH.cons rfl (fun K0 hK0 => ?_) AllReadyH.nil)
          go_simp
          have hKa := (Kept.refl [] w3).alloc (.cells #[.int .i64 0, .int .i64 0, .int .i64 0, .string ⟨#[]⟩, .int .u64 0, .slice none 0 0, .int .i64 0] 28)
          refine hK0.out _ _ ⟨hKa.cell (hL3.keeps.cell k1 (by simp)) (by simp), hKa.cell (hL3.keeps.cell k2 (by simp)) (by simp), hKa.cell (hL3.keeps.cell k3 (by simp)) (by simp)⟩ (fun hHeld => ?_)
          clear hK0 K0
          try simp only [Act.put, List.setIfInBounds_toArray, List.set_cons_zero, List.set_cons_succ]
          refine wpAnyH_ready (rs := [17]) (by kernel_rfl) (by simp) (AllReadyH.cons rfl (fun K0 hK0 => ?_) AllReadyH.nil)
          go_simp
          have hKb := (Kept.refl [] w3).alloc (.cells #[.int .i64 vv.c, .int .i64 0, .int .i64 vv.r, .string (str vv.p), .int .u64 vv.d, .slice none 0 0, .int .i64 0] 28)
          refine hK0.out _ _ ⟨hKb.cell (hL3.keeps.cell k1 (by simp)) (by simp), hKb.cell (hL3.keeps.cell k2 (by simp)) (by simp), hKb.cell (hL3.keeps.cell k3 (by simp)) (by simp)⟩ (fun hHeld => ?_)
          refine wpAnyH_done (by kernel_rfl) ?_ _
          go_wp2_with fail
          go_meet
          exact ⟨w3.heap.size, rfl, heap_alloc_new w3 _, hL3.kept hKb⟩
        · go_simp
          have hKa := (Kept.refl [] wr.drew).alloc (.cells #[.int .i64 0, .int .i64 0, .int .i64 0, .string ⟨#[]⟩, .int .u64 0, .slice none 0 0, .int .i64 0] 28)
          refine hK0.out _ _ ⟨hKa.cell c1 (by simp), hKa.cell c2 (by simp), hKa.cell c3 (by simp)⟩ (fun hHeld => ?_)
          clear hK0 K0
          try simp only [Act.put, List.setIfInBounds_toArray, List.set_cons_zero, List.set_cons_succ]
          refine wpAnyH_ready (rs := [15]) (by kernel_rfl) (by simp) (AllReadyH.cons rfl (fun K0 hK0 => ?_) AllReadyH.nil)
          go_simp
          refine (cL _ ((Kept.refl [] _).alloc _).drew).mono ?_
          rintro e w3 ⟨rfl, hL3, hO3⟩
          go_wp2_with fail
          have hB3 := box_offM hO3
          refine hK0.out _ _ ⟨hL3.keeps.cell k1 (by simp), hL3.keeps.cell k2 (by simp), hL3.keeps.cell k3 (by simp)⟩ (fun hHeld => ?_)
          clear hK0 K0
          try simp only [Act.put, List.setIfInBounds_toArray, List.set_cons_zero, List.set_cons_succ]
          refine wpAnyH_ready (rs := [17]) (by kernel_rfl) (by simp) (AllReadyH.cons rfl (fun K0 hK0 => ?_) AllReadyH.nil)
          have f0 := frozen_in hB3.out 0
          have f1 := frozen_in hB3.out 1
          have f2 := frozen_in hB3.out 2
          have f3 := frozen_in hB3.out 3
          have f4 := frozen_in hB3.out 4
          have f5 := frozen_in hB3.out 5
          have f6 := frozen_in hB3.out 6
          obtain ⟨m0, m1, m2, m3, m4, m5, m6⟩ := cells7 hB3.out
          go_simp
          have hKb : Kept [wr.heap.size] w3 (set7w w3 wr.heap.size (.int .i64 vv.c) (.int .i64 0) (.int .i64 vv.r) (.string (str vv.p)) (.int .u64 vv.d) (.slice none 0 0) (.int .i64 0)) := set7_kept (Kept.refl _ _) (.inl (by simp)) _ _ _ _ _ _ _
          have hl1 : W0.heap.size ≤ wr.heap.size := HMr.out.keeps.size
          have hL4 := mlv_box hL3 hB3.out hKb hl1
          refine hK0.out _ _ ⟨hL4.keeps.cell k1 (by simp), hL4.keeps.cell k2 (by simp), hL4.keeps.cell k3 (by simp)⟩ (fun hHeld => ?_)
          refine wpAnyH_done (by kernel_rfl) ?_ _
          go_wp2_with fail
          go_meet
          exact ⟨wr.heap.size, rfl, set7 hB3.out _ _ _ _ _ _ _, hL4⟩
      case rest =>
        obtain ⟨Bk, rfl, hBk, HM3⟩ := hcut
        clear cL c0 c1 c2 c3 k0 k1 k2 k3 hQr
        obtain ⟨r0, r1, r2, r3, r4, r5, r6⟩ := cells7 hBk
        have hQ3 := HM3.out.keeps.at HQ.out (by simp)
        have HK3 := hidL (HK0.out.trans HM3.out.keeps (by simp))
        by_cases hv2 : vv.c = 2
        · have he : endV G x.b x.n x.c = none := (landV_code _ _ _ _).1 (by rw [← HVV.out]; exact hv2)
          obtain ⟨hv, hg⟩ := landV_none he
          have HGa : Hid (G2 = addG G (newC G x.b x.n x.c)) := by rw [HG2.out]; exact hg
          obtain ⟨a0, n0, p0, a1, n1, p1, a2, n2, p2, K5, hA5, _, hs5⟩ := HM3.out.parts
          have hK5 : K5.map Prod.fst = G.cs ++ [newC G x.b x.n x.c] := by rw [hA5.com, HGa.out]; rfl
          have hgl := HWf.out.2
          have hi5 : i < K5.length := by have h := congrArg List.length hK5; simp at h; omega
          have hx5 : K5[i].1 = newC G x.b x.n x.c := by
            have h1 : (K5.map Prod.fst)[i]'(by simpa using hi5) = (G.cs ++ [newC G x.b x.n x.c])[i]'(by simp; omega) := by simp only [hK5]
            rw [List.getElem_append_right (by omega)] at h1
            simpa using h1
          obtain ⟨g5, o5, he5, hc5⟩ := hs5.2.2.2.1 i hi5
          obtain ⟨mo5, mm5, mc5, hm5, hsl5, _⟩ := hs5.2.2.2.2 _ (List.getElem_mem hi5)
          subst he5
          obtain ⟨q0, q1, q2, q3⟩ := hc5
          rw [hm5] at q3
          rw [hx5] at q0 q1 q2 hsl5
          simp only [newC] at q0 q1 q2 hsl5
          rw [hgl] at q0
          have hn5 := hs5.1
          have hp5 := hs5.2.1
          have hi5' : (i : Int) < n0 := by omega
          have hi5c : i ≤ p0 := by omega
          obtain ⟨b0, b1, b2⟩ := cells3 hA5.at_
          have c0 := HM3.out.keeps.cell E0.out (by simp)
          have c1 := HM3.out.keeps.cell E1.out (by simp)
          have c2 := HM3.out.keeps.cell E2.out (by simp)
          have c3 := HM3.out.keeps.cell E3.out (by simp)
          have cS := fun W (hk : Kept [] wc W) => samec2_call W ((i : Int) + 1) x.r x.b x.n mo5 mo mm5 mm mc5 mc (sortC x.c) x.c (hsl5.kept hk (by simp)) ((HSl.out.kept HM3.out.keeps (by simp)).kept hk (by simp))
          have HStp : Hid (stepL G x = if (i : Int) + 1 = x.r ∧ sortC x.c = x.c then some G2 else none) := by
            show _ = _
            unfold stepL
            have h2 : (landV G x.b x.n x.c).c = 2 := by rw [← HVV.out]; exact hv2
            have h3 : (landV G x.b x.n x.c).r = (i : Int) + 1 := by rw [hv]; simp only; rw [hgl]
            by_cases h4 : (i : Int) + 1 = x.r ∧ sortC x.c = x.c
            · rw [if_pos ⟨h2, by rw [h3]; exact h4.1, h4.2⟩, if_pos h4, HG2.out]
            · rw [if_neg (fun h5 => h4 ⟨by rw [← h3]; exact h5.2.1, h5.2.2⟩), if_neg h4]
          rw [hv2] at r0
          clear he hv hg hs5 hA5 hK5 hx5 hm5 hsl5 hn5 hp5 b1 b2 hBk r1 r2 r3 r4 r5 r6 hv2 hgl
          by_cases hok : (i : Int) + 1 = x.r ∧ sortC x.c = x.c
          · have hbb : (decide ((i : Int) + 1 = x.r) && decide (sortC x.c = x.c)) = true := by simp [hok.1, hok.2]
            have HNx : Hid (loadL voidG (cs.take (i + 1)) = some G2) := by rw [HSt.out, HStp.out, if_pos hok]; exact rfl
            rw [hbb] at cS
            clear hok hbb hi5
            go_wp2_with fail
            first | go_region_held3 (fun w' => w'.cell? ⟨Bk, 0, none⟩ = some (.int .i64 2) ∧ w'.cell? ⟨w.heap.size + 1, 0, none⟩ = some (.slice (some ⟨g5, o5, none⟩) n0 p0) ∧ (w'.cell? ⟨g5, o5 + i * 4, none⟩ = some (.int .i64 ((i : Int) + 1)) ∧ w'.cell? ⟨g5, o5 + i * 4 + 1, none⟩ = some (.int .i64 x.b) ∧ w'.cell? ⟨g5, o5 + i * 4 + 2, none⟩ = some (.string (str x.n)) ∧ w'.cell? ⟨g5, o5 + i * 4 + 3, none⟩ = some (.slice mo5 mm5 mc5)) ∧ w'.cell? ⟨g, o + i * 4, none⟩ = some (.int .i64 x.r) ∧ w'.cell? ⟨g, o + i * 4 + 1, none⟩ = some (.int .i64 x.b) ∧ w'.cell? ⟨g, o + i * 4 + 2, none⟩ = some (.string (str x.n)) ∧ w'.cell? ⟨g, o + i * 4 + 3, none⟩ = some (.slice mo mm mc))
                (first | go_keep | exact ⟨hK6.cell r0 (by simp), hK6.cell b0 (by simp), ⟨hK6.cell q0 (by simp), hK6.cell q1 (by simp), hK6.cell q2 (by simp), hK6.cell q3 (by simp)⟩, hK6.cell c0 (by simp), hK6.cell c1 (by simp), hK6.cell c2 (by simp), hK6.cell c3 (by simp)⟩)
                (first | (go_at_call 52; refine (cS _ ?_).mono ?_; exact (Kept.refl [] _).drew; rintro e w6 ⟨rfl, hK6⟩; replace hK6 := (Kept.refl [] wc).drew.trans hK6 (by simp))) | fail
            have HN := hidL (HM3.out.kept hK6)
            go_wp2_with fail
            go_roundw
            case rel => exact ⟨i + 1, G2, by go_num, by rw [HCl.out, ← HNk.out]; omega, HN, HNx⟩
            case measure => (simp [intOf] <;> omega)
          · have hbb : (decide ((i : Int) + 1 = x.r) && decide (sortC x.c = x.c)) = false := by
              by_cases h1 : (i : Int) + 1 = x.r
              · have h2 : ¬ sortC x.c = x.c := fun h2 => hok ⟨h1, h2⟩
                simp [h2]
              · simp [h1]
            have HNone : Hid (loadL voidG cs = none) := load_none (i := i + 1) (by rw [HSt.out, HStp.out, if_neg hok])
            rw [hbb] at cS
            clear hok hbb hi5
            go_wp2_with fail
            first | go_region_held3 (fun w' => w'.cell? ⟨Bk, 0, none⟩ = some (.int .i64 2) ∧ w'.cell? ⟨w.heap.size + 1, 0, none⟩ = some (.slice (some ⟨g5, o5, none⟩) n0 p0) ∧ (w'.cell? ⟨g5, o5 + i * 4, none⟩ = some (.int .i64 ((i : Int) + 1)) ∧ w'.cell? ⟨g5, o5 + i * 4 + 1, none⟩ = some (.int .i64 x.b) ∧ w'.cell? ⟨g5, o5 + i * 4 + 2, none⟩ = some (.string (str x.n)) ∧ w'.cell? ⟨g5, o5 + i * 4 + 3, none⟩ = some (.slice mo5 mm5 mc5)) ∧ w'.cell? ⟨g, o + i * 4, none⟩ = some (.int .i64 x.r) ∧ w'.cell? ⟨g, o + i * 4 + 1, none⟩ = some (.int .i64 x.b) ∧ w'.cell? ⟨g, o + i * 4 + 2, none⟩ = some (.string (str x.n)) ∧ w'.cell? ⟨g, o + i * 4 + 3, none⟩ = some (.slice mo mm mc))
                (first | go_keep | exact ⟨hK6.cell r0 (by simp), hK6.cell b0 (by simp), ⟨hK6.cell q0 (by simp), hK6.cell q1 (by simp), hK6.cell q2 (by simp), hK6.cell q3 (by simp)⟩, hK6.cell c0 (by simp), hK6.cell c1 (by simp), hK6.cell c2 (by simp), hK6.cell c3 (by simp)⟩)
                (first | (go_at_call 52; refine (cS _ ?_).mono ?_; exact (Kept.refl [] _).drew; rintro e w6 ⟨rfl, hK6⟩; replace hK6 := (Kept.refl [] wc).drew.trans hK6 (by simp))) | fail
            obtain ⟨z0, z1, z2⟩ := cells3 (hK6.at hQ3 (by simp))
            have f0 := froz3 (hK6.at hQ3 (by simp)) 0
            have f1 := froz3 (hK6.at hQ3 (by simp)) 1
            have f2 := froz3 (hK6.at hQ3 (by simp)) 2
            have HKe : Hid (Kept [] w (((w6.setCell ⟨w.heap.size, 0, none⟩ (.slice none 0 0)).setCell ⟨w.heap.size, 1, none⟩ (.slice none 0 0)).setCell ⟨w.heap.size, 2, none⟩ (.slice none 0 0))) := (((HK3.out.trans hK6 (by simp)).setCell (.inr (Nat.le_refl _)) _).setCell (.inr (Nat.le_refl _)) _).setCell (.inr (Nat.le_refl _)) _
            go_wp2_with fail
            refine bodyPost_ret (v := .tuple #[.agg #[.slice none 0 0, .slice none 0 0, .slice none 0 0], .int .i64 4]) ?_ rfl ?_
            · rw [results_cell_tmp rfl]
              go_simp
            · rw [HNone.out]
              exact ⟨rfl, HKe.out⟩
        · have hv2b : (vv.c != 2) = true := by simpa using hv2
          have HNone : Hid (loadL voidG cs = none) := load_none (i := i + 1) (by
            rw [HSt.out]
            unfold stepL
            rw [if_neg (fun h => hv2 (by rw [HVV.out]; exact h.1))])
          clear hv2 hBk
          go_wp2_with fail
          go_quiet (fail)
          obtain ⟨z0, z1, z2⟩ := cells3 ((drewN_kept wc nq).at hQ3 (by simp))
          have f0 := froz3 ((drewN_kept wc nq).at hQ3 (by simp)) 0
          have f1 := froz3 ((drewN_kept wc nq).at hQ3 (by simp)) 1
          have f2 := froz3 ((drewN_kept wc nq).at hQ3 (by simp)) 2
          have HKe : Hid (Kept [] w ((((wc.drewN nq).setCell ⟨w.heap.size, 0, none⟩ (.slice none 0 0)).setCell ⟨w.heap.size, 1, none⟩ (.slice none 0 0)).setCell ⟨w.heap.size, 2, none⟩ (.slice none 0 0))) := (((HK3.out.trans (drewN_kept wc nq) (by simp)).setCell (.inr (Nat.le_refl _)) _).setCell (.inr (Nat.le_refl _)) _).setCell (.inr (Nat.le_refl _)) _
          go_wp2_with fail
          refine bodyPost_ret (v := .tuple #[.agg #[.slice none 0 0, .slice none 0 0, .slice none 0 0], .int .i64 4]) ?_ rfl ?_
          · rw [results_cell_tmp rfl]
            go_simp
          · rw [HNone.out]
            exact ⟨rfl, HKe.out⟩
    · have hlt' : ¬ (i : Int) < nk := by omega
      have HEnd : Hid (loadL voidG cs = some G) := by have h := HLd.out; rw [List.take_of_length_le (by rw [HCl.out, ← HNk.out]; omega)] at h; exact h
      obtain ⟨a0, n0, p0, a1, n1, p1, a2, n2, p2, K5, hA5, hn5, _⟩ := HMr.out.parts
      obtain ⟨c0, c1, c2⟩ := cells3 hA5.at_
      obtain ⟨z0, z1, z2⟩ := cells3 hQr
      have f0 := froz3 hQr 0
      have f1 := froz3 hQr 1
      have f2 := froz3 hQr 2
      have HFin := hidL (mld_end hA5 hn5 hQr)
      have HKe : Hid (Kept [] w (((wr.setCell ⟨w.heap.size, 0, none⟩ (.slice a0 n0 p0)).setCell ⟨w.heap.size, 1, none⟩ (.slice a1 n1 p1)).setCell ⟨w.heap.size, 2, none⟩ (.slice a2 n2 p2))) := (((HK0.out.trans HMr.out.keeps (by simp)).setCell (.inr (Nat.le_refl _)) _).setCell (.inr (Nat.le_refl _)) _).setCell (.inr (Nat.le_refl _)) _
      clear hA5 hn5 hQr
      go_wp2_with fail
      refine bodyPost_ret (v := .tuple #[.agg #[.slice a0 n0 p0, .slice a1 n1 p1, .slice a2 n2 p2], .int .i64 0]) ?_ rfl ?_
      · rw [results_cell_tmp rfl]
        go_simp
      · rw [HEnd.out]
        exact ⟨_, _, _, _, _, _, _, _, _, rfl, HFin.out, HKe.out⟩

end Go.Proofs.YtfoghemiaidnhaaGreat

/-
  GraphLoads: the walk.
-/
namespace Go.Proofs.YtfoghemiaidnhaaGreat
open Go.RowKit

/-- One deed, out of a commit. -/
theorem deed_oneC (w : World) (n : List UInt8) (bo : Option Addr) (m d : Nat) (L : List Ch) (hL : SlC w bo m d L) (hz : bo = none → d = 0) :
    SlD (w.alloc (.cells #[.int .i64 0, .string (str n), .slice bo m d] 48)) (some ⟨w.heap.size, 0, none⟩) 1 1 [⟨0, n, bo, m, d, L⟩] := by
  have h := heap_alloc_new w (.cells #[.int .i64 0, .string (str n), .slice bo m d] 48)
  refine ⟨rfl, Nat.le_refl _, by decide, fun i hi => ⟨w.heap.size, 0, rfl, ?_⟩⟩
  have : i = 0 := by simpa using hi
  subst this
  obtain ⟨c0, c1, c2⟩ := cells3 h
  exact ⟨c0, c1, c2, hL.kept ((Kept.refl [] w).alloc _) (by simp), hz⟩

def SmallR (c : Com) : Prop := c.n.length ≤ 300 ∧ c.c.length ≤ 40 ∧ ∀ y ∈ c.c, y.p.length ≤ 300

def LwR (w0 : World) (R : List (Com × Value)) (iv : Value) (wr : World) : Prop := ∃ i : Nat, iv = .int .i64 (i : Int) ∧ i ≤ R.length ∧ Hid (Kept [] w0 wr) ∧ Hid (∀ x ∈ R.take i, SmallR x.1)

def LwI (w0 : World) (b bm : Nat) (D : List De) (iv : Value) (wr : World) : Prop := ∃ i : Nat, iv = .int .i64 (i : Int) ∧ i ≤ D.length ∧ Hid (Pair w0 wr b bm (landAll (D.take i)) (landAll (D.take i)))

set_option linter.unusedSimpArgs false in
set_option maxHeartbeats 16000000 in
set_option maxRecDepth 100000 in
theorem loads_walk (w : World) (ao : Option Addr) (n c : Nat) (D : List De) (hS : SlD w ao n c D) (ro : Option Addr) (rn rc : Nat) (R : List (Com × Value)) (hR : SlK w ro rn rc R) :
    Calls Tryz.prog 5 #[.slice ao n c, .slice ro rn rc] w fun e w' => e = .returned (.bool true) ∧ Kept [] w w' := by
  have hl := hS.1
  subst hl
  have hc := hS.2.1
  have hm := hS.2.2.1
  unfold maxLen at hm
  have hc2 := hR.2.1
  have hm2 := hR.2.2.1
  unfold maxLen at hm2
  have cR := fun W (hk : Kept [] w W) => room_callD W ao D.length c D (hS.kept hk)
  have HS : Hid (SlD w ao D.length c D) := hS
  have HRw : Hid (SlK w ro rn rc R) := hR
  have HRn : Hid (R.length = rn) := hR.1
  clear hS hR
  cases hroom : roomD D with
  | false =>
    rw [hroom] at cR
    clear hroom
    go_enter Tryz.func5, Tryz.ntmps5
    go_wp2_with fail
    refine (awake_callG w).mono ?_
    rintro _ w1 ⟨rfl, hK1⟩
    go_wp2_with fail
    refine (cR w1 hK1).mono ?_
    rintro _ W ⟨rfl, hW0⟩
    obtain rfl := hW0.symm
    go_wp2_with fail
    go_ret
    exact ⟨rfl, hK1⟩
  | true =>
    have HRm : Hid (RoomD D) := roomD_true.1 hroom
    rw [hroom] at cR
    clear hroom
    have hD100 : D.length ≤ 100 := HRm.out.1
    by_cases hr40 : (rn : Int) ≤ 40
    · have hr40n : rn ≤ 40 := by omega
      have HR40 := hid_of hr40n
      go_enter Tryz.func5, Tryz.ntmps5
      go_wp2_with fail
      refine (awake_callG w).mono ?_
      rintro _ w1 ⟨rfl, hK1⟩
      go_wp2_with fail
      refine (cR w1 hK1).mono ?_
      rintro _ W ⟨rfl, hW0⟩
      obtain rfl := hW0.symm
      go_wp2_with fail
      have HK1 := hid_of hK1
      clear cR hK1
      go_loopw [5] (fun iv wr => LwR w1 R iv wr) (fun iv _ => rn - (intOf iv).toNat)
      case atStart => exact ⟨0, rfl, Nat.zero_le _, Kept.refl _ _, fun x hx => by simp at hx⟩
      case round =>
        obtain ⟨i, rfl, hi, HK, HSm⟩ := hrel
        by_cases hlt : i < rn
        · have hlt' : (i : Int) < rn := by omega
          have hic : i ≤ rc := by omega
          have hiR : i < R.length := by rw [HRn.out]; exact hlt
          obtain ⟨g, o, rfl, hx⟩ := HRw.out.2.2.2.1 i hiR
          obtain ⟨mo, mm, mc, hmv, hsl, hnil⟩ := HRw.out.2.2.2.2 _ (List.getElem_mem hiR)
          obtain ⟨k0, k1, k2, k3⟩ := hx.kept (HK1.out.trans HK.out (by simp)) (by simp)
          rw [hmv] at k3
          have HT : Hid (R.take (i + 1) = R.take i ++ [R[i]]) := List.take_succ_eq_append_getElem hiR
          have cO := fun W (hk : Kept [] (wr.alloc (.cells #[.int .i64 0, .string (str R[i].1.n), .slice mo mm mc] 48)) W) => room_callD W (some ⟨wr.heap.size, 0, none⟩) 1 1 [⟨0, R[i].1.n, mo, mm, mc, R[i].1.c⟩] ((deed_oneC wr R[i].1.n mo mm mc R[i].1.c (hsl.kept (HK1.out.trans HK.out (by simp)) (by simp)) hnil).kept hk)
          have hSmI : roomD [⟨0, R[i].1.n, mo, mm, mc, R[i].1.c⟩] = true → SmallR R[i].1 := fun h => by
            have h1 := (roomD_true.1 h).2 _ (List.mem_singleton.2 rfl)
            exact h1
          cases hrm : roomD [⟨0, R[i].1.n, mo, mm, mc, R[i].1.c⟩] with
          | false =>
            rw [hrm] at cO
            generalize R[i].1 = x at *
            clear hmv hsl hnil hSmI hrm HT
            go_wp2_with fail
            first | go_region_held3 (fun w' => w'.cell? ⟨g, o + i * 4 + 2, none⟩ = some (.string (str x.n)) ∧ w'.cell? ⟨g, o + i * 4 + 3, none⟩ = some (.slice mo mm mc))
                (go_keep)
                (first | (go_at_call 12; refine (cO _ ?_).mono ?_; exact (Kept.refl [] _).drew; rintro e W ⟨rfl, hW0⟩; obtain rfl := hW0.symm)) | fail
            go_wp2_with fail
            go_ret
            exact ⟨rfl, (HK1.out.trans HK.out (by simp)).trans ((Kept.refl [] _).alloc _).drew (by simp)⟩
          | true =>
            rw [hrm] at cO
            have HN : Hid (∀ x ∈ R.take (i + 1), SmallR x.1) := by
              rw [HT.out]
              intro x hx
              rcases List.mem_append.1 hx with hx | hx
              · exact HSm.out x hx
              · simp at hx; subst hx; exact hSmI hrm
            generalize R[i].1 = x at *
            clear hmv hsl hnil hSmI hrm HT
            go_wp2_with fail
            first | go_region_held3 (fun w' => w'.cell? ⟨g, o + i * 4 + 2, none⟩ = some (.string (str x.n)) ∧ w'.cell? ⟨g, o + i * 4 + 3, none⟩ = some (.slice mo mm mc))
                (go_keep)
                (first | (go_at_call 12; refine (cO _ ?_).mono ?_; exact (Kept.refl [] _).drew; rintro e W ⟨rfl, hW0⟩; obtain rfl := hW0.symm)) | fail
            go_wp2_with fail
            go_roundw
            case rel => exact ⟨i + 1, by go_num, by rw [HRn.out]; omega, HK.out.trans ((Kept.refl [] _).alloc _).drew (by simp), HN⟩
            case measure => (simp [intOf] <;> omega)
        · have hlt' : ¬ (i : Int) < rn := by omega
          have HSa : Hid (∀ x ∈ R, SmallR x.1) := by have h := HSm.out; rw [List.take_of_length_le (by rw [HRn.out]; omega)] at h; exact h
          have HKa := hid_of (HK1.out.trans HK.out (by simp))
          obtain ⟨wa, rfl⟩ : ∃ wa, wa = wr := ⟨_, rfl⟩
          go_wp2_with fail
          refine (live_new wa).mono ?_
          rintro _ w2 ⟨b, rfl, hG2⟩
          have HD : Hid (SlD wa ao D.length c D) := HS.out.kept HKa.out
          have HG2 := hid_of (pair_new hG2)
          clear hG2
          go_wp2_with fail
          obtain ⟨bm, hbm⟩ : ∃ bm, bm = w2.heap.size := ⟨_, rfl⟩
          rw [← hbm] at HG2 ⊢
          clear hbm
          go_loopw [8] (fun iv wr => LwI wa b bm D iv wr) (fun iv _ => D.length - (intOf iv).toNat)
          case atStart => exact ⟨0, rfl, Nat.zero_le _, HG2.out⟩
          case round =>
            obtain ⟨j, rfl, hj, HLv⟩ := hrel
            by_cases hlt2 : j < D.length
            · have hlt2' : (j : Int) < D.length := by omega
              have hjc : j ≤ c := by omega
              obtain ⟨g, o, rfl, hx⟩ := HD.out.2.2.2 j hlt2
              have hxr := hx.kept HLv.out.keeps
              have cL := fun W (hk : Kept [] wr W) => pair_landD (HLv.out.kept hk) hlt2 HRm.out (hxr.sl.kept hk (by simp)) hxr.nil
              have cM := fun W (hP : Pair wa W b bm (landAll (D.take (j + 1))) (landAll (D.take j))) => pair_mlandD hP hlt2 HRm.out (hx.sl.kept hP.keeps (by simp))
              obtain ⟨k0, k1, k2, _, _⟩ := hx
              obtain ⟨c0, c1, c2, _, _⟩ := hxr
              generalize D[j] = x at *
              have HCM := hid_of cM
              clear cM
              go_wp2_with fail
              go_region_held3 (fun w' => w'.cell? ⟨g, o + j * 3, none⟩ = some (.int .i64 x.b) ∧ w'.cell? ⟨g, o + j * 3 + 1, none⟩ = some (.string (str x.n)) ∧ w'.cell? ⟨g, o + j * 3 + 2, none⟩ = some (.slice x.mo x.m x.mc))
                (first | go_keep | exact ⟨hL3.keeps.cell k0 (by simp), hL3.keeps.cell k1 (by simp), hL3.keeps.cell k2 (by simp)⟩)
                (first
                  | (go_at_call 9; refine (cL _ ?_).mono ?_; exact (Kept.refl [] _).drew; rintro e w3 ⟨rfl, hL3, hO3⟩))
              clear cL c0 c1 c2 hO3
              have c0 := hL3.keeps.cell k0 (by simp)
              have c1 := hL3.keeps.cell k1 (by simp)
              have c2 := hL3.keeps.cell k2 (by simp)
              have cM := HCM.out
              go_wp2_with fail
              go_region_held3 (fun w' => w'.cell? ⟨g, o + j * 3, none⟩ = some (.int .i64 x.b) ∧ w'.cell? ⟨g, o + j * 3 + 1, none⟩ = some (.string (str x.n)) ∧ w'.cell? ⟨g, o + j * 3 + 2, none⟩ = some (.slice x.mo x.m x.mc))
                (first | go_keep | exact ⟨hL4.keeps.cell k0 (by simp), hL4.keeps.cell k1 (by simp), hL4.keeps.cell k2 (by simp)⟩)
                (first
                  | (go_at_call 14; refine (cM _ ?_).mono ?_; exact hL3.kept (Kept.refl [] _).drew; rintro e w4 ⟨rfl, hL4, hO4⟩))
              have HN := hid_of hL4
              go_wp2_with fail
              go_roundw
              case rel => exact ⟨j + 1, by go_num, by omega, HN⟩
              case measure => (simp [intOf] <;> omega)
            · have hlt2' : ¬ (j : Int) < D.length := by omega
              have HPe : Hid (Pair wa wr b bm (landAll D) (landAll D)) := by have := HLv.out; rw [List.take_of_length_le (by omega)] at this; exact this
              clear HLv
              have HRe : Hid (Reach (landAll D)) := landAll_reach D
              have hgl := landAll_len D
              generalize landAll D = G at *
              have HGl : Hid (G.cs.length ≤ 100) := by show _ ≤ _; omega
              clear hgl
              have cC := live_commits HPe.out.live HRe.out.wf (by have := HGl.out; omega)
              obtain ⟨wb, rfl⟩ : ∃ wb, wb = wr := ⟨_, rfl⟩
              go_wp2_with fail
              refine cC.mono ?_
              rintro _ w5 ⟨v5, K5, rfl, hc5, hR5, hO5, hK5⟩
              obtain ⟨ao5, cp5, rfl, hS5, _⟩ := hR5.sl hO5
              have hkl5 : K5.length = G.cs.length := by rw [← hc5]; simp
              have cLd := load_call w5 ao5 K5.length cp5 K5 hS5 (by have := HGl.out; omega) (fun x hx => by
                have h1 := HRe.out.wf.com x.1 (by rw [← hc5]; exact List.mem_map_of_mem hx)
                have h2 := h1.1.2.1
                exact ⟨by have := h1.2.2.1; omega, by omega, fun y hy => by have := h1.2.1 y hy; omega⟩)
              rw [hc5, HRe.out.load] at cLd
              simp only [LoadP] at cLd
              have HP5 := hid_of (HPe.out.kept hK5)
              clear cC hR5 hO5 hS5 hkl5 hc5
              generalize K5.length = n5 at *
              go_wp2_with fail
              refine cLd.mono ?_
              rintro _ w6 ⟨b6, rfl, hL6⟩
              have HL6 := hid_of hL6
              have HP6 := hid_of (HP5.out.kept hL6.keeps)
              have HR6 : Hid (SlK w6 ro rn rc R) := HRw.out.kept (HKa.out.trans HP6.out.keeps (by simp))
              have cL6 := load_call w6 ro rn rc R HR6.out (by have := HR40.out; omega) (fun x hx => by
                have h1 := HSa.out x hx
                exact ⟨by have := h1.1; omega, by have := h1.2.1; omega, fun y hy => by have := h1.2.2 y hy; omega⟩)
              have cM6 := fun W (hk : Kept [] w6 W) => mload_call W ro rn rc R (HR6.out.kept hk) (by have := HR40.out; omega) (fun x hx => by
                have h1 := HSa.out x hx
                exact ⟨by have := h1.1; omega, by have := h1.2.1; omega, fun y hy => by have := h1.2.2 y hy; omega⟩)
              clear hL6 cLd
              cases hload : loadL voidG (R.map Prod.fst) with
              | none =>
                rw [hload] at cL6 cM6
                simp only [LoadP] at cL6
                simp only [MldP] at cM6
                clear hload
                go_wp2_with fail
                refine cL6.mono ?_
                rintro _ w7 ⟨rfl, hK7⟩
                go_wp2_with fail
                refine (cM6 w7 hK7).mono ?_
                rintro _ w8 ⟨rfl, hK8⟩
                have hK9 := (hK7.trans hK8 (by simp)).alloc (.cells #[.slice none 0 0, .slice none 0 0, .slice none 0 0] 46)
                obtain ⟨M9, hM9⟩ := (HP6.out.kept hK9).model
                have cK := looks_call (HL6.out.kept hK9) hM9 HRe.out.wf (by have := HGl.out; omega)
                have HKe := hid_of ((HKa.out.trans HP6.out.keeps (by simp)).trans hK9 (by simp))
                clear hK7 hK8 hK9 hM9 cL6 cM6
                go_wp2_with fail
                refine cK.mono ?_
                rintro _ w10 ⟨rfl, hK10⟩
                go_wp2_with fail
                go_ret
                exact ⟨rfl, HKe.out.trans hK10 (by simp)⟩
              | some X =>
                rw [hload] at cL6 cM6
                simp only [LoadP] at cL6
                simp only [MldP] at cM6
                obtain ⟨hWX, hXc⟩ := wf_loads wf_void hload
                have HWX := hid_of hWX
                have HXl : Hid (X.cs.length ≤ 10000) := by show _ ≤ _; rw [hXc]; simp [voidG]; have h1 := HRn.out; have h2 := HR40.out; omega
                clear hload hWX hXc
                go_wp2_with fail
                refine cL6.mono ?_
                rintro _ w7 ⟨b7, rfl, hL7⟩
                have hK7 := hL7.keeps
                have HL7 := hid_of hL7
                go_wp2_with fail
                refine (cM6 w7 hK7).mono ?_
                rintro _ w8 ⟨a0, n0, p0, a1, n1, p1, a2, n2, p2, rfl, ⟨M8, hM8⟩, hK8⟩
                have hK8a := hK8.alloc (.cells #[.slice a0 n0 p0, .slice a1 n1 p1, .slice a2 n2 p2] 46)
                have hK9 := hK7.trans hK8a (by simp)
                obtain ⟨M9, hM9⟩ := (HP6.out.kept hK9).model
                have cK := looks_call (HL6.out.kept hK9) hM9 HRe.out.wf (by have := HGl.out; omega)
                have HKe := hid_of ((HKa.out.trans HP6.out.keeps (by simp)).trans hK9 (by simp))
                have HM8 := hid_of hM8
                have HK8a := hid_of hK8a
                clear hK7 hK8 hK9 hM9 cL6 cM6 hL7 hM8 hK8a
                go_wp2_with fail
                refine cK.mono ?_
                rintro _ w10 ⟨rfl, hK10⟩
                have cK2 := looks_call (HL7.out.kept (HK8a.out.trans hK10 (by simp))) (HM8.out.kept hK10) HWX.out HXl.out
                go_wp2_with fail
                refine cK2.mono ?_
                rintro _ w11 ⟨rfl, hK11⟩
                go_wp2_with fail
                go_ret
                exact ⟨rfl, (HKe.out.trans hK10 (by simp)).trans hK11 (by simp)⟩
    · go_enter Tryz.func5, Tryz.ntmps5
      go_wp2_with fail
      refine (awake_callG w).mono ?_
      rintro _ w1 ⟨rfl, hK1⟩
      go_wp2_with fail
      refine (cR w1 hK1).mono ?_
      rintro _ W ⟨rfl, hW0⟩
      obtain rfl := hW0.symm
      go_wp2_with fail
      go_ret
      exact ⟨rfl, hK1⟩

end Go.Proofs.YtfoghemiaidnhaaGreat
