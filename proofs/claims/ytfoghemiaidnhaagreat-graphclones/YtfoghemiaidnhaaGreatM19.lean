/-
  Texts of this claim that are laid as one: GrMo5, GrPair.
-/
import Derived.Test.YtfoghemiaidnhaaGreatM11
import Derived.Test.YtfoghemiaidnhaaGreatGrReA
import Derived.Test.YtfoghemiaidnhaaGreatM16
import Derived.Test.YtfoghemiaidnhaaGreatGrSame
import Derived.Test.YtfoghemiaidnhaaGreatTrSame
import Derived.Deep.QuietTactic
import Derived.BigQuiet
import Derived.Handy
import Derived.Test.YtfoghemiaidnhaaGreatM12
/-
  refs, looks: a graph tells what the document's own one holds.
-/
namespace Go.Proofs.YtfoghemiaidnhaaGreat
open Go.RowKit

theorem live_refsM {w0 w : World} {b : Nat} {G : Gr} (h : Live w0 w b G) (hW : Wf G) (hl : G.cs.length ≤ 10000) :
    Calls Tryz.prog 11 #[.pointer (some ⟨b, 0, none⟩)] w fun e w' => ∃ v', e = .returned v' ∧ OwnR w.heap.size w' v' G.rs ∧ Kept [] w w' := by
  obtain ⟨S, ⟨v, p, t, mb, K, hG, rfl⟩, h2, h3⟩ := h
  exact refs_call hG hW.srs (by have := hW.refs; omega) (fun x hx => by have := (hW.name x hx).2; omega)

def RfI (w : World) (n : Nat) (iv : Value) (wr : World) : Prop := ∃ i : Nat, iv = .int .i64 (i : Int) ∧ i ≤ n ∧ Hid (Kept [] w wr)

set_option maxHeartbeats 4000000 in
set_option maxRecDepth 100000 in
theorem refsL_call {w : World} {B1 B2 : Nat} {va vb : Value} {l : List (List UInt8 × Int)} (h1 : OwnR B1 w va l) (h2 : OwnM B2 w vb l) :
    Calls Tryz.prog 46 #[va, vb] w fun e w' => e = .returned (.bool true) ∧ Kept [] w w' := by
  obtain ⟨ao, c, rfl, hc, hm, hat⟩ := h1.at
  obtain ⟨bo, d, rfl, hd, hm2, hat2⟩ := h2.at
  unfold maxLen at hm hm2
  have HA : Hid (∀ i (hi : i < l.length), ∃ g, ao = some ⟨g, 0, none⟩ ∧ w.cell? ⟨g, i * 2, none⟩ = some (.string (str l[i].1)) ∧ w.cell? ⟨g, i * 2 + 1, none⟩ = some (.int .i64 l[i].2)) := hat
  have HB : Hid (∀ i (hi : i < l.length), ∃ g, bo = some ⟨g, 0, none⟩ ∧ w.cell? ⟨g, i * 2, none⟩ = some (.string (str l[i].1)) ∧ w.cell? ⟨g, i * 2 + 1, none⟩ = some (.int .i64 l[i].2)) := hat2
  obtain ⟨n, hn⟩ : ∃ n, n = l.length := ⟨_, rfl⟩
  have HN : Hid (n = l.length) := hn
  rw [← hn] at hc hd ⊢
  clear h1 h2 hat hat2 hn
  go_enter Tryz.func46, Tryz.ntmps46
  go_wp2_with fail
  go_loopw [5] (fun iv wr => RfI w n iv wr) (fun iv _ => n - (intOf iv).toNat)
  case atStart => exact ⟨0, rfl, Nat.zero_le _, Kept.refl _ _⟩
  case round =>
    obtain ⟨i, rfl, hi, HK⟩ := hrel
    by_cases hlt : i < n
    · have hlt' : (i : Int) < n := by omega
      have hic : i ≤ c := by omega
      have hid : i ≤ d := by omega
      have hil : i < l.length := by rw [← HN.out]; exact hlt
      obtain ⟨g, rfl, d0, d1⟩ := HA.out i hil
      obtain ⟨g2, rfl, e0, e1⟩ := HB.out i hil
      replace d0 := HK.out.cell d0 (by simp)
      replace d1 := HK.out.cell d1 (by simp)
      replace e0 := HK.out.cell e0 (by simp)
      replace e1 := HK.out.cell e1 (by simp)
      generalize l[i] = x at *
      have hb1 : (!((str x.1).toList == (str x.1).toList)) = false := by simp
      have hb2 : (x.2 != x.2) = false := by simp
      go_wp2_with fail
      go_quiet (fail)
      go_wp2_with fail
      go_roundw
      case rel => exact ⟨i + 1, by go_num, by omega, HK.out.trans (drewN_kept _ _) (by simp)⟩
      case measure => simp [intOf]; omega
    · have hlt' : ¬ (i : Int) < n := by omega
      go_wp2_with fail
      go_ret
      exact ⟨rfl, HK.out⟩

set_option maxHeartbeats 8000000 in
set_option maxRecDepth 100000 in
/-- looks. -/
theorem looks_call {w0 w : World} {b bm : Nat} {M : List Nat} {G : Gr} (hG : Live w0 w b G) (hM : MAt w bm M G) (hW : Wf G) (hl : G.cs.length ≤ 10000) :
    Calls Tryz.prog 15 #[.pointer (some ⟨b, 0, none⟩), .pointer (some ⟨bm, 0, none⟩)] w fun e w' => e = .returned (.bool true) ∧ Kept [] w w' := by
  obtain ⟨v, vL, vR, K, hm, _, _⟩ := hM
  obtain ⟨aoC, cpC, rfl, hsC, _⟩ := hm.row.sl hm.own
  obtain ⟨aoL, cpL, rfl, hsL⟩ := hm.lvs.sl
  obtain ⟨aoR, cpR, rfl, _⟩ := hm.rfs.at
  have hkl : K.length = G.cs.length := by rw [← hm.com]; simp
  have hll : G.ls.length ≤ 1000000 := by have := hW.many; omega
  have cH := fun W (hk : Kept [] w W) => live_head (hG.kept hk)
  have cC := fun W (hk : Kept [] w W) => live_commits (hG.kept hk) hW hl
  have cL := fun W (hk : Kept [] w W) => live_leaves (hG.kept hk) hll
  have cR := fun W (hk : Kept [] w W) => live_refsM (hG.kept hk) hW hl
  have HSC : Hid (SlK w aoC K.length cpC K) := hsC
  have HSL : Hid (SlL w aoL G.ls.length cpL G.ls) := hsL
  have HRF : Hid (OwnM 0 w (.slice aoR G.rs.length cpR) G.rs) := hm.rfs
  have HCom : Hid (K.map Prod.fst = G.cs) := hm.com
  have HAt : Hid (w.heap[bm]? = some (.cells #[.slice aoC K.length cpC, .slice aoL G.ls.length cpL, .slice aoR G.rs.length cpR] 46 (0, 0))) := hm.at_
  obtain ⟨kl, hkl2⟩ : ∃ kl, kl = K.length := ⟨_, rfl⟩
  obtain ⟨nl, hnl2⟩ : ∃ nl, nl = G.ls.length := ⟨_, rfl⟩
  obtain ⟨nr, hnr2⟩ : ∃ nr, nr = G.rs.length := ⟨_, rfl⟩
  rw [← hkl, ← hkl2] at cH
  rw [← hkl2] at HSC HAt
  rw [← hnl2] at HSL HAt
  rw [← hnr2] at HRF HAt
  have cS := fun W aoK n4 c4 K4 (hs4 : SlK W aoK n4 c4 K4) (hc4 : K4.map Prod.fst = G.cs) (hk : Kept [] w W) => samecs_call W aoK aoC n4 kl c4 cpC K4 K hs4 (HSC.out.kept hk) (by rw [hc4, HCom.out])
  have HL2 : Hid (nl = G.ls.length) := hnl2
  have cSL := fun W ao6 n6 cp6 (hs6 : SlL W ao6 n6 cp6 G.ls) (hk : Kept [] w W) => same_call W ao6 aoL n6 nl cp6 cpL G.ls G.ls hs6 (HSL.out.kept hk)
  simp only [decide_true] at cSL
  have cF := fun W v7 B7 (h7 : OwnR B7 W v7 G.rs) (hk : Kept [] w W) => refsL_call h7 (show OwnM 0 W (.slice aoR nr cpR) G.rs from hk.ownsRow HRF.out (by simp))
  clear hG hm hsC hsL hkl hkl2 hnl2 hnr2 hll hl
  obtain ⟨c0, c1, c2⟩ := cells3 HAt.out
  go_enter Tryz.func15, Tryz.ntmps15
  go_wp2_with fail
  first | go_region_held3 (fun w' => w'.cell? ⟨bm, 0, none⟩ = some (.slice aoC kl cpC) ∧ w'.cell? ⟨bm, 1, none⟩ = some (.slice aoL nl cpL) ∧ w'.cell? ⟨bm, 2, none⟩ = some (.slice aoR nr cpR))
      (first | go_keep | exact cells3 (hK9.at HAt.out (by simp)) | exact cells3 (hK8.at HAt.out (by simp)) | exact cells3 (hK7.at HAt.out (by simp)) | exact cells3 (hK6.at HAt.out (by simp)) | exact cells3 (hK5.at HAt.out (by simp)) | exact cells3 (hK4.at HAt.out (by simp)))
      (first
        | (go_at_call 24; refine (cH _ ?_).mono ?_; exact (Kept.refl [] w).drew; rintro e w3 ⟨rfl, rfl⟩)
        | (go_at_call 20; refine (cC _ ?_).mono ?_; exact (Kept.refl [] w).drew; rintro e w4 ⟨v4, K4, rfl, hc4, hR4, hO4, hK4⟩; obtain ⟨ao4, cp4, rfl, hS4, _⟩ := hR4.sl hO4; replace hK4 := (Kept.refl [] w).drew.trans hK4 (by simp))
        | (go_at_call 37; refine (cS _ _ _ _ K4 hS4 hc4 hK4).mono ?_; rintro e w5 ⟨rfl, hK5⟩; replace hK5 := hK4.trans hK5 (by simp))
        | (go_at_call 45; refine (cL _ hK5).mono ?_; rintro e w6 ⟨v6, rfl, hO6, hK6⟩; obtain ⟨ao6, cp6, rfl, hS6⟩ := hO6.sl; replace hK6 := hK5.trans hK6 (by simp))
        | (go_at_call 44; refine (cSL _ _ _ _ hS6 hK6).mono ?_; rintro e w7 ⟨rfl, q7, rfl⟩; have hK7 := hK6.trans (drewN_kept _ q7) (by simp))
        | (go_at_call 11; refine (cR _ hK7).mono ?_; rintro e w8 ⟨v8, rfl, hO8, hK8⟩; replace hK8 := hK7.trans hK8 (by simp))
        | (go_at_call 46; refine (cF _ _ _ hO8 hK8).mono ?_; rintro e w9 ⟨rfl, hK9⟩; replace hK9 := hK8.trans hK9 (by simp))) | fail
  go_wp2_with fail
  go_ret
  exact ⟨rfl, hK9⟩

end Go.Proofs.YtfoghemiaidnhaaGreat

/-
  A graph and the document's own one, side by side.
-/
namespace Go.Proofs.YtfoghemiaidnhaaGreat
open Go.RowKit

/-- Both were made behind w0, and neither owns what the other owns. -/
def Pair (w0 w : World) (b bm : Nat) (G H : Gr) : Prop :=
  ∃ S M, GAt w b S G ∧ MAt w bm M H ∧ (∀ k ∈ S, k ∉ M) ∧ Kept [] w0 w ∧ (∀ k ∈ S, w0.heap.size ≤ k) ∧ (∀ k ∈ M, w0.heap.size ≤ k)

/-- Blocks of other types stay. -/
def OffP (w w' : World) : Prop := ∀ (k : Nat) (vs : Array Value) (t : TypeId), w.heap[k]? = some (.cells vs t (0, 0)) → t ≠ 69 → t ≠ 46 → t ≠ 54 → w'.heap[k]? = some (.cells vs t (0, 0))

theorem Pair.keeps {w0 w : World} {b bm : Nat} {G H : Gr} (h : Pair w0 w b bm G H) : Kept [] w0 w := by
  obtain ⟨S, M, _, _, _, h4, _⟩ := h; exact h4

theorem Pair.kept {w0 w w' : World} {b bm : Nat} {G H : Gr} (h : Pair w0 w b bm G H) (k : Kept [] w w') : Pair w0 w' b bm G H := by
  obtain ⟨S, M, h1, h2, h3, h4, h5, h6⟩ := h
  exact ⟨S, M, h1.kept k, h2.kept k, h3, h4.trans k (by simp), h5, h6⟩

theorem Pair.live {w0 w : World} {b bm : Nat} {G H : Gr} (h : Pair w0 w b bm G H) : Live w0 w b G := by
  obtain ⟨S, M, h1, h2, h3, h4, h5, h6⟩ := h
  exact ⟨S, h1, h4, h5⟩

theorem Pair.model {w0 w : World} {b bm : Nat} {G H : Gr} (h : Pair w0 w b bm G H) : ∃ M, MAt w bm M H := by
  obtain ⟨S, M, h1, h2, h3, h4, h5, h6⟩ := h
  exact ⟨M, h2⟩

theorem Pair.cells {w0 w : World} {b bm : Nat} {G H : Gr} (h : Pair w0 w b bm G H) : ∃ a0 n0 c0 a1 n1 c1 a2 n2 c2 K, w.heap[bm]? = some (.cells #[.slice a0 n0 c0, .slice a1 n1 c1, .slice a2 n2 c2] 46 (0, 0)) ∧ SlK w a0 n0 c0 K ∧ K.map Prod.fst = H.cs ∧ SlL w a1 n1 c1 H.ls := by
  obtain ⟨S, M, h1, ⟨v, vL, vR, K, hm, _, _⟩, h3, h4, h5, h6⟩ := h
  obtain ⟨aoC, cpC, rfl, hsC, _⟩ := hm.row.sl hm.own
  obtain ⟨aoL, cpL, rfl, hsL⟩ := hm.lvs.sl
  obtain ⟨aoR, cpR, rfl, _⟩ := hm.rfs.at
  exact ⟨_, _, _, _, _, _, _, _, _, K, hm.at_, hsC, hm.com, hsL⟩

theorem pair_new {w0 w : World} {b : Nat} (h : Live w0 w b voidG) : Pair w0 (w.alloc (.cells #[.slice none 0 0, .slice none 0 0, .slice none 0 0] 46)) b w.heap.size voidG voidG := by
  obtain ⟨S, h1, h2, h3⟩ := h
  have hk := (Kept.refl [] w).alloc (.cells #[.slice none 0 0, .slice none 0 0, .slice none 0 0] 46)
  refine ⟨S, _, h1.kept hk, ⟨_, _, _, [], MA.new w, fun _ => .inl rfl, rfl⟩, fun k hk1 hk2 => ?_, h2.trans hk (by simp), h3, fun k hk2 => ?_⟩
  · simp [ownM, Value.ownBlock] at hk2
    have := h1.lt k hk1; omega
  · simp [ownM, Value.ownBlock] at hk2
    subst hk2; exact h2.size

theorem pair_land {w0 w : World} {b bm : Nat} {G H : Gr} (h : Pair w0 w b bm G H) (hW : Wf G) (hl : G.cs.length ≤ 10000)
    (base : Int) (n : List UInt8) (hn : n.length ≤ 1000000) (ao : Option Addr) (m c : Nat) (L : List Ch) (hS : SlC w ao m c L) (hnil : ao = none → c = 0) (hm : m ≤ 1000000) (hp : ∀ x ∈ L, x.p.length ≤ 1000000000) :
    Calls Tryz.prog 9 #[.pointer (some ⟨b, 0, none⟩), .int .i64 base, .string (str n), .slice ao m c] w fun e w' => e = .returned (vdV (landV G base n L)) ∧ Pair w0 w' b bm (landG G base n L) H ∧ OffP w w' := by
  obtain ⟨S, M, h1, h2, h3, h4, h5, h6⟩ := h
  refine (gland_call h1 hW hl base n hn ao m c L hS hnil hm hp).mono fun e w' ⟨he, S', g1, k1, hs'⟩ => ⟨he, ⟨S', M, g1, h2.keep k1 (fun i hi hm => h3 i hm hi) h1.typed (by decide) (by decide) (by decide), fun k hk hm => ?_, h4.trans k1 (fun i hi => .inr (h5 i hi)), fun k hk => ?_, h6⟩, fun k vs t hk ht ht2 ht3 => k1.typed h1.typed hk (by simp [ht, ht3])⟩
  · rcases hs' k hk with h7 | h7
    · exact h3 k h7 hm
    · have := h2.lt k hm; omega
  · rcases hs' k hk with h7 | h7
    · exact h5 k h7
    · exact Nat.le_trans h4.size h7

theorem pair_mland {w0 w : World} {b bm : Nat} {G H : Gr} (h : Pair w0 w b bm G H) (hW : Wf H) (hl : H.cs.length ≤ 10000)
    (base : Int) (n : List UInt8) (hn : n.length ≤ 1000000) (ao : Option Addr) (m c : Nat) (L : List Ch) (hS : SlC w ao m c L) (hm : m ≤ 1000000) (hp : ∀ x ∈ L, x.p.length ≤ 1000000000) :
    Calls Tryz.prog 14 #[.pointer (some ⟨bm, 0, none⟩), .int .i64 base, .string (str n), .slice ao m c] w fun e w' => e = .returned (vdV (landV H base n L)) ∧ Pair w0 w' b bm G (landG H base n L) ∧ OffP w w' := by
  obtain ⟨S, M, h1, h2, h3, h4, h5, h6⟩ := h
  have hT := h2.typed
  have hlt := h2.lt
  obtain ⟨v, vL, vR, K, hM, hnl, rfl⟩ := h2
  refine (mland_call hM hnl hW hl base n hn ao m c L hS hm hp).mono fun e w' ⟨he, M', g1, k1, hs'⟩ => ⟨he, ⟨S, M', h1.keep k1 h3 hT (by decide) (by decide) (by decide), g1, fun k hk hm => ?_, h4.trans k1 (fun i hi => .inr (h6 i hi)), h5, fun k hk => ?_⟩, fun k vs t hk ht ht2 ht3 => k1.typed hT hk (by simp [ht2, ht3])⟩
  · rcases hs' k hm with h7 | h7
    · exact h3 k hk h7
    · have := h1.lt k hk; omega
  · rcases hs' k hk with h7 | h7
    · exact h6 k h7
    · exact Nat.le_trans h4.size h7

/-- A verdict's block is written. -/
theorem pair_box {w0 w w' : World} {b bm Bk : Nat} {G H : Gr} {cur : Array Value} {mk : Nat × Nat} (h : Pair w0 w b bm G H) (hB : w.heap[Bk]? = some (.cells cur 28 mk)) (k : Kept [Bk] w w') (hlt : w0.heap.size ≤ Bk) : Pair w0 w' b bm G H := by
  obtain ⟨S, M, h1, h2, h3, h4, h5, h6⟩ := h
  have hT : Typed w [Bk] [28] := fun i hi cur' t' mk' hh => by
    rw [List.mem_singleton] at hi
    subst hi
    rw [hB] at hh; cases hh; simp
  refine ⟨S, M, h1.keep k (fun i hi hm => ?_) hT (by decide) (by decide) (by decide), h2.keep k (fun i hi hm => ?_) hT (by decide) (by decide) (by decide), h3, h4.trans k (fun i hi => ?_), h5, h6⟩
  · rw [List.mem_singleton] at hm
    subst hm
    exact absurd (h1.typed i hi _ _ _ hB) (by decide)
  · rw [List.mem_singleton] at hm
    subst hm
    exact absurd (h2.typed i hi _ _ _ hB) (by decide)
  · rw [List.mem_singleton] at hi
    subst hi
    exact .inr hlt

theorem pair_landD {w0 w : World} {b bm i : Nat} {D : List De} {H : Gr} (h : Pair w0 w b bm (landAll (D.take i)) H) (hi : i < D.length) (hr : RoomD D) (hsl : SlC w D[i].mo D[i].m D[i].mc D[i].l) (hnl : D[i].mo = none → D[i].mc = 0) :
    Calls Tryz.prog 9 #[.pointer (some ⟨b, 0, none⟩), .int .i64 D[i].b, .string (str D[i].n), .slice D[i].mo D[i].m D[i].mc] w fun e w' => e = .returned (vdV (landV (landAll (D.take i)) D[i].b D[i].n D[i].l)) ∧ Pair w0 w' b bm (landAll (D.take (i + 1))) H ∧ OffP w w' := by
  obtain ⟨h1, h2, h3⟩ := hr.2 _ (List.getElem_mem hi)
  have hlen := landAll_len (D.take i)
  have h4 := hr.1
  rw [landAll_take hi]
  exact pair_land h (landAll_reach _).wf (by simp at hlen; omega) _ _ (by omega) _ _ _ _ hsl hnl (by have := hsl.1; omega) (fun x hx => by have := h3 x hx; omega)

theorem pair_mlandD {w0 w : World} {b bm i : Nat} {D : List De} {G : Gr} (h : Pair w0 w b bm G (landAll (D.take i))) (hi : i < D.length) (hr : RoomD D) (hsl : SlC w D[i].mo D[i].m D[i].mc D[i].l) :
    Calls Tryz.prog 14 #[.pointer (some ⟨bm, 0, none⟩), .int .i64 D[i].b, .string (str D[i].n), .slice D[i].mo D[i].m D[i].mc] w fun e w' => e = .returned (vdV (landV (landAll (D.take i)) D[i].b D[i].n D[i].l)) ∧ Pair w0 w' b bm G (landAll (D.take (i + 1))) ∧ OffP w w' := by
  obtain ⟨h1, h2, h3⟩ := hr.2 _ (List.getElem_mem hi)
  have hlen := landAll_len (D.take i)
  have h4 := hr.1
  rw [landAll_take hi]
  exact pair_mland h (landAll_reach _).wf (by simp at hlen; omega) _ _ (by omega) _ _ _ _ hsl (by have := hsl.1; omega) (fun x hx => by have := h3 x hx; omega)

theorem pair_looks {w0 w : World} {b bm : Nat} {G : Gr} (h : Pair w0 w b bm G G) (hW : Wf G) (hl : G.cs.length ≤ 10000) :
    Calls Tryz.prog 15 #[.pointer (some ⟨b, 0, none⟩), .pointer (some ⟨bm, 0, none⟩)] w fun e w' => e = .returned (.bool true) ∧ Kept [] w w' := by
  obtain ⟨M, hM⟩ := h.model
  exact looks_call h.live hM hW hl

/-- What is to be held may grow. -/
theorem wpAnyH_more {P : Program} {md : Region.Mode} {ops : Array Oper} {Q : Exit → Act → World → Prop} {S S' : World → Prop} (hS : ∀ w, S' w → S w) : ∀ (fuel : Nat) (listed : Array Bool) (a : Act) (w : World), wpAnyH P md ops Q S' fuel listed a w → wpAnyH P md ops Q S fuel listed a w
  | 0, _, _, _, h => h
  | fuel + 1, _, _, _, h => ⟨h.1, fun i hi => wpOp_mono (fun a' w' h' => ⟨hS _ h'.1, wpAnyH_more hS fuel _ a' w' h'.2⟩) (h.2 i hi)⟩

/-- What has come up, written out. -/
theorem wpAnyH_list {P : Program} {md : Region.Mode} {ops : Array Oper} {Q : Exit → Act → World → Prop} {S : World → Prop} {fuel fuel' : Nat} {listed l' : Array Bool} {a : Act} {w : World} (hf : fuel = fuel') (h : listed = l') (k : wpAnyH P md ops Q S fuel' l' a w) : wpAnyH P md ops Q S fuel listed a w := by
  subst hf; subst h; exact k

theorem live_readL {w0 w : World} {b : Nat} {G : Gr} (h : Live w0 w b G) (q : List UInt8) (hq : q.length ≤ 1000000000) :
    Calls Tryz.prog 10 #[.pointer (some ⟨b, 0, none⟩), .string (str q)] w fun e w' => e = .returned (vdV (readV G q)) ∧ Kept [] w w' := by
  obtain ⟨S, ⟨v, p, t, mb, K, hG, rfl⟩, h2, h3⟩ := h
  exact read_call hG q hq

/-- Logs, as they come: two verdicts that Alike takes for one. -/
def LogE (w : World) (cs : List Com) (e : Ending) (w' : World) : Prop := (∃ v K, e = .returned (vdW ⟨11, 0, [], 0⟩ v) ∧ K.map Prod.fst = cs ∧ RowK w.heap.size w' v K ∧ OwnK w.heap.size w' K) ∧ Kept [] w w'

theorem live_logL {w0 w : World} {b : Nat} {G : Gr} (h : Live w0 w b G) (hW : Wf G) (hl : G.cs.length ≤ 10000) (f m : Int) (hf : 1 ≤ f) (hm : 1 ≤ m) (hf2 : f < 2 ^ 63) (hm2 : m < 2 ^ 63) :
    Calls Tryz.prog 17 #[.pointer (some ⟨b, 0, none⟩), .int .i64 f, .int .i64 m] w fun e w' => LogE w (logL G.cs f m) e w' := by
  obtain ⟨S, ⟨v, p, t, mb, K, hG, rfl⟩, h2, h3⟩ := h
  exact (log_ok hG hW hl f m hf hm hf2 hm2).mono fun e w' ⟨v', K', h1, h2, h3, h4, h5⟩ => ⟨⟨v', K', h1, h2, h3, h4⟩, h5⟩

theorem live_logB {w0 w : World} {b : Nat} {G : Gr} (h : Live w0 w b G) (f m : Int) (hb : f < 1 ∨ m < 1) :
    Calls Tryz.prog 17 #[.pointer (some ⟨b, 0, none⟩), .int .i64 f, .int .i64 m] w fun e w' => e = .returned (vdV ⟨5, 0, [], 0⟩) ∧ Kept [] w w' := by
  obtain ⟨S, ⟨v, p, t, mb, K, hG, rfl⟩, h2, h3⟩ := h
  exact log_bad hG f m hb

theorem mlogL (w : World) (aoC aoL a2 : Option Addr) (gl cpC nl cpL n2 c2 : Nat) {K : List (Com × Value)} {G : Gr} (hs : SlK w aoC gl cpC K) (hcom : K.map Prod.fst = G.cs) (hW : Wf G) (hl : G.cs.length ≤ 10000) (f m : Int) (hf : 1 ≤ f) (hm : 1 ≤ m) (hf2 : f < 2 ^ 63) :
    Calls Tryz.prog 18 #[.agg #[.slice aoC gl cpC, .slice aoL nl cpL, .slice a2 n2 c2], .int .i64 f, .int .i64 m] w fun e w' => LogE w (logL G.cs f m) e w' :=
  (mlog_ok w aoC aoL a2 gl cpC nl cpL n2 c2 hs hcom hW hl f m hf hm hf2).mono fun _ _ ⟨v', K', h1, h2, h3, h4, h5⟩ => ⟨⟨v', K', h1, h2, h3, h4⟩, h5⟩

end Go.Proofs.YtfoghemiaidnhaaGreat
