/-
  A graph and the document's own one, side by side.
-/
import Derived.Test.YtfoghemiaidnhaaGreatM11
import Derived.Test.YtfoghemiaidnhaaGreatGrMo5
import Derived.Test.YtfoghemiaidnhaaGreatM12
import Derived.Test.YtfoghemiaidnhaaGreatM16
namespace Go.Proofs.YtfoghemiaidnhaaGreat
open Go.RowKit

/-- Both were made behind w0, and neither owns what the other owns. -/
def Pair (w0 w : World) (b bm : Nat) (G H : Gr) : Prop :=
  ∃ S M, GAt w b S G ∧ MAt w bm M H ∧ (∀ k ∈ S, k ∉ M) ∧ Kept [] w0 w ∧ (∀ k ∈ S, w0.heap.size ≤ k) ∧ (∀ k ∈ M, w0.heap.size ≤ k)

/-- Blocks of other types stay. -/
def OffP (w w' : World) : Prop := ∀ (k : Nat) (vs : Array Value) (t : TypeId), w.heap[k]? = some (.cells vs t (0, 0)) → t ≠ 69 → t ≠ 46 → t ≠ 54 → w'.heap[k]? = some (.cells vs t (0, 0))

theorem Pair.keeps {w0 w : World} {b bm : Nat} {G H : Gr} (h : Pair w0 w b bm G H) : Kept [] w0 w := by
  obtain ⟨S, M, _, _, _, h4, _⟩ := h; exact h4

theorem Pair.kept {w0 w w' : World} {b bm : Nat} {G H : Gr} (h : Pair w0 w b bm G H) (k : Kept [] w w') : Pair w0 w' b bm G H := by
  obtain ⟨S, M, h1, h2, h3, h4, h5, h6⟩ := h
  exact ⟨S, M, h1.kept k, h2.kept k, h3, h4.trans k (by simp), h5, h6⟩

theorem Pair.live {w0 w : World} {b bm : Nat} {G H : Gr} (h : Pair w0 w b bm G H) : Live w0 w b G := by
  obtain ⟨S, M, h1, h2, h3, h4, h5, h6⟩ := h
  exact ⟨S, h1, h4, h5⟩

theorem Pair.model {w0 w : World} {b bm : Nat} {G H : Gr} (h : Pair w0 w b bm G H) : ∃ M, MAt w bm M H := by
  obtain ⟨S, M, h1, h2, h3, h4, h5, h6⟩ := h
  exact ⟨M, h2⟩

theorem Pair.cells {w0 w : World} {b bm : Nat} {G H : Gr} (h : Pair w0 w b bm G H) : ∃ a0 n0 c0 a1 n1 c1 a2 n2 c2 K, w.heap[bm]? = some (.cells #[.slice a0 n0 c0, .slice a1 n1 c1, .slice a2 n2 c2] 46 (0, 0)) ∧ SlK w a0 n0 c0 K ∧ K.map Prod.fst = H.cs ∧ SlL w a1 n1 c1 H.ls := by
  obtain ⟨S, M, h1, ⟨v, vL, vR, K, hm, _, _⟩, h3, h4, h5, h6⟩ := h
  obtain ⟨aoC, cpC, rfl, hsC, _⟩ := hm.row.sl hm.own
  obtain ⟨aoL, cpL, rfl, hsL⟩ := hm.lvs.sl
  obtain ⟨aoR, cpR, rfl, _⟩ := hm.rfs.at
  exact ⟨_, _, _, _, _, _, _, _, _, K, hm.at_, hsC, hm.com, hsL⟩

theorem pair_new {w0 w : World} {b : Nat} (h : Live w0 w b voidG) : Pair w0 (w.alloc (.cells #[.slice none 0 0, .slice none 0 0, .slice none 0 0] 46)) b w.heap.size voidG voidG := by
  obtain ⟨S, h1, h2, h3⟩ := h
  have hk := (Kept.refl [] w).alloc (.cells #[.slice none 0 0, .slice none 0 0, .slice none 0 0] 46)
  refine ⟨S, _, h1.kept hk, ⟨_, _, _, [], MA.new w, fun _ => rfl, rfl⟩, fun k hk1 hk2 => ?_, h2.trans hk (by simp), h3, fun k hk2 => ?_⟩
  · simp [ownM, Value.ownBlock] at hk2
    have := h1.lt k hk1; omega
  · simp [ownM, Value.ownBlock] at hk2
    subst hk2; exact h2.size

theorem pair_land {w0 w : World} {b bm : Nat} {G H : Gr} (h : Pair w0 w b bm G H) (hW : Wf G) (hl : G.cs.length ≤ 10000)
    (base : Int) (n : List UInt8) (hn : n.length ≤ 1000000) (ao : Option Addr) (m c : Nat) (L : List Ch) (hS : SlC w ao m c L) (hnil : ao = none → c = 0) (hm : m ≤ 1000000) (hp : ∀ x ∈ L, x.p.length ≤ 1000000000) :
    Calls Tryz.prog 9 #[.pointer (some ⟨b, 0, none⟩), .int .i64 base, .string (str n), .slice ao m c] w fun e w' => e = .returned (vdV (landV G base n L)) ∧ Pair w0 w' b bm (landG G base n L) H ∧ OffP w w' := by
  obtain ⟨S, M, h1, h2, h3, h4, h5, h6⟩ := h
  refine (gland_call h1 hW hl base n hn ao m c L hS hnil hm hp).mono fun e w' ⟨he, S', g1, k1, hs'⟩ => ⟨he, ⟨S', M, g1, h2.keep k1 (fun i hi hm => h3 i hm hi) h1.typed (by decide) (by decide) (by decide), fun k hk hm => ?_, h4.trans k1 (fun i hi => .inr (h5 i hi)), fun k hk => ?_, h6⟩, fun k vs t hk ht ht2 ht3 => k1.typed h1.typed hk (by simp [ht, ht3])⟩
  · rcases hs' k hk with h7 | h7
    · exact h3 k h7 hm
    · have := h2.lt k hm; omega
  · rcases hs' k hk with h7 | h7
    · exact h5 k h7
    · exact Nat.le_trans h4.size h7

theorem pair_mland {w0 w : World} {b bm : Nat} {G H : Gr} (h : Pair w0 w b bm G H) (hW : Wf H) (hl : H.cs.length ≤ 10000)
    (base : Int) (n : List UInt8) (hn : n.length ≤ 1000000) (ao : Option Addr) (m c : Nat) (L : List Ch) (hS : SlC w ao m c L) (hm : m ≤ 1000000) (hp : ∀ x ∈ L, x.p.length ≤ 1000000000) :
    Calls Tryz.prog 14 #[.pointer (some ⟨bm, 0, none⟩), .int .i64 base, .string (str n), .slice ao m c] w fun e w' => e = .returned (vdV (landV H base n L)) ∧ Pair w0 w' b bm G (landG H base n L) ∧ OffP w w' := by
  obtain ⟨S, M, h1, h2, h3, h4, h5, h6⟩ := h
  have hT := h2.typed
  have hlt := h2.lt
  obtain ⟨v, vL, vR, K, hM, hnl, rfl⟩ := h2
  refine (mland_call hM hnl hW hl base n hn ao m c L hS hm hp).mono fun e w' ⟨he, M', g1, k1, hs'⟩ => ⟨he, ⟨S, M', h1.keep k1 h3 hT (by decide) (by decide) (by decide), g1, fun k hk hm => ?_, h4.trans k1 (fun i hi => .inr (h6 i hi)), h5, fun k hk => ?_⟩, fun k vs t hk ht ht2 ht3 => k1.typed hT hk (by simp [ht2, ht3])⟩
  · rcases hs' k hm with h7 | h7
    · exact h3 k hk h7
    · have := h1.lt k hk; omega
  · rcases hs' k hk with h7 | h7
    · exact h6 k h7
    · exact Nat.le_trans h4.size h7

/-- A verdict's block is written. -/
theorem pair_box {w0 w w' : World} {b bm Bk : Nat} {G H : Gr} {cur : Array Value} {mk : Nat × Nat} (h : Pair w0 w b bm G H) (hB : w.heap[Bk]? = some (.cells cur 28 mk)) (k : Kept [Bk] w w') (hlt : w0.heap.size ≤ Bk) : Pair w0 w' b bm G H := by
  obtain ⟨S, M, h1, h2, h3, h4, h5, h6⟩ := h
  have hT : Typed w [Bk] [28] := fun i hi cur' t' mk' hh => by
    rw [List.mem_singleton] at hi
    subst hi
    rw [hB] at hh; cases hh; simp
  refine ⟨S, M, h1.keep k (fun i hi hm => ?_) hT (by decide) (by decide) (by decide), h2.keep k (fun i hi hm => ?_) hT (by decide) (by decide) (by decide), h3, h4.trans k (fun i hi => ?_), h5, h6⟩
  · rw [List.mem_singleton] at hm
    subst hm
    exact absurd (h1.typed i hi _ _ _ hB) (by decide)
  · rw [List.mem_singleton] at hm
    subst hm
    exact absurd (h2.typed i hi _ _ _ hB) (by decide)
  · rw [List.mem_singleton] at hi
    subst hi
    exact .inr hlt

theorem pair_landD {w0 w : World} {b bm i : Nat} {D : List De} {H : Gr} (h : Pair w0 w b bm (landAll (D.take i)) H) (hi : i < D.length) (hr : RoomD D) (hsl : SlC w D[i].mo D[i].m D[i].mc D[i].l) (hnl : D[i].mo = none → D[i].mc = 0) :
    Calls Tryz.prog 9 #[.pointer (some ⟨b, 0, none⟩), .int .i64 D[i].b, .string (str D[i].n), .slice D[i].mo D[i].m D[i].mc] w fun e w' => e = .returned (vdV (landV (landAll (D.take i)) D[i].b D[i].n D[i].l)) ∧ Pair w0 w' b bm (landAll (D.take (i + 1))) H ∧ OffP w w' := by
  obtain ⟨h1, h2, h3⟩ := hr.2 _ (List.getElem_mem hi)
  have hlen := landAll_len (D.take i)
  have h4 := hr.1
  rw [landAll_take hi]
  exact pair_land h (landAll_reach _).wf (by simp at hlen; omega) _ _ (by omega) _ _ _ _ hsl hnl (by have := hsl.1; omega) (fun x hx => by have := h3 x hx; omega)

theorem pair_mlandD {w0 w : World} {b bm i : Nat} {D : List De} {G : Gr} (h : Pair w0 w b bm G (landAll (D.take i))) (hi : i < D.length) (hr : RoomD D) (hsl : SlC w D[i].mo D[i].m D[i].mc D[i].l) :
    Calls Tryz.prog 14 #[.pointer (some ⟨bm, 0, none⟩), .int .i64 D[i].b, .string (str D[i].n), .slice D[i].mo D[i].m D[i].mc] w fun e w' => e = .returned (vdV (landV (landAll (D.take i)) D[i].b D[i].n D[i].l)) ∧ Pair w0 w' b bm G (landAll (D.take (i + 1))) ∧ OffP w w' := by
  obtain ⟨h1, h2, h3⟩ := hr.2 _ (List.getElem_mem hi)
  have hlen := landAll_len (D.take i)
  have h4 := hr.1
  rw [landAll_take hi]
  exact pair_mland h (landAll_reach _).wf (by simp at hlen; omega) _ _ (by omega) _ _ _ _ hsl (by have := hsl.1; omega) (fun x hx => by have := h3 x hx; omega)

theorem pair_looks {w0 w : World} {b bm : Nat} {G : Gr} (h : Pair w0 w b bm G G) (hW : Wf G) (hl : G.cs.length ≤ 10000) :
    Calls Tryz.prog 15 #[.pointer (some ⟨b, 0, none⟩), .pointer (some ⟨bm, 0, none⟩)] w fun e w' => e = .returned (.bool true) ∧ Kept [] w w' := by
  obtain ⟨M, hM⟩ := h.model
  exact looks_call h.live hM hW hl

/-- What is to be held may grow. -/
theorem wpAnyH_more {P : Program} {md : Region.Mode} {ops : Array Oper} {Q : Exit → Act → World → Prop} {S S' : World → Prop} (hS : ∀ w, S' w → S w) : ∀ (fuel : Nat) (listed : Array Bool) (a : Act) (w : World), wpAnyH P md ops Q S' fuel listed a w → wpAnyH P md ops Q S fuel listed a w
  | 0, _, _, _, h => h
  | fuel + 1, _, _, _, h => ⟨h.1, fun i hi => wpOp_mono (fun a' w' h' => ⟨hS _ h'.1, wpAnyH_more hS fuel _ a' w' h'.2⟩) (h.2 i hi)⟩

/-- What has come up, written out. -/
theorem wpAnyH_list {P : Program} {md : Region.Mode} {ops : Array Oper} {Q : Exit → Act → World → Prop} {S : World → Prop} {fuel fuel' : Nat} {listed l' : Array Bool} {a : Act} {w : World} (hf : fuel = fuel') (h : listed = l') (k : wpAnyH P md ops Q S fuel' l' a w) : wpAnyH P md ops Q S fuel listed a w := by
  subst hf; subst h; exact k

theorem live_readL {w0 w : World} {b : Nat} {G : Gr} (h : Live w0 w b G) (q : List UInt8) (hq : q.length ≤ 1000000000) :
    Calls Tryz.prog 10 #[.pointer (some ⟨b, 0, none⟩), .string (str q)] w fun e w' => e = .returned (vdV (readV G q)) ∧ Kept [] w w' := by
  obtain ⟨S, ⟨v, p, t, mb, K, hG, rfl⟩, h2, h3⟩ := h
  exact read_call hG q hq

/-- Logs, as they come: two verdicts that Alike takes for one. -/
def LogE (w : World) (cs : List Com) (e : Ending) (w' : World) : Prop := (∃ v K, e = .returned (vdW ⟨11, 0, [], 0⟩ v) ∧ K.map Prod.fst = cs ∧ RowK w.heap.size w' v K ∧ OwnK w.heap.size w' K) ∧ Kept [] w w'

theorem live_logL {w0 w : World} {b : Nat} {G : Gr} (h : Live w0 w b G) (hW : Wf G) (hl : G.cs.length ≤ 10000) (f m : Int) (hf : 1 ≤ f) (hm : 1 ≤ m) (hf2 : f < 2 ^ 63) (hm2 : m < 2 ^ 63) :
    Calls Tryz.prog 17 #[.pointer (some ⟨b, 0, none⟩), .int .i64 f, .int .i64 m] w fun e w' => LogE w (logL G.cs f m) e w' := by
  obtain ⟨S, ⟨v, p, t, mb, K, hG, rfl⟩, h2, h3⟩ := h
  exact (log_ok hG hW hl f m hf hm hf2 hm2).mono fun e w' ⟨v', K', h1, h2, h3, h4, h5⟩ => ⟨⟨v', K', h1, h2, h3, h4⟩, h5⟩

theorem live_logB {w0 w : World} {b : Nat} {G : Gr} (h : Live w0 w b G) (f m : Int) (hb : f < 1 ∨ m < 1) :
    Calls Tryz.prog 17 #[.pointer (some ⟨b, 0, none⟩), .int .i64 f, .int .i64 m] w fun e w' => e = .returned (vdV ⟨5, 0, [], 0⟩) ∧ Kept [] w w' := by
  obtain ⟨S, ⟨v, p, t, mb, K, hG, rfl⟩, h2, h3⟩ := h
  exact log_bad hG f m hb

theorem mlogL (w : World) (aoC aoL a2 : Option Addr) (gl cpC nl cpL n2 c2 : Nat) {K : List (Com × Value)} {G : Gr} (hs : SlK w aoC gl cpC K) (hcom : K.map Prod.fst = G.cs) (hW : Wf G) (hl : G.cs.length ≤ 10000) (f m : Int) (hf : 1 ≤ f) (hm : 1 ≤ m) (hf2 : f < 2 ^ 63) :
    Calls Tryz.prog 18 #[.agg #[.slice aoC gl cpC, .slice aoL nl cpL, .slice a2 n2 c2], .int .i64 f, .int .i64 m] w fun e w' => LogE w (logL G.cs f m) e w' :=
  (mlog_ok w aoC aoL a2 gl cpC nl cpL n2 c2 hs hcom hW hl f m hf hm hf2).mono fun _ _ ⟨v', K', h1, h2, h3, h4, h5⟩ => ⟨⟨v', K', h1, h2, h3, h4⟩, h5⟩

end Go.Proofs.YtfoghemiaidnhaaGreat
