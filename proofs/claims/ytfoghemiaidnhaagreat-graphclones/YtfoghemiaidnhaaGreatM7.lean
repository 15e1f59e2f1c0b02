/-
  Texts of this claim that are laid as one: GrMap, GrMem.
-/
import Derived.Test.YtfoghemiaidnhaaGreatGrPure
import Derived.Test.YtfoghemiaidnhaaGreatM1
import Derived.Maps.OwnSet
import Derived.Maps.OwnOps
import Derived.Maps.Ext
import Derived.Sort.KeysCollected
import Derived.StringKeys
import Derived.Test.YtfoghemiaidnhaaGreatChApp
import Derived.Test.YtfoghemiaidnhaaGreatTrTree
import Derived.Test.YtfoghemiaidnhaaGreatM10
/-
  Refs as a map's datum.
-/
namespace Go.Proofs.YtfoghemiaidnhaaGreat
open Go.RowKit

/-- Refs, as a map reads. -/
def rsD (l : List (List UInt8 × Int)) : DataW Unit := .map (l.map fun x => (.string x.1, .lit (.int .i64 x.2)))

theorem before_eq : ∀ (x y : List UInt8), bytesBefore x y = decide (x < y) := by
  intro x
  induction x with
  | nil => intro y; cases y <;> simp [bytesBefore]
  | cons a x ih =>
    intro y
    cases y with
    | nil => simp [bytesBefore]
    | cons b y =>
      simp only [bytesBefore, List.cons_lt_cons_iff]
      have h := ih y
      by_cases h1 : a < b
      · simp [h1]
      · by_cases h2 : a = b
        · subst h2; simp [h1, h]
        · have h3 : b < a := by
            rcases UInt8.lt_or_lt_of_ne h2 with h | h
            · exact absurd h h1
            · exact h
          simp [h1, h2]

theorem same_key (a b : List UInt8) : Lit.sameKey (.string a) (.string b) = decide (a = b) := by
  by_cases h : a = b <;> simp [Lit.sameKey, h]

theorem filter_ne {l : List (List UInt8 × Int)} {n : List UInt8} (h : ∀ x ∈ l, x.1 ≠ n) : (l.map fun x => ((.string x.1, .lit (.int .i64 x.2)) : Lit × DataW Unit)).filter (fun p => !p.1.sameKey (.string n)) = l.map fun x => (.string x.1, .lit (.int .i64 x.2)) := by
  refine List.filter_eq_self.2 fun p hp => ?_
  obtain ⟨x, hx, rfl⟩ := List.mem_map.1 hp
  simp [same_key, h x hx]

theorem insert_first {l : List (List UInt8 × Int)} {n : List UInt8} {r : Int} (h : ∀ x ∈ l, n < x.1) : DataW.insert ((.string n, .lit (.int .i64 r)) : Lit × DataW Unit) (l.map fun x => (.string x.1, .lit (.int .i64 x.2))) = ((n, r) :: l).map fun x => (.string x.1, .lit (.int .i64 x.2)) := by
  cases l with
  | nil => rfl
  | cons y l => simp [DataW.insert, Lit.before, before_eq, h y (by simp)]

theorem rs_insert {l : List (List UInt8 × Int)} (h : SrR l) (n : List UInt8) (r : Int) :
    DataW.insert ((.string n, .lit (.int .i64 r)) : Lit × DataW Unit) ((l.map fun x => ((.string x.1, .lit (.int .i64 x.2)) : Lit × DataW Unit)).filter (fun p => !p.1.sameKey (.string n))) = (mvR n r l).map fun x => (.string x.1, .lit (.int .i64 x.2)) := by
  induction l with
  | nil => rfl
  | cons y l ih =>
    obtain ⟨h1, h2⟩ := List.pairwise_cons.1 h
    simp only [mvR]
    by_cases hlt : y.1 < n
    · have hne : ¬ y.1 = n := fun e => by rw [e] at hlt; exact List.lt_irrefl _ hlt
      have hnl : ¬ n < y.1 := fun e => List.lt_irrefl _ (List.lt_trans hlt e)
      simp only [hlt, if_true, List.map_cons, List.filter_cons, same_key, hne, decide_false, Bool.not_false]
      rw [← ih h2]
      simp [DataW.insert, Lit.before, before_eq, hnl]
    · by_cases he : y.1 = n
      · have h3 : ∀ x ∈ l, n < x.1 := fun x hx => by have := h1 x hx; rw [he] at this; exact this
        have hnn : ¬ n < n := List.lt_irrefl _
        simp only [hnn, if_false, he, if_true, List.map_cons, List.filter_cons, same_key, decide_true, Bool.not_true, Bool.false_eq_true]
        rw [filter_ne fun x hx e => by have := h3 x hx; rw [e] at this; exact List.lt_irrefl _ this]
        exact insert_first h3
      · have h5 := lt_or hlt he
        have h3 : ∀ x ∈ y :: l, n < x.1 := fun x hx => by
          rcases List.mem_cons.1 hx with rfl | hx
          · exact h5
          · exact List.lt_trans h5 (h1 x hx)
        simp only [hlt, if_false, he]
        rw [filter_ne fun x hx e => by have := h3 x hx; rw [e] at this; exact List.lt_irrefl _ this]
        exact insert_first h3

theorem rsD_put {l : List (List UInt8 × Int)} (h : SrR l) (n : List UInt8) (r : Int) : (rsD l).put (.string n) (.lit (.int .i64 r)) = rsD (mvR n r l) := by
  unfold rsD DataW.put
  simp only
  rw [rs_insert h]

theorem rsD_at {l : List (List UInt8 × Int)} (h : SrR l) {x : List UInt8 × Int} (hx : x ∈ l) (z : DataW Unit) : (rsD l).atKey (.string x.1) z = .lit (.int .i64 x.2) := by
  unfold rsD DataW.atKey
  simp only
  induction l with
  | nil => cases hx
  | cons y l ih =>
    obtain ⟨h1, h2⟩ := List.pairwise_cons.1 h
    rcases List.mem_cons.1 hx with rfl | hx
    · simp [same_key]
    · have : ¬ y.1 = x.1 := fun e => by have := h1 x hx; rw [e] at this; exact List.lt_irrefl _ this
      simp only [List.map_cons, List.find?_cons, same_key, this, decide_false]
      exact ih h2 hx

theorem rsD_keys (l : List (List UInt8 × Int)) : strKeys (rsD l) = l.map (·.1) := by
  simp [rsD, strKeys, strOf, Function.comp_def]

theorem rsD_size (l : List (List UInt8 × Int)) : Maps.size (rsD l) = l.length := by simp [rsD, Maps.size]

theorem keys_sorted {l : List (List UInt8 × Int)} (h : SrR l) {ss : List (List UInt8)} (hp : ss.Perm (strKeys (rsD l))) : ss.mergeSort (fun x y => decide (x ≤ y)) = l.map (·.1) := by
  rw [rsD_keys] at hp
  have h1 := mergeSort_of_perm hp
  rw [show ss.mergeSort (fun x y => decide (x ≤ y)) = _ from h1]
  refine List.mergeSort_of_pairwise ?_
  rw [List.pairwise_map]
  refine List.Pairwise.imp ?_ h
  intro a b hab
  simp only [leB, decide_eq_true_eq]
  exact List.le_of_lt hab

/-- The map bound by its own size. -/
theorem owns_tight {P : Program} {k : TypeId} {R : Value → Option (DataW Unit × List MemPlace)} {w : World} {b n : Nat} {l : List (List UInt8 × Int)} (h : w.ownsMap P k R b n (rsD l)) : w.ownsMap P k R b l.length (rsD l) := by
  obtain ⟨es, clock, h1, h2, h3, h4⟩ := h
  refine ⟨es, clock, h1, h2, ?_, h4⟩
  have h5 := congrArg Maps.size h4
  rw [rsD_size] at h5
  simp only [Maps.size, length_sorted] at h5
  simp at h5
  omega

end Go.Proofs.YtfoghemiaidnhaaGreat

/-
  Commits and graphs in memory.
-/
namespace Go.Proofs.YtfoghemiaidnhaaGreat
open Go.RowKit

/-- The cells of a commit, its changes at v. -/
def coC (x : Com × Value) : List Value := [.int .i64 x.1.r, .int .i64 x.1.b, .string (str x.1.n), x.2]

def coV (x : Com × Value) : Value := .agg #[.int .i64 x.1.r, .int .i64 x.1.b, .string (str x.1.n), x.2]

theorem coC_length (K : List (Com × Value)) : (K.flatMap coC).length = K.length * 4 := by
  induction K with
  | nil => rfl
  | cons x K ih => simp [List.flatMap_cons, ih, coC]; omega

theorem coC_get (K : List (Com × Value)) (i : Nat) (h : i < K.length) (j : Nat) (hj : j < 4) : (K.flatMap coC)[i * 4 + j]? = (coC K[i])[j]? := by
  induction K generalizing i with
  | nil => simp at h
  | cons x K ih =>
    cases i with
    | zero => simp only [List.flatMap_cons, Nat.zero_mul, Nat.zero_add, List.getElem_cons_zero]; rw [List.getElem?_append_left (by simp [coC]; omega)]
    | succ i =>
      simp only [List.flatMap_cons, List.getElem_cons_succ]
      rw [List.getElem?_append_right (by simp [coC]; omega)]
      rw [← ih i (by simpa using h)]
      congr 1
      simp [coC]; omega

structure CoAt (w : World) (b o : Nat) (x : Com × Value) : Prop where
  c0 : w.cell? ⟨b, o, none⟩ = some (.int .i64 x.1.r)
  c1 : w.cell? ⟨b, o + 1, none⟩ = some (.int .i64 x.1.b)
  c2 : w.cell? ⟨b, o + 2, none⟩ = some (.string (str x.1.n))
  c3 : w.cell? ⟨b, o + 3, none⟩ = some x.2

theorem CoAt.kept {S : List Nat} {a w : World} {b o : Nat} {x : Com × Value} (h : CoAt a b o x) (k : Kept S a w) (hb : b ∉ S) : CoAt w b o x :=
  ⟨k.cell h.c0 hb, k.cell h.c1 hb, k.cell h.c2 hb, k.cell h.c3 hb⟩

/-- A slice of changes, by its value. -/
def ChV (w : World) (v : Value) (L : List Ch) : Prop := ∃ ao n c, v = .slice ao n c ∧ SlC w ao n c L ∧ (ao = none → c = 0)

theorem ChV.kept {a w : World} {v : Value} {L : List Ch} (h : ChV a v L) (k : Kept [] a w) : ChV w v L := by
  obtain ⟨ao, n, c, h1, h2, h3⟩ := h
  exact ⟨ao, n, c, h1, h2.kept k (by simp), h3⟩

/-- A slice of commits that is read. -/
def SlK (w : World) (ao : Option Addr) (n c : Nat) (K : List (Com × Value)) : Prop :=
  K.length = n ∧ n ≤ c ∧ c ≤ maxLen ∧ (∀ i (h : i < K.length), ∃ b o, ao = some ⟨b, o, none⟩ ∧ CoAt w b (o + i * 4) K[i]) ∧ ∀ x ∈ K, ChV w x.2 x.1.c

theorem SlK.kept {a w : World} {ao : Option Addr} {n c : Nat} {K : List (Com × Value)} (h : SlK a ao n c K) (k : Kept [] a w) : SlK w ao n c K :=
  ⟨h.1, h.2.1, h.2.2.1, fun i hi => by obtain ⟨b, o, e, h1⟩ := h.2.2.2.1 i hi; exact ⟨b, o, e, h1.kept k (by simp)⟩, fun x hx => (h.2.2.2.2 x hx).kept k⟩

theorem SlK.some {w : World} {ao : Option Addr} {n c : Nat} {K : List (Com × Value)} (h : SlK w ao n c K) (hn : 0 < n) :
    ∃ b o, ao = Option.some ⟨b, o, none⟩ ∧ ∀ i (hi : i < K.length), CoAt w b (o + i * 4) K[i] := by
  obtain ⟨b, o, e, _⟩ := h.2.2.2.1 0 (by rw [h.1]; exact hn)
  refine ⟨b, o, e, fun i hi => ?_⟩
  obtain ⟨b', o', e', h'⟩ := h.2.2.2.1 i hi
  rw [e] at e'; cases e'; exact h'

/-- A row of commits that is owned. -/
def RowK (B : Nat) (w : World) (v : Value) (K : List (Com × Value)) : Prop := w.ownsRow B 54 4 v K.length (K.flatMap coC)

/-- The changes of commits, owned. -/
def OwnK (C : Nat) (w : World) (K : List (Com × Value)) : Prop := ∀ x ∈ K, OwnC C w x.2 x.1.c

theorem OwnC.chV {B : Nat} {w : World} {v : Value} {L : List Ch} (h : OwnC B w v L) : ChV w v L := by
  have h' := h
  obtain ⟨ao, c, rfl, hs⟩ := h.sl
  refine ⟨ao, _, c, rfl, hs, fun e => ?_⟩
  subst e
  obtain ⟨_, h2⟩ := h'
  rcases h2 with ⟨hv, _⟩ | ⟨g, cap, cur, hv, _⟩
  · simp at hv; exact hv.2
  · cases hv

theorem RowK.sl {B C : Nat} {w : World} {v : Value} {K : List (Com × Value)} (h : RowK B w v K) (ho : OwnK C w K) : ∃ ao c, v = .slice ao K.length c ∧ SlK w ao K.length c K ∧ (ao = none → c = 0) := by
  have h' := h
  obtain ⟨h1, h2⟩ := h
  rcases h2 with ⟨hv, hn⟩ | ⟨g, cap, cur, hv, hg, hh, h3, h4, h5, h6⟩
  · have : K = [] := by simpa using hn
    subst this
    exact ⟨none, 0, by rw [hv]; rfl, ⟨rfl, Nat.le_refl _, Nat.zero_le _, fun i hi => by simp at hi, fun x hx => by simp at hx⟩, fun _ => rfl⟩
  · refine ⟨some ⟨g, 0, none⟩, cap, hv, ⟨rfl, h3, h4, fun i hi => ⟨g, 0, rfl, ?_⟩, fun x hx => (ho x hx).chV⟩, by simp⟩
    have hc : ∀ j, j < 4 → w.cell? ⟨g, 0 + i * 4 + j, none⟩ = (coC K[i])[j]? := fun j hj => by
      have := World.ownsRow.cellAt (w := w) (base := B) (e := 54) (size := 4) (n := K.length) (cap := cap) (g := g) (xs := K.flatMap coC) (by rw [← hv]; exact h') (i * 4 + j) (by omega)
      rw [Nat.zero_add, this, coC_get K i hi j hj]
    refine ⟨?_, ?_, ?_, ?_⟩
    · have := hc 0 (by omega); simpa [coC] using this
    · have := hc 1 (by omega); simpa [coC] using this
    · have := hc 2 (by omega); simpa [coC] using this
    · have := hc 3 (by omega); simpa [coC] using this

theorem RowK.nil (B : Nat) (w : World) : RowK B w (.slice none 0 0) [] := World.ownsRow_nil w B 54 4

/-- Blocks of cells among these are of these types. -/
def Typed (w : World) (S : List Nat) (Ts : List TypeId) : Prop := ∀ k ∈ S, ∀ cur t mk, w.heap[k]? = some (.cells cur t mk) → t ∈ Ts

theorem typed_nil (w : World) (Ts : List TypeId) : Typed w [] Ts := fun _ h => by cases h

theorem Kept.typed {S : List Nat} {Ts : List TypeId} {w w' : World} (hk : Kept S w w') (hT : Typed w S Ts) {k : Nat} {cur : Array Value} {t : TypeId} {mk : Nat × Nat} (h : w.heap[k]? = some (.cells cur t mk)) (ht : t ∉ Ts) : w'.heap[k]? = some (.cells cur t mk) :=
  hk.at h fun hm => ht (hT k hm _ _ _ h)

theorem row_typed {S : List Nat} {Ts : List TypeId} {w w' : World} (hk : Kept S w w') (hT : Typed w S Ts) {B e size n : Nat} {v : Value} {xs : List Value} (h : w.ownsRow B e size v n xs) (ht : e ∉ Ts) : w'.ownsRow B e size v n xs := by
  refine hk.ownsRow h fun k hv hm => ?_
  obtain ⟨_, h2⟩ := h
  rcases h2 with ⟨rfl, _⟩ | ⟨g, cap, cur, rfl, _, hh, _⟩
  · cases hv
  · cases hv; exact ht (hT _ hm _ _ _ hh)

theorem nat_typed {S : List Nat} {Ts : List TypeId} {w w' : World} (hk : Kept S w w') (hT : Typed w S Ts) (ht : 133 ∉ Ts) {B : Nat} : ∀ {p : Option Addr} {t : Tr}, NAt B w p t → NAt B w' p t
  | _, .nil, h => h
  | _, .node _ _ _, ⟨b, pl, pr, hp, hb, h0, h1, hl, hr⟩ => ⟨b, pl, pr, hp, hb, hk.typed hT h0 ht, h1, nat_typed hk hT ht hl, nat_typed hk hT ht hr⟩

theorem tat_typed {S : List Nat} {Ts : List TypeId} {w w' : World} (hk : Kept S w w') (hT : Typed w S Ts) (ht : 133 ∉ Ts) (ht2 : 102 ∉ Ts) {B : Nat} {p : Option Addr} {t : Tr} (h : TAt B w p t) : TAt B w' p t := by
  rcases h with h | ⟨b, q, h1, h2, h3, h4⟩
  · exact .inl h
  · exact .inr ⟨b, q, h1, h2, hk.typed hT h3 ht2, nat_typed hk hT ht h4⟩

noncomputable abbrev mapR : Value → Option (DataW Unit × List MemPlace) := plainElem Tryz.prog 3

/-- A graph in memory, by its parts. -/
structure GA (w : World) (b : Nat) (v : Value) (p : Option Addr) (t : Tr) (mb : Nat) (K : List (Com × Value)) (G : Gr) : Prop where
  at_ : w.heap[b]? = some (.cells #[v, .pointer p, .map (some mb)] 69 (0, 0))
  row : RowK 0 w v K
  own : OwnK 0 w K
  com : K.map Prod.fst = G.cs
  tree : TAt w.heap.size w p t
  some_ : p ≠ none
  list : t.list = G.ls
  good : Good t
  map : w.ownsMap Tryz.prog 9 mapR mb G.rs.length (rsD G.rs)

/-- Its own blocks. -/
def ownS (b mb : Nat) (v : Value) : List Nat := b :: mb :: v.ownBlock.toList

def GAt (w : World) (b : Nat) (S : List Nat) (G : Gr) : Prop := ∃ v p t mb K, GA w b v p t mb K G ∧ S = ownS b mb v

theorem mem_own {v : Value} {k : Nat} : k ∈ v.ownBlock.toList ↔ v.ownBlock = some k := by
  cases v.ownBlock <;> simp [eq_comm]

theorem row_block {w : World} {B e size n : Nat} {v : Value} {xs : List Value} (h : w.ownsRow B e size v n xs) {k : Nat} (hk : v.ownBlock = some k) : ∃ cur, w.heap[k]? = some (.cells cur e (0, 0)) := by
  obtain ⟨_, h2⟩ := h
  rcases h2 with ⟨rfl, _⟩ | ⟨g, cap, cur, rfl, _, hh, _⟩
  · cases hk
  · cases hk; exact ⟨cur, hh⟩

theorem GA.typed {w : World} {b : Nat} {v : Value} {p : Option Addr} {t : Tr} {mb : Nat} {K : List (Com × Value)} {G : Gr} (h : GA w b v p t mb K G) : Typed w (ownS b mb v) [69, 54] := by
  intro k hk cur t' mk hh
  rcases List.mem_cons.1 hk with rfl | hk
  · rw [h.at_] at hh; cases hh; simp
  rcases List.mem_cons.1 hk with rfl | hk
  · obtain ⟨es, clock, h1, _⟩ := h.map
    rw [h1] at hh; cases hh
  · obtain ⟨c2, h2⟩ := row_block h.row (mem_own.1 hk)
    rw [h2] at hh; cases hh; simp

theorem GA.lt {w : World} {b : Nat} {v : Value} {p : Option Addr} {t : Tr} {mb : Nat} {K : List (Com × Value)} {G : Gr} (h : GA w b v p t mb K G) : ∀ k ∈ ownS b mb v, k < w.heap.size := by
  intro k hk
  rcases List.mem_cons.1 hk with rfl | hk
  · exact lt_of_at h.at_
  rcases List.mem_cons.1 hk with rfl | hk
  · exact h.map.lt
  · obtain ⟨c2, h2⟩ := row_block h.row (mem_own.1 hk)
    exact lt_of_at h2

theorem map_kept {S : List Nat} {w w' : World} (k : Kept S w w') {P : Program} {kt : TypeId} {R : Value → Option (DataW Unit × List MemPlace)} {b n : Nat} {D : DataW Unit} (h : w.ownsMap P kt R b n D) (hb : b ∉ S) : w'.ownsMap P kt R b n D := by
  obtain ⟨es, clock, h1, h2⟩ := h
  exact ⟨es, clock, k.at h1 hb, h2⟩

theorem GA.keep {w w' : World} {b : Nat} {v : Value} {p : Option Addr} {t : Tr} {mb : Nat} {K : List (Com × Value)} {G : Gr} (h : GA w b v p t mb K G)
    {S : List Nat} {Ts : List TypeId} (k : Kept S w w') (hS : ∀ i ∈ ownS b mb v, i ∉ S) (hT : Typed w S Ts) (h1 : 31 ∉ Ts) (h2 : 133 ∉ Ts) (h3 : 102 ∉ Ts) : GA w' b v p t mb K G :=
  ⟨k.at h.at_ (hS b (by simp [ownS])), k.ownsRow h.row (fun i hi => hS i (by simp [ownS, hi])), fun x hx => row_typed k hT (h.own x hx) h1, h.com,
   (tat_typed k hT h2 h3 h.tree).mono k.size, h.some_, h.list, h.good, map_kept k h.map (hS mb (by simp [ownS]))⟩

theorem GAt.keep {w w' : World} {b : Nat} {S' : List Nat} {G : Gr} (h : GAt w b S' G) {S : List Nat} {Ts : List TypeId} (k : Kept S w w') (hS : ∀ i ∈ S', i ∉ S) (hT : Typed w S Ts) (h1 : 31 ∉ Ts) (h2 : 133 ∉ Ts) (h3 : 102 ∉ Ts) : GAt w' b S' G := by
  obtain ⟨v, p, t, mb, K, hG, rfl⟩ := h
  exact ⟨v, p, t, mb, K, hG.keep k hS hT h1 h2 h3, rfl⟩

theorem GA.kept {w w' : World} {b : Nat} {v : Value} {p : Option Addr} {t : Tr} {mb : Nat} {K : List (Com × Value)} {G : Gr} (h : GA w b v p t mb K G) (k : Kept [] w w') : GA w' b v p t mb K G :=
  h.keep k (by simp) (typed_nil w []) (by simp) (by simp) (by simp)

theorem GAt.kept {w w' : World} {b : Nat} {S : List Nat} {G : Gr} (h : GAt w b S G) (k : Kept [] w w') : GAt w' b S G :=
  h.keep k (by simp) (typed_nil w []) (by simp) (by simp) (by simp)

theorem GAt.typed {w : World} {b : Nat} {S : List Nat} {G : Gr} (h : GAt w b S G) : Typed w S [69, 54] := by
  obtain ⟨v, p, t, mb, K, hG, rfl⟩ := h; exact hG.typed

theorem GAt.lt {w : World} {b : Nat} {S : List Nat} {G : Gr} (h : GAt w b S G) : ∀ k ∈ S, k < w.heap.size := by
  obtain ⟨v, p, t, mb, K, hG, rfl⟩ := h; exact hG.lt

/-- The block of a graph has its three cells. -/
theorem cells3 {w : World} {b : Nat} {v0 v1 v2 : Value} {t : TypeId} (h : w.heap[b]? = some (.cells #[v0, v1, v2] t (0, 0))) :
    w.cell? ⟨b, 0, none⟩ = some v0 ∧ w.cell? ⟨b, 1, none⟩ = some v1 ∧ w.cell? ⟨b, 2, none⟩ = some v2 := by
  simp [World.cell?, h]

theorem froz3 {w : World} {b : Nat} {vs : Array Value} {t : TypeId} (h : w.heap[b]? = some (.cells vs t (0, 0))) (j : Nat) : w.frozen? ⟨b, j, none⟩ = false := by
  simp [World.frozen?, h]

end Go.Proofs.YtfoghemiaidnhaaGreat
