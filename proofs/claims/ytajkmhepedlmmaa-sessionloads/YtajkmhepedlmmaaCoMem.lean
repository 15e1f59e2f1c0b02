/-
  Commits in memory: slices that are read, rows that are owned.
-/
import Derived.Test.YtajkmhepedlmmaaM1
import Derived.Test.YtajkmhepedlmmaaCoPure
import Derived.Test.YtajkmhepedlmmaaChApp
import Derived.Laws.OwnMore
namespace Go.Proofs.Ytajkmhepedlmmaa
open Go.RowKit

/-- The cells of a commit, its changes at v. -/
def coC (x : Com × Value) : List Value := [.int .i64 x.1.r, .int .i64 x.1.b, .string (str x.1.n), x.2]

def coV (x : Com × Value) : Value := .agg #[.int .i64 x.1.r, .int .i64 x.1.b, .string (str x.1.n), x.2]

theorem coC_length (K : List (Com × Value)) : (K.flatMap coC).length = K.length * 4 := by
  induction K with
  | nil => rfl
  | cons x K ih => simp [List.flatMap_cons, ih, coC]; omega

theorem coC_get (K : List (Com × Value)) (i : Nat) (h : i < K.length) (j : Nat) (hj : j < 4) : (K.flatMap coC)[i * 4 + j]? = (coC K[i])[j]? := by
  induction K generalizing i with
  | nil => simp at h
  | cons x K ih =>
    cases i with
    | zero => simp only [List.flatMap_cons, Nat.zero_mul, Nat.zero_add, List.getElem_cons_zero]; rw [List.getElem?_append_left (by simp [coC]; omega)]
    | succ i =>
      simp only [List.flatMap_cons, List.getElem_cons_succ]
      rw [List.getElem?_append_right (by simp [coC]; omega)]
      rw [← ih i (by simpa using h)]
      congr 1
      simp [coC]; omega

structure CoAt (w : World) (b o : Nat) (x : Com × Value) : Prop where
  c0 : w.cell? ⟨b, o, none⟩ = some (.int .i64 x.1.r)
  c1 : w.cell? ⟨b, o + 1, none⟩ = some (.int .i64 x.1.b)
  c2 : w.cell? ⟨b, o + 2, none⟩ = some (.string (str x.1.n))
  c3 : w.cell? ⟨b, o + 3, none⟩ = some x.2

theorem CoAt.kept {S : List Nat} {a w : World} {b o : Nat} {x : Com × Value} (h : CoAt a b o x) (k : Kept S a w) (hb : b ∉ S) : CoAt w b o x :=
  ⟨k.cell h.c0 hb, k.cell h.c1 hb, k.cell h.c2 hb, k.cell h.c3 hb⟩

/-- A slice of changes, by its value. -/
def ChV (w : World) (v : Value) (L : List Ch) : Prop := ∃ ao n c, v = .slice ao n c ∧ SlC w ao n c L ∧ (ao = none → c = 0)

theorem ChV.kept {a w : World} {v : Value} {L : List Ch} (h : ChV a v L) (k : Kept [] a w) : ChV w v L := by
  obtain ⟨ao, n, c, h1, h2, h3⟩ := h
  exact ⟨ao, n, c, h1, h2.kept k (by simp), h3⟩

/-- A slice of commits that is read. -/
def SlK (w : World) (ao : Option Addr) (n c : Nat) (K : List (Com × Value)) : Prop :=
  K.length = n ∧ n ≤ c ∧ c ≤ maxLen ∧ (∀ i (h : i < K.length), ∃ b o, ao = some ⟨b, o, none⟩ ∧ CoAt w b (o + i * 4) K[i]) ∧ ∀ x ∈ K, ChV w x.2 x.1.c

theorem SlK.kept {a w : World} {ao : Option Addr} {n c : Nat} {K : List (Com × Value)} (h : SlK a ao n c K) (k : Kept [] a w) : SlK w ao n c K :=
  ⟨h.1, h.2.1, h.2.2.1, fun i hi => by obtain ⟨b, o, e, h1⟩ := h.2.2.2.1 i hi; exact ⟨b, o, e, h1.kept k (by simp)⟩, fun x hx => (h.2.2.2.2 x hx).kept k⟩

theorem SlK.some {w : World} {ao : Option Addr} {n c : Nat} {K : List (Com × Value)} (h : SlK w ao n c K) (hn : 0 < n) :
    ∃ b o, ao = Option.some ⟨b, o, none⟩ ∧ ∀ i (hi : i < K.length), CoAt w b (o + i * 4) K[i] := by
  obtain ⟨b, o, e, _⟩ := h.2.2.2.1 0 (by rw [h.1]; exact hn)
  refine ⟨b, o, e, fun i hi => ?_⟩
  obtain ⟨b', o', e', h'⟩ := h.2.2.2.1 i hi
  rw [e] at e'; cases e'; exact h'

/-- A row of commits that is owned. -/
def RowK (B : Nat) (w : World) (v : Value) (K : List (Com × Value)) : Prop := w.ownsRow B 65 4 v K.length (K.flatMap coC)

/-- The changes of commits, owned. -/
def OwnK (C : Nat) (w : World) (K : List (Com × Value)) : Prop := ∀ x ∈ K, OwnC C w x.2 x.1.c

theorem OwnC.chV {B : Nat} {w : World} {v : Value} {L : List Ch} (h : OwnC B w v L) : ChV w v L := by
  have h' := h
  obtain ⟨ao, c, rfl, hs⟩ := h.sl
  refine ⟨ao, _, c, rfl, hs, fun e => ?_⟩
  subst e
  obtain ⟨_, h2⟩ := h'
  rcases h2 with ⟨hv, _⟩ | ⟨g, cap, cur, hv, _⟩
  · simp at hv; exact hv.2
  · cases hv

theorem RowK.sl {B C : Nat} {w : World} {v : Value} {K : List (Com × Value)} (h : RowK B w v K) (ho : OwnK C w K) : ∃ ao c, v = .slice ao K.length c ∧ SlK w ao K.length c K ∧ (ao = none → c = 0) := by
  have h' := h
  obtain ⟨h1, h2⟩ := h
  rcases h2 with ⟨hv, hn⟩ | ⟨g, cap, cur, hv, hg, hh, h3, h4, h5, h6⟩
  · have : K = [] := by simpa using hn
    subst this
    exact ⟨none, 0, by rw [hv]; rfl, ⟨rfl, Nat.le_refl _, Nat.zero_le _, fun i hi => by simp at hi, fun x hx => by simp at hx⟩, fun _ => rfl⟩
  · refine ⟨some ⟨g, 0, none⟩, cap, hv, ⟨rfl, h3, h4, fun i hi => ⟨g, 0, rfl, ?_⟩, fun x hx => (ho x hx).chV⟩, by simp⟩
    have hc : ∀ j, j < 4 → w.cell? ⟨g, 0 + i * 4 + j, none⟩ = (coC K[i])[j]? := fun j hj => by
      have := World.ownsRow.cellAt (w := w) (base := B) (e := 65) (size := 4) (n := K.length) (cap := cap) (g := g) (xs := K.flatMap coC) (by rw [← hv]; exact h') (i * 4 + j) (by omega)
      rw [Nat.zero_add, this, coC_get K i hi j hj]
    refine ⟨?_, ?_, ?_, ?_⟩
    · have := hc 0 (by omega); simpa [coC] using this
    · have := hc 1 (by omega); simpa [coC] using this
    · have := hc 2 (by omega); simpa [coC] using this
    · have := hc 3 (by omega); simpa [coC] using this

theorem RowK.nil (B : Nat) (w : World) : RowK B w (.slice none 0 0) [] := World.ownsRow_nil w B 65 4

/-- Blocks of cells among these are of these types. -/
def Typed (w : World) (S : List Nat) (Ts : List TypeId) : Prop := ∀ k ∈ S, ∀ cur t mk, w.heap[k]? = some (.cells cur t mk) → t ∈ Ts

theorem typed_nil (w : World) (Ts : List TypeId) : Typed w [] Ts := fun _ h => by cases h

theorem Kept.typed {S : List Nat} {Ts : List TypeId} {w w' : World} (hk : Kept S w w') (hT : Typed w S Ts) {k : Nat} {cur : Array Value} {t : TypeId} {mk : Nat × Nat} (h : w.heap[k]? = some (.cells cur t mk)) (ht : t ∉ Ts) : w'.heap[k]? = some (.cells cur t mk) :=
  hk.at h fun hm => ht (hT k hm _ _ _ h)

theorem row_typed {S : List Nat} {Ts : List TypeId} {w w' : World} (hk : Kept S w w') (hT : Typed w S Ts) {B e size n : Nat} {v : Value} {xs : List Value} (h : w.ownsRow B e size v n xs) (ht : e ∉ Ts) : w'.ownsRow B e size v n xs := by
  refine hk.ownsRow h fun k hv hm => ?_
  obtain ⟨_, h2⟩ := h
  rcases h2 with ⟨rfl, _⟩ | ⟨g, cap, cur, rfl, _, hh, _⟩
  · cases hv
  · cases hv; exact ht (hT _ hm _ _ _ hh)

theorem mem_own {v : Value} {k : Nat} : k ∈ v.ownBlock.toList ↔ v.ownBlock = some k := by
  cases v.ownBlock <;> simp [eq_comm]

theorem row_block {w : World} {B e size n : Nat} {v : Value} {xs : List Value} (h : w.ownsRow B e size v n xs) {k : Nat} (hk : v.ownBlock = some k) : ∃ cur, w.heap[k]? = some (.cells cur e (0, 0)) := by
  obtain ⟨_, h2⟩ := h
  rcases h2 with ⟨rfl, _⟩ | ⟨g, cap, cur, rfl, _, hh, _⟩
  · cases hk
  · cases hk; exact ⟨cur, hh⟩

/-- The block of a graph has its three cells. -/
theorem cells3 {w : World} {b : Nat} {v0 v1 v2 : Value} {t : TypeId} (h : w.heap[b]? = some (.cells #[v0, v1, v2] t (0, 0))) :
    w.cell? ⟨b, 0, none⟩ = some v0 ∧ w.cell? ⟨b, 1, none⟩ = some v1 ∧ w.cell? ⟨b, 2, none⟩ = some v2 := by
  simp [World.cell?, h]

theorem froz3 {w : World} {b : Nat} {vs : Array Value} {t : TypeId} (h : w.heap[b]? = some (.cells vs t (0, 0))) (j : Nat) : w.frozen? ⟨b, j, none⟩ = false := by
  simp [World.frozen?, h]

theorem info_commit : (Try.prog.info? 65).map (fun i => (i.zero, i.size, i.bytes)) = some (some (.agg #[.int .i64 0, .int .i64 0, .string ⟨#[]⟩, .slice none 0 0]), 4, 56) := by kernel_rfl

theorem one_coC {K : List (Com × Value)} (h : ∀ x ∈ K, x.2.oneCell' = true) : ∀ u ∈ K.flatMap coC, u.oneCell' = true := by
  intro u hu
  obtain ⟨x, hx, hu⟩ := List.mem_flatMap.1 hu
  simp [coC] at hu
  rcases hu with rfl | rfl | rfl | rfl
  · rfl
  · rfl
  · rfl
  · exact h x hx

theorem own_one {B : Nat} {w : World} {v : Value} {L : List Ch} (h : OwnC B w v L) : v.oneCell' = true := by
  obtain ⟨ao, c, rfl, _⟩ := h.sl
  rfl

theorem cells_runK {w : World} {b o : Nat} {K : List (Com × Value)} (h : ∀ i (hi : i < K.length), CoAt w b (o + i * 4) K[i]) : ∀ (j : Nat) (u : Value), (K.flatMap coC)[j]? = some u → w.cell? ⟨b, o + j, none⟩ = some u := by
  intro j u hj
  have hlt : j < (K.flatMap coC).length := by
    by_cases hl : j < (K.flatMap coC).length
    · exact hl
    · rw [List.getElem?_eq_none (by omega)] at hj; cases hj
  rw [coC_length] at hlt
  have hi : j / 4 < K.length := by omega
  have e := coC_get K (j / 4) hi (j % 4) (by omega)
  have e2 : j / 4 * 4 + j % 4 = j := by omega
  rw [e2, hj] at e
  obtain ⟨c0, c1, c2, c3⟩ := h (j / 4) hi
  have h3 : j % 4 = 0 ∨ j % 4 = 1 ∨ j % 4 = 2 ∨ j % 4 = 3 := by omega
  generalize j / 4 = q at *
  rcases h3 with h3 | h3 | h3 | h3 <;> rw [h3] at e e2 <;> simp [coC] at e <;> subst e <;> subst e2
  · exact c0
  · rw [← Nat.add_assoc]; exact c1
  · rw [← Nat.add_assoc]; exact c2
  · rw [← Nat.add_assoc]; exact c3

theorem SlK.runs {w : World} {ad : Addr} {n c : Nat} {K : List (Com × Value)} (h : SlK w (Option.some ad) n c K) : ∀ (j : Nat) (u : Value), (K.flatMap coC)[j]? = Option.some u → w.cell? (ad.add j) = Option.some u := by
  cases K with
  | nil => intro j u hj; simp at hj
  | cons x K =>
    obtain ⟨b, o, e, _⟩ := h.2.2.2.1 0 (by simp)
    cases e
    intro j u hj
    rw [adr_addC]
    refine cells_runK (fun i hi => ?_) j u hj
    obtain ⟨b', o', e, h1⟩ := h.2.2.2.1 i hi
    cases e
    exact h1

theorem SlK.ones {w : World} {ao : Option Addr} {n c : Nat} {K : List (Com × Value)} (h : SlK w ao n c K) : ∀ x ∈ K, x.2.oneCell' = true := fun x hx => by
  obtain ⟨mo, m, mc, e, _⟩ := h.2.2.2.2 x hx
  rw [e]; rfl

/-- append of commits to a row that is owned. -/
theorem wp_appK {w : World} {ops : Array Oper} {rest : List Oper} {o : Oper} {a : Act} {Q : Exit → Act → World → Prop} (hgd : o.guard = none) (s x : Operand)
    (hop : o.op = .call { callee := .builtin .append, args := #[s, x], argTypes := #[29, 29] })
    (B : Nat) (v : Value) (M : List (Com × Value)) (hs : a.eval s = v) (hO : RowK B w v M) (ad : Addr) (m c : Nat) (N : List (Com × Value)) (hx : a.eval x = .slice (some ad) m c) (hm : m = N.length) (hc : ∀ (j : Nat) (u : Value), (N.flatMap coC)[j]? = some u → w.cell? (ad.add j) = some u) (h1 : ∀ x ∈ N, x.2.oneCell' = true)
    (hlen : M.length + N.length ≤ 2513169434916) (hB : B ≤ w.heap.size)
    (h : ∀ v' w', RowK B w' v' (M ++ N) → w.grownBy w' v.ownBlock → wpList Try.prog ops Q rest (a.put o.dst v') w') : wpList Try.prog ops Q (o :: rest) a w := by
  subst hm
  obtain ⟨i0, hi, hz0, hz1, hz2⟩ := info_parts info_commit
  refine wpList_append_own w hgd s x 29 hop B 65 i0 (.agg #[.int .i64 0, .int .i64 0, .string ⟨#[]⟩, .slice none 0 0]) 4 56 Try.underlying29 hi hz0 hz1 hz2 rfl (by decide) v M.length (M.flatMap coC) hs hO ad N.length c (N.flatMap coC) hx (coC_length N) hc (one_coC h1) (by unfold maxLen; omega) (by omega) hB ?_
  intro v' w' h2 h3 _
  refine h v' w' ?_ h3
  unfold RowK
  rw [List.length_append, List.flatMap_append]
  exact h2

theorem own_voidK (w : World) (B : Nat) (hB : B ≤ w.heap.size) : RowK B (w.alloc (.cells #[] 65)) (.slice (some ⟨w.heap.size, 0, none⟩) 0 0) [] :=
  ⟨rfl, .inr ⟨w.heap.size, 0, #[], rfl, hB, heap_alloc_new w _, Nat.le_refl _, Nat.zero_le _, rfl, rfl⟩⟩

theorem coC_set (K : List (Com × Value)) (i : Nat) (h : i < K.length) (u : Value) : (K.set i (K[i].1, u)).flatMap coC = (K.flatMap coC).set (i * 4 + 3) u := by
  induction K generalizing i with
  | nil => simp at h
  | cons x K ih =>
    cases i with
    | zero => simp [List.flatMap_cons, coC]
    | succ i =>
      simp only [List.set_cons_succ, List.flatMap_cons, List.getElem_cons_succ]
      rw [ih i (by simpa using h), List.set_append, if_neg (by simp [coC]; omega)]
      congr 2
      simp [coC]; omega

theorem RowK.set {B : Nat} {w : World} {g n cap : Nat} {K : List (Com × Value)} (h : RowK B w (.slice (some ⟨g, 0, none⟩) n cap) K) {i : Nat} (hi : i < K.length) (u : Value) :
    RowK B (w.setCell ⟨g, i * 4 + 3, none⟩ u) (.slice (some ⟨g, 0, none⟩) n cap) (K.set i (K[i].1, u)) := by
  obtain ⟨h1, h2⟩ := h
  rcases h2 with ⟨h2, _⟩ | ⟨g', cap', cur, hv, hg, hh, h3, h4, h5, h6⟩
  · cases h2
  · obtain ⟨rfl, rfl, rfl⟩ : g = g' ∧ n = K.length ∧ cap = cap' := by simpa using hv
    refine ⟨by rw [coC_set K i hi, List.length_set, List.length_set]; exact h1, .inr ⟨g, cap, cur.setIfInBounds (i * 4 + 3) u, by simp, hg, heap_setCell_same w g (i * 4 + 3) cur _ u hh, by simpa using h3, h4, by simpa using h5, ?_⟩⟩
    rw [coC_set K i hi, List.length_set, Array.toList_setIfInBounds, ← h6]
    rw [List.take_set]

end Go.Proofs.Ytajkmhepedlmmaa
