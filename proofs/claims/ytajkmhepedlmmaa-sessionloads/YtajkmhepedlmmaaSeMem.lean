/-
  Verdicts and sessions in memory: slices that are read, rows that are owned, lists that are never written.
-/
import Derived.Test.YtajkmhepedlmmaaSePure
import Derived.Test.YtajkmhepedlmmaaCoMem
namespace Go.Proofs.Ytajkmhepedlmmaa
open Go.RowKit

/-- The cells of a session, its commits at x.2. -/
def seC (x : Se × Value) : List Value := [.int .i64 x.1.i, .int .i64 x.1.q, .string (str x.1.n), .int .i64 x.1.v.c, .int .i64 x.1.v.s, .int .i64 x.1.v.r, .string (str x.1.v.p), .int .u64 x.1.v.d, x.2, .int .i64 x.1.v.m]

def seV (x : Se) (u : Value) : Value := .agg #[.int .i64 x.i, .int .i64 x.q, .string (str x.n), .int .i64 x.v.c, .int .i64 x.v.s, .int .i64 x.v.r, .string (str x.v.p), .int .u64 x.v.d, u, .int .i64 x.v.m]

def vtV (v : Vt) (u : Value) : Value := .agg #[.int .i64 v.c, .int .i64 v.s, .int .i64 v.r, .string (str v.p), .int .u64 v.d, u, .int .i64 v.m]

theorem seC_length (X : List (Se × Value)) : (X.flatMap seC).length = X.length * 10 := by
  induction X with
  | nil => rfl
  | cons x X ih => simp [List.flatMap_cons, ih, seC]; omega

theorem seC_get (X : List (Se × Value)) (i : Nat) (h : i < X.length) (j : Nat) (hj : j < 10) : (X.flatMap seC)[i * 10 + j]? = (seC X[i])[j]? := by
  induction X generalizing i with
  | nil => simp at h
  | cons x X ih =>
    cases i with
    | zero => simp only [List.flatMap_cons, Nat.zero_mul, Nat.zero_add, List.getElem_cons_zero]; rw [List.getElem?_append_left (by simp [seC]; omega)]
    | succ i =>
      simp only [List.flatMap_cons, List.getElem_cons_succ]
      rw [List.getElem?_append_right (by simp [seC]; omega)]
      rw [← ih i (by simpa using h)]
      congr 1
      simp [seC]; omega

structure SeAt (w : World) (b o : Nat) (x : Se × Value) : Prop where
  c0 : w.cell? ⟨b, o, none⟩ = some (.int .i64 x.1.i)
  c1 : w.cell? ⟨b, o + 1, none⟩ = some (.int .i64 x.1.q)
  c2 : w.cell? ⟨b, o + 2, none⟩ = some (.string (str x.1.n))
  c3 : w.cell? ⟨b, o + 3, none⟩ = some (.int .i64 x.1.v.c)
  c4 : w.cell? ⟨b, o + 4, none⟩ = some (.int .i64 x.1.v.s)
  c5 : w.cell? ⟨b, o + 5, none⟩ = some (.int .i64 x.1.v.r)
  c6 : w.cell? ⟨b, o + 6, none⟩ = some (.string (str x.1.v.p))
  c7 : w.cell? ⟨b, o + 7, none⟩ = some (.int .u64 x.1.v.d)
  c8 : w.cell? ⟨b, o + 8, none⟩ = some x.2
  c9 : w.cell? ⟨b, o + 9, none⟩ = some (.int .i64 x.1.v.m)

theorem SeAt.kept {S : List Nat} {a w : World} {b o : Nat} {x : Se × Value} (h : SeAt a b o x) (k : Kept S a w) (hb : b ∉ S) : SeAt w b o x :=
  ⟨k.cell h.c0 hb, k.cell h.c1 hb, k.cell h.c2 hb, k.cell h.c3 hb, k.cell h.c4 hb, k.cell h.c5 hb, k.cell h.c6 hb, k.cell h.c7 hb, k.cell h.c8 hb, k.cell h.c9 hb⟩

theorem SeAt.of {w : World} {b o : Nat} {x : Se × Value} (h : ∀ j, j < 10 → w.cell? ⟨b, o + j, none⟩ = (seC x)[j]?) : SeAt w b o x :=
  ⟨h 0 (by omega), h 1 (by omega), h 2 (by omega), h 3 (by omega), h 4 (by omega), h 5 (by omega), h 6 (by omega), h 7 (by omega), h 8 (by omega), h 9 (by omega)⟩

theorem SeAt.all {w : World} {b o : Nat} {x : Se × Value} (h : SeAt w b o x) {j : Nat} {u : Value} (hj : (seC x)[j]? = some u) : w.cell? ⟨b, o + j, none⟩ = some u := by
  obtain ⟨c0, c1, c2, c3, c4, c5, c6, c7, c8, c9⟩ := h
  match j, hj with
  | 0, hj => simp [seC] at hj; subst hj; exact c0
  | 1, hj => simp [seC] at hj; subst hj; exact c1
  | 2, hj => simp [seC] at hj; subst hj; exact c2
  | 3, hj => simp [seC] at hj; subst hj; exact c3
  | 4, hj => simp [seC] at hj; subst hj; exact c4
  | 5, hj => simp [seC] at hj; subst hj; exact c5
  | 6, hj => simp [seC] at hj; subst hj; exact c6
  | 7, hj => simp [seC] at hj; subst hj; exact c7
  | 8, hj => simp [seC] at hj; subst hj; exact c8
  | 9, hj => simp [seC] at hj; subst hj; exact c9
  | j + 10, hj => simp [seC] at hj

/-- A verdict's commits: read; owned. -/
def KoV (w : World) (u : Value) (k : List Com) : Prop := ∃ ao n c K, u = .slice ao n c ∧ SlK w ao n c K ∧ K.map Prod.fst = k ∧ (ao = none → c = 0)
def KoO (B : Nat) (w : World) (u : Value) (k : List Com) : Prop := ∃ K, RowK B w u K ∧ OwnK B w K ∧ K.map Prod.fst = k

theorem KoV.kept {a w : World} {u : Value} {k : List Com} (h : KoV a u k) (hk : Kept [] a w) : KoV w u k := by
  obtain ⟨ao, n, c, K, h1, h2, h3, h4⟩ := h
  exact ⟨ao, n, c, K, h1, h2.kept hk, h3, h4⟩

theorem KoO.ko {B : Nat} {w : World} {u : Value} {k : List Com} (h : KoO B w u k) : KoV w u k := by
  obtain ⟨K, h1, h2, h3⟩ := h
  obtain ⟨ao, c, e, h4, h5⟩ := h1.sl h2
  exact ⟨ao, K.length, c, K, e, h4, h3, h5⟩

theorem KoO.keep {B : Nat} {S : List Nat} {Ts : List TypeId} {w w' : World} {u : Value} {k : List Com} (h : KoO B w u k) (hk : Kept S w w') (hT : Typed w S Ts) (h1 : 65 ∉ Ts) (h2 : 89 ∉ Ts) : KoO B w' u k := by
  obtain ⟨K, hr, ho, he⟩ := h
  exact ⟨K, row_typed hk hT hr h1, fun x hx => row_typed hk hT (ho x hx) h2, he⟩

theorem KoO.kept {B : Nat} {w w' : World} {u : Value} {k : List Com} (h : KoO B w u k) (hk : Kept [] w w') : KoO B w' u k :=
  h.keep hk (typed_nil w []) (by simp) (by simp)

theorem RowK.mono {B C : Nat} {w : World} {v : Value} {K : List (Com × Value)} (h : RowK C w v K) (hB : B ≤ C) : RowK B w v K := by
  obtain ⟨h1, h2⟩ := h
  refine ⟨h1, ?_⟩
  rcases h2 with h2 | ⟨g, cap, cur, hv, hg, r⟩
  · exact .inl h2
  · exact .inr ⟨g, cap, cur, hv, Nat.le_trans hB hg, r⟩

theorem KoO.mono {B C : Nat} {w : World} {u : Value} {k : List Com} (h : KoO C w u k) (hB : B ≤ C) : KoO B w u k := by
  obtain ⟨K, hr, ho, he⟩ := h
  exact ⟨K, hr.mono hB, fun x hx => (ho x hx).mono hB, he⟩

theorem KoO.nil (B : Nat) (w : World) : KoO B w (.slice none 0 0) [] := ⟨[], RowK.nil B w, (fun _ h => by cases h), rfl⟩

theorem KoV.one {w : World} {u : Value} {k : List Com} (h : KoV w u k) : ∃ ao n c, u = .slice ao n c := by
  obtain ⟨ao, n, c, K, h1, _⟩ := h
  exact ⟨ao, n, c, h1⟩

/-- A slice of sessions that is read. -/
def SlS (w : World) (ao : Option Addr) (n c : Nat) (X : List (Se × Value)) : Prop :=
  X.length = n ∧ n ≤ c ∧ c ≤ maxLen ∧ (ao = none → c = 0) ∧ (∀ i (h : i < X.length), ∃ b o, ao = some ⟨b, o, none⟩ ∧ SeAt w b (o + i * 10) X[i]) ∧ ∀ x ∈ X, KoV w x.2 x.1.v.k

theorem SlS.kept {a w : World} {ao : Option Addr} {n c : Nat} {X : List (Se × Value)} (h : SlS a ao n c X) (k : Kept [] a w) : SlS w ao n c X :=
  ⟨h.1, h.2.1, h.2.2.1, h.2.2.2.1, fun i hi => by obtain ⟨b, o, e, h1⟩ := h.2.2.2.2.1 i hi; exact ⟨b, o, e, h1.kept k (by simp)⟩, fun x hx => (h.2.2.2.2.2 x hx).kept k⟩

/-- A row of sessions that is owned. -/
def RowS (B : Nat) (w : World) (v : Value) (X : List (Se × Value)) : Prop := w.ownsRow B 44 10 v X.length (X.flatMap seC)

/-- The list v is X: it may share its block with others, and nobody writes there. -/
def TRow (w : World) (v : Value) (X : List (Se × Value)) : Prop :=
  (v = .slice none 0 0 ∧ X = []) ∨ ∃ g c cur, v = .slice (some ⟨g, 0, none⟩) X.length c ∧ w.heap[g]? = some (.cells cur 44 (0, 0)) ∧ X.length ≤ c ∧ c ≤ maxLen ∧ cur.toList.take (X.length * 10) = X.flatMap seC

theorem RowS.t {B : Nat} {w : World} {v : Value} {X : List (Se × Value)} (h : RowS B w v X) : TRow w v X := by
  obtain ⟨h1, h2⟩ := h
  rcases h2 with ⟨hv, hn⟩ | ⟨g, cap, cur, hv, hg, hh, h3, h4, h5, h6⟩
  · have : X = [] := by simpa using hn
    subst this
    exact .inl ⟨by rw [hv], rfl⟩
  · exact .inr ⟨g, cap, cur, hv, hh, h3, h4, h6⟩

theorem TRow.keep {S : List Nat} {w w' : World} {v : Value} {X : List (Se × Value)} (h : TRow w v X) (hk : Kept S w w') (hS : ∀ k, v.ownBlock = some k → k ∉ S) : TRow w' v X := by
  rcases h with h | ⟨g, c, cur, hv, hh, r⟩
  · exact .inl h
  · exact .inr ⟨g, c, cur, hv, hk.at hh (hS g (by rw [hv]; rfl)), r⟩

theorem TRow.kept {w w' : World} {v : Value} {X : List (Se × Value)} (h : TRow w v X) (hk : Kept [] w w') : TRow w' v X := h.keep hk (by simp)

theorem TRow.block {w : World} {v : Value} {X : List (Se × Value)} (h : TRow w v X) {k : Nat} (hk : v.ownBlock = some k) : ∃ cur, w.heap[k]? = some (.cells cur 44 (0, 0)) := by
  rcases h with ⟨rfl, _⟩ | ⟨g, c, cur, rfl, hh, _⟩
  · cases hk
  · cases hk; exact ⟨cur, hh⟩

theorem TRow.typed {S : List Nat} {Ts : List TypeId} {w w' : World} {v : Value} {X : List (Se × Value)} (h : TRow w v X) (hk : Kept S w w') (hT : Typed w S Ts) (ht : 44 ∉ Ts) : TRow w' v X :=
  h.keep hk fun k hv hm => by
    obtain ⟨cur, hh⟩ := h.block hv
    exact ht (hT _ hm _ _ _ hh)

theorem TRow.at {w : World} {g n c : Nat} {X : List (Se × Value)} (h : TRow w (.slice (some ⟨g, 0, none⟩) n c) X) {i : Nat} (hi : i < X.length) : SeAt w g (i * 10) X[i] := by
  rcases h with ⟨h, _⟩ | ⟨g', c', cur, hv, hh, h1, h2, h3⟩
  · cases h
  · obtain ⟨rfl, rfl, rfl⟩ : g = g' ∧ n = X.length ∧ c = c' := by simpa using hv
    refine SeAt.of fun j hj => ?_
    rw [← seC_get X i hi j hj, ← h3, List.getElem?_take, if_pos (by omega)]
    simp [World.cell?, hh]

/-- What is there is found: its shape. -/
theorem TRow.shape {w : World} {v : Value} {X : List (Se × Value)} (h : TRow w v X) : ∃ ao c, v = .slice ao X.length c ∧ X.length ≤ c ∧ c ≤ maxLen ∧ (ao = none → c = 0) ∧ ∀ i (hi : i < X.length), ∃ g, ao = some ⟨g, 0, none⟩ ∧ SeAt w g (i * 10) X[i] := by
  have h' := h
  rcases h with ⟨rfl, rfl⟩ | ⟨g, c, cur, rfl, hh, h1, h2, h3⟩
  · exact ⟨none, 0, rfl, Nat.le_refl _, Nat.zero_le _, fun _ => rfl, fun i hi => by simp at hi⟩
  · exact ⟨_, c, rfl, h1, h2, by simp, fun i hi => ⟨g, rfl, h'.at hi⟩⟩

theorem TRow.one {w : World} {v : Value} {X : List (Se × Value)} (h : TRow w v X) : ∃ ao n c, v = .slice ao n c := by
  obtain ⟨ao, c, e, _⟩ := h.shape
  exact ⟨ao, _, c, e⟩

theorem TRow.sl {w : World} {v : Value} {X : List (Se × Value)} (h : TRow w v X) (ho : ∀ x ∈ X, KoV w x.2 x.1.v.k) : ∃ ao c, v = .slice ao X.length c ∧ SlS w ao X.length c X := by
  obtain ⟨ao, c, e, h1, h2, h3, h4⟩ := h.shape
  refine ⟨ao, c, e, rfl, h1, h2, h3, fun i hi => ?_, ho⟩
  obtain ⟨g, e2, h5⟩ := h4 i hi
  exact ⟨g, 0, e2, by rw [Nat.zero_add]; exact h5⟩

theorem cells_runS {w : World} {b o : Nat} {X : List (Se × Value)} (h : ∀ i (hi : i < X.length), SeAt w b (o + i * 10) X[i]) : ∀ (j : Nat) (u : Value), (X.flatMap seC)[j]? = some u → w.cell? ⟨b, o + j, none⟩ = some u := by
  intro j u hj
  have hlt : j < (X.flatMap seC).length := by
    by_cases hl : j < (X.flatMap seC).length
    · exact hl
    · rw [List.getElem?_eq_none (by omega)] at hj; cases hj
  rw [seC_length] at hlt
  have hi : j / 10 < X.length := by omega
  have e := seC_get X (j / 10) hi (j % 10) (by omega)
  have e2 : j / 10 * 10 + j % 10 = j := by omega
  rw [e2, hj] at e
  have := (h (j / 10) hi).all e.symm
  rw [show o + j / 10 * 10 + j % 10 = o + j by omega] at this
  exact this

/-- The run of cells of a list from the place k on. -/
theorem TRow.runs {w : World} {g n c : Nat} {X : List (Se × Value)} (h : TRow w (.slice (some ⟨g, 0, none⟩) n c) X) (k : Nat) : ∀ (j : Nat) (u : Value), ((X.drop k).flatMap seC)[j]? = some u → w.cell? ((⟨g, k * 10, none⟩ : Addr).add j) = some u := by
  intro j u hj
  rw [adr_addC]
  refine cells_runS (X := X.drop k) (fun i hi => ?_) j u hj
  rw [List.length_drop] at hi
  have := h.at (i := k + i) (by omega)
  rw [List.getElem_drop, show k * 10 + i * 10 = (k + i) * 10 by omega]
  exact this

theorem TRow.run0 {w : World} {g n c : Nat} {X : List (Se × Value)} (h : TRow w (.slice (some ⟨g, 0, none⟩) n c) X) (k : Nat) : ∀ (j : Nat) (u : Value), ((X.take k).flatMap seC)[j]? = some u → w.cell? ((⟨g, 0, none⟩ : Addr).add j) = some u := by
  intro j u hj
  rw [adr_addC]
  refine cells_runS (X := X.take k) (fun i hi => ?_) j u hj
  rw [List.length_take] at hi
  have := h.at (i := i) (by omega)
  rw [List.getElem_take, Nat.zero_add]
  exact this

/-- Cut behind the first k, with no room behind. -/
theorem TRow.cut {w : World} {g n c : Nat} {X : List (Se × Value)} (h : TRow w (.slice (some ⟨g, 0, none⟩) n c) X) {k : Nat} (hk : k ≤ X.length) : TRow w (.slice (some ⟨g, 0, none⟩) k k) (X.take k) := by
  rcases h with ⟨h, _⟩ | ⟨g', c', cur, hv, hh, h1, h2, h3⟩
  · cases h
  · obtain ⟨rfl, rfl, rfl⟩ : g = g' ∧ n = X.length ∧ c = c' := by simpa using hv
    have hl : (X.take k).length = k := by simp; omega
    refine .inr ⟨g, k, cur, by rw [hl], hh, by omega, by omega, ?_⟩
    rw [hl]
    apply List.ext_getElem?
    intro q
    by_cases hq : q < k * 10
    · rw [List.getElem?_take, if_pos hq]
      have e3 : cur.toList[q]? = (X.flatMap seC)[q]? := by rw [← h3, List.getElem?_take, if_pos (by omega)]
      rw [e3]
      have e := seC_get X (q / 10) (by omega) (q % 10) (by omega)
      have e' := seC_get (X.take k) (q / 10) (by omega) (q % 10) (by omega)
      have e2 : q / 10 * 10 + q % 10 = q := by omega
      rw [e2] at e e'
      rw [e, e', List.getElem_take]
    · rw [List.getElem?_eq_none (by simp; omega), List.getElem?_eq_none (by rw [seC_length, hl]; omega)]

/-- Cut behind the first k. -/
theorem TRow.part {w : World} {g n c : Nat} {X : List (Se × Value)} (h : TRow w (.slice (some ⟨g, 0, none⟩) n c) X) {k : Nat} (hk : k ≤ X.length) : TRow w (.slice (some ⟨g, 0, none⟩) k c) (X.take k) := by
  have h2 := h.cut hk
  have hl : (X.take k).length = k := by simp; omega
  rcases h with ⟨h, _⟩ | ⟨g', c', cur', hv', _, hc1, hc2, _⟩
  · cases h
  · obtain ⟨rfl, rfl, rfl⟩ : g = g' ∧ n = X.length ∧ c = c' := by simpa using hv'
    rcases h2 with ⟨h2, _⟩ | ⟨g2, c2, cur, hv, hh, _, _, h3⟩
    · cases h2
    · obtain ⟨rfl, _, rfl⟩ : g = g2 ∧ _ ∧ k = c2 := by simpa using hv
      exact .inr ⟨g, c, cur, by rw [hl], hh, by omega, hc2, h3⟩

theorem RowS.mono {B C : Nat} {w : World} {v : Value} {X : List (Se × Value)} (h : RowS C w v X) (hB : B ≤ C) : RowS B w v X := by
  obtain ⟨h1, h2⟩ := h
  refine ⟨h1, ?_⟩
  rcases h2 with h2 | ⟨g, cap, cur, hv, hg, r⟩
  · exact .inl h2
  · exact .inr ⟨g, cap, cur, hv, Nat.le_trans hB hg, r⟩

theorem one_seC {X : List (Se × Value)} (h : ∀ x ∈ X, x.2.oneCell' = true) : ∀ u ∈ X.flatMap seC, u.oneCell' = true := by
  intro u hu
  obtain ⟨x, hx, hu⟩ := List.mem_flatMap.1 hu
  simp [seC] at hu
  rcases hu with rfl | rfl | rfl | rfl | rfl | rfl | rfl | rfl | rfl | rfl
  · rfl
  · rfl
  · rfl
  · rfl
  · rfl
  · rfl
  · rfl
  · rfl
  · exact h x hx
  · rfl

theorem info_session : (Try.prog.info? 44).map (fun i => (i.zero, i.size, i.bytes)) = some (some (.agg #[.int .i64 0, .int .i64 0, .string ⟨#[]⟩, .int .i64 0, .int .i64 0, .int .i64 0, .string ⟨#[]⟩, .int .u64 0, .slice none 0 0, .int .i64 0]), 10, 112) := by kernel_rfl

/-- append of sessions to a row that is owned. -/
theorem wp_appS {w : World} {ops : Array Oper} {rest : List Oper} {o : Oper} {a : Act} {Q : Exit → Act → World → Prop} (hgd : o.guard = none) (s x : Operand)
    (hop : o.op = .call { callee := .builtin .append, args := #[s, x], argTypes := #[49, 49] })
    (B : Nat) (v : Value) (M : List (Se × Value)) (hs : a.eval s = v) (hO : RowS B w v M) (ad : Addr) (m c : Nat) (N : List (Se × Value)) (hx : a.eval x = .slice (some ad) m c) (hm : m = N.length) (hc : ∀ (j : Nat) (u : Value), (N.flatMap seC)[j]? = some u → w.cell? (ad.add j) = some u) (h1 : ∀ x ∈ N, x.2.oneCell' = true)
    (hlen : M.length + N.length ≤ 1000000000) (hB : B ≤ w.heap.size)
    (h : ∀ v' w', RowS B w' v' (M ++ N) → w.grownBy w' v.ownBlock → wpList Try.prog ops Q rest (a.put o.dst v') w') : wpList Try.prog ops Q (o :: rest) a w := by
  subst hm
  obtain ⟨i0, hi, hz0, hz1, hz2⟩ := info_parts info_session
  refine wpList_append_own w hgd s x 49 hop B 44 i0 _ 10 112 Try.underlying49 hi hz0 hz1 hz2 rfl (by decide) v M.length (M.flatMap seC) hs hO ad N.length c (N.flatMap seC) hx (seC_length N) hc (one_seC h1) (by unfold maxLen; omega) (by omega) hB ?_
  intro v' w' h2 h3 _
  refine h v' w' ?_ h3
  unfold RowS
  rw [List.length_append, List.flatMap_append]
  exact h2

theorem RowS.nil (B : Nat) (w : World) : RowS B w (.slice none 0 0) [] := World.ownsRow_nil w B 44 10

theorem own_voidS (w : World) (B : Nat) (hB : B ≤ w.heap.size) : RowS B (w.alloc (.cells #[] 44)) (.slice (some ⟨w.heap.size, 0, none⟩) 0 0) [] :=
  ⟨rfl, .inr ⟨w.heap.size, 0, #[], rfl, hB, heap_alloc_new w _, Nat.le_refl _, Nat.zero_le _, rfl, rfl⟩⟩

/-- A session that lies in a block of its own. -/
theorem se_news {w : World} {g : Nat} {x : Se × Value} {vs : Array Value} (hv : vs = (seC x).toArray) (h : w.heap[g]? = some (.cells vs 44 (0, 0))) : ∀ (j : Nat) (u : Value), ([x].flatMap seC)[j]? = some u → w.cell? ((⟨g, 0, none⟩ : Addr).add j) = some u := by
  intro j u hj
  subst hv
  rw [adr_addC, Nat.zero_add]
  refine cell_inC h ?_
  simpa using hj

end Go.Proofs.Ytajkmhepedlmmaa
