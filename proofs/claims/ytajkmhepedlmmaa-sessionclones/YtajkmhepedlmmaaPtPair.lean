/-
  A table and the document's own one, side by side.
-/
import Derived.Test.YtajkmhepedlmmaaMtDone
import Derived.Test.YtajkmhepedlmmaaSeLive
namespace Go.Proofs.Ytajkmhepedlmmaa
open Go.RowKit

/-- Both were made behind w0, and neither owns what the other owns. -/
def PairT (w0 w : World) (b bm sz : Nat) (L M : List Se) : Prop :=
  ∃ v X vm Y, TbA w b sz v X L ∧ MtA w bm sz vm Y M ∧ (∀ k ∈ ownT b v, k ∉ ownT bm vm) ∧ Kept [] w0 w ∧ (∀ k ∈ ownT b v, w0.heap.size ≤ k) ∧ (∀ k ∈ ownT bm vm, w0.heap.size ≤ k) ∧
    L.length ≤ sz ∧ M.length ≤ sz ∧ 1 ≤ sz ∧ sz ≤ 16 ∧ (∀ x ∈ L, okS x) ∧ ∀ x ∈ M, okS x

/-- What else is in memory stays. -/
def FrT (w0 w w' : World) : Prop := ∃ S, Kept S w w' ∧ Typed w S [68, 51, 44] ∧ ∀ k ∈ S, w0.heap.size ≤ k

theorem FrT.at {w0 w w' : World} (h : FrT w0 w w') {k : Nat} {vs : Array Value} {t : TypeId} {mk : Nat × Nat} (hk : w.heap[k]? = some (.cells vs t mk)) (ht : t ∉ [68, 51, 44]) : w'.heap[k]? = some (.cells vs t mk) := by
  obtain ⟨S, h1, h2, _⟩ := h
  exact h1.typed h2 hk ht

theorem FrT.ko {w0 w w' : World} (h : FrT w0 w w') {B : Nat} {u : Value} {k : List Com} (hk : KoO B w u k) : KoO B w' u k := by
  obtain ⟨S, h1, h2, _⟩ := h
  exact hk.keep h1 h2 (by decide) (by decide)

theorem FrT.size {w0 w w' : World} (h : FrT w0 w w') : w.heap.size ≤ w'.heap.size := by
  obtain ⟨S, h1, _⟩ := h; exact h1.size

theorem PairT.kept {w0 w w' : World} {b bm sz : Nat} {L M : List Se} (h : PairT w0 w b bm sz L M) (k : Kept [] w w') : PairT w0 w' b bm sz L M := by
  obtain ⟨v, X, vm, Y, h1, h2, h3, h4, h5⟩ := h
  exact ⟨v, X, vm, Y, h1.kept k, h2.kept k, h3, h4.trans k (by simp), h5⟩

theorem PairT.keeps {w0 w : World} {b bm sz : Nat} {L M : List Se} (h : PairT w0 w b bm sz L M) : Kept [] w0 w := by
  obtain ⟨v, X, vm, Y, h1, h2, h3, h4, h5⟩ := h; exact h4

theorem PairT.live {w0 w : World} {b bm sz : Nat} {L M : List Se} (h : PairT w0 w b bm sz L M) : LiveT w0 w b sz L := by
  obtain ⟨v, X, vm, Y, h1, h2, h3, h4, h5, h6, h7, h8, h9, h10, h11, h12⟩ := h
  exact ⟨v, X, h1, h4, h5 b (by simp [ownT]), fun k hk => h5 k (by simp [ownT, hk]), h7, h10, h11⟩

theorem PairT.new {w0 w : World} {sz : Nat} (hk : Kept [] w0 w) (h1 : 1 ≤ sz) (h2 : sz ≤ 16) : PairT w0 ((w.alloc (.cells #[.int .i64 sz, .slice none 0 0] 68)).alloc (.cells #[.int .i64 sz, .slice none 0 0] 51)) w.heap.size (w.heap.size + 1) sz [] [] := by
  have hM := MtA.new (w.alloc (.cells #[.int .i64 sz, .slice none 0 0] 68)) sz
  rw [World.size_alloc] at hM
  refine ⟨_, [], _, [], (TbA.new w sz h1).kept ((Kept.refl [] _).alloc _), hM, ?_, (hk.alloc _).alloc _, ?_, ?_, Nat.zero_le _, Nat.zero_le _, h1, h2, (fun x hx => by simp at hx), (fun x hx => by simp at hx)⟩
  · intro k hk hk2
    simp [ownT, Value.ownBlock] at hk hk2
    omega
  · intro k hk2
    simp [ownT, Value.ownBlock] at hk2
    subst hk2; exact hk.size
  · intro k hk2
    simp [ownT, Value.ownBlock] at hk2
    subst hk2; have := hk.size; omega

/-- The table goes on. -/
theorem pairT_t {w0 w w' : World} {b bm sz : Nat} {L M L' : List Se} {v : Value} {X : List (Se × Value)} {vm : Value} {Y : List (Se × Value)} (h1 : TbA w b sz v X L) (h2 : MtA w bm sz vm Y M) (h3 : ∀ k ∈ ownT b v, k ∉ ownT bm vm) (h4 : Kept [] w0 w) (h5 : ∀ k ∈ ownT b v, w0.heap.size ≤ k) (h6 : ∀ k ∈ ownT bm vm, w0.heap.size ≤ k)
    (h8 : M.length ≤ sz) (h9 : 1 ≤ sz) (h10 : sz ≤ 16) (h12 : ∀ x ∈ M, okS x) (hP : TbP w b sz v L' w') (hl : L'.length ≤ sz) (hok : ∀ x ∈ L', okS x) : PairT w0 w' b bm sz L' M ∧ FrT w0 w w' := by
  obtain ⟨v', X', g1, g2, g3⟩ := hP
  have hT : Typed w [b] [68] := typed1 h1.at_
  have hb5 := h5 b (by simp [ownT])
  have hbm : ∀ k ∈ ownT b v', k ∈ ownT b v ∨ w.heap.size ≤ k := fun k hk => by
    rcases List.mem_cons.1 hk with rfl | hk
    · exact .inl (by simp [ownT])
    · rcases g3 k (mem_own.1 hk) with e | e
      · exact .inl (by simp [ownT, e])
      · exact .inr e
  refine ⟨⟨v', X', vm, Y, g1, h2.keep g2 (fun k hk hm => h3 b (by simp [ownT]) (by simp at hm; rw [← hm]; exact hk)) hT (by decide) (by decide), fun k hk hm => ?_, h4.trans g2 (fun k hk => .inr (by simp at hk; omega)), fun k hk => ?_, h6, hl, h8, h9, h10, hok, h12⟩, [b], g2, fun k hk cur t mk hh => by have := hT k hk cur t mk hh; simp at this; simp [this], fun k hk => by simp at hk; omega⟩
  · rcases hbm k hk with e | e
    · exact h3 k e hm
    · have := h2.lt k hm; omega
  · rcases hbm k hk with e | e
    · exact h5 k e
    · exact Nat.le_trans h4.size e

/-- The document's one goes on. -/
theorem pairT_m {w0 w w' : World} {b bm sz : Nat} {L M M' : List Se} {v : Value} {X : List (Se × Value)} {vm : Value} {Y : List (Se × Value)} (h1 : TbA w b sz v X L) (h2 : MtA w bm sz vm Y M) (h3 : ∀ k ∈ ownT b v, k ∉ ownT bm vm) (h4 : Kept [] w0 w) (h5 : ∀ k ∈ ownT b v, w0.heap.size ≤ k) (h6 : ∀ k ∈ ownT bm vm, w0.heap.size ≤ k)
    (h7 : L.length ≤ sz) (h9 : 1 ≤ sz) (h10 : sz ≤ 16) (h11 : ∀ x ∈ L, okS x) (hP : MtP w bm sz vm M' w') (hl : M'.length ≤ sz) (hok : ∀ x ∈ M', okS x) : PairT w0 w' b bm sz L M' ∧ FrT w0 w w' := by
  obtain ⟨v', X', g1, g2, g3⟩ := hP
  have hT := h2.typed
  have hbm : ∀ k ∈ ownT bm v', k ∈ ownT bm vm ∨ w.heap.size ≤ k := fun k hk => by
    rcases List.mem_cons.1 hk with rfl | hk
    · exact .inl (by simp [ownT])
    · rcases g3 k (mem_own.1 hk) with e | e
      · exact .inl (by simp [ownT, e])
      · exact .inr e
  refine ⟨⟨v, X, v', X', h1.keep g2 (fun k hk hm => h3 k hk hm) hT (by decide) (by decide), g1, fun k hk hm => ?_, h4.trans g2 (fun k hk => .inr (h6 k hk)), h5, fun k hk => ?_, h7, hl, h9, h10, h11, hok⟩, ownT bm vm, g2, fun k hk cur t mk hh => by have := hT k hk cur t mk hh; simp at this ⊢; rcases this with e | e <;> simp [e], h6⟩
  · rcases hbm k hm with e | e
    · exact h3 k hk e
    · have := h1.lt k hk; omega
  · rcases hbm k hk with e | e
    · exact h6 k e
    · exact Nat.le_trans h4.size e

theorem pt_open {w0 w : World} {b bm sz : Nat} {L M : List Se} (h : PairT w0 w b bm sz L M) (n : List UInt8) (hn : n.length ≤ 140737488351232) (id : Int) :
    Calls Try.prog 11 #[.pointer (some ⟨b, 0, none⟩), .string (str n), .int .i64 id] w fun e w' => e = .returned (.int .i64 (openI n id L)) ∧ PairT w0 w' b bm sz (openL sz n id L) M ∧ FrT w0 w w' := by
  obtain ⟨v, X, vm, Y, h1, h2, h3, h4, h5, h6, h7, h8, h9, h10, h11, h12⟩ := h
  exact (open_call h1 h7 (by omega) n hn id).mono fun e w' ⟨g1, g2⟩ => ⟨g1, pairT_t h1 h2 h3 h4 h5 h6 h8 h9 h10 h12 g2 (openL_length h7 h9) (ok_openL h11 hn)⟩

theorem pm_open {w0 w : World} {b bm sz : Nat} {L M : List Se} (h : PairT w0 w b bm sz L M) (n : List UInt8) (hn : n.length ≤ 140737488351232) (id : Int) :
    Calls Try.prog 15 #[.pointer (some ⟨bm, 0, none⟩), .string (str n), .int .i64 id] w fun e w' => e = .returned (.int .i64 (openI n id M)) ∧ PairT w0 w' b bm sz L (openL sz n id M) ∧ FrT w0 w w' := by
  obtain ⟨v, X, vm, Y, h1, h2, h3, h4, h5, h6, h7, h8, h9, h10, h11, h12⟩ := h
  exact (mopen_call h2 h8 (by omega) h9 n id).mono fun e w' ⟨g1, g2⟩ => ⟨g1, pairT_m h1 h2 h3 h4 h5 h6 h7 h9 h10 h11 g2 (openL_length h8 h9) (ok_openL h12 hn)⟩

theorem pt_ask {w0 w : World} {b bm sz : Nat} {L M : List Se} (h : PairT w0 w b bm sz L M) (id seq : Int) :
    Calls Try.prog 12 #[.pointer (some ⟨b, 0, none⟩), .int .i64 id, .int .i64 seq] w fun e w' => AskE w (askV id seq L) e w' ∧ PairT w0 w' b bm sz (askL id L) M ∧ FrT w0 w w' := by
  obtain ⟨v, X, vm, Y, h1, h2, h3, h4, h5, h6, h7, h8, h9, h10, h11, h12⟩ := h
  refine (ask_call h1 (by omega) h11 id seq).mono fun e w' ⟨u, g1, g0, g2⟩ => ⟨?_, pairT_t h1 h2 h3 h4 h5 h6 h8 h9 h10 h12 g2 (by rw [askL_length]; exact h7) (ok_askL h11)⟩
  obtain ⟨ao, n, c, rfl⟩ := g0.ko.one
  exact ⟨ao, n, c, g1, g0⟩

theorem pm_ask {w0 w : World} {b bm sz : Nat} {L M : List Se} (h : PairT w0 w b bm sz L M) (id seq : Int) :
    Calls Try.prog 16 #[.pointer (some ⟨bm, 0, none⟩), .int .i64 id, .int .i64 seq] w fun e w' => AskE w (askV id seq M) e w' ∧ PairT w0 w' b bm sz L (askL id M) ∧ FrT w0 w w' := by
  obtain ⟨v, X, vm, Y, h1, h2, h3, h4, h5, h6, h7, h8, h9, h10, h11, h12⟩ := h
  refine (mask_call h2 (by omega) h12 id seq).mono fun e w' ⟨u, g1, g0, g2⟩ => ⟨?_, pairT_m h1 h2 h3 h4 h5 h6 h7 h9 h10 h11 g2 (by rw [askL_length]; exact h8) (ok_askL h12)⟩
  obtain ⟨ao, n, c, rfl⟩ := g0.ko.one
  exact ⟨ao, n, c, g1, g0⟩

theorem pt_done {w0 w : World} {b bm sz : Nat} {L M : List Se} (h : PairT w0 w b bm sz L M) (id seq : Int) (d : Vt) (u : Value) (hu : KoV w0 u d.k) (hd : okV d) :
    Calls Try.prog 18 #[.pointer (some ⟨b, 0, none⟩), .int .i64 id, .int .i64 seq, vtV d u] w fun e w' => e = .returned (.bool (doneI id seq L).isSome) ∧ PairT w0 w' b bm sz (doneL id seq d L) M ∧ FrT w0 w w' := by
  obtain ⟨v, X, vm, Y, h1, h2, h3, h4, h5, h6, h7, h8, h9, h10, h11, h12⟩ := h
  exact (done_call h1 (by omega) id seq d u (hu.kept h4) hd).mono fun e w' ⟨g1, g2⟩ => ⟨g1, pairT_t h1 h2 h3 h4 h5 h6 h8 h9 h10 h12 g2 (by rw [doneL_length]; exact h7) (ok_doneL h11 hd)⟩

theorem pm_done {w0 w : World} {b bm sz : Nat} {L M : List Se} (h : PairT w0 w b bm sz L M) (id seq : Int) (d : Vt) (u : Value) (hu : KoV w0 u d.k) (hd : okV d) :
    Calls Try.prog 19 #[.pointer (some ⟨bm, 0, none⟩), .int .i64 id, .int .i64 seq, vtV d u] w fun e w' => e = .returned (.bool (doneI id seq M).isSome) ∧ PairT w0 w' b bm sz L (doneL id seq d M) ∧ FrT w0 w w' := by
  obtain ⟨v, X, vm, Y, h1, h2, h3, h4, h5, h6, h7, h8, h9, h10, h11, h12⟩ := h
  exact (mdone_call h2 (by omega) id seq d u (fun W hk => hu.kept (h4.trans hk (fun k hk => .inr (h6 k hk)))) hd).mono fun e w' ⟨g1, g2⟩ => ⟨g1, pairT_m h1 h2 h3 h4 h5 h6 h7 h9 h10 h11 g2 (by rw [doneL_length]; exact h8) (ok_doneL h12 hd)⟩

theorem pm_find {w0 w : World} {b bm sz : Nat} {L M : List Se} (h : PairT w0 w b bm sz L M) (id : Int) :
    Calls Try.prog 21 #[.pointer (some ⟨bm, 0, none⟩), .int .i64 id] w fun e w' => e = .returned (plV (byI id M)) ∧ Kept [] w w' := by
  obtain ⟨v, X, vm, Y, h1, h2, h3, h4, h5, h6, h7, h8, h9, h10, h11, h12⟩ := h
  exact mfind_call h2 (by omega) id

/-- The document's sessions, as they are read. -/
theorem PairT.model {w0 w : World} {b bm sz : Nat} {L M : List Se} (h : PairT w0 w b bm sz L M) : ∃ ao c Y, w.cell? ⟨bm, 1, none⟩ = some (.slice ao M.length c) ∧ SlS w ao M.length c Y ∧ Y.map Prod.fst = M ∧ (∀ y ∈ Y, KoV w y.2 y.1.v.k) ∧ M.length ≤ c ∧ c ≤ maxLen ∧ ∀ i (hi : i < Y.length), ∃ g, ao = some ⟨g, 0, none⟩ ∧ SeAt w g (i * 10) Y[i] := by
  obtain ⟨v, X, vm, Y, h1, h2, _⟩ := h
  obtain ⟨ao, c, hv, hc, hm, _, hat⟩ := h2.row.t.shape
  subst hv
  obtain ⟨ao', c', e, hs⟩ := h2.sl
  cases e
  have e2 := h2.len
  rw [e2] at hs hc
  exact ⟨ao, c, Y, by rw [← e2]; exact h2.cells.2, hs, h2.ses, fun y hy => (h2.own y hy).ko, hc, hm, hat⟩

end Go.Proofs.Ytajkmhepedlmmaa
