/-
  The document's own graph in memory; move.
-/
import Derived.Test.YtfoghemiaidnhaaGreatM9
import Derived.Test.YtfoghemiaidnhaaGreatGrRefs
import Derived.Test.YtfoghemiaidnhaaGreatTrRef3
import Derived.Laws.Cover1
namespace Go.Proofs.YtfoghemiaidnhaaGreat
open Go.RowKit

/-- A row of the document's refs that is owned. -/
def OwnM (B : Nat) (w : World) (v : Value) (l : List (List UInt8 × Int)) : Prop := w.ownsRow B 116 2 v l.length (l.flatMap rfC)

theorem info_refM : (Tryz.prog.info? 116).map (fun i => (i.zero, i.size, i.bytes)) = some (some (.agg #[.string ⟨#[]⟩, .int .i64 0]), 2, 24) := by kernel_rfl

theorem wp_appM {w : World} {ops : Array Oper} {rest : List Oper} {o : Oper} {a : Act} {Q : Exit → Act → World → Prop} (hgd : o.guard = none) (s x : Operand)
    (hop : o.op = .call { callee := .builtin .append, args := #[s, x], argTypes := #[44, 44] })
    (B : Nat) (v : Value) (l : List (List UInt8 × Int)) (hs : a.eval s = v) (hO : OwnM B w v l) (g : Nat) (y : List UInt8 × Int) (hx : a.eval x = .slice (some ⟨g, 0, none⟩) 1 1) (hc : w.heap[g]? = some (.cells #[.string (str y.1), .int .i64 y.2] 116 (0, 0)))
    (hlen : l.length ≤ 1000000000) (hB : B ≤ w.heap.size)
    (h : ∀ v' w', OwnM B w' v' (l ++ [y]) → w.grownBy w' v.ownBlock → wpList Tryz.prog ops Q rest (a.put o.dst v') w') : wpList Tryz.prog ops Q (o :: rest) a w := by
  obtain ⟨i0, hi, hz0, hz1, hz2⟩ := info_parts info_refM
  refine wpList_append_own w hgd s x 44 hop B 116 i0 (.agg #[.string ⟨#[]⟩, .int .i64 0]) 2 24 Tryz.underlying44 hi hz0 hz1 hz2 rfl (by decide) v l.length (l.flatMap rfC) hs hO ⟨g, 0, none⟩ 1 1 (rfC y) hx rfl (World.news_of_block hc) ?_ (by unfold maxLen; omega) (by omega) hB ?_
  · intro u hu; simp [rfC] at hu; rcases hu with rfl | rfl <;> rfl
  · intro v' w' h1 h2 _
    refine h v' w' ?_ h2
    unfold OwnM
    rw [List.length_append, List.flatMap_append]
    simpa using h1

theorem rfC_getM (L : List (List UInt8 × Int)) (i : Nat) (h : i < L.length) (j : Nat) (hj : j < 2) : (L.flatMap rfC)[i * 2 + j]? = (rfC L[i])[j]? := by
  induction L generalizing i with
  | nil => simp at h
  | cons x L ih =>
    cases i with
    | zero => simp only [List.flatMap_cons, Nat.zero_mul, Nat.zero_add, List.getElem_cons_zero]; rw [List.getElem?_append_left (by simp [rfC]; omega)]
    | succ i =>
      simp only [List.flatMap_cons, List.getElem_cons_succ]
      rw [List.getElem?_append_right (by simp [rfC]; omega)]
      rw [← ih i (by simpa using h)]
      congr 1
      simp [rfC]; omega

/-- Such a row is read. -/
theorem OwnM.at {B : Nat} {w : World} {v : Value} {l : List (List UInt8 × Int)} (h : OwnM B w v l) : ∃ ao c, v = .slice ao l.length c ∧ l.length ≤ c ∧ c ≤ maxLen ∧ ∀ i (hi : i < l.length), ∃ g, ao = some ⟨g, 0, none⟩ ∧ w.cell? ⟨g, i * 2, none⟩ = some (.string (str l[i].1)) ∧ w.cell? ⟨g, i * 2 + 1, none⟩ = some (.int .i64 l[i].2) := by
  have h' := h
  obtain ⟨h1, h2⟩ := h
  rcases h2 with ⟨hv, hn⟩ | ⟨g, cap, cur, hv, hg, hh, h3, h4, h5, h6⟩
  · exact ⟨none, 0, by rw [hv, hn], by omega, Nat.zero_le _, fun i hi => by omega⟩
  · refine ⟨_, cap, hv, h3, h4, fun i hi => ⟨g, rfl, ?_⟩⟩
    have hc : ∀ j, j < 2 → w.cell? ⟨g, i * 2 + j, none⟩ = (rfC l[i])[j]? := fun j hj => by
      have := World.ownsRow.cellAt (w := w) (base := B) (e := 116) (size := 2) (n := l.length) (cap := cap) (g := g) (xs := l.flatMap rfC) (by rw [← hv]; exact h') (i * 2 + j) (by omega)
      rw [this, rfC_getM l i hi j hj]
    exact ⟨hc 0 (by omega), hc 1 (by omega)⟩

/-- The document's graph, by its parts. -/
structure MA (w : World) (b : Nat) (v vL vR : Value) (K : List (Com × Value)) (G : Gr) : Prop where
  at_ : w.heap[b]? = some (.cells #[v, vL, vR] 46 (0, 0))
  row : RowK 0 w v K
  own : OwnK 0 w K
  com : K.map Prod.fst = G.cs
  lvs : OwnL 0 w vL G.ls
  rfs : OwnM 0 w vR G.rs

/-- Its own blocks. -/
def ownM (b : Nat) (v : Value) : List Nat := b :: v.ownBlock.toList

def MAt (w : World) (b : Nat) (S : List Nat) (G : Gr) : Prop := ∃ v vL vR K, MA w b v vL vR K G ∧ (G.ls = [] → vL = .slice none 0 0) ∧ S = ownM b v

theorem MA.typed {w : World} {b : Nat} {v vL vR : Value} {K : List (Com × Value)} {G : Gr} (h : MA w b v vL vR K G) : Typed w (ownM b v) [46, 54] := by
  intro k hk cur t' mk hh
  rcases List.mem_cons.1 hk with rfl | hk
  · rw [h.at_] at hh; cases hh; simp
  · obtain ⟨c2, h2⟩ := row_block h.row (mem_own.1 hk)
    rw [h2] at hh; cases hh; simp

theorem MA.lt {w : World} {b : Nat} {v vL vR : Value} {K : List (Com × Value)} {G : Gr} (h : MA w b v vL vR K G) : ∀ k ∈ ownM b v, k < w.heap.size := by
  intro k hk
  rcases List.mem_cons.1 hk with rfl | hk
  · exact lt_of_at h.at_
  · obtain ⟨c2, h2⟩ := row_block h.row (mem_own.1 hk)
    exact lt_of_at h2

theorem MA.keep {w w' : World} {b : Nat} {v vL vR : Value} {K : List (Com × Value)} {G : Gr} (h : MA w b v vL vR K G)
    {S : List Nat} {Ts : List TypeId} (k : Kept S w w') (hS : ∀ i ∈ ownM b v, i ∉ S) (hT : Typed w S Ts) (h1 : 31 ∉ Ts) (h2 : 79 ∉ Ts) (h3 : 116 ∉ Ts) : MA w' b v vL vR K G :=
  ⟨k.at h.at_ (hS b (by simp [ownM])), k.ownsRow h.row (fun i hi => hS i (by simp [ownM, hi])), fun x hx => row_typed k hT (h.own x hx) h1, h.com, row_typed k hT h.lvs h2, row_typed k hT h.rfs h3⟩

theorem MA.kept {w w' : World} {b : Nat} {v vL vR : Value} {K : List (Com × Value)} {G : Gr} (h : MA w b v vL vR K G) (k : Kept [] w w') : MA w' b v vL vR K G :=
  h.keep k (by simp) (typed_nil w []) (by simp) (by simp) (by simp)

theorem MAt.keep {w w' : World} {b : Nat} {S' : List Nat} {G : Gr} (h : MAt w b S' G) {S : List Nat} {Ts : List TypeId} (k : Kept S w w') (hS : ∀ i ∈ S', i ∉ S) (hT : Typed w S Ts) (h1 : 31 ∉ Ts) (h2 : 79 ∉ Ts) (h3 : 116 ∉ Ts) : MAt w' b S' G := by
  obtain ⟨v, vL, vR, K, hG, hn, rfl⟩ := h
  exact ⟨v, vL, vR, K, hG.keep k hS hT h1 h2 h3, hn, rfl⟩

theorem MAt.kept {w w' : World} {b : Nat} {S : List Nat} {G : Gr} (h : MAt w b S G) (k : Kept [] w w') : MAt w' b S G :=
  h.keep k (by simp) (typed_nil w []) (by simp) (by simp) (by simp)

theorem MAt.typed {w : World} {b : Nat} {S : List Nat} {G : Gr} (h : MAt w b S G) : Typed w S [46, 54] := by
  obtain ⟨v, vL, vR, K, hG, hn, rfl⟩ := h; exact hG.typed

theorem MAt.lt {w : World} {b : Nat} {S : List Nat} {G : Gr} (h : MAt w b S G) : ∀ k ∈ S, k < w.heap.size := by
  obtain ⟨v, vL, vR, K, hG, hn, rfl⟩ := h; exact hG.lt

/-- A new one. -/
theorem MA.new (w : World) : MA (w.alloc (.cells #[.slice none 0 0, .slice none 0 0, .slice none 0 0] 46)) w.heap.size (.slice none 0 0) (.slice none 0 0) (.slice none 0 0) [] voidG :=
  ⟨heap_alloc_new w _, RowK.nil _ _, fun x hx => (by cases hx), rfl, World.ownsRow_nil _ _ _ _, World.ownsRow_nil _ _ _ _⟩

theorem MA.setRefs {w : World} {b : Nat} {v vL vR vR' : Value} {K : List (Com × Value)} {G : Gr} (h : MA w b v vL vR K G) {rs : List (List UInt8 × Int)} (hR : OwnM 0 w vR' rs) :
    MA (w.setCell ⟨b, 2, none⟩ vR') b v vL vR' K ⟨G.cs, G.ls, rs⟩ := by
  have hK2 : Kept [b] w (w.setCell ⟨b, 2, none⟩ vR') := (Kept.refl _ _).setCell (by simp) _
  have hT2 : Typed w [b] [46] := fun k hk cur t' mk hh => by
    simp at hk; subst hk; rw [h.at_] at hh; cases hh; simp
  exact ⟨heap_setCell_same w b 2 _ _ _ h.at_, row_typed hK2 hT2 h.row (by decide), fun y hy => row_typed hK2 hT2 (h.own y hy) (by decide), h.com, row_typed hK2 hT2 h.lvs (by decide), row_typed hK2 hT2 hR (by decide)⟩

theorem MA.setLeaves {w : World} {b : Nat} {v vL vL' vR : Value} {K : List (Com × Value)} {G : Gr} (h : MA w b v vL vR K G) {ls : List Lf} (hL : OwnL 0 w vL' ls) :
    MA (w.setCell ⟨b, 1, none⟩ vL') b v vL' vR K ⟨G.cs, ls, G.rs⟩ := by
  have hK2 : Kept [b] w (w.setCell ⟨b, 1, none⟩ vL') := (Kept.refl _ _).setCell (by simp) _
  have hT2 : Typed w [b] [46] := fun k hk cur t' mk hh => by
    simp at hk; subst hk; rw [h.at_] at hh; cases hh; simp
  exact ⟨heap_setCell_same w b 1 _ _ _ h.at_, row_typed hK2 hT2 h.row (by decide), fun y hy => row_typed hK2 hT2 (h.own y hy) (by decide), h.com, row_typed hK2 hT2 hL (by decide), row_typed hK2 hT2 h.rfs (by decide)⟩

/-- A commit more. -/
theorem MA.setRow {w : World} {b : Nat} {v vL vR : Value} {K : List (Com × Value)} {G : Gr} (h : MA w b v vL vR K G) {w' : World} {x : Com} {cv : Value} (hO : OwnC 0 w cv x.c) {g cap : Nat}
    (hR : RowK 0 w' (.slice (some ⟨g, 0, none⟩) (K.length + 1) cap) (K ++ [(x, cv)])) (hg : w.grownBy w' v.ownBlock) (hat : v.ownBlock = some g ∨ g = w.heap.size) :
    MA (w'.setCell ⟨b, 0, none⟩ (.slice (some ⟨g, 0, none⟩) (K.length + 1) cap)) b (.slice (some ⟨g, 0, none⟩) (K.length + 1) cap) vL vR (K ++ [(x, cv)]) ⟨G.cs ++ [x], G.ls, G.rs⟩ := by
  have hT : Typed w v.ownBlock.toList [54] := fun k hk cur t' mk hh => by
    obtain ⟨c2, h2⟩ := row_block h.row (mem_own.1 hk)
    rw [h2] at hh; cases hh; simp
  have hK : Kept v.ownBlock.toList w w' := (Kept.refl _ w).grown hg fun k hk => .inl (mem_own.2 hk)
  have hbv : b ∉ v.ownBlock.toList := fun hm => by have := hT b hm _ _ _ h.at_; simp at this
  have hb' := hK.at h.at_ hbv
  have hblt := lt_of_at h.at_
  have hgb : g ≠ b := fun e => by
    subst e
    rcases hat with hat | hat
    · exact hbv (mem_own.2 hat)
    · omega
  have hK2 : Kept [b] w' (w'.setCell ⟨b, 0, none⟩ (.slice (some ⟨g, 0, none⟩) (K.length + 1) cap)) := (Kept.refl _ _).setCell (by simp) _
  have hT2 : Typed w' [b] [46] := fun k hk cur t' mk hh => by
    simp at hk; subst hk; rw [hb'] at hh; cases hh; simp
  refine ⟨heap_setCell_same w' b 0 _ _ _ hb', hK2.ownsRow hR (fun k hk => by simp [Value.ownBlock] at hk; subst hk; simpa using hgb), ?_, by simp [h.com], row_typed hK2 hT2 (row_typed hK hT h.lvs (by decide)) (by decide), row_typed hK2 hT2 (row_typed hK hT h.rfs (by decide)) (by decide)⟩
  intro y hy
  have hy2 : OwnC 0 w y.2 y.1.c := by
    rcases List.mem_append.1 hy with hy | hy
    · exact h.own y hy
    · simp at hy; subst hy; exact hO
  exact row_typed hK2 hT2 (row_typed hK hT hy2 (by decide)) (by decide)

theorem filt_all {n : List UInt8} {l : List (List UInt8 × Int)} (h : ∀ x ∈ l, x.1 ≠ n) : l.filter (fun y => decide (y.1 ≠ n)) = l := by
  rw [List.filter_eq_self]
  intro x hx
  simpa using h x hx

/-- How far move has come: is it put; what is out. -/
def MvP (n : List UInt8) (r : Int) (l : List (List UInt8 × Int)) (i : Nat) (put : Bool) (out : List (List UInt8 × Int)) : Prop :=
  (put = false ∧ out ++ mvR n r (l.drop i) = mvR n r l) ∨ (put = true ∧ out ++ (l.drop i).filter (fun y => decide (y.1 ≠ n)) = mvR n r l)

theorem mv_lt {n : List UInt8} {r : Int} {l : List (List UInt8 × Int)} {i : Nat} (hi : i < l.length) {out : List (List UInt8 × Int)} (h : MvP n r l i false out) (hlt : l[i].1 < n) : MvP n r l (i + 1) false (out ++ [l[i]]) := by
  rcases h with ⟨_, h⟩ | ⟨h, _⟩
  · refine .inl ⟨rfl, ?_⟩
    rw [List.drop_eq_getElem_cons hi, mvR, if_pos hlt] at h
    rw [List.append_assoc]; exact h
  · cases h

theorem srR_drop {l : List (List UInt8 × Int)} (hs : SrR l) {i : Nat} (hi : i < l.length) : ∀ x ∈ l.drop (i + 1), l[i].1 < x.1 := by
  have h1 : SrR (l.drop i) := List.Pairwise.sublist (List.drop_sublist _ _) hs
  rw [List.drop_eq_getElem_cons hi] at h1
  exact (List.pairwise_cons.1 h1).1

theorem mv_eq {n : List UInt8} {r : Int} {l : List (List UInt8 × Int)} (hs : SrR l) {i : Nat} (hi : i < l.length) {out : List (List UInt8 × Int)} (h : MvP n r l i false out) (he : l[i].1 = n) : MvP n r l (i + 1) true (out ++ [(n, r)]) := by
  rcases h with ⟨_, h⟩ | ⟨h, _⟩
  · refine .inr ⟨rfl, ?_⟩
    rw [List.drop_eq_getElem_cons hi, mvR, if_neg (by rw [he]; exact List.lt_irrefl _), if_pos he] at h
    rw [filt_all (fun x hx e => by have := srR_drop hs hi x hx; rw [he, e] at this; exact List.lt_irrefl _ this), List.append_assoc]; exact h
  · cases h

theorem mv_gt {n : List UInt8} {r : Int} {l : List (List UInt8 × Int)} (hs : SrR l) {i : Nat} (hi : i < l.length) {out : List (List UInt8 × Int)} (h : MvP n r l i false out) (hlt : ¬ l[i].1 < n) (he : l[i].1 ≠ n) : MvP n r l (i + 1) true (out ++ [(n, r)] ++ [l[i]]) := by
  rcases h with ⟨_, h⟩ | ⟨h, _⟩
  · refine .inr ⟨rfl, ?_⟩
    rw [List.drop_eq_getElem_cons hi, mvR, if_neg hlt, if_neg he] at h
    rw [filt_all (fun x hx e => by have := srR_drop hs hi x hx; rw [e] at this; exact hlt this), List.append_assoc, List.append_assoc]; exact h
  · cases h

theorem mv_no {n : List UInt8} {r : Int} {l : List (List UInt8 × Int)} {i : Nat} (hi : i < l.length) {out : List (List UInt8 × Int)} (h : MvP n r l i true out) (he : l[i].1 = n) : MvP n r l (i + 1) true out := by
  rcases h with ⟨h, _⟩ | ⟨_, h⟩
  · cases h
  · refine .inr ⟨rfl, ?_⟩
    rw [List.drop_eq_getElem_cons hi, List.filter_cons_of_neg (by simpa using he)] at h
    exact h

theorem mv_on {n : List UInt8} {r : Int} {l : List (List UInt8 × Int)} {i : Nat} (hi : i < l.length) {out : List (List UInt8 × Int)} (h : MvP n r l i true out) (he : l[i].1 ≠ n) : MvP n r l (i + 1) true (out ++ [l[i]]) := by
  rcases h with ⟨h, _⟩ | ⟨_, h⟩
  · cases h
  · refine .inr ⟨rfl, ?_⟩
    rw [List.drop_eq_getElem_cons hi, List.filter_cons_of_pos (by simpa using he)] at h
    rw [List.append_assoc]; exact h

theorem less_ltM : ∀ {a b : List UInt8}, Op.bytesLess a b = decide (a < b)
  | [], [] => by simp [Op.bytesLess]
  | [], _ :: _ => by simp [Op.bytesLess]
  | _ :: _, [] => by simp [Op.bytesLess]
  | x :: a, y :: b => by
    have ih := @less_ltM a b
    simp only [Op.bytesLess, ih, List.cons_lt_cons_iff]
    by_cases h1 : x < y
    · simp [h1]
    · by_cases h2 : x = y <;> simp [h1, h2]

theorem less_strM (a b : List UInt8) : Op.bytesLess (str a).toList (str b).toList = decide (a < b) := by rw [str_toList, str_toList, less_ltM]

end Go.Proofs.YtfoghemiaidnhaaGreat
