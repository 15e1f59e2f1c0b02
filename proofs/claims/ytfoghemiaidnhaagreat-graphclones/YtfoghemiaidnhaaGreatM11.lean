/-
  Texts of this claim that are laid as one: GrMo1, GrMo2, GrMo3, GrMo4.
-/
import Derived.Test.YtfoghemiaidnhaaGreatM9
import Derived.Test.YtfoghemiaidnhaaGreatGrRefs
import Derived.Test.YtfoghemiaidnhaaGreatM13
import Derived.Laws.Cover1
import Derived.Handy
import Derived.Test.YtfoghemiaidnhaaGreatM14
import Derived.Test.YtfoghemiaidnhaaGreatM6
import Derived.Test.YtfoghemiaidnhaaGreatGrRead
import Derived.Deep.CutRange
import Derived.Deep.AppendLies
/-
  The document's own graph in memory; move.
-/
namespace Go.Proofs.YtfoghemiaidnhaaGreat
open Go.RowKit

/-- A row of the document's refs that is owned. -/
def OwnM (B : Nat) (w : World) (v : Value) (l : List (List UInt8 × Int)) : Prop := w.ownsRow B 116 2 v l.length (l.flatMap rfC)

theorem info_refM : (Tryz.prog.info? 116).map (fun i => (i.zero, i.size, i.bytes)) = some (some (.agg #[.string ⟨#[]⟩, .int .i64 0]), 2, 24) := by kernel_rfl

theorem wp_appM {w : World} {ops : Array Oper} {rest : List Oper} {o : Oper} {a : Act} {Q : Exit → Act → World → Prop} (hgd : o.guard = none) (s x : Operand)
    (hop : o.op = .call { callee := .builtin .append, args := #[s, x], argTypes := #[44, 44] })
    (B : Nat) (v : Value) (l : List (List UInt8 × Int)) (hs : a.eval s = v) (hO : OwnM B w v l) (g : Nat) (y : List UInt8 × Int) (hx : a.eval x = .slice (some ⟨g, 0, none⟩) 1 1) (hc : w.heap[g]? = some (.cells #[.string (str y.1), .int .i64 y.2] 116 (0, 0)))
    (hlen : l.length ≤ 1000000000) (hB : B ≤ w.heap.size)
    (h : ∀ v' w', OwnM B w' v' (l ++ [y]) → w.grownBy w' v.ownBlock → wpList Tryz.prog ops Q rest (a.put o.dst v') w') : wpList Tryz.prog ops Q (o :: rest) a w := by
  obtain ⟨i0, hi, hz0, hz1, hz2⟩ := info_parts info_refM
  refine wpList_append_own w hgd s x 44 hop B 116 i0 (.agg #[.string ⟨#[]⟩, .int .i64 0]) 2 24 Tryz.underlying44 hi hz0 hz1 hz2 rfl (by decide) v l.length (l.flatMap rfC) hs hO ⟨g, 0, none⟩ 1 1 (rfC y) hx rfl (World.news_of_block hc) ?_ (by unfold maxLen; omega) (by omega) hB ?_
  · intro u hu; simp [rfC] at hu; rcases hu with rfl | rfl <;> rfl
  · intro v' w' h1 h2 _
    refine h v' w' ?_ h2
    unfold OwnM
    rw [List.length_append, List.flatMap_append]
    simpa using h1

theorem rfC_getM (L : List (List UInt8 × Int)) (i : Nat) (h : i < L.length) (j : Nat) (hj : j < 2) : (L.flatMap rfC)[i * 2 + j]? = (rfC L[i])[j]? := by
  induction L generalizing i with
  | nil => simp at h
  | cons x L ih =>
    cases i with
    | zero => simp only [List.flatMap_cons, Nat.zero_mul, Nat.zero_add, List.getElem_cons_zero]; rw [List.getElem?_append_left (by simp [rfC]; omega)]
    | succ i =>
      simp only [List.flatMap_cons, List.getElem_cons_succ]
      rw [List.getElem?_append_right (by simp [rfC]; omega)]
      rw [← ih i (by simpa using h)]
      congr 1
      simp [rfC]; omega

/-- Such a row is read. -/
theorem OwnM.at {B : Nat} {w : World} {v : Value} {l : List (List UInt8 × Int)} (h : OwnM B w v l) : ∃ ao c, v = .slice ao l.length c ∧ l.length ≤ c ∧ c ≤ maxLen ∧ ∀ i (hi : i < l.length), ∃ g, ao = some ⟨g, 0, none⟩ ∧ w.cell? ⟨g, i * 2, none⟩ = some (.string (str l[i].1)) ∧ w.cell? ⟨g, i * 2 + 1, none⟩ = some (.int .i64 l[i].2) := by
  have h' := h
  obtain ⟨h1, h2⟩ := h
  rcases h2 with ⟨hv, hn⟩ | ⟨g, cap, cur, hv, hg, hh, h3, h4, h5, h6⟩
  · exact ⟨none, 0, by rw [hv, hn], by omega, Nat.zero_le _, fun i hi => by omega⟩
  · refine ⟨_, cap, hv, h3, h4, fun i hi => ⟨g, rfl, ?_⟩⟩
    have hc : ∀ j, j < 2 → w.cell? ⟨g, i * 2 + j, none⟩ = (rfC l[i])[j]? := fun j hj => by
      have := World.ownsRow.cellAt (w := w) (base := B) (e := 116) (size := 2) (n := l.length) (cap := cap) (g := g) (xs := l.flatMap rfC) (by rw [← hv]; exact h') (i * 2 + j) (by omega)
      rw [this, rfC_getM l i hi j hj]
    exact ⟨hc 0 (by omega), hc 1 (by omega)⟩

/-- The document's graph, by its parts. -/
structure MA (w : World) (b : Nat) (v vL vR : Value) (K : List (Com × Value)) (G : Gr) : Prop where
  at_ : w.heap[b]? = some (.cells #[v, vL, vR] 46 (0, 0))
  row : RowK 0 w v K
  own : OwnK 0 w K
  com : K.map Prod.fst = G.cs
  lvs : OwnL 0 w vL G.ls
  rfs : OwnM 0 w vR G.rs

/-- Its own blocks. -/
def ownM (b : Nat) (v : Value) : List Nat := b :: v.ownBlock.toList

def MAt (w : World) (b : Nat) (S : List Nat) (G : Gr) : Prop := ∃ v vL vR K, MA w b v vL vR K G ∧ NilV G.ls vL ∧ S = ownM b v

theorem MA.typed {w : World} {b : Nat} {v vL vR : Value} {K : List (Com × Value)} {G : Gr} (h : MA w b v vL vR K G) : Typed w (ownM b v) [46, 54] := by
  intro k hk cur t' mk hh
  rcases List.mem_cons.1 hk with rfl | hk
  · rw [h.at_] at hh; cases hh; simp
  · obtain ⟨c2, h2⟩ := row_block h.row (mem_own.1 hk)
    rw [h2] at hh; cases hh; simp

theorem MA.lt {w : World} {b : Nat} {v vL vR : Value} {K : List (Com × Value)} {G : Gr} (h : MA w b v vL vR K G) : ∀ k ∈ ownM b v, k < w.heap.size := by
  intro k hk
  rcases List.mem_cons.1 hk with rfl | hk
  · exact lt_of_at h.at_
  · obtain ⟨c2, h2⟩ := row_block h.row (mem_own.1 hk)
    exact lt_of_at h2

theorem MA.keep {w w' : World} {b : Nat} {v vL vR : Value} {K : List (Com × Value)} {G : Gr} (h : MA w b v vL vR K G)
    {S : List Nat} {Ts : List TypeId} (k : Kept S w w') (hS : ∀ i ∈ ownM b v, i ∉ S) (hT : Typed w S Ts) (h1 : 31 ∉ Ts) (h2 : 79 ∉ Ts) (h3 : 116 ∉ Ts) : MA w' b v vL vR K G :=
  ⟨k.at h.at_ (hS b (by simp [ownM])), k.ownsRow h.row (fun i hi => hS i (by simp [ownM, hi])), fun x hx => row_typed k hT (h.own x hx) h1, h.com, row_typed k hT h.lvs h2, row_typed k hT h.rfs h3⟩

theorem MA.kept {w w' : World} {b : Nat} {v vL vR : Value} {K : List (Com × Value)} {G : Gr} (h : MA w b v vL vR K G) (k : Kept [] w w') : MA w' b v vL vR K G :=
  h.keep k (by simp) (typed_nil w []) (by simp) (by simp) (by simp)

theorem MAt.keep {w w' : World} {b : Nat} {S' : List Nat} {G : Gr} (h : MAt w b S' G) {S : List Nat} {Ts : List TypeId} (k : Kept S w w') (hS : ∀ i ∈ S', i ∉ S) (hT : Typed w S Ts) (h1 : 31 ∉ Ts) (h2 : 79 ∉ Ts) (h3 : 116 ∉ Ts) : MAt w' b S' G := by
  obtain ⟨v, vL, vR, K, hG, hn, rfl⟩ := h
  exact ⟨v, vL, vR, K, hG.keep k hS hT h1 h2 h3, hn, rfl⟩

theorem MAt.kept {w w' : World} {b : Nat} {S : List Nat} {G : Gr} (h : MAt w b S G) (k : Kept [] w w') : MAt w' b S G :=
  h.keep k (by simp) (typed_nil w []) (by simp) (by simp) (by simp)

theorem MAt.typed {w : World} {b : Nat} {S : List Nat} {G : Gr} (h : MAt w b S G) : Typed w S [46, 54] := by
  obtain ⟨v, vL, vR, K, hG, hn, rfl⟩ := h; exact hG.typed

theorem MAt.lt {w : World} {b : Nat} {S : List Nat} {G : Gr} (h : MAt w b S G) : ∀ k ∈ S, k < w.heap.size := by
  obtain ⟨v, vL, vR, K, hG, hn, rfl⟩ := h; exact hG.lt

/-- A new one. -/
theorem MA.new (w : World) : MA (w.alloc (.cells #[.slice none 0 0, .slice none 0 0, .slice none 0 0] 46)) w.heap.size (.slice none 0 0) (.slice none 0 0) (.slice none 0 0) [] voidG :=
  ⟨heap_alloc_new w _, RowK.nil _ _, fun x hx => (by cases hx), rfl, World.ownsRow_nil _ _ _ _, World.ownsRow_nil _ _ _ _⟩

theorem MA.setRefs {w : World} {b : Nat} {v vL vR vR' : Value} {K : List (Com × Value)} {G : Gr} (h : MA w b v vL vR K G) {rs : List (List UInt8 × Int)} (hR : OwnM 0 w vR' rs) :
    MA (w.setCell ⟨b, 2, none⟩ vR') b v vL vR' K ⟨G.cs, G.ls, rs⟩ := by
  have hK2 : Kept [b] w (w.setCell ⟨b, 2, none⟩ vR') := (Kept.refl _ _).setCell (by simp) _
  have hT2 : Typed w [b] [46] := fun k hk cur t' mk hh => by
    simp at hk; subst hk; rw [h.at_] at hh; cases hh; simp
  exact ⟨heap_setCell_same w b 2 _ _ _ h.at_, row_typed hK2 hT2 h.row (by decide), fun y hy => row_typed hK2 hT2 (h.own y hy) (by decide), h.com, row_typed hK2 hT2 h.lvs (by decide), row_typed hK2 hT2 hR (by decide)⟩

theorem MA.setLeaves {w : World} {b : Nat} {v vL vL' vR : Value} {K : List (Com × Value)} {G : Gr} (h : MA w b v vL vR K G) {ls : List Lf} (hL : OwnL 0 w vL' ls) :
    MA (w.setCell ⟨b, 1, none⟩ vL') b v vL' vR K ⟨G.cs, ls, G.rs⟩ := by
  have hK2 : Kept [b] w (w.setCell ⟨b, 1, none⟩ vL') := (Kept.refl _ _).setCell (by simp) _
  have hT2 : Typed w [b] [46] := fun k hk cur t' mk hh => by
    simp at hk; subst hk; rw [h.at_] at hh; cases hh; simp
  exact ⟨heap_setCell_same w b 1 _ _ _ h.at_, row_typed hK2 hT2 h.row (by decide), fun y hy => row_typed hK2 hT2 (h.own y hy) (by decide), h.com, row_typed hK2 hT2 hL (by decide), row_typed hK2 hT2 h.rfs (by decide)⟩

/-- A commit more. -/
theorem MA.setRow {w : World} {b : Nat} {v vL vR : Value} {K : List (Com × Value)} {G : Gr} (h : MA w b v vL vR K G) {w' : World} {x : Com} {cv : Value} (hO : OwnC 0 w cv x.c) {g cap : Nat}
    (hR : RowK 0 w' (.slice (some ⟨g, 0, none⟩) (K.length + 1) cap) (K ++ [(x, cv)])) (hg : w.grownBy w' v.ownBlock) (hat : v.ownBlock = some g ∨ g = w.heap.size) :
    MA (w'.setCell ⟨b, 0, none⟩ (.slice (some ⟨g, 0, none⟩) (K.length + 1) cap)) b (.slice (some ⟨g, 0, none⟩) (K.length + 1) cap) vL vR (K ++ [(x, cv)]) ⟨G.cs ++ [x], G.ls, G.rs⟩ := by
  have hT : Typed w v.ownBlock.toList [54] := fun k hk cur t' mk hh => by
    obtain ⟨c2, h2⟩ := row_block h.row (mem_own.1 hk)
    rw [h2] at hh; cases hh; simp
  have hK : Kept v.ownBlock.toList w w' := (Kept.refl _ w).grown hg fun k hk => .inl (mem_own.2 hk)
  have hbv : b ∉ v.ownBlock.toList := fun hm => by have := hT b hm _ _ _ h.at_; simp at this
  have hb' := hK.at h.at_ hbv
  have hblt := lt_of_at h.at_
  have hgb : g ≠ b := fun e => by
    subst e
    rcases hat with hat | hat
    · exact hbv (mem_own.2 hat)
    · omega
  have hK2 : Kept [b] w' (w'.setCell ⟨b, 0, none⟩ (.slice (some ⟨g, 0, none⟩) (K.length + 1) cap)) := (Kept.refl _ _).setCell (by simp) _
  have hT2 : Typed w' [b] [46] := fun k hk cur t' mk hh => by
    simp at hk; subst hk; rw [hb'] at hh; cases hh; simp
  refine ⟨heap_setCell_same w' b 0 _ _ _ hb', hK2.ownsRow hR (fun k hk => by simp [Value.ownBlock] at hk; subst hk; simpa using hgb), ?_, by simp [h.com], row_typed hK2 hT2 (row_typed hK hT h.lvs (by decide)) (by decide), row_typed hK2 hT2 (row_typed hK hT h.rfs (by decide)) (by decide)⟩
  intro y hy
  have hy2 : OwnC 0 w y.2 y.1.c := by
    rcases List.mem_append.1 hy with hy | hy
    · exact h.own y hy
    · simp at hy; subst hy; exact hO
  exact row_typed hK2 hT2 (row_typed hK hT hy2 (by decide)) (by decide)

theorem filt_all {n : List UInt8} {l : List (List UInt8 × Int)} (h : ∀ x ∈ l, x.1 ≠ n) : l.filter (fun y => decide (y.1 ≠ n)) = l := by
  rw [List.filter_eq_self]
  intro x hx
  simpa using h x hx

/-- How far move has come: is it put; what is out. -/
def MvP (n : List UInt8) (r : Int) (l : List (List UInt8 × Int)) (i : Nat) (put : Bool) (out : List (List UInt8 × Int)) : Prop :=
  (put = false ∧ out ++ mvR n r (l.drop i) = mvR n r l) ∨ (put = true ∧ out ++ (l.drop i).filter (fun y => decide (y.1 ≠ n)) = mvR n r l)

theorem mv_lt {n : List UInt8} {r : Int} {l : List (List UInt8 × Int)} {i : Nat} (hi : i < l.length) {out : List (List UInt8 × Int)} (h : MvP n r l i false out) (hlt : l[i].1 < n) : MvP n r l (i + 1) false (out ++ [l[i]]) := by
  rcases h with ⟨_, h⟩ | ⟨h, _⟩
  · refine .inl ⟨rfl, ?_⟩
    rw [List.drop_eq_getElem_cons hi, mvR, if_pos hlt] at h
    rw [List.append_assoc]; exact h
  · cases h

theorem srR_drop {l : List (List UInt8 × Int)} (hs : SrR l) {i : Nat} (hi : i < l.length) : ∀ x ∈ l.drop (i + 1), l[i].1 < x.1 := by
  have h1 : SrR (l.drop i) := List.Pairwise.sublist (List.drop_sublist _ _) hs
  rw [List.drop_eq_getElem_cons hi] at h1
  exact (List.pairwise_cons.1 h1).1

theorem mv_eq {n : List UInt8} {r : Int} {l : List (List UInt8 × Int)} (hs : SrR l) {i : Nat} (hi : i < l.length) {out : List (List UInt8 × Int)} (h : MvP n r l i false out) (he : l[i].1 = n) : MvP n r l (i + 1) true (out ++ [(n, r)]) := by
  rcases h with ⟨_, h⟩ | ⟨h, _⟩
  · refine .inr ⟨rfl, ?_⟩
    rw [List.drop_eq_getElem_cons hi, mvR, if_neg (by rw [he]; exact List.lt_irrefl _), if_pos he] at h
    rw [filt_all (fun x hx e => by have := srR_drop hs hi x hx; rw [he, e] at this; exact List.lt_irrefl _ this), List.append_assoc]; exact h
  · cases h

theorem mv_gt {n : List UInt8} {r : Int} {l : List (List UInt8 × Int)} (hs : SrR l) {i : Nat} (hi : i < l.length) {out : List (List UInt8 × Int)} (h : MvP n r l i false out) (hlt : ¬ l[i].1 < n) (he : l[i].1 ≠ n) : MvP n r l (i + 1) true (out ++ [(n, r)] ++ [l[i]]) := by
  rcases h with ⟨_, h⟩ | ⟨h, _⟩
  · refine .inr ⟨rfl, ?_⟩
    rw [List.drop_eq_getElem_cons hi, mvR, if_neg hlt, if_neg he] at h
    rw [filt_all (fun x hx e => by have := srR_drop hs hi x hx; rw [e] at this; exact hlt this), List.append_assoc, List.append_assoc]; exact h
  · cases h

theorem mv_no {n : List UInt8} {r : Int} {l : List (List UInt8 × Int)} {i : Nat} (hi : i < l.length) {out : List (List UInt8 × Int)} (h : MvP n r l i true out) (he : l[i].1 = n) : MvP n r l (i + 1) true out := by
  rcases h with ⟨h, _⟩ | ⟨_, h⟩
  · cases h
  · refine .inr ⟨rfl, ?_⟩
    rw [List.drop_eq_getElem_cons hi, List.filter_cons_of_neg (by simpa using he)] at h
    exact h

theorem mv_on {n : List UInt8} {r : Int} {l : List (List UInt8 × Int)} {i : Nat} (hi : i < l.length) {out : List (List UInt8 × Int)} (h : MvP n r l i true out) (he : l[i].1 ≠ n) : MvP n r l (i + 1) true (out ++ [l[i]]) := by
  rcases h with ⟨h, _⟩ | ⟨_, h⟩
  · cases h
  · refine .inr ⟨rfl, ?_⟩
    rw [List.drop_eq_getElem_cons hi, List.filter_cons_of_pos (by simpa using he)] at h
    rw [List.append_assoc]; exact h

theorem less_ltM : ∀ {a b : List UInt8}, Op.bytesLess a b = decide (a < b)
  | [], [] => by simp [Op.bytesLess]
  | [], _ :: _ => by simp [Op.bytesLess]
  | _ :: _, [] => by simp [Op.bytesLess]
  | x :: a, y :: b => by
    have ih := @less_ltM a b
    simp only [Op.bytesLess, ih, List.cons_lt_cons_iff]
    by_cases h1 : x < y
    · simp [h1]
    · by_cases h2 : x = y <;> simp [h1, h2]

theorem less_strM (a b : List UInt8) : Op.bytesLess (str a).toList (str b).toList = decide (a < b) := by rw [str_toList, str_toList, less_ltM]

end Go.Proofs.YtfoghemiaidnhaaGreat

/-
  The document's own graph: move, the walk.
-/
namespace Go.Proofs.YtfoghemiaidnhaaGreat
open Go.RowKit

theorem OwnM.mono {B C : Nat} {w : World} {v : Value} {l : List (List UInt8 × Int)} (h : OwnM C w v l) (hB : B ≤ C) : OwnM B w v l := by
  obtain ⟨h1, h2⟩ := h
  exact ⟨h1, h2.imp id fun ⟨g, cap, cur, hv, hg, r⟩ => ⟨g, cap, cur, hv, Nat.le_trans hB hg, r⟩⟩

def MvI (w : World) (n : List UInt8) (r : Int) (l : List (List UInt8 × Int)) (ov pv iv : Value) (wr : World) : Prop :=
  ∃ (i : Nat) (out : List (List UInt8 × Int)) (put : Bool), iv = .int .i64 (i : Int) ∧ pv = .bool put ∧ i ≤ l.length ∧ Hid (MvP n r l i put out) ∧ Hid (out.length ≤ 2 * i) ∧ Hid (OwnM w.heap.size wr ov out) ∧ Hid (Kept [] w wr)

/-- What is behind move. -/
def MvE (w : World) (b : Nat) (v vL : Value) (K : List (Com × Value)) (G : Gr) (w' : World) : Prop := ∃ vR, MA w' b v vL vR K G ∧ Kept [b] w w'

theorem mv_end {w wr : World} {b : Nat} {v vL vR : Value} {K : List (Com × Value)} {G : Gr} (h : MA w b v vL vR K G) {ov : Value} {rs : List (List UInt8 × Int)} (hK : Kept [] w wr) (hO : OwnM w.heap.size wr ov rs) : Hid (MvE w b v vL K ⟨G.cs, G.ls, rs⟩ (wr.setCell ⟨b, 2, none⟩ ov)) :=
  ⟨ov, (h.kept hK).setRefs (OwnM.mono hO (Nat.zero_le _)), (hK.mono (by simp)).setCell (.inl (by simp)) _⟩

set_option maxHeartbeats 8000000 in
set_option maxRecDepth 100000 in
theorem move_call {w : World} {b : Nat} {v vL vR : Value} {K : List (Com × Value)} {G : Gr} (h : MA w b v vL vR K G) (n : List UInt8) (r : Int) (hs : SrR G.rs) (hl : G.rs.length ≤ 1000000) :
    Calls Tryz.prog 43 #[.pointer (some ⟨b, 0, none⟩), .string (str n), .int .i64 r] w fun e w' => e = .returned (.tuple #[]) ∧ MvE w b v vL K ⟨G.cs, G.ls, mvR n r G.rs⟩ w' := by
  obtain ⟨ao, c, rfl, hc, hm, hat⟩ := h.rfs.at
  unfold maxLen at hm
  have HAt : Hid (∀ i (hi : i < G.rs.length), ∃ g, ao = some ⟨g, 0, none⟩ ∧ w.cell? ⟨g, i * 2, none⟩ = some (.string (str G.rs[i].1)) ∧ w.cell? ⟨g, i * 2 + 1, none⟩ = some (.int .i64 G.rs[i].2)) := hat
  have HM : Hid (MA w b v vL (.slice ao G.rs.length c) K G) := h
  have HS : Hid (SrR G.rs) := hs
  obtain ⟨rn, hrn⟩ : ∃ rn : Nat, rn = G.rs.length := ⟨_, rfl⟩
  have HRn : Hid (rn = G.rs.length) := hrn
  rw [← hrn] at hc hl
  clear hat h hs hrn
  go_enter Tryz.func43, Tryz.ntmps43
  go_wp2_with fail
  go_loopw [6, 7, 8] (fun ov pv iv wr => MvI w n r G.rs ov pv iv wr) (fun _ _ iv _ => rn - (intOf iv).toNat)
  case atStart => exact ⟨0, [], false, rfl, rfl, Nat.zero_le _, .inl ⟨rfl, rfl⟩, Nat.zero_le _, World.ownsRow_nil _ _ _ _, Kept.refl _ _⟩
  case round =>
    obtain ⟨i, out, put, rfl, rfl, hi, HP, HL, HO, HK⟩ := hrel
    have hsz := HK.out.size
    obtain ⟨c0, c1, c2⟩ := cells3 (HM.out.kept HK.out).at_
    rw [← HRn.out] at c2
    have HO2 := fun ob => World.ownsRow.alloc HO.out ob
    have hlen : out.length ≤ 1000000000 := by have := HL.out; have := HRn.out; omega
    have HKa := fun ob => HK.out.alloc ob
    by_cases hlt : i < rn
    · have hlt' : (i : Int) < rn := by omega
      have hic : i ≤ c := by omega
      have hir : i < G.rs.length := by rw [← HRn.out]; exact hlt
      obtain ⟨g, rfl, d0, d1⟩ := HAt.out i hir
      have e0 := HK.out.cell d0 (by simp)
      have e1 := HK.out.cell d1 (by simp)
      have E0 : Hid (w.cell? ⟨g, i * 2, none⟩ = some (.string (str G.rs[i].1))) := d0
      have E1 : Hid (w.cell? ⟨g, i * 2 + 1, none⟩ = some (.int .i64 G.rs[i].2)) := d1
      clear d0 d1
      obtain ⟨y, hy⟩ : ∃ y, y = G.rs[i] := ⟨_, rfl⟩
      rw [← hy] at e0 e1 E0 E1
      cases put with
      | false =>
        by_cases hlt1 : y.1 < n
        · have hb1 : Op.bytesLess (str y.1).toList (str n).toList = true := by rw [less_strM]; simpa using hlt1
          have hb2 : ((str y.1).toList == (str n).toList) = false := by rw [str_eqC]; simp; intro e; rw [e] at hlt1; exact List.lt_irrefl _ hlt1
          have HN : Hid (MvP n r G.rs (i + 1) false (out ++ [y])) := by rw [hy]; exact mv_lt hir HP.out (by rw [← hy]; exact hlt1)
          clear hlt1 hy
          go_wp2_with (at_builtin; refine wp_appM rfl _ _ rfl w.heap.size _ out rfl (HO2 _) wr.heap.size y rfl (heap_alloc_new _ _) hlen (by simp; omega) ?a1)
          case a1 =>
            intro v2 w2 hO2 hg2
            have HF : Hid (MvI w n r G.rs v2 (.bool false) (.int .i64 ((i + 1 : Nat) : Int)) w2) := ⟨i + 1, _, false, rfl, rfl, by omega, HN, (by have := HL.out; show _ ≤ _; simp; omega), hO2, (HKa (.cells #[.string (str y.1), .int .i64 y.2] 116)).grown hg2 (fun k hk => .inr (World.ownsRow.lt (HO2 (.cells #[.string (str y.1), .int .i64 y.2] 116)) k hk).1)⟩
            clear hO2 hg2
            go_wp2_with fail
            go_roundw
            case rel => exact HF.out
            case measure => simp [intOf]; omega
        · have hb1 : Op.bytesLess (str y.1).toList (str n).toList = false := by rw [less_strM]; simpa using hlt1
          by_cases he : y.1 = n
          · have hb2 : ((str y.1).toList == (str n).toList) = true := by rw [str_eqC]; simpa using he
            have HN : Hid (MvP n r G.rs (i + 1) true (out ++ [(n, r)])) := mv_eq HS.out hir HP.out (by rw [← hy]; exact he)
            clear hlt1 hy he
            go_wp2_with (at_builtin; refine wp_appM rfl _ _ rfl w.heap.size _ out rfl (HO2 _) wr.heap.size (n, r) rfl (heap_alloc_new _ _) hlen (by simp; omega) ?a2)
            case a2 =>
              intro v2 w2 hO2 hg2
              have hK2 := (HKa (.cells #[.string (str n), .int .i64 r] 116)).grown hg2 (fun k hk => .inr (World.ownsRow.lt (HO2 (.cells #[.string (str n), .int .i64 r] 116)) k hk).1)
              obtain ⟨m0, m1, m2⟩ := cells3 (HM.out.kept hK2).at_
              rw [← HRn.out] at m2
              have k0 := hK2.cell E0.out (by simp)
              have k1 := hK2.cell E1.out (by simp)
              have HF : Hid (MvI w n r G.rs v2 (.bool true) (.int .i64 ((i + 1 : Nat) : Int)) w2) := ⟨i + 1, _, true, rfl, rfl, by omega, HN, (by have := HL.out; show _ ≤ _; simp; omega), hO2, hK2⟩
              clear hO2 hg2 hK2
              go_wp2_with fail
              go_roundw
              case rel => exact HF.out
              case measure => simp [intOf]; omega
          · have hb2 : ((str y.1).toList == (str n).toList) = false := by rw [str_eqC]; simpa using he
            have HN : Hid (MvP n r G.rs (i + 1) true (out ++ [(n, r)] ++ [y])) := by rw [hy]; exact mv_gt HS.out hir HP.out (by rw [← hy]; exact hlt1) (by rw [← hy]; exact he)
            clear hlt1 hy he
            go_wp2_with (at_builtin; refine wp_appM rfl _ _ rfl w.heap.size _ out rfl (HO2 _) wr.heap.size (n, r) rfl (heap_alloc_new _ _) hlen (by simp; omega) ?a3)
            case a3 =>
              intro v2 w2 hO2 hg2
              have hK2 := (HKa (.cells #[.string (str n), .int .i64 r] 116)).grown hg2 (fun k hk => .inr (World.ownsRow.lt (HO2 (.cells #[.string (str n), .int .i64 r] 116)) k hk).1)
              obtain ⟨m0, m1, m2⟩ := cells3 (HM.out.kept hK2).at_
              rw [← HRn.out] at m2
              have k0 := hK2.cell E0.out (by simp)
              have k1 := hK2.cell E1.out (by simp)
              have HK2 : Hid (Kept [] w w2) := hK2
              have HO3 := fun ob => World.ownsRow.alloc hO2 ob
              have hlen3 : (out ++ [(n, r)]).length ≤ 1000000000 := by have := HL.out; have := HRn.out; simp; omega
              have hsz2 := hK2.size
              clear hg2 hK2 HO2 HKa
              go_wp2_with (at_builtin; refine wp_appM rfl _ _ rfl w.heap.size _ (out ++ [(n, r)]) rfl (HO3 _) w2.heap.size y rfl (heap_alloc_new _ _) hlen3 (by simp; omega) ?a4)
              case a4 =>
                intro v3 w3 hO4 hg4
                have HF : Hid (MvI w n r G.rs v3 (.bool true) (.int .i64 ((i + 1 : Nat) : Int)) w3) := ⟨i + 1, _, true, rfl, rfl, by omega, HN, (by have := HL.out; show _ ≤ _; simp; omega), (by show OwnM _ _ _ _; rw [List.append_assoc]; exact hO4), (HK2.out.alloc (.cells #[.string (str y.1), .int .i64 y.2] 116)).grown hg4 (fun k hk => .inr (World.ownsRow.lt (HO3 (.cells #[.string (str y.1), .int .i64 y.2] 116)) k hk).1)⟩
                clear hO4 hg4 HO3
                go_wp2_with fail
                go_roundw
                case rel => exact HF.out
                case measure => simp [intOf]; omega
      | true =>
        by_cases he : y.1 = n
        · have hb2 : ((str y.1).toList == (str n).toList) = true := by rw [str_eqC]; simpa using he
          have HN : Hid (MvP n r G.rs (i + 1) true out) := mv_no hir HP.out (by rw [← hy]; exact he)
          have HF : Hid (MvI w n r G.rs u6 (.bool true) (.int .i64 ((i + 1 : Nat) : Int)) wr) := ⟨i + 1, _, true, rfl, rfl, by omega, HN, (by have := HL.out; show _ ≤ _; omega), HO, HK⟩
          clear hy he
          go_wp2_with fail
          go_roundw
          case rel => exact HF.out
          case measure => simp [intOf]; omega
        · have hb2 : ((str y.1).toList == (str n).toList) = false := by rw [str_eqC]; simpa using he
          have HN : Hid (MvP n r G.rs (i + 1) true (out ++ [y])) := by rw [hy]; exact mv_on hir HP.out (by rw [← hy]; exact he)
          clear hy he
          go_wp2_with (at_builtin; refine wp_appM rfl _ _ rfl w.heap.size _ out rfl (HO2 _) wr.heap.size y rfl (heap_alloc_new _ _) hlen (by simp; omega) ?a5)
          case a5 =>
            intro v2 w2 hO2 hg2
            have HF : Hid (MvI w n r G.rs v2 (.bool true) (.int .i64 ((i + 1 : Nat) : Int)) w2) := ⟨i + 1, _, true, rfl, rfl, by omega, HN, (by have := HL.out; show _ ≤ _; simp; omega), hO2, (HKa (.cells #[.string (str y.1), .int .i64 y.2] 116)).grown hg2 (fun k hk => .inr (World.ownsRow.lt (HO2 (.cells #[.string (str y.1), .int .i64 y.2] 116)) k hk).1)⟩
            clear hO2 hg2
            go_wp2_with fail
            go_roundw
            case rel => exact HF.out
            case measure => simp [intOf]; omega
    · have hlt' : ¬ (i : Int) < rn := by omega
      have hdr : G.rs.drop i = [] := List.drop_eq_nil_of_le (by rw [← HRn.out]; omega)
      cases put with
      | true =>
        have HE : Hid (out = mvR n r G.rs) := by
          have := HP.out
          rcases this with ⟨h, _⟩ | ⟨_, h⟩
          · cases h
          · rw [hdr] at h; show _ = _; simpa using h
        obtain ⟨ao6, c6, he6, _⟩ := HO.out.at
        have HF := mv_end HM.out HK.out HO.out
        rw [HE.out] at HF
        have f2 := froz3 (HM.out.kept HK.out).at_ 2
        subst he6
        clear HO2 HKa hdr
        go_wp2_with fail
        go_returns
        exact ⟨rfl, HF.out⟩
      | false =>
        have HE : Hid (out ++ [(n, r)] = mvR n r G.rs) := by
          have := HP.out
          rcases this with ⟨_, h⟩ | ⟨h, _⟩
          · rw [hdr] at h; exact h
          · cases h
        clear hdr
        go_wp2_with (at_builtin; refine wp_appM rfl _ _ rfl w.heap.size _ out rfl (HO2 _) wr.heap.size (n, r) rfl (heap_alloc_new _ _) hlen (by simp; omega) ?a6)
        case a6 =>
          intro v2 w2 hO2 hg2
          have hK2 := (HKa (.cells #[.string (str n), .int .i64 r] 116)).grown hg2 (fun k hk => .inr (World.ownsRow.lt (HO2 (.cells #[.string (str n), .int .i64 r] 116)) k hk).1)
          obtain ⟨m0, m1, m2⟩ := cells3 (HM.out.kept hK2).at_
          have f2 := froz3 (HM.out.kept hK2).at_ 2
          have HF := mv_end HM.out hK2 hO2
          rw [HE.out] at HF
          obtain ⟨ao6, c6, he6, _⟩ := OwnM.at hO2
          obtain ⟨n6, hn6⟩ : ∃ n6, n6 = (out ++ [(n, r)]).length := ⟨_, rfl⟩
          rw [← hn6] at he6
          subst he6
          clear hn6
          clear hO2 hg2 hK2 HO2 HKa
          go_wp2_with fail
          go_returns
          exact ⟨rfl, HF.out⟩

end Go.Proofs.YtfoghemiaidnhaaGreat

/-
  The document's own graph: Land.
-/
namespace Go.Proofs.YtfoghemiaidnhaaGreat
open Go.RowKit

/-- What is behind a landing. -/
def MLand (w : World) (b : Nat) (S : List Nat) (G : Gr) (w' : World) : Prop := ∃ S', MAt w' b S' G ∧ Kept S w w' ∧ ∀ k ∈ S', k ∈ S ∨ w.heap.size ≤ k

theorem mland_end {w w2 w3 : World} {b : Nat} {v vL vR : Value} {K : List (Com × Value)} {G : Gr} {vs : Array Value} (h : MA w2 b v vL vR K G) (hnl : NilV G.ls vL) {S : List Nat} (hS : ∀ k ∈ S, k < w.heap.size) (hv : ∀ k ∈ ownM b v, k ∈ S ∨ w.heap.size < k)
    (hB : w2.heap[w.heap.size]? = some (.cells vs 28 (0, 0))) (hK2 : Kept S w w2) (hK3 : Kept [w.heap.size] w2 w3) : MLand w b S G w3 := by
  have hT : Typed w2 [w.heap.size] [28] := fun k hk cur t' mk hh => by
    simp at hk; subst hk; rw [hB] at hh; cases hh; simp
  refine ⟨ownM b v, ⟨v, vL, vR, K, h.keep hK3 (fun i hi hm => ?_) hT (by decide) (by decide) (by decide), hnl, rfl⟩, hK2.trans hK3 (by simp), fun k hk => ?_⟩
  · simp at hm; subst hm
    rcases hv _ hi with h1 | h1
    · have := hS _ h1; omega
    · omega
  · rcases hv k hk with h1 | h1
    · exact .inl h1
    · exact .inr (by omega)

theorem leaf_box0 {w w1 : World} {v0 v1 v2 v3 : Value} {t : TypeId} (h : Kept [] (w.alloc (.cells #[v0, v1, v2, v3] t)).drew w1) :
    w1.cell? ⟨w.heap.size, 0, none⟩ = some v0 ∧ w1.cell? ⟨w.heap.size, 1, none⟩ = some v1 ∧ w1.cell? ⟨w.heap.size, 2, none⟩ = some v2 ∧ w1.cell? ⟨w.heap.size, 3, none⟩ = some v3 ∧
    w1.frozen? ⟨w.heap.size, 0, none⟩ = false ∧ w1.frozen? ⟨w.heap.size, 1, none⟩ = false ∧ w1.frozen? ⟨w.heap.size, 2, none⟩ = false ∧ w1.frozen? ⟨w.heap.size, 3, none⟩ = false ∧ Hid (w1.heap[w.heap.size]? = some (.cells #[v0, v1, v2, v3] t (0, 0))) := by
  have h2 : w1.heap[w.heap.size]? = some (.cells #[v0, v1, v2, v3] t (0, 0)) := h.at (heap_alloc_new w _) (by simp)
  obtain ⟨m0, m1, m2, m3⟩ := cells4 h2
  exact ⟨m0, m1, m2, m3, frozen_in h2 0, frozen_in h2 1, frozen_in h2 2, frozen_in h2 3, h2⟩

theorem lt_of_heap {w : World} {k : Nat} {o : Obj} (h : w.heap[k]? = some o) : k < w.heap.size := by
  by_cases hl : k < w.heap.size
  · exact hl
  · rw [Array.getElem?_eq_none (by omega)] at h; cases h

/-- append of one commit. -/
theorem wp_appK1 {w : World} {ops : Array Oper} {rest : List Oper} {o : Oper} {a : Act} {Q : Exit → Act → World → Prop} (hgd : o.guard = none) (s x : Operand)
    (hop : o.op = .call { callee := .builtin .append, args := #[s, x], argTypes := #[26, 26] })
    (v : Value) (K : List (Com × Value)) (hs : a.eval s = v) (hO : RowK 0 w v K) (g : Nat) (y : Com × Value) (hx : a.eval x = .slice (some ⟨g, 0, none⟩) 1 1) (hc : w.heap[g]? = some (.cells #[.int .i64 y.1.r, .int .i64 y.1.b, .string (str y.1.n), y.2] 54 (0, 0)))
    (h1 : y.2.oneCell' = true) (hlen : K.length ≤ 1000000000)
    (h : ∀ g cap w', RowK 0 w' (.slice (some ⟨g, 0, none⟩) (K.length + 1) cap) (K ++ [y]) → w.grownBy w' v.ownBlock → (v.ownBlock = some g ∨ g = w.heap.size) → g < w'.heap.size → wpList Tryz.prog ops Q rest (a.put o.dst (.slice (some ⟨g, 0, none⟩) (K.length + 1) cap)) w') : wpList Tryz.prog ops Q (o :: rest) a w := by
  obtain ⟨i0, hi, hz0, hz1, hz2⟩ := info_parts info_commit
  refine wpList_append_lies w hgd s x 26 hop 0 54 i0 (.agg #[.int .i64 0, .int .i64 0, .string ⟨#[]⟩, .slice none 0 0]) 4 56 Tryz.underlying26 hi hz0 hz1 hz2 rfl (by decide) v K.length (K.flatMap coC) hs hO ⟨g, 0, none⟩ 1 1 (coC y) hx rfl (World.news_of_block hc) ?_ (by decide) (by unfold maxLen; omega) (by omega) (Nat.zero_le _) _ rfl ?_
  · intro u hu; simp [coC] at hu; rcases hu with rfl | rfl | rfl | rfl <;> first | rfl | exact h1
  · intro g' cap w' h2 h3 h4 h5
    refine h g' cap w' ?_ h3 h4 h5
    unfold RowK
    rw [List.length_append, List.flatMap_append]
    simpa using h2

theorem mset_off {w : World} {b g o : Nat} {v u0 u1 u2 u3 u4 u5 u6 : Value} (hne : g ≠ b) (h : w.cell? ⟨g, o, none⟩ = some v) : (set7w w b u0 u1 u2 u3 u4 u5 u6).drew.cell? ⟨g, o, none⟩ = some v :=
  (set7_kept (Kept.refl [b] w) (.inl (by simp)) u0 u1 u2 u3 u4 u5 u6).drew.cell h (by simpa using hne)

theorem drewM_at {w : World} {k : Nat} {o : Option Obj} (h : w.heap[k]? = o) : w.drew.heap[k]? = o := h

theorem mset_at {w : World} {b : Nat} {v0 v1 v2 v3 v4 v5 v6 : Value} {t : TypeId} (h : w.heap[b]? = some (.cells #[v0, v1, v2, v3, v4, v5, v6] t (0, 0))) (u0 u1 u2 u3 u4 u5 u6 : Value) :
    Hid ((set7w w b u0 u1 u2 u3 u4 u5 u6).drew.heap[b]? = some (.cells #[u0, u1, u2, u3, u4, u5, u6] t (0, 0))) := drewM_at (set7 h u0 u1 u2 u3 u4 u5 u6)

theorem MA.grown {w : World} {b : Nat} {v vL vR : Value} {K : List (Com × Value)} {G : Gr} (h : MA w b v vL vR K G) {w' : World} (hg : w.grownBy w' v.ownBlock) : w'.heap[b]? = some (.cells #[v, vL, vR] 46 (0, 0)) := by
  refine ((Kept.refl v.ownBlock.toList w).grown hg fun k hk => .inl (mem_own.2 hk)).at h.at_ fun hm => ?_
  obtain ⟨c2, h2⟩ := row_block h.row (mem_own.1 hm)
  rw [h.at_] at h2; cases h2

theorem madd_first {w wr w2 : World} {b : Nat} {v : Value} {o ob : Obj} {g n cap : Nat} (hS : ∀ k ∈ ownM b v, k < w.heap.size) (hK : Kept [] w wr) (hB : wr.heap[w.heap.size]? = some o) (hg : (wr.alloc ob).grownBy w2 v.ownBlock) (hat : v.ownBlock = some g ∨ g = (wr.alloc ob).heap.size) :
    Kept (ownM b v) w (w2.setCell ⟨b, 0, none⟩ (.slice (some ⟨g, 0, none⟩) n cap)) ∧ (∀ k ∈ ownM b (.slice (some ⟨g, 0, none⟩) n cap), k ∈ ownM b v ∨ w.heap.size < k) ∧
      (w2.setCell ⟨b, 0, none⟩ (.slice (some ⟨g, 0, none⟩) n cap)).heap[w.heap.size]? = some o := by
  have hlt := lt_of_heap hB
  refine ⟨(((hK.mono (by simp)).alloc _).grown hg (fun k hk => .inl (by simp [ownM, hk]))).setCell (.inl (by simp [ownM])) _, fun k hk => ?_, ?_⟩
  · rcases List.mem_cons.1 hk with rfl | hk
    · exact .inl (by simp [ownM])
    · simp [Value.ownBlock] at hk
      subst hk
      rcases hat with h | h
      · exact .inl (by simp [ownM, h])
      · refine .inr ?_
        rw [h, World.size_alloc]; omega
  · have hb := hS b (by simp [ownM])
    have h1 : (wr.alloc ob).heap[w.heap.size]? = some o := (Below.heap_alloc _ _ _ hlt).trans hB
    have h2 : w2.heap[w.heap.size]? = some o := ((Kept.refl v.ownBlock.toList _).grown hg fun k hk => .inl (mem_own.2 hk)).at h1 fun hm => by
      have := hS w.heap.size (by simp [ownM, mem_own.1 hm])
      omega
    exact (show Kept [b] w2 _ from (Kept.refl _ _).setCell (by simp) _).at h2 (by simp; omega)

/-- The walk's second half: the leaves, one behind the other. -/
def MLI (w : World) (b : Nat) (S : List Nat) (v vR : Value) (K : List (Com × Value)) (cs : List Com) (ls : List Lf) (rs : List (List UInt8 × Int)) (r : Int) (L : List Ch) (vs : Array Value) (iv : Value) (wr : World) : Prop :=
  ∃ (i : Nat) (vL : Value), iv = .int .i64 (i : Int) ∧ i ≤ L.length ∧ Hid (MA wr b v vL vR K ⟨cs, putC r ls (L.take i), rs⟩) ∧ Hid (NilV (putC r ls (L.take i)) vL) ∧ Hid (Kept S w wr) ∧ Hid (wr.heap[w.heap.size]? = some (.cells vs 28 (0, 0)))

end Go.Proofs.YtfoghemiaidnhaaGreat

/-
  The document's own graph: Land, the walk.
-/
namespace Go.Proofs.YtfoghemiaidnhaaGreat
open Go.RowKit

theorem mset7 {w2 : World} {w : World} {vs : Array Value} {v0 v1 v2 v3 v4 v5 v6 : Value} (_ : vs = #[v0, v1, v2, v3, v4, v5, v6]) (hB : w2.heap[w.heap.size]? = some (.cells vs 28 (0, 0))) (x : Vd) :
    (set7w w2 w.heap.size (.int .i64 x.c) (.int .i64 0) (.int .i64 x.r) (.string (str x.p)) (.int .u64 x.d) (.slice none 0 0) (.int .i64 0)).heap[w.heap.size]? = some (.cells (vdA x (.slice none 0 0)) 28 (0, 0)) := by
  subst vs
  exact set7 hB _ _ _ _ _ _ _

def UncJ (w : World) (ls : List Lf) (base : Int) (L : List Ch) (R : Option (List UInt8 × Int)) (kv : Value) (wr : World) : Prop :=
  ∃ k : Nat, kv = .int .i64 (k : Int) ∧ k ≤ L.length ∧ Hid (Kept [] w wr) ∧ Hid (confl ls base (L.drop k) = R)

set_option linter.unusedSimpArgs false in
set_option maxHeartbeats 16000000 in
set_option maxRecDepth 100000 in
theorem mland_call {w : World} {b : Nat} {v vL vR : Value} {K : List (Com × Value)} {G : Gr} (h : MA w b v vL vR K G) (hnl : NilV G.ls vL) (hW : Wf G) (hl : G.cs.length ≤ 10000)
    (base : Int) (n : List UInt8) (hn : n.length ≤ 1000000) (ao : Option Addr) (m c : Nat) (L : List Ch) (hS : SlC w ao m c L) (hm : m ≤ 1000000) (hp : ∀ x ∈ L, x.p.length ≤ 1000000000) :
    Calls Tryz.prog 14 #[.pointer (some ⟨b, 0, none⟩), .int .i64 base, .string (str n), .slice ao m c] w fun e w' => e = .returned (vdV (landV G base n L)) ∧ MLand w b (ownM b v) (landG G base n L) w' := by
  have hK1 : Kept [] w (w0L w) := (Kept.refl _ _).alloc _
  have HB : Hid ((w0L w).heap[w.heap.size]? = some (.cells #[.int .i64 0, .int .i64 0, .int .i64 0, .string ⟨#[]⟩, .int .u64 0, .slice none 0 0, .int .i64 0] 28 (0, 0))) := heap_alloc_new w _
  have cC := rcheck_call (w0L w) ao m c L (hS.kept hK1 (by simp)) hp
  have cN := fun W => rname_call n W (by omega)
  have HLt : Hid (∀ k ∈ ownM b v, k < w.heap.size) := h.lt
  have hkl : K.length = G.cs.length := by rw [← h.com]; simp
  have HM : Hid (MA w b v vL vR K G) := h
  have HNl : Hid (NilV G.ls vL) := hnl
  have HS : Hid (SlC w ao m c L) := hS
  have HP : Hid (∀ x ∈ L, x.p.length ≤ 1000000000) := hp
  have HW : Hid (Wf G) := hW
  obtain ⟨aoC, cpC, hvC, _, _⟩ := h.row.sl h.own
  obtain ⟨aoL, cpL, hvL, hsL⟩ := h.lvs.sl
  rw [hkl] at hvC
  obtain ⟨gl, hgl⟩ : ∃ gl : Nat, gl = G.cs.length := ⟨_, rfl⟩
  have HGl : Hid (gl = G.cs.length) := hgl
  obtain ⟨nl, hnll⟩ : ∃ nl : Nat, nl = G.ls.length := ⟨_, rfl⟩
  have HN2 : Hid (nl = G.ls.length) := hnll
  rw [← hgl] at hvC hl
  rw [← hnll] at hvL hsL
  have HSL : Hid (SlL w aoL nl cpL G.ls) := hsL
  have HVL : Hid (vL = .slice aoL nl cpL) := hvL
  have HVC : Hid (v = .slice aoC gl cpC) := hvC
  have HK1 : Hid (Kept [] w (w0L w)) := hK1
  clear h hnl hS hp hW hsL hkl hgl hnll hvL hvC hK1
  unfold w0L at *
  go_enter Tryz.func14, Tryz.ntmps14
  go_upto_region 1 with fail
  go_cut [30] from 15 to 30 (fun sv wx => sv = .bool (badB base n L) ∧ Kept [] (w.alloc (.cells #[.int .i64 0, .int .i64 0, .int .i64 0, .string ⟨#[]⟩, .int .u64 0, .slice none 0 0, .int .i64 0] 28)) wx)
  case first =>
    by_cases hz : errC L = 0
    · by_cases h0 : n = []
      · by_cases hlt : base < 0
        · have HE : Hid (badB base n L = true) := by simp [badB, hlt]; exact trivial
          rw [hz] at cC
          clear hz
          subst h0
          have hE := str_void
          go_wp2_with fail
          refine cC.mono ?_
          rintro _ w1 ⟨rfl, hK⟩
          go_wp2_with fail
          go_meet
          exact ⟨by rw [HE.out], hK⟩
        · have HE : Hid (badB base n L = false) := by show _ = _; simp [badB, hlt, hz, h0]
          rw [hz] at cC
          clear hz
          subst h0
          have hE := str_void
          go_wp2_with fail
          refine cC.mono ?_
          rintro _ w1 ⟨rfl, hK⟩
          go_wp2_with fail
          go_meet
          exact ⟨by rw [HE.out, decide_eq_false (by omega)], hK⟩
      · have hE := str_ne_void h0
        cases hw : wordB false n with
        | false =>
          have HE : Hid (badB base n L = true) := by show _ = _; simp [badB, hw, h0]
          rw [hz] at cC
          rw [hw] at cN
          clear hz
          go_wp2_with fail
          refine cC.mono ?_
          rintro _ w1 ⟨rfl, hK⟩
          go_wp2_with fail
          refine (cN _).mono ?_
          rintro _ W ⟨rfl, hW0⟩
          obtain rfl := hW0.symm
          go_wp2_with fail
          go_meet
          exact ⟨by rw [HE.out], hK⟩
        | true =>
          rw [hz] at cC
          rw [hw] at cN
          by_cases hlt : base < 0
          · have HE : Hid (badB base n L = true) := by show _ = _; simp [badB, hlt]
            clear hz
            go_wp2_with fail
            refine cC.mono ?_
            rintro _ w1 ⟨rfl, hK⟩
            go_wp2_with fail
            refine (cN _).mono ?_
            rintro _ W ⟨rfl, hW0⟩
            obtain rfl := hW0.symm
            go_wp2_with fail
            go_meet
            exact ⟨by rw [HE.out], hK⟩
          · have HE : Hid (badB base n L = false) := by show _ = _; simp [badB, hlt, hz, hw]
            clear hz
            go_wp2_with fail
            refine cC.mono ?_
            rintro _ w1 ⟨rfl, hK⟩
            go_wp2_with fail
            refine (cN _).mono ?_
            rintro _ W ⟨rfl, hW0⟩
            obtain rfl := hW0.symm
            go_wp2_with fail
            go_meet
            exact ⟨by rw [HE.out, decide_eq_false (by omega)], hK⟩
    · have HE : Hid (badB base n L = true) := by show _ = _; simp [badB, hz]
      have hz1 : errC L = 1 := by
        by_cases hk : CheckOK L
        · exact absurd (errC_ok hk) hz
        · exact errC_bad hk
      rw [hz1] at cC
      clear hz hz1
      go_wp2_with fail
      refine cC.mono ?_
      rintro _ w1 ⟨rfl, hK⟩
      go_wp2_with fail
      go_meet
      exact ⟨by rw [HE.out], hK⟩
  case rest =>
    obtain ⟨rfl, hKc⟩ := hcut
    have hBc := hKc.at HB.out (by simp)
    have HKw : Hid (Kept [] w wc) := HK1.out.trans hKc (by simp)
    have hMc := HM.out.kept HKw.out
    obtain ⟨c0, c1, c2⟩ := cells3 hMc.at_
    rw [HVC.out] at c0
    rw [HVL.out] at c1
    have HMc : Hid (MA wc b v vL vR K G) := hMc
    have HBc : Hid (wc.heap[w.heap.size]? = some (.cells #[.int .i64 0, .int .i64 0, .int .i64 0, .string ⟨#[]⟩, .int .u64 0, .slice none 0 0, .int .i64 0] 28 (0, 0))) := hBc
    clear cC cN hKc hMc
    cases hbad : badB base n L with
    | true =>
      obtain ⟨hv, hg⟩ := landV_some (G := G) (endV_bad hbad)
      have HV : Hid (landV G base n L = ⟨5, 0, [], 0⟩) := hv
      have HGe : Hid (landG G base n L = G) := hg
      obtain ⟨r0, r1, r2, r3, r4, r5, r6⟩ := cells7 hBc
      have f0 := frozen_in hBc 0
      have f1 := frozen_in hBc 1
      have f2 := frozen_in hBc 2
      have f3 := frozen_in hBc 3
      have f4 := frozen_in hBc 4
      have f5 := frozen_in hBc 5
      have f6 := frozen_in hBc 6
      clear hv hg hbad hBc
      go_wp2_with fail
      refine bodyPost_ret (vd_result (by rfl) _ (by rfl) (set7 HBc.out _ _ _ _ _ _ _) rfl) rfl ?_
      rw [HV.out, HGe.out]
      exact ⟨rfl, mland_end HMc.out HNl.out HLt.out (fun k hk => .inl hk) HBc.out (HKw.out.mono (by simp)) (set7_kept (Kept.refl _ _) (.inl (by simp)) _ _ _ _ _ _ _)⟩
    | false =>
      obtain ⟨hchk, hnm, hb0⟩ := badB_false hbad
      by_cases hah : (gl : Int) < base
      · obtain ⟨hv, hg⟩ := landV_some (G := G) (endV_ahead hbad (by rw [← HGl.out]; exact hah))
        have HV : Hid (landV G base n L = ⟨4, gl, [], 0⟩) := by rw [HGl.out]; exact hv
        have HGe : Hid (landG G base n L = G) := hg
        obtain ⟨r0, r1, r2, r3, r4, r5, r6⟩ := cells7 hBc
        have f0 := frozen_in hBc 0
        have f1 := frozen_in hBc 1
        have f2 := frozen_in hBc 2
        have f3 := frozen_in hBc 3
        have f4 := frozen_in hBc 4
        have f5 := frozen_in hBc 5
        have f6 := frozen_in hBc 6
        clear hv hg hbad hBc hchk
        go_wp2_with fail
        refine bodyPost_ret (vd_result (by rfl) _ (by rfl) (set7 HBc.out _ _ _ _ _ _ _) rfl) rfl ?_
        rw [HV.out, HGe.out]
        exact ⟨rfl, mland_end HMc.out HNl.out HLt.out (fun k hk => .inl hk) HBc.out (HKw.out.mono (by simp)) (set7_kept (Kept.refl _ _) (.inl (by simp)) _ _ _ _ _ _ _)⟩
      · have hsc := sortC_check.2 hchk
        have hsp := check_short hsc
        have hs16 : (sortC L).length ≤ 16 := hsc.2.1
        have HPs : Hid (∀ x ∈ sortC L, x.p.length ≤ 64) := hsp
        have HAh : Hid (¬ (G.cs.length : Int) < base) := by rw [← HGl.out]; exact hah
        have HBad : Hid (badB base n L = false) := hbad
        have hah' : ¬ (gl : Int) < base := hah
        have cS := rsorted_call wc ao m c L (HS.out.kept HKw.out (by simp)) hm (fun x hx => by have := HP.out x hx; omega)
        clear hbad hBc hchk hsc hsp hnm hah
        go_wp2_with fail
        refine cS.mono ?_
        rintro _ w2 ⟨vS, rfl, hOs, hKs⟩
        obtain ⟨aoS, nS, cpS, rfl, hsS, _⟩ := hOs.chV
        have HKw2 : Hid (Kept [] w w2) := HKw.out.trans hKs (by simp)
        have HM2 : Hid (MA w2 b v vL vR K G) := HMc.out.kept hKs
        have HB2 : Hid (w2.heap[w.heap.size]? = some (.cells #[.int .i64 0, .int .i64 0, .int .i64 0, .string ⟨#[]⟩, .int .u64 0, .slice none 0 0, .int .i64 0] 28 (0, 0))) := hKs.at HBc.out (by simp)
        have HsS : Hid (SlC w2 aoS nS cpS (sortC L)) := hsS
        have HOs : Hid (OwnC 0 w2 (.slice aoS nS cpS) (sortC L)) := hOs.mono (Nat.zero_le _)
        have hnS := hsS.1
        have hcS := hsS.2.1
        have hmS := hsS.2.2.1
        unfold maxLen at hmS
        have HNS : Hid ((sortC L).length = nS) := hnS
        obtain ⟨R, hR⟩ : ∃ R, R = confl G.ls base (sortC L) := ⟨_, rfl⟩
        have HR : Hid (confl G.ls base (sortC L) = R) := hR.symm
        rw [hnS] at hs16
        clear cS hOs hKs hsS hnS hR c0 c1 c2 HMc HBc HKw
        go_wp2_with fail
        go_loopw [10] (fun kv wr => UncJ w2 G.ls base (sortC L) R kv wr) (fun kv _ => nS - (intOf kv).toNat)
        case atStart => exact ⟨0, rfl, Nat.zero_le _, Kept.refl _ _, HR.out⟩
        case round =>
          obtain ⟨k, rfl, hk, HK, HC⟩ := hrel
          have hMr := HM2.out.kept HK.out
          obtain ⟨c0, c1, c2⟩ := cells3 hMr.at_
          rw [HVC.out] at c0
          rw [HVL.out] at c1
          have hBr := HK.out.at HB2.out (by simp)
          have HMr : Hid (MA wr b v vL vR K G) := hMr
          have HBr : Hid (wr.heap[w.heap.size]? = some (.cells #[.int .i64 0, .int .i64 0, .int .i64 0, .string ⟨#[]⟩, .int .u64 0, .slice none 0 0, .int .i64 0] 28 (0, 0))) := hBr
          clear hMr hBr
          by_cases hlt : k < nS
          · have hlt' : (k : Int) < nS := by omega
            have hkc : k ≤ cpS := by omega
            have hks : k < (sortC L).length := by rw [HNS.out]; exact hlt
            obtain ⟨g, o, rfl, hx⟩ := HsS.out.2.2.2 k hks
            obtain ⟨d0, d1, d2⟩ := hx.kept HK.out (by simp)
            obtain ⟨x, hxe⟩ : ∃ x, x = (sortC L)[k] := ⟨_, rfl⟩
            have HX : Hid ((sortC L).drop k = x :: (sortC L).drop (k + 1)) := by rw [hxe]; exact List.drop_eq_getElem_cons hks
            have hxp : x.p.length ≤ 64 := by rw [hxe]; exact HPs.out _ (List.getElem_mem hks)
            rw [← hxe] at d0 d1 d2
            have D0 : Hid (w2.cell? ⟨g, o + k * 3, none⟩ = some (.string (str x.p))) := by rw [hxe]; exact hx.c0
            have cG := fun W (h : Kept [] wr W) => rget_call W aoL nl cpL G.ls (((HSL.out.kept HKw2.out).kept HK.out).kept h) HW.out.srt (fun y hy => by have := HW.out.path y hy; omega) x.p (by omega)
            have hfind := show findL x.p G.ls = G.ls.find? (fun y => decide (x.p = y.p)) from rfl
            obtain ⟨F, hF⟩ : ∃ F, F = findL x.p G.ls := ⟨_, rfl⟩
            rw [← hfind, ← hF] at cG
            obtain ⟨y0, y1, y2, y3, y4, hv⟩ := getL_form F
            have HV : Hid (tupL F = .tuple #[.agg #[.string y0, .int .u64 y1, .int .i64 y2, .bool y3], .bool y4]) := hv
            have HF : Hid (F = findL x.p G.ls) := hF
            rw [hv] at cG
            have hB1 : w2.heap.size ≤ wr.heap.size := HK.out.size
            have hbw : b < wr.heap.size := lt_of_at HMr.out.at_
            have hgw : g < wr.heap.size := by
              by_cases hl : g < wr.heap.size
              · exact hl
              · unfold World.cell? at d0; rw [show wr.heap[(⟨g, o + k * 3, none⟩ : Addr).block]? = none from Array.getElem?_eq_none (by show wr.heap.size ≤ g; omega)] at d0; simp at d0
            clear hx hxe hfind hF hv
            go_upto_region 9 with fail
            go_cut [11, 12] from 47 to 80 (fun s11 s12 wx => ∃ B : Nat, s11 = .pointer (some ⟨B, 0, none⟩) ∧ s12 = .bool y4 ∧ wx.cell? ⟨B, 2, none⟩ = some (.int .i64 y2) ∧ Hid (Kept [] w2 wx) ∧ Hid (w2.heap.size ≤ B))
            case first =>
              go_region_with (first
                | (go_at_call 41; refine (cG _ ?_).mono ?_; exact ((Kept.refl [] _).alloc _).drew; rintro e w1 ⟨rfl, hKb⟩; have hKb1 : Kept [] wr w1 := (((Kept.refl [] _).alloc _).drew).trans hKb (by simp); obtain ⟨m0, m1, m2, m3, n0, n1, n2, n3, hB0⟩ := leaf_box0 hKb)
                | (go_at_call 41; refine (cG _ ?_).mono ?_; exact (Kept.refl [] _).drew; rintro e w1 ⟨rfl, hKb⟩; have hKb1 : Kept [] wr w1 := ((Kept.refl [] _).drew).trans hKb (by simp)))
              all_goals go_wp2_with fail
              all_goals go_meet
              all_goals have hKw : Kept [] w2 w1 := HK.out.trans hKb1 (by simp)
              all_goals first
                | exact ⟨_, rfl, rfl, by simp, hKw.alloc _, hKw.size⟩
                | exact ⟨_, rfl, rfl, (cells4 (set4 hB0)).2.2.1, ((((hKw.setCell (.inr hB1) _).setCell (.inr hB1) _).setCell (.inr hB1) _).setCell (.inr hB1) _), hB1⟩
            case rest =>
              obtain ⟨B, rfl, rfl, r2b, HK2, HBsz⟩ := hcut
              have HG : Hid (g ≠ w.heap.size) := by
                intro e
                obtain ⟨c2', h2'⟩ := row_block HOs.out (k := g) rfl
                rw [e, HB2.out] at h2'
                cases h2'
              have HBn : Hid (B ≠ w.heap.size) := by have h1 := HBsz.out; have h2 := lt_of_heap HB2.out; intro e; omega
              clear HK c0 c1 c2 d0 d1 d2 cG HMr HBr
              cases F with
              | none =>
                obtain ⟨rfl, rfl⟩ : y2 = 0 ∧ y4 = false := by have := HV.out; simp [tupL] at this; obtain ⟨⟨_, _, h2, _⟩, h4⟩ := this; exact ⟨by first | exact h2 | exact h2.symm, by first | exact h4 | exact h4.symm⟩
                have HC2 : Hid (confl G.ls base ((sortC L).drop (k + 1)) = R) := by
                  have := HC.out; rw [HX.out, confl_miss HF.out.symm] at this; exact this
                go_wp2_with fail
                go_roundw
                case rel => exact ⟨k + 1, by go_num, by rw [HNS.out]; omega, HK2, HC2⟩
                case measure => simp [intOf]; omega
              | some y =>
                obtain ⟨rfl, rfl, rfl⟩ : y0 = str y.p ∧ y2 = y.r ∧ y4 = true := by have := HV.out; simp [tupL, lfV] at this; exact ⟨this.1.1.symm, this.1.2.2.1.symm, by first | exact this.2 | exact this.2.symm⟩
                by_cases hlt2 : base < y.r
                · have he : endV G base n L = some ⟨3, y.r, x.p, 0⟩ := by
                    have h1 := HC.out
                    rw [HX.out, confl_hit HF.out.symm hlt2] at h1
                    rw [endV_conf HBad.out (by have := HAh.out; omega), HR.out, ← h1]; rfl
                  obtain ⟨hv, hg⟩ := landV_some he
                  have HV2 : Hid (landV G base n L = ⟨3, y.r, x.p, 0⟩) := hv
                  have HGe : Hid (landG G base n L = G) := hg
                  have hBq := HK2.out.at HB2.out (by simp)
                  have x0 := HK2.out.cell D0.out (by simp)
                  have HNx := mset_at hBq (.int .i64 3) (.int .i64 0) (.int .i64 y.r) (.string (str x.p)) (.int .u64 0) (.slice none 0 0) (.int .i64 0)
                  have HS0 : Hid ((set7w wc w.heap.size (.int .i64 3) (.int .i64 0) (.int .i64 y.r) (.string (str x.p)) (.int .u64 0) (.slice none 0 0) (.int .i64 0)).drew.cell? ⟨g, o + k * 3, none⟩ = some (.string (str x.p))) := mset_off HG.out x0
                  have HS1 : Hid ((set7w wc w.heap.size (.int .i64 3) (.int .i64 0) (.int .i64 y.r) (.string (str x.p)) (.int .u64 0) (.slice none 0 0) (.int .i64 0)).drew.cell? ⟨B, 2, none⟩ = some (.int .i64 y.r)) := mset_off HBn.out r2b
                  have HEnd : Hid (MLand w b (ownM b v) G (set7w wc w.heap.size (.int .i64 3) (.int .i64 0) (.int .i64 y.r) (.string (str x.p)) (.int .u64 0) (.slice none 0 0) (.int .i64 0)).drew) :=
                    mland_end (HM2.out.kept HK2.out) HNl.out HLt.out (fun k hk => .inl hk) hBq ((HKw2.out.trans HK2.out (by simp)).mono (by simp)) (set7_kept (Kept.refl _ _) (.inl (by simp)) _ _ _ _ _ _ _).drew
                  obtain ⟨r0, r1, r2, r3, r4, r5, r6⟩ := cells7 hBq
                  have f0 := frozen_in hBq 0
                  have f1 := frozen_in hBq 1
                  have f2 := frozen_in hBq 2
                  have f3 := frozen_in hBq 3
                  have f4 := frozen_in hBq 4
                  have f5 := frozen_in hBq 5
                  have f6 := frozen_in hBq 6
                  clear he hv hg hBq
                  go_wp2_with fail
                  refine wp_region_held_drew (S := fun w' => w'.cell? ⟨g, o + k * 3, none⟩ = some (.string (str x.p)) ∧ w'.cell? ⟨B, 2, none⟩ = some (.int .i64 y.r)) (by kernel_rfl) ⟨x0, r2b⟩ (fun hHeld => ?_)
                  refine wpAnyH_take (i := 0) (v := ?_) rfl (by kernel_rfl) (by kernel_rfl) (by kernel_rfl) (fun _ _ _ h => h) (Or.inl ⟨by rfl, ?_⟩) hHeld ?_
                  rotate_left
                  · intro w9 hSw; (try dsimp only at hSw); go_simp; (try with_reducible rfl)
                  try simp only [Act.put, List.setIfInBounds_toArray, List.set_cons_zero, List.set_cons_succ]
                  refine wpAnyH_take (i := 1) (v := ?_) rfl (by kernel_rfl) (by kernel_rfl) (by kernel_rfl) (fun _ _ _ h => h) (Or.inl ⟨by rfl, ?_⟩) hHeld ?_
                  rotate_left
                  · intro w9 hSw; (try dsimp only at hSw); go_simp; (try with_reducible rfl)
                  try simp only [Act.put, List.setIfInBounds_toArray, List.set_cons_zero, List.set_cons_succ]
                  refine wpAnyH_take (i := 2) (v := ?_) rfl (by kernel_rfl) (by kernel_rfl) (by kernel_rfl) (fun _ _ _ h => h) (Or.inl ⟨by rfl, ?_⟩) hHeld ?_
                  rotate_left
                  · intro w9 hSw; (try dsimp only at hSw); go_simp; (try with_reducible rfl)
                  try simp only [Act.put, List.setIfInBounds_toArray, List.set_cons_zero, List.set_cons_succ]
                  refine wpAnyH_take (i := 3) (v := ?_) rfl (by kernel_rfl) (by kernel_rfl) (by kernel_rfl) (fun _ _ _ h => h) (Or.inl ⟨by rfl, ?_⟩) hHeld ?_
                  rotate_left
                  · intro w9 hSw; (try dsimp only at hSw); go_simp; (try with_reducible rfl)
                  try simp only [Act.put, List.setIfInBounds_toArray, List.set_cons_zero, List.set_cons_succ]
                  refine wpAnyH_take (i := 4) (v := ?_) rfl (by kernel_rfl) (by kernel_rfl) (by kernel_rfl) (fun _ _ _ h => h) (Or.inl ⟨by rfl, ?_⟩) hHeld ?_
                  rotate_left
                  · intro w9 hSw; (try dsimp only at hSw); go_simp; (try with_reducible rfl)
                  try simp only [Act.put, List.setIfInBounds_toArray, List.set_cons_zero, List.set_cons_succ]
                  refine wpAnyH_take (i := 5) (v := ?_) rfl (by kernel_rfl) (by kernel_rfl) (by kernel_rfl) (fun _ _ _ h => h) (Or.inl ⟨by rfl, ?_⟩) hHeld ?_
                  rotate_left
                  · intro w9 hSw; (try dsimp only at hSw); go_simp; (try with_reducible rfl)
                  try simp only [Act.put, List.setIfInBounds_toArray, List.set_cons_zero, List.set_cons_succ]
                  refine wpAnyH_take (i := 6) (v := ?_) rfl (by kernel_rfl) (by kernel_rfl) (by kernel_rfl) (fun _ _ _ h => h) (Or.inl ⟨by rfl, ?_⟩) hHeld ?_
                  rotate_left
                  · intro w9 hSw; (try dsimp only at hSw); go_simp; (try with_reducible rfl)
                  try simp only [Act.put, List.setIfInBounds_toArray, List.set_cons_zero, List.set_cons_succ]
                  refine wpAnyH_take (i := 7) (v := ?_) rfl (by kernel_rfl) (by kernel_rfl) (by kernel_rfl) (fun _ _ _ h => h) (Or.inl ⟨by rfl, ?_⟩) hHeld ?_
                  rotate_left
                  · intro w9 hSw; (try dsimp only at hSw); go_simp; (try with_reducible rfl)
                  try simp only [Act.put, List.setIfInBounds_toArray, List.set_cons_zero, List.set_cons_succ]
                  refine wpAnyH_ready (rs := [8]) (by kernel_rfl) (by simp) (AllReadyH.cons rfl (fun K0 hK0 => ?_) AllReadyH.nil)
                  go_simp
                  refine hK0.out _ _ ?_ (fun hHeld => ?_)
                  · exact And.intro HS0.out HS1.out
                  refine wpAnyH_done (by kernel_rfl) ?_ _
                  go_wp2_with fail
                  refine bodyPost_ret (vd_result (by rfl) _ (by rfl) HNx.out rfl) rfl ?_
                  rw [HV2.out, HGe.out]
                  exact ⟨rfl, HEnd.out⟩
                · have HC2 : Hid (confl G.ls base ((sortC L).drop (k + 1)) = R) := by
                    have := HC.out; rw [HX.out, confl_old HF.out.symm hlt2] at this; exact this
                  go_wp2_with fail
                  go_roundw
                  case rel => exact ⟨k + 1, by go_num, by rw [HNS.out]; omega, HK2, HC2⟩
                  case measure => simp [intOf]; omega
          · have hlt' : ¬ (k : Int) < nS := by omega
            have hRn : R = none := by have h1 := HC.out; rw [List.drop_eq_nil_of_le (by rw [HNS.out]; omega)] at h1; exact h1.symm
            have he : endV G base n L = none := by rw [endV_conf HBad.out (by have := HAh.out; omega), HR.out, hRn]; rfl
            obtain ⟨hv, hg⟩ := landV_none he
            have HV2 : Hid (landV G base n L = ⟨2, (gl : Int) + 1, [], 0⟩) := by rw [HGl.out]; exact hv
            have HGe : Hid (landG G base n L = addG G ⟨(gl : Int) + 1, base, n, sortC L⟩) := by rw [HGl.out]; exact hg
            have HOr : Hid (OwnC 0 wr (.slice aoS nS cpS) (sortC L)) := HOs.out.kept HK.out
            have HKr : Hid (Kept [] w wr) := HKw2.out.trans HK.out (by simp)
            have hvC := HVC.out
            subst hvC
            have HR2 := fun ob => World.ownsRow.alloc HMr.out.row ob
            have hklen : K.length ≤ 1000000000 := by have h1 := congrArg List.length HMr.out.com; simp at h1; have := HGl.out; omega
            have q1 : IntKind.i64.wrap ((gl : Int) + 1) = (gl : Int) + 1 := IntWalk.i64_in _ (by omega)
            have HQ : Hid (IntKind.i64.wrap ((gl : Int) + 1) = (gl : Int) + 1) := q1
            clear hRn he hv hg HC HR
            go_wp2_with (at_builtin; refine wp_appK1 rfl _ _ rfl _ K rfl (HR2 _) wr.heap.size (⟨(gl : Int) + 1, base, n, sortC L⟩, .slice aoS nS cpS) rfl (heap_alloc_new _ _) rfl hklen ?k1)
            case k1 =>
              intro g2 cap2 w3 hR3 hg3 hat3 hlt3
              replace hat3 : (Value.slice aoC gl cpC).ownBlock = some g2 ∨ g2 = (wr.alloc (.cells #[.int .i64 ((gl : Int) + 1), .int .i64 base, .string (str n), .slice aoS nS cpS] 54)).heap.size := by rw [World.size_alloc]; exact hat3
              have hMa := HMr.out.kept ((Kept.refl [] wr).alloc (.cells #[.int .i64 ((gl : Int) + 1), .int .i64 base, .string (str n), .slice aoS nS cpS] 54))
              have hG3 := hMa.grown hg3
              have hset := hMa.setRow (x := ⟨(gl : Int) + 1, base, n, sortC L⟩) (HOr.out.kept ((Kept.refl [] wr).alloc (.cells #[.int .i64 ((gl : Int) + 1), .int .i64 base, .string (str n), .slice aoS nS cpS] 54))) hR3 hg3 hat3
              have hfst := madd_first (n := K.length + 1) (cap := cap2) HLt.out HKr.out HBr.out hg3 hat3
              obtain ⟨k1, hk1⟩ : ∃ k1, k1 = K.length + 1 := ⟨_, rfl⟩
              rw [← hk1] at hset hfst ⊢
              have HSet : Hid (MA (w3.setCell ⟨b, 0, none⟩ (.slice (some ⟨g2, 0, none⟩) k1 cap2)) b (.slice (some ⟨g2, 0, none⟩) k1 cap2) vL vR (K ++ [(⟨(gl : Int) + 1, base, n, sortC L⟩, .slice aoS nS cpS)]) ⟨G.cs ++ [⟨(gl : Int) + 1, base, n, sortC L⟩], G.ls, G.rs⟩) := hset
              have HF1 : Hid (Kept (ownM b (.slice aoC gl cpC)) w (w3.setCell ⟨b, 0, none⟩ (.slice (some ⟨g2, 0, none⟩) k1 cap2))) := hfst.1
              have HF2 : Hid (∀ k ∈ ownM b (.slice (some ⟨g2, 0, none⟩) k1 cap2), k ∈ ownM b (.slice aoC gl cpC) ∨ w.heap.size < k) := hfst.2.1
              have HF3 : Hid ((w3.setCell ⟨b, 0, none⟩ (.slice (some ⟨g2, 0, none⟩) k1 cap2)).heap[w.heap.size]? = some (.cells #[.int .i64 0, .int .i64 0, .int .i64 0, .string ⟨#[]⟩, .int .u64 0, .slice none 0 0, .int .i64 0] 28 (0, 0))) := hfst.2.2
              obtain ⟨c30, c31, c32⟩ := cells3 hG3
              have f30 := froz3 hG3 0
              clear hMa hG3 hset hfst hk1 hR3 hg3 hat3 hlt3 HR2 c0 c1 c2 q1
              go_wp2_with fail
              go_loopw [14] (fun iv wr => MLI w b (ownM b (.slice aoC gl cpC)) (.slice (some ⟨g2, 0, none⟩) k1 cap2) vR (K ++ [(⟨(gl : Int) + 1, base, n, sortC L⟩, .slice aoS nS cpS)]) (G.cs ++ [⟨(gl : Int) + 1, base, n, sortC L⟩]) G.ls G.rs ((gl : Int) + 1) (sortC L) #[.int .i64 0, .int .i64 0, .int .i64 0, .string ⟨#[]⟩, .int .u64 0, .slice none 0 0, .int .i64 0] iv wr) (fun iv _ => nS - (intOf iv).toNat)
              case atStart => exact ⟨0, vL, rfl, Nat.zero_le _, HSet.out, HNl.out, HF1.out, HF3.out⟩
              case round =>
                obtain ⟨i, vLi, rfl, hi, HMi, HNi, HKi, HBi⟩ := hrel
                by_cases hlt3 : i < nS
                · have hlt3' : (i : Int) < nS := by omega
                  have hic : i ≤ cpS := by omega
                  have his : i < (sortC L).length := by rw [HNS.out]; exact hlt3
                  have hsr : SlC wr aoS nS cpS (sortC L) := (HMi.out.own (⟨(gl : Int) + 1, base, n, sortC L⟩, .slice aoS nS cpS) (by simp)).slice
                  have hrb := HMi.out.own (⟨(gl : Int) + 1, base, n, sortC L⟩, .slice aoS nS cpS) (by simp)
                  obtain ⟨g, o, rfl, hx⟩ := hsr.2.2.2 i his
                  have hgb : ¬ g = b := by
                    intro e
                    obtain ⟨c2', h2'⟩ := row_block hrb (k := g) rfl
                    rw [e, HMi.out.at_] at h2'
                    cases h2'
                  obtain ⟨y, hye⟩ : ∃ y, y = (sortC L)[i] := ⟨_, rfl⟩
                  rw [← hye] at hx
                  obtain ⟨e0, e1, e2⟩ := hx
                  have HY : Hid (y = (sortC L)[i]) := hye
                  have hyp : y.p.length ≤ 64 := by rw [hye]; exact HPs.out _ (List.getElem_mem his)
                  obtain ⟨aoI, cpI, hvI, hsI⟩ := HMi.out.lvs.sl
                  obtain ⟨lsi, hlsi⟩ : ∃ lsi, lsi = putC ((gl : Int) + 1) G.ls ((sortC L).take i) := ⟨_, rfl⟩
                  have HLs : Hid (lsi = putC ((gl : Int) + 1) G.ls ((sortC L).take i)) := hlsi
                  simp only at hvI hsI
                  rw [← hlsi] at hvI hsI HNi
                  have hNil : NilV lsi (.slice aoI lsi.length cpI) := by rw [← hvI]; exact HNi.out
                  have hll : lsi.length ≤ 1000000 := by
                    rw [hlsi]
                    have h2 := @putC_length ((gl : Int) + 1) ((sortC L).take i) G.ls
                    have h3 := List.length_take_le i (sortC L)
                    have h4 := HW.out.many
                    have h5 := HGl.out
                    have h6 := HNS.out
                    omega
                  have hlp : ∀ z ∈ lsi, z.p.length ≤ 64 := by
                    rw [hlsi]
                    exact putC_all (fun z => z.p.length ≤ 64) (fun z hz => HW.out.path z hz) (fun z hz => HPs.out z (List.mem_of_mem_take hz))
                  have cP := fun W (hk : Kept [] wr W) => rput_any W aoI lsi.length cpI lsi (hsI.kept hk) hNil hll (fun z hz => by have := hlp z hz; omega) ⟨y.p, y.d, (gl : Int) + 1, y.g⟩ (by simp only; omega)
                  simp only [lfV] at cP
                  obtain ⟨b0, b1, b2⟩ := cells3 HMi.out.at_
                  rw [hvI] at b1
                  have HN : Hid (∀ w4 vL4, Kept [] wr w4 → OwnL wr.heap.size w4 vL4 (ins ⟨y.p, y.d, (gl : Int) + 1, y.g⟩ lsi) → MLI w b (ownM b (.slice aoC gl cpC)) (.slice (some ⟨g2, 0, none⟩) k1 cap2) vR (K ++ [(⟨(gl : Int) + 1, base, n, sortC L⟩, .slice (some ⟨g, o, none⟩) nS cpS)]) (G.cs ++ [⟨(gl : Int) + 1, base, n, sortC L⟩]) G.ls G.rs ((gl : Int) + 1) (sortC L) #[.int .i64 0, .int .i64 0, .int .i64 0, .string ⟨#[]⟩, .int .u64 0, .slice none 0 0, .int .i64 0] (.int .i64 ((i + 1 : Nat) : Int)) (w4.setCell ⟨b, 1, none⟩ vL4)) := fun w4 vL4 hK4 hO4 => by
                    have hpt : putC ((gl : Int) + 1) G.ls ((sortC L).take (i + 1)) = ins ⟨y.p, y.d, (gl : Int) + 1, y.g⟩ lsi := by rw [putC_take his, ← HY.out, ← HLs.out]
                    refine ⟨i + 1, vL4, rfl, by omega, ?_, ?_, ?_, ?_⟩
                    · rw [hpt]
                      exact (HMi.out.kept hK4).setLeaves (hO4.mono (Nat.zero_le _))
                    · intro h0
                      rw [hpt] at h0
                      have h4 : ins ⟨y.p, y.d, (gl : Int) + 1, y.g⟩ lsi ≠ [] := by cases lsi <;> simp [ins] <;> (try split) <;> (try split) <;> simp
                      exact absurd h0 h4
                    · exact (HKi.out.trans hK4 (by simp)).setCell (.inl (by simp [ownM])) _
                    · have hb := HLt.out b (by simp [ownM])
                      exact (show Kept [b] w4 _ from (Kept.refl _ _).setCell (by simp) _).at (hK4.at HBi.out (by simp)) (by simp; omega)
                  have HMi2 : Hid (wr.heap[b]? = some (.cells #[.slice (some ⟨g2, 0, none⟩) k1 cap2, .slice aoI lsi.length cpI, vR] 46 (0, 0))) := by rw [← hvI]; exact HMi.out.at_
                  obtain ⟨nI, hnI⟩ : ∃ nI, nI = lsi.length := ⟨_, rfl⟩
                  rw [← hnI] at cP b1 HMi2
                  clear hye hsr hrb hvI hsI hNil hll hlp hlsi hnI
                  go_wp2_with fail
                  refine wp_region_held_drew (S := fun w' => w'.cell? ⟨g, o + i * 3, none⟩ = some (.string (str y.p)) ∧ w'.cell? ⟨g, o + i * 3 + 1, none⟩ = some (.bool y.g) ∧ w'.cell? ⟨g, o + i * 3 + 2, none⟩ = some (.int .u64 y.d)) (by kernel_rfl) ⟨e0, e1, e2⟩ (fun hHeld => ?_)
                  refine wpAnyH_take (i := 0) (v := ?_) rfl (by kernel_rfl) (by kernel_rfl) (by kernel_rfl) (fun _ _ _ h => h) (Or.inl ⟨by rfl, ?_⟩) hHeld ?_
                  rotate_left
                  · intro w9 hSw; (try dsimp only at hSw); go_simp; (try with_reducible rfl)
                  try simp only [Act.put, List.setIfInBounds_toArray, List.set_cons_zero, List.set_cons_succ]
                  refine wpAnyH_take (i := 1) (v := ?_) rfl (by kernel_rfl) (by kernel_rfl) (by kernel_rfl) (fun _ _ _ h => h) (Or.inl ⟨by rfl, ?_⟩) hHeld ?_
                  rotate_left
                  · intro w9 hSw; (try dsimp only at hSw); go_simp; (try with_reducible rfl)
                  try simp only [Act.put, List.setIfInBounds_toArray, List.set_cons_zero, List.set_cons_succ]
                  refine wpAnyH_take (i := 2) (v := ?_) rfl (by kernel_rfl) (by kernel_rfl) (by kernel_rfl) (fun _ _ _ h => h) (Or.inl ⟨by rfl, ?_⟩) hHeld ?_
                  rotate_left
                  · intro w9 hSw; (try dsimp only at hSw); go_simp; (try with_reducible rfl)
                  try simp only [Act.put, List.setIfInBounds_toArray, List.set_cons_zero, List.set_cons_succ]
                  refine wpAnyH_take (i := 3) (v := ?_) rfl (by kernel_rfl) (by kernel_rfl) (by kernel_rfl) (fun _ _ _ h => h) (Or.inl ⟨by rfl, ?_⟩) hHeld ?_
                  rotate_left
                  · intro w9 hSw; (try dsimp only at hSw); go_simp; (try with_reducible rfl)
                  try simp only [Act.put, List.setIfInBounds_toArray, List.set_cons_zero, List.set_cons_succ]
                  refine wpAnyH_take (i := 5) (v := ?_) rfl (by kernel_rfl) (by kernel_rfl) (by kernel_rfl) (fun _ _ _ h => h) (Or.inl ⟨by rfl, ?_⟩) hHeld ?_
                  rotate_left
                  · intro w9 hSw; (try dsimp only at hSw); go_simp; (try with_reducible rfl)
                  try simp only [Act.put, List.setIfInBounds_toArray, List.set_cons_zero, List.set_cons_succ]
                  refine wpAnyH_take (i := 6) (v := ?_) rfl (by kernel_rfl) (by kernel_rfl) (by kernel_rfl) (fun _ _ _ h => h) (Or.inl ⟨by rfl, ?_⟩) hHeld ?_
                  rotate_left
                  · intro w9 hSw; (try dsimp only at hSw); go_simp; (try with_reducible rfl)
                  try simp only [Act.put, List.setIfInBounds_toArray, List.set_cons_zero, List.set_cons_succ]
                  refine wpAnyH_take (i := 7) (v := ?_) rfl (by kernel_rfl) (by kernel_rfl) (by kernel_rfl) (fun _ _ _ h => h) (Or.inl ⟨by rfl, ?_⟩) hHeld ?_
                  rotate_left
                  · intro w9 hSw; (try dsimp only at hSw); go_simp; (try with_reducible rfl)
                  try simp only [Act.put, List.setIfInBounds_toArray, List.set_cons_zero, List.set_cons_succ]
                  refine wpAnyH_take (i := 8) (v := ?_) rfl (by kernel_rfl) (by kernel_rfl) (by kernel_rfl) (fun _ _ _ h => h) (Or.inl ⟨by rfl, ?_⟩) hHeld ?_
                  rotate_left
                  · intro w9 hSw; (try dsimp only at hSw); go_simp; (try with_reducible rfl)
                  try simp only [Act.put, List.setIfInBounds_toArray, List.set_cons_zero, List.set_cons_succ]
                  refine wpAnyH_take (i := 9) (v := ?_) rfl (by kernel_rfl) (by kernel_rfl) (by kernel_rfl) (fun _ _ _ h => h) (Or.inl ⟨by rfl, ?_⟩) hHeld ?_
                  rotate_left
                  · intro w9 hSw; (try dsimp only at hSw); go_simp; (try with_reducible rfl)
                  try simp only [Act.put, List.setIfInBounds_toArray, List.set_cons_zero, List.set_cons_succ]
                  refine wpAnyH_take (i := 10) (v := ?_) rfl (by kernel_rfl) (by kernel_rfl) (by kernel_rfl) (fun _ _ _ h => h) (Or.inl ⟨by rfl, ?_⟩) hHeld ?_
                  rotate_left
                  · intro w9 hSw; (try dsimp only at hSw); go_simp; (try with_reducible rfl)
                  try simp only [Act.put, List.setIfInBounds_toArray, List.set_cons_zero, List.set_cons_succ]
                  refine wpAnyH_take (i := 11) (v := ?_) rfl (by kernel_rfl) (by kernel_rfl) (by kernel_rfl) (fun _ _ _ h => h) (Or.inl ⟨by rfl, ?_⟩) hHeld ?_
                  rotate_left
                  · intro w9 hSw; (try dsimp only at hSw); go_simp; (try with_reducible rfl)
                  try simp only [Act.put, List.setIfInBounds_toArray, List.set_cons_zero, List.set_cons_succ]
                  refine wpAnyH_take (i := 12) (v := ?_) rfl (by kernel_rfl) (by kernel_rfl) (by kernel_rfl) (fun _ _ _ h => h) (Or.inl ⟨by rfl, ?_⟩) hHeld ?_
                  rotate_left
                  · intro w9 hSw; (try dsimp only at hSw); go_simp; (try with_reducible rfl)
                  try simp only [Act.put, List.setIfInBounds_toArray, List.set_cons_zero, List.set_cons_succ]
                  refine wpAnyH_take (i := 13) (v := ?_) rfl (by kernel_rfl) (by kernel_rfl) (by kernel_rfl) (fun _ _ _ h => h) (Or.inl ⟨by rfl, ?_⟩) hHeld ?_
                  rotate_left
                  · intro w9 hSw; (try dsimp only at hSw); go_simp; (try with_reducible rfl)
                  try simp only [Act.put, List.setIfInBounds_toArray, List.set_cons_zero, List.set_cons_succ]
                  refine wpAnyH_take (i := 14) (v := ?_) rfl (by kernel_rfl) (by kernel_rfl) (by kernel_rfl) (fun _ _ _ h => h) (Or.inl ⟨by rfl, ?_⟩) hHeld ?_
                  rotate_left
                  · intro w9 hSw; (try dsimp only at hSw); go_simp; (try with_reducible rfl)
                  try simp only [Act.put, List.setIfInBounds_toArray, List.set_cons_zero, List.set_cons_succ]
                  refine wpAnyH_take (i := 15) (v := ?_) rfl (by kernel_rfl) (by kernel_rfl) (by kernel_rfl) (fun _ _ _ h => h) (Or.inl ⟨by rfl, ?_⟩) hHeld ?_
                  rotate_left
                  · intro w9 hSw; (try dsimp only at hSw); go_simp; (try with_reducible rfl)
                  try simp only [Act.put, List.setIfInBounds_toArray, List.set_cons_zero, List.set_cons_succ]
                  refine wpAnyH_take (i := 16) (v := ?_) rfl (by kernel_rfl) (by kernel_rfl) (by kernel_rfl) (fun _ _ _ h => h) (Or.inl ⟨by rfl, ?_⟩) hHeld ?_
                  rotate_left
                  · intro w9 hSw; (try dsimp only at hSw); go_simp; (try with_reducible rfl)
                  try simp only [Act.put, List.setIfInBounds_toArray, List.set_cons_zero, List.set_cons_succ]
                  refine wpAnyH_take (i := 17) (v := ?_) rfl (by kernel_rfl) (by kernel_rfl) (by kernel_rfl) (fun _ _ _ h => h) (Or.inl ⟨by rfl, ?_⟩) hHeld ?_
                  rotate_left
                  · intro w9 hSw; (try dsimp only at hSw); go_simp; (try with_reducible rfl)
                  try simp only [Act.put, List.setIfInBounds_toArray, List.set_cons_zero, List.set_cons_succ]
                  refine wpAnyH_take (i := 18) (v := ?_) rfl (by kernel_rfl) (by kernel_rfl) (by kernel_rfl) (fun _ _ _ h => h) (Or.inl ⟨by rfl, ?_⟩) hHeld ?_
                  rotate_left
                  · intro w9 hSw; (try dsimp only at hSw); go_simp; (try with_reducible rfl)
                  try simp only [Act.put, List.setIfInBounds_toArray, List.set_cons_zero, List.set_cons_succ]
                  refine wpAnyH_take (i := 19) (v := ?_) rfl (by kernel_rfl) (by kernel_rfl) (by kernel_rfl) (fun _ _ _ h => h) (Or.inl ⟨by rfl, ?_⟩) hHeld ?_
                  rotate_left
                  · intro w9 hSw; (try dsimp only at hSw); go_simp; (try with_reducible rfl)
                  try simp only [Act.put, List.setIfInBounds_toArray, List.set_cons_zero, List.set_cons_succ]
                  refine wpAnyH_take (i := 20) (v := ?_) rfl (by kernel_rfl) (by kernel_rfl) (by kernel_rfl) (fun _ _ _ h => h) (Or.inl ⟨by rfl, ?_⟩) hHeld ?_
                  rotate_left
                  · intro w9 hSw; (try dsimp only at hSw); go_simp; (try with_reducible rfl)
                  try simp only [Act.put, List.setIfInBounds_toArray, List.set_cons_zero, List.set_cons_succ]
                  refine wpAnyH_take (i := 21) (v := ?_) rfl (by kernel_rfl) (by kernel_rfl) (by kernel_rfl) (fun _ _ _ h => h) (Or.inl ⟨by rfl, ?_⟩) hHeld ?_
                  rotate_left
                  · intro w9 hSw; (try dsimp only at hSw); go_simp; (try with_reducible rfl)
                  try simp only [Act.put, List.setIfInBounds_toArray, List.set_cons_zero, List.set_cons_succ]
                  refine wpAnyH_ready (rs := [4]) (by kernel_rfl) (by simp) (AllReadyH.cons rfl (fun K0 hK0 => ?_) AllReadyH.nil)
                  go_simp
                  refine hK0.out _ _ hHeld (fun hHeld => ?_)
                  clear hK0 K0
                  try simp only [Act.put, List.setIfInBounds_toArray, List.set_cons_zero, List.set_cons_succ]
                  refine wpAnyH_ready (rs := [22]) (by kernel_rfl) (by simp) (AllReadyH.cons rfl (fun K0 hK0 => ?_) AllReadyH.nil)
                  go_simp
                  refine (cP _ (Kept.refl [] _).drew).mono ?_
                  rintro e w4 ⟨ao4, cp4, rfl, hO4, hK4⟩
                  replace hK4 := (Kept.refl [] wr).drew.trans hK4 (by simp)
                  have hG4 := hK4.at HMi2.out (by simp)
                  obtain ⟨m0, m1, m2⟩ := cells3 hG4
                  have f4 := froz3 hG4 1
                  have HFin := HN.out w4 _ hK4 hO4
                  obtain ⟨n4, hn4⟩ : ∃ n4, n4 = (ins ⟨y.p, y.d, (gl : Int) + 1, y.g⟩ lsi).length := ⟨_, rfl⟩
                  rw [← hn4] at HFin ⊢
                  have HFin2 : Hid (MLI w b (ownM b (.slice aoC gl cpC)) (.slice (some ⟨g2, 0, none⟩) k1 cap2) vR (K ++ [(⟨(gl : Int) + 1, base, n, sortC L⟩, .slice (some ⟨g, o, none⟩) nS cpS)]) (G.cs ++ [⟨(gl : Int) + 1, base, n, sortC L⟩]) G.ls G.rs ((gl : Int) + 1) (sortC L) #[.int .i64 0, .int .i64 0, .int .i64 0, .string ⟨#[]⟩, .int .u64 0, .slice none 0 0, .int .i64 0] (.int .i64 ((i + 1 : Nat) : Int)) (w4.setCell ⟨b, 1, none⟩ (.slice ao4 n4 cp4))) := HFin
                  clear HFin hO4 hn4
                  go_wp2_with fail
                  refine hK0.out _ _ ⟨hK4.cell e0 (by simp), hK4.cell e1 (by simp), hK4.cell e2 (by simp)⟩ (fun hHeld => ?_)
                  clear hK0 K0
                  try simp only [Act.put, List.setIfInBounds_toArray, List.set_cons_zero, List.set_cons_succ]
                  refine wpAnyH_take (i := 23) (v := ?_) rfl (by kernel_rfl) (by kernel_rfl) (by kernel_rfl) (fun _ _ _ h => h) (Or.inl ⟨by rfl, ?_⟩) hHeld ?_
                  rotate_left
                  · intro w9 hSw; (try dsimp only at hSw); go_simp; (try with_reducible rfl)
                  try simp only [Act.put, List.setIfInBounds_toArray, List.set_cons_zero, List.set_cons_succ]
                  refine wpAnyH_take (i := 24) (v := ?_) rfl (by kernel_rfl) (by kernel_rfl) (by kernel_rfl) (fun _ _ _ h => h) (Or.inl ⟨by rfl, ?_⟩) hHeld ?_
                  rotate_left
                  · intro w9 hSw; (try dsimp only at hSw); go_simp; (try with_reducible rfl)
                  try simp only [Act.put, List.setIfInBounds_toArray, List.set_cons_zero, List.set_cons_succ]
                  refine wpAnyH_ready (rs := [25]) (by kernel_rfl) (by simp) (AllReadyH.cons rfl (fun K0 hK0 => ?_) AllReadyH.nil)
                  go_simp
                  have hK4b : Kept [b] wr (w4.setCell ⟨b, 1, none⟩ (.slice ao4 n4 cp4)) := (hK4.mono (by simp)).setCell (.inl (by simp)) _
                  refine hK0.out _ _ ⟨hK4b.cell e0 (by simpa using hgb), hK4b.cell e1 (by simpa using hgb), hK4b.cell e2 (by simpa using hgb)⟩ (fun hHeld => ?_)
                  refine wpAnyH_done (by kernel_rfl) ?_ _
                  all_goals go_wp2_with fail
                  all_goals go_roundw
                  all_goals first | exact HFin2.out | (simp [intOf]; omega)
                · have hlt3' : ¬ (i : Int) < nS := by omega
                  have hie : i = (sortC L).length := by rw [HNS.out]; have h1 := hi; rw [HNS.out] at h1; omega
                  have HMe : Hid (MA wr b (.slice (some ⟨g2, 0, none⟩) k1 cap2) vLi vR (K ++ [(⟨(gl : Int) + 1, base, n, sortC L⟩, .slice aoS nS cpS)]) ⟨G.cs ++ [⟨(gl : Int) + 1, base, n, sortC L⟩], putC ((gl : Int) + 1) G.ls (sortC L), G.rs⟩) := by
                    have := HMi.out; rw [hie, List.take_length] at this; exact this
                  have HNe : Hid (NilV (putC ((gl : Int) + 1) G.ls (sortC L)) vLi) := by
                    have := HNi.out; rw [hie, List.take_length] at this; exact this
                  clear hie HMi HNi
                  by_cases hnn : n = []
                  · have HE2 : Hid (addG G ⟨(gl : Int) + 1, base, n, sortC L⟩ = ⟨G.cs ++ [⟨(gl : Int) + 1, base, n, sortC L⟩], putC ((gl : Int) + 1) G.ls (sortC L), G.rs⟩) := by show addG G _ = _; unfold addG; simp only; rw [hnn]; rfl
                    subst hnn
                    have hE := str_void
                    have hBi := HBi.out
                    obtain ⟨r0, r1, r2, r3, r4, r5, r6⟩ := cells7 hBi
                    have f0 := frozen_in hBi 0
                    have f1 := frozen_in hBi 1
                    have f2 := frozen_in hBi 2
                    have f3 := frozen_in hBi 3
                    have f4 := frozen_in hBi 4
                    have f5 := frozen_in hBi 5
                    have f6 := frozen_in hBi 6
                    clear hBi
                    go_wp2_with fail
                    refine bodyPost_ret (vd_result (by rfl) _ (by rfl) (set7 HBi.out _ _ _ _ _ _ _) rfl) rfl ?_
                    rw [HV2.out, HGe.out, HE2.out]
                    exact ⟨rfl, mland_end HMe.out HNe.out HLt.out HF2.out HBi.out HKi.out (set7_kept (Kept.refl _ _) (.inl (by simp)) _ _ _ _ _ _ _)⟩
                  · have HE2 : Hid (addG G ⟨(gl : Int) + 1, base, n, sortC L⟩ = ⟨G.cs ++ [⟨(gl : Int) + 1, base, n, sortC L⟩], putC ((gl : Int) + 1) G.ls (sortC L), mvR n ((gl : Int) + 1) G.rs⟩) := by show addG G _ = _; unfold addG; rw [rsAdd_some hnn]
                    have hE := str_ne_void hnn
                    have cM := move_call HMe.out n ((gl : Int) + 1) HW.out.srs (by have h1 := HW.out.refs; have h2 := HGl.out; simp only; omega)
                    have HBn : Hid (b ≠ w.heap.size) := by have := HLt.out b (by simp [ownM]); intro e; omega
                    go_wp2_with fail
                    refine cM.mono ?_
                    rintro _ w5 ⟨rfl, vR5, hM5, hK5⟩
                    have HM5 : Hid (MA w5 b (.slice (some ⟨g2, 0, none⟩) k1 cap2) vLi vR5 (K ++ [(⟨(gl : Int) + 1, base, n, sortC L⟩, .slice aoS nS cpS)]) ⟨G.cs ++ [⟨(gl : Int) + 1, base, n, sortC L⟩], putC ((gl : Int) + 1) G.ls (sortC L), mvR n ((gl : Int) + 1) G.rs⟩) := hM5
                    have hB5 := hK5.at HBi.out (by simpa using fun e => HBn.out (Eq.symm e))
                    have HB5 : Hid (w5.heap[w.heap.size]? = some (.cells #[.int .i64 0, .int .i64 0, .int .i64 0, .string ⟨#[]⟩, .int .u64 0, .slice none 0 0, .int .i64 0] 28 (0, 0))) := hB5
                    have HK5 : Hid (Kept (ownM b (.slice aoC gl cpC)) w w5) := HKi.out.trans hK5 (fun k hk => by simp at hk; subst hk; exact .inl (by simp [ownM]))
                    obtain ⟨r0, r1, r2, r3, r4, r5, r6⟩ := cells7 hB5
                    have f0 := frozen_in hB5 0
                    have f1 := frozen_in hB5 1
                    have f2 := frozen_in hB5 2
                    have f3 := frozen_in hB5 3
                    have f4 := frozen_in hB5 4
                    have f5 := frozen_in hB5 5
                    have f6 := frozen_in hB5 6
                    clear hB5 hM5 hK5
                    go_wp2_with fail
                    refine bodyPost_ret (vd_result (by rfl) _ (by rfl) (set7 HB5.out _ _ _ _ _ _ _) rfl) rfl ?_
                    rw [HV2.out, HGe.out, HE2.out]
                    exact ⟨rfl, mland_end HM5.out HNe.out HLt.out HF2.out HB5.out HK5.out (set7_kept (Kept.refl _ _) (.inl (by simp)) _ _ _ _ _ _ _)⟩

end Go.Proofs.YtfoghemiaidnhaaGreat
