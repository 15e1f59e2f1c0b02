/-
  GraphReads: what it rests on.
-/
import Derived.Test.YtfoghemiaidnhaaGreatGrLog
import Derived.Test.YtfoghemiaidnhaaGreatGrRefs
import Derived.Test.YtfoghemiaidnhaaGreatM15
namespace Go.Proofs.YtfoghemiaidnhaaGreat
open Go.RowKit

/-- What a path reads as, by who changed it last. -/
def wantV (p : List UInt8) : Option Lf → Vd
  | some y => if y.g = true then ⟨10, 0, p, 0⟩ else ⟨9, y.r, p, y.d⟩
  | none => ⟨10, 0, p, 0⟩

theorem read_want {G : Gr} (h : Reach G) (p : List UInt8) : readV G p = ⟨5, 0, [], 0⟩ ∨ ((readV G p).c ≠ 5 ∧ readV G p = wantV p (lastC p G.cs)) := by
  unfold readV
  split
  · right
    rw [h.last]
    cases lastC p G.cs with
    | none => exact ⟨by simp, rfl⟩
    | some y =>
      simp only [wantV]
      split <;> simp
  · exact .inl rfl

/-- Where the last of these commits put a ref. -/
def refL (n : List UInt8) (cs : List Com) : Int := cs.foldl (fun o c => if c.n = n then c.r else o) 0

theorem refL_snoc (n : List UInt8) (cs : List Com) (c : Com) : refL n (cs ++ [c]) = if c.n = n then c.r else refL n cs := by simp [refL]

theorem refL_take {n : List UInt8} {cs : List Com} {k : Nat} (h : k < cs.length) : refL n (cs.take (k + 1)) = if cs[k].n = n then cs[k].r else refL n (cs.take k) := by
  rw [List.take_succ_eq_append_getElem h, refL_snoc]

theorem srR_one {l : List (List UInt8 × Int)} (h : SrR l) {x y : List UInt8 × Int} (hx : x ∈ l) (hy : y ∈ l) (e : x.1 = y.1) : x = y := by
  induction l with
  | nil => cases hx
  | cons a l ih =>
    obtain ⟨h1, h2⟩ := List.pairwise_cons.1 h
    rcases List.mem_cons.1 hx with hxe | hx2
    · rcases List.mem_cons.1 hy with hye | hy2
      · rw [hxe, hye]
      · have := h1 y hy2; rw [← hxe, e] at this; exact absurd this (List.lt_irrefl _)
    · rcases List.mem_cons.1 hy with hye | hy2
      · have := h1 x hx2; rw [← hye, e] at this; exact absurd this (List.lt_irrefl _)
      · exact ih h2 hx2 hy2

theorem mvR_self (n : List UInt8) (r : Int) (l : List (List UInt8 × Int)) : (n, r) ∈ mvR n r l := by
  induction l with
  | nil => simp [mvR]
  | cons y l ih =>
    simp only [mvR]
    split
    · exact List.mem_cons_of_mem _ ih
    split
    · simp
    · simp

theorem Reach.refs {G : Gr} (h : Reach G) : ∀ x ∈ G.rs, refL x.1 G.cs = x.2 := by
  induction h with
  | void => intro x hx; simp [voidG] at hx
  | @land G b n L hG ih =>
    cases he : endV G b n L with
    | some v => rw [(landV_some he).2]; exact ih
    | none =>
      rw [(landV_none he).2]
      intro x hx
      show refL x.1 (G.cs ++ [newC G b n L]) = x.2
      rw [refL_snoc]
      have hx' : x ∈ rsAdd n ((G.cs.length : Int) + 1) G.rs := hx
      cases n with
      | nil =>
        have hx2 : x ∈ G.rs := hx'
        have hne : ¬ (newC G b [] L).n = x.1 := fun e => by
          have := (hG.wf.name x hx2).1
          rw [← e] at this
          simp [newC] at this
        rw [if_neg hne]
        exact ih x hx2
      | cons c m =>
        have hx2 : x ∈ mvR (c :: m) ((G.cs.length : Int) + 1) G.rs := hx'
        by_cases e : x.1 = c :: m
        · have h1 : x = (c :: m, (G.cs.length : Int) + 1) := srR_one (mvR_srt hG.wf.srs) hx2 (mvR_self _ _ _) e
          rw [h1]
          simp [newC]
        · have hne : ¬ (newC G b (c :: m) L).n = x.1 := fun e2 => e e2.symm
          rw [if_neg hne]
          rcases mem_mvR hx2 with h1 | h1
          · exact absurd (by rw [h1]) e
          · exact ih x h1

theorem refs_rise {G : Gr} (h : Reach G) {i : Nat} (hi : i + 1 < G.rs.length) : G.rs[i].1 < G.rs[i + 1].1 :=
  (List.pairwise_iff_getElem.1 h.wf.srs) i (i + 1) (by omega) hi (by omega)

theorem rfC_get (L : List (List UInt8 × Int)) (i : Nat) (h : i < L.length) (j : Nat) (hj : j < 2) : (L.flatMap rfC)[i * 2 + j]? = (rfC L[i])[j]? := by
  induction L generalizing i with
  | nil => simp at h
  | cons x L ih =>
    cases i with
    | zero => simp only [List.flatMap_cons, Nat.zero_mul, Nat.zero_add, List.getElem_cons_zero]; rw [List.getElem?_append_left (by simp [rfC]; omega)]
    | succ i =>
      simp only [List.flatMap_cons, List.getElem_cons_succ]
      rw [List.getElem?_append_right (by simp [rfC]; omega)]
      rw [← ih i (by simpa using h)]
      congr 1
      simp [rfC]; omega

/-- A row of refs is read. -/
theorem OwnR.at {B : Nat} {w : World} {v : Value} {l : List (List UInt8 × Int)} (h : OwnR B w v l) : ∃ ao c, v = .slice ao l.length c ∧ l.length ≤ c ∧ c ≤ maxLen ∧ ∀ i (hi : i < l.length), ∃ g, ao = some ⟨g, 0, none⟩ ∧ w.cell? ⟨g, i * 2, none⟩ = some (.string (str l[i].1)) ∧ w.cell? ⟨g, i * 2 + 1, none⟩ = some (.int .i64 l[i].2) := by
  have h' := h
  obtain ⟨h1, h2⟩ := h
  rcases h2 with ⟨hv, hn⟩ | ⟨g, cap, cur, hv, hg, hh, h3, h4, h5, h6⟩
  · exact ⟨none, 0, by rw [hv, hn], by omega, Nat.zero_le _, fun i hi => by omega⟩
  · refine ⟨_, cap, hv, h3, h4, fun i hi => ⟨g, rfl, ?_⟩⟩
    have hc : ∀ j, j < 2 → w.cell? ⟨g, i * 2 + j, none⟩ = (rfC l[i])[j]? := fun j hj => by
      have := World.ownsRow.cellAt (w := w) (base := B) (e := 37) (size := 2) (n := l.length) (cap := cap) (g := g) (xs := l.flatMap rfC) (by rw [← hv]; exact h') (i * 2 + j) (by omega)
      rw [this, rfC_get l i hi j hj]
    exact ⟨hc 0 (by omega), hc 1 (by omega)⟩

/-- The log by parts. -/
theorem log_part (cs : List Com) (a : Nat) (m : Int) (hm : 1 ≤ m) (hm8 : m ≤ 8) : cs.take a ++ logL cs ((a : Int) + 1) m = cs.take (a + m.toNat) := by
  unfold logL
  rw [show ((a : Int) + 1 - 1).toNat = a from by omega, show (min m 32).toNat = m.toNat from by omega, List.take_add]

end Go.Proofs.YtfoghemiaidnhaaGreat
