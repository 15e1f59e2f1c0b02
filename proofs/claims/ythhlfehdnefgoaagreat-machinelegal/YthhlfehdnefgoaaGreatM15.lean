/-
  Texts of this claim that are laid as one: GrHist, GrHist2.
-/
import Derived.Test.YthhlfehdnefgoaaGreatQ1
/-
  What commits say of paths and refs: who changed them last.
-/
namespace Go.Proofs.YthhlfehdnefgoaaGreat

/-- The last change of p among l, by the revision r; else o. -/
def lastIn (p : List UInt8) (r : Int) (o : Option Lf) (l : List Ch) : Option Lf := l.foldl (fun o x => if x.p = p then some ⟨x.p, x.d, r, x.g⟩ else o) o

/-- The last change of p among commits. -/
def lastC (p : List UInt8) (cs : List Com) : Option Lf := cs.foldl (fun o c => lastIn p c.r o c.c) none

theorem lastC_snoc (p : List UInt8) (cs : List Com) (c : Com) : lastC p (cs ++ [c]) = lastIn p c.r (lastC p cs) c.c := by simp [lastC]

theorem find_put (p : List UInt8) (r : Int) (l : List Ch) : ∀ ls : List Lf, findL p (putC r ls l) = lastIn p r (findL p ls) l := by
  induction l with
  | nil => intro ls; rfl
  | cons x l ih =>
    intro ls
    rw [putC_cons, ih]
    unfold lastIn
    rw [List.foldl_cons]
    congr 1
    unfold findL
    rw [find_ins]
    by_cases h : x.p = p
    · simp [h]
    · have h2 : ¬ p = x.p := fun e => h e.symm
      simp [h, h2]

/-- A leaf is the last change of its path. -/
theorem Reach.last {G : Gr} (h : Reach G) (p : List UInt8) : findL p G.ls = lastC p G.cs := by
  induction h with
  | void => rfl
  | @land G b n L _ ih =>
    cases he : endV G b n L with
    | some v => rw [(landV_some he).2]; exact ih
    | none =>
      rw [(landV_none he).2]
      simp only [addG, lastC_snoc]
      rw [find_put, ih]

theorem lastIn_none {p : List UInt8} {r : Int} {l : List Ch} (h : ∀ x ∈ l, x.p ≠ p) (o : Option Lf) : lastIn p r o l = o := by
  induction l generalizing o with
  | nil => rfl
  | cons x l ih =>
    unfold lastIn
    rw [List.foldl_cons, if_neg (h x (by simp))]
    exact ih (fun y hy => h y (by simp [hy])) o

theorem lastIn_rev {p : List UInt8} {r : Int} {l : List Ch} {o : Option Lf} {y : Lf} (h : lastIn p r o l = some y) : (y.r = r ∧ ∃ x ∈ l, x.p = p ∧ y = ⟨x.p, x.d, r, x.g⟩) ∨ o = some y := by
  induction l generalizing o with
  | nil => exact .inr h
  | cons x l ih =>
    unfold lastIn at h
    rw [List.foldl_cons] at h
    rcases ih h with ⟨h1, z, hz, h2⟩ | h1
    · exact .inl ⟨h1, z, by simp [hz], h2⟩
    · by_cases hx : x.p = p
      · rw [if_pos hx] at h1
        cases h1
        exact .inl ⟨rfl, x, by simp, hx, rfl⟩
      · rw [if_neg hx] at h1
        exact .inr h1

theorem lastIn_hit {p : List UInt8} {r : Int} {l : List Ch} {x : Ch} (hx : x ∈ l) (hp : x.p = p) (o : Option Lf) : ∃ y, lastIn p r o l = some y ∧ y.r = r := by
  induction l generalizing o with
  | nil => cases hx
  | cons z l ih =>
    unfold lastIn
    rw [List.foldl_cons]
    rcases List.mem_cons.1 hx with rfl | hx
    · rw [if_pos hp]
      by_cases h : ∃ q ∈ l, q.p = p
      · obtain ⟨q, hq, hqp⟩ := h
        clear ih
        have : ∀ (l : List Ch) (o : Option Lf), (∃ q ∈ l, q.p = p) → ∃ y, lastIn p r o l = some y ∧ y.r = r := by
          intro l
          induction l with
          | nil => intro o ⟨q, hq, _⟩; cases hq
          | cons a l ih =>
            intro o ⟨q, hq, hqp⟩
            unfold lastIn
            rw [List.foldl_cons]
            by_cases h2 : ∃ q ∈ l, q.p = p
            · exact ih _ h2
            · rcases List.mem_cons.1 hq with rfl | hq
              · rw [if_pos hqp]
                exact ⟨_, lastIn_none (fun y hy e => h2 ⟨y, hy, e⟩) _, rfl⟩
              · exact absurd ⟨q, hq, hqp⟩ h2
        exact this l _ ⟨q, hq, hqp⟩
      · exact ⟨_, lastIn_none (fun y hy e => h ⟨y, hy, e⟩) _, rfl⟩
    · exact ih hx _

theorem lastIn_cases (p : List UInt8) (r : Int) (l : List Ch) (o : Option Lf) : (∃ y, lastIn p r o l = some y ∧ y.r = r) ∨ lastIn p r o l = o := by
  by_cases h : ∃ q ∈ l, q.p = p
  · obtain ⟨q, hq, hqp⟩ := h
    exact .inl (lastIn_hit hq hqp o)
  · exact .inr (lastIn_none (fun y hy e => h ⟨y, hy, e⟩) _)

theorem last_up (p : List UInt8) (cs : List Com) : ∀ (o : Option Lf) (m : Int), (∀ i (h : i < cs.length), cs[i].r = m + (i : Int) + 1) → ∀ y0, o = some y0 → y0.r ≤ m → ∃ y, cs.foldl (fun o c => lastIn p c.r o c.c) o = some y ∧ y0.r ≤ y.r := by
  induction cs with
  | nil => intro o m _ y0 h1 _; exact ⟨y0, h1, Int.le_refl _⟩
  | cons c cs ih =>
    intro o m hr y0 h1 h2
    have hc : c.r = m + 1 := by have := hr 0 (by simp); simpa using this
    have hr' : ∀ i (h : i < cs.length), cs[i].r = (m + 1) + (i : Int) + 1 := fun i h => by
      have := hr (i + 1) (by simpa using h)
      simp at this; omega
    rw [List.foldl_cons]
    rcases lastIn_cases p c.r c.c o with ⟨y, h3, h4⟩ | h3
    · obtain ⟨z, h5, h6⟩ := ih _ (m + 1) hr' y h3 (by omega)
      exact ⟨z, h5, by omega⟩
    · rw [h3]
      exact ih _ (m + 1) hr' y0 h1 (by omega)

theorem last_hit (p : List UInt8) (cs : List Com) : ∀ (o : Option Lf) (m : Int), (∀ i (h : i < cs.length), cs[i].r = m + (i : Int) + 1) → ∀ k (hk : k < cs.length) (x : Ch), x ∈ cs[k].c → x.p = p → ∃ y, cs.foldl (fun o c => lastIn p c.r o c.c) o = some y ∧ m + (k : Int) + 1 ≤ y.r := by
  induction cs with
  | nil => intro o m _ k hk; simp at hk
  | cons c cs ih =>
    intro o m hr k hk x hx hp
    have hc : c.r = m + 1 := by have := hr 0 (by simp); simpa using this
    have hr' : ∀ i (h : i < cs.length), cs[i].r = (m + 1) + (i : Int) + 1 := fun i h => by
      have := hr (i + 1) (by simpa using h)
      simp at this; omega
    rw [List.foldl_cons]
    cases k with
    | zero =>
      obtain ⟨y, h3, h4⟩ := lastIn_hit (r := c.r) (by simpa using hx) hp o
      obtain ⟨z, h5, h6⟩ := last_up p cs _ (m + 1) hr' y h3 (by omega)
      exact ⟨z, h5, by simp; omega⟩
    | succ k =>
      obtain ⟨y, h3, h4⟩ := ih (lastIn p c.r o c.c) (m + 1) hr' k (by simpa using hk) x (by simpa using hx) hp
      exact ⟨y, h3, by simp; omega⟩

/-- Of a path that a commit changes the last change is no elder one. -/
theorem lastC_ge {p : List UInt8} {cs : List Com} (hr : ∀ i (h : i < cs.length), cs[i].r = (i : Int) + 1) {k : Nat} (hk : k < cs.length) {x : Ch} (hx : x ∈ cs[k].c) (hp : x.p = p) : ∃ y, lastC p cs = some y ∧ (k : Int) + 1 ≤ y.r := by
  obtain ⟨y, h1, h2⟩ := last_hit p cs none 0 (fun i h => by rw [hr i h]; omega) k hk x hx hp
  exact ⟨y, h1, by omega⟩

/-- What may be said of a chain of commits. -/
structure LegalC (cs : List Com) : Prop where
  rev : ∀ i (h : i < cs.length), cs[i].r = (i : Int) + 1 ∧ 0 ≤ cs[i].b ∧ cs[i].b ≤ (i : Int)
  once : ∀ i (h : i < cs.length) a b (ha : a < cs[i].c.length) (hb : b < cs[i].c.length), b < a → cs[i].c[a].p ≠ cs[i].c[b].p
  apart : ∀ i (h : i < cs.length) k (hk : k < i), cs[i].b ≤ (k : Int) → ∀ x ∈ cs[i].c, ∀ y ∈ (cs[k]'(by omega)).c, y.p ≠ x.p

theorem confl_none {ls : List Lf} {b : Int} {l : List Ch} (h : confl ls b l = none) : ∀ x ∈ l, ∀ y, findL x.p ls = some y → y.r ≤ b := by
  induction l with
  | nil => intro x hx; cases hx
  | cons z l ih =>
    intro x hx y hy
    simp only [confl] at h
    rcases List.mem_cons.1 hx with rfl | hx
    · rw [hy] at h
      by_cases hlt : b < y.r
      · simp [hlt] at h
      · omega
    · refine ih ?_ x hx y hy
      cases hf : findL z.p ls with
      | none => rw [hf] at h; exact h
      | some q =>
        rw [hf] at h
        by_cases hlt : b < q.r
        · simp [hlt] at h
        · simpa [hlt] using h

theorem Reach.legal {G : Gr} (h : Reach G) : LegalC G.cs := by
  refine ⟨h.wf.revs, fun i hi a b ha hb hlt e => ?_, ?_⟩
  · have h1 := (h.wf.com _ (List.getElem_mem hi)).1
    exact h1.2.2 a ha |>.2 b hlt e.symm
  · induction h with
    | void => intro i hi; simp [voidG] at hi
    | @land G b n L hG ih =>
      cases he : endV G b n L with
      | some v => rw [(landV_some he).2]; exact ih
      | none =>
        rw [(landV_none he).2]
        intro i hi k hk hb x hx y hy e
        simp only [addG] at hi hb hx hy
        by_cases hlt : i < G.cs.length
        · simp only [List.getElem_append_left hlt] at hb hx
          simp only [List.getElem_append_left (show k < G.cs.length by omega)] at hy
          exact ih i hlt k hk hb x hx y hy e
        · have hil : i = G.cs.length := by simp at hi; omega
          subst hil
          simp only [List.getElem_append_left hk] at hy
          simp [newC] at hb hx
          obtain ⟨z, h1, h2⟩ := lastC_ge (fun j h => (hG.wf.revs j h).1) hk hy e
          rw [← hG.last] at h1
          have := confl_none (endV_none he).2.2 x hx z h1
          omega

theorem find_srt {L : List Lf} (h : Srt L) {y : Lf} (hy : y ∈ L) : findL y.p L = some y := by
  unfold findL
  induction L with
  | nil => cases hy
  | cons z L ih =>
    obtain ⟨h1, h2⟩ := List.pairwise_cons.1 h
    rcases List.mem_cons.1 hy with rfl | hy
    · simp
    · have hne : ¬ y.p = z.p := fun e => by have := h1 y hy; rw [e, cmpT_refl] at this; omega
      rw [List.find?_cons, decide_eq_false hne]
      exact ih h2 hy

theorem nodup_one {l : List Ch} (h : (l.map Ch.p).Nodup) {x y : Ch} (hx : x ∈ l) (hy : y ∈ l) (e : x.p = y.p) : x = y := by
  induction l with
  | nil => cases hx
  | cons z l ih =>
    rw [List.map_cons, List.nodup_cons] at h
    rcases List.mem_cons.1 hx with h1 | h1 <;> rcases List.mem_cons.1 hy with h2 | h2
    · rw [h1, h2]
    · exact absurd (List.mem_map.2 ⟨y, h2, by rw [← e, h1]⟩) h.1
    · exact absurd (List.mem_map.2 ⟨x, h1, by rw [e, h2]⟩) h.1
    · exact ih h.2 h1 h2

end Go.Proofs.YthhlfehdnefgoaaGreat

/-
  Who changed a path last, step by step.
-/
namespace Go.Proofs.YthhlfehdnefgoaaGreat

theorem lastC_take {p : List UInt8} {cs : List Com} {k : Nat} (h : k < cs.length) : lastC p (cs.take (k + 1)) = lastIn p cs[k].r (lastC p (cs.take k)) cs[k].c := by
  rw [List.take_succ_eq_append_getElem h, lastC_snoc]

theorem lastIn_take {p : List UInt8} {r : Int} {o : Option Lf} {l : List Ch} {j : Nat} (h : j < l.length) : lastIn p r o (l.take (j + 1)) = if l[j].p = p then some ⟨l[j].p, l[j].d, r, l[j].g⟩ else lastIn p r o (l.take j) := by
  rw [List.take_succ_eq_append_getElem h]
  unfold lastIn
  rw [List.foldl_append]; rfl

/-- Who changed it last: one of the commits, by its only change of that path. -/
theorem lastC_from {p : List UInt8} {cs : List Com} {y : Lf} : ∀ (o : Option Lf), cs.foldl (fun o c => lastIn p c.r o c.c) o = some y → (∃ c ∈ cs, ∃ x ∈ c.c, x.p = p ∧ y = ⟨x.p, x.d, c.r, x.g⟩) ∨ o = some y := by
  induction cs with
  | nil => intro o h; exact .inr h
  | cons c cs ih =>
    intro o h
    rw [List.foldl_cons] at h
    rcases ih _ h with ⟨c', h1, h2⟩ | h1
    · exact .inl ⟨c', by simp [h1], h2⟩
    · rcases lastIn_rev h1 with ⟨h2, x, hx, hp, he⟩ | h2
      · exact .inl ⟨c, by simp, x, hx, hp, he⟩
      · exact .inr h2

end Go.Proofs.YthhlfehdnefgoaaGreat
