/-
  Trees of leaves, and sorted lists of leaves: plain functions, of no program.
-/
import Derived.Test.YtfoghemiaidnhaaGreatM1
namespace Go.Proofs.YtfoghemiaidnhaaGreat

/-- A leaf: its path, digest, revision, and whether it is gone. -/
structure Lf where
  p : List UInt8
  d : Int
  r : Int
  g : Bool
deriving DecidableEq

inductive Tr where
  | nil
  | node (l : Tr) (x : Lf) (r : Tr)

namespace Tr

def size : Tr → Nat
  | nil => 0
  | node l _ r => l.size + 1 + r.size

def height : Tr → Nat
  | nil => 0
  | node l _ r => max l.height r.height + 1

def list : Tr → List Lf
  | nil => []
  | node l x r => l.list ++ x :: r.list

def lean : Tr → Int
  | nil => 0
  | node l _ r => (r.height : Int) - l.height

def turnR : Tr → Tr
  | node (node a y b) x r => node a y (node b x r)
  | t => t

def turnL : Tr → Tr
  | node l x (node b y c) => node (node l x b) y c
  | t => t

def turnRR : Tr → Tr
  | node l x r => turnR (node (turnL l) x r)
  | t => t

def turnLL : Tr → Tr
  | node l x r => turnL (node l x (turnR r))
  | t => t

def left : Tr → Tr
  | nil => nil
  | node l _ _ => l

def right : Tr → Tr
  | nil => nil
  | node _ _ r => r

def level (t : Tr) : Tr :=
  if t.lean < -1 then (if 0 < t.left.lean then turnRR t else turnR t)
  else if 1 < t.lean then (if t.right.lean < 0 then turnLL t else turnL t) else t

def put (x : Lf) : Tr → Tr
  | nil => node nil x nil
  | node l y r => if cmpT x.p y.p = -1 then level (node (put x l) y r) else if cmpT x.p y.p = 1 then level (node l y (put x r)) else node l x r

/-- What is not ahead of a path, as the walk finds it. -/
def ge (f : List UInt8) : Tr → List Lf
  | nil => []
  | node l x r => if cmpT x.p f < 0 then ge f r else ge f l ++ x :: ge f r

def get (f : List UInt8) : Tr → Option Lf
  | nil => none
  | node l x r => if cmpT f x.p = -1 then get f l else if cmpT f x.p = 1 then get f r else some x

/-- How a tree is balanced. -/
def bal : Tr → Prop
  | nil => True
  | node l _ r => l.bal ∧ r.bal ∧ l.height ≤ r.height + 1 ∧ r.height ≤ l.height + 1

end Tr

theorem tr_size (t : Tr) : t.list.length = t.size := by
  induction t with
  | nil => rfl
  | node l x r h1 h2 => simp [Tr.list, Tr.size, h1, h2]; omega

theorem tr_height (t : Tr) : t.height ≤ t.size := by
  induction t with
  | nil => exact Nat.le_refl _
  | node l x r h1 h2 => simp only [Tr.height, Tr.size]; omega

theorem turnR_list (t : Tr) : (Tr.turnR t).list = t.list := by
  unfold Tr.turnR; split <;> simp [Tr.list]

theorem turnL_list (t : Tr) : (Tr.turnL t).list = t.list := by
  unfold Tr.turnL; split <;> simp [Tr.list]

theorem turnRR_list (t : Tr) : (Tr.turnRR t).list = t.list := by
  unfold Tr.turnRR; split
  · rw [turnR_list]; simp [Tr.list, turnL_list]
  · rfl

theorem turnLL_list (t : Tr) : (Tr.turnLL t).list = t.list := by
  unfold Tr.turnLL; split
  · rw [turnL_list]; simp [Tr.list, turnR_list]
  · rfl

theorem level_list (t : Tr) : (Tr.level t).list = t.list := by
  unfold Tr.level
  split
  · split
    · exact turnRR_list t
    · exact turnR_list t
  · split
    · split
      · exact turnLL_list t
      · exact turnL_list t
    · rfl

/- Sorted lists. -/

def Srt (L : List Lf) : Prop := L.Pairwise fun a b => cmpT a.p b.p < 0

/-- One leaf more, at its place. -/
def ins (x : Lf) : List Lf → List Lf
  | [] => [x]
  | y :: ys => if cmpT x.p y.p = 0 then x :: ys else if cmpT x.p y.p < 0 then x :: y :: ys else y :: ins x ys

theorem cmpT_vals (a b : List UInt8) : cmpT a b = -1 ∨ cmpT a b = 0 ∨ cmpT a b = 1 := cmpP_vals _ _

theorem cmpT_lt {a b c : List UInt8} (h1 : cmpT a b < 0) (h2 : cmpT b c < 0) : cmpT a c < 0 := by
  have := ordT.strict (x := a) (y := b) (z := c) (by omega) (by omega)
  omega

theorem cmpT_self (a : List UInt8) : cmpT a a = 0 := (ordT.zero a a).2 rfl

theorem cmpT_le_lt {a b c : List UInt8} (h1 : cmpT a b ≤ 0) (h2 : cmpT b c < 0) : cmpT a c < 0 := by
  have := ordT.strict (x := a) (y := b) (z := c) (by omega) (by omega)
  omega

theorem cmpT_lt_le {a b c : List UInt8} (h1 : cmpT a b < 0) (h2 : cmpT b c ≤ 0) : cmpT a c < 0 := by
  have := ordT.strict (x := a) (y := b) (z := c) (by omega) (by omega)
  omega

theorem srt_app {A B : List Lf} {y : Lf} (h : Srt (A ++ y :: B)) : Srt A ∧ Srt B ∧ (∀ a ∈ A, cmpT a.p y.p < 0) ∧ (∀ b ∈ B, cmpT y.p b.p < 0) ∧ ∀ a ∈ A, ∀ b ∈ B, cmpT a.p b.p < 0 := by
  unfold Srt at h ⊢
  rw [List.pairwise_append, List.pairwise_cons] at h
  exact ⟨h.1, h.2.1.2, fun a ha => h.2.2 a ha y (by simp), h.2.1.1, fun a ha b hb => h.2.2 a ha b (by simp [hb])⟩

theorem ins_ahead (x y : Lf) (A B : List Lf) (h : cmpT x.p y.p = -1) : ins x (A ++ y :: B) = ins x A ++ y :: B := by
  induction A with
  | nil => simp [ins, h]
  | cons z A ih =>
    simp only [List.cons_append, ins]
    split
    · rfl
    · split
      · rfl
      · rw [ih]; rfl

theorem ins_behind (x y : Lf) (A B : List Lf) (hA : ∀ a ∈ A, cmpT a.p y.p < 0) (h : cmpT x.p y.p = 1) : ins x (A ++ y :: B) = A ++ y :: ins x B := by
  have hyx : cmpT y.p x.p = -1 := by rw [ordT.anti x.p y.p, h]
  induction A with
  | nil => simp [ins, h]
  | cons z A ih =>
    have hz : cmpT z.p x.p < 0 := cmpT_lt (hA z (by simp)) (by omega)
    have hxz := ordT.anti z.p x.p
    simp only [List.cons_append, ins]
    rw [if_neg (by omega), if_neg (by omega), ih (fun a ha => hA a (by simp [ha]))]

theorem ins_there (x y : Lf) (A B : List Lf) (hA : ∀ a ∈ A, cmpT a.p y.p < 0) (h : cmpT x.p y.p = 0) : ins x (A ++ y :: B) = A ++ x :: B := by
  have e := (ordT.zero _ _).1 h
  induction A with
  | nil => simp [ins, h]
  | cons z A ih =>
    have hz : cmpT z.p x.p < 0 := by rw [e]; exact hA z (by simp)
    have hxz := ordT.anti z.p x.p
    simp only [List.cons_append, ins]
    rw [if_neg (by omega), if_neg (by omega), ih (fun a ha => hA a (by simp [ha]))]

theorem mem_ins {x z : Lf} {L : List Lf} (h : z ∈ ins x L) : z = x ∨ z ∈ L := by
  induction L with
  | nil => simpa [ins] using h
  | cons y L ih =>
    simp only [ins] at h
    split at h
    · simp only [List.mem_cons] at h ⊢; rcases h with h | h; exact .inl h; exact .inr (.inr h)
    · split at h
      · simp only [List.mem_cons] at h ⊢; exact h
      · simp only [List.mem_cons] at h ⊢
        rcases h with h | h
        · exact .inr (.inl h)
        · rcases ih h with h | h
          · exact .inl h
          · exact .inr (.inr h)

theorem ins_srt (x : Lf) (L : List Lf) (h : Srt L) : Srt (ins x L) := by
  unfold Srt at h ⊢
  induction L with
  | nil => simp [ins]
  | cons y L ih =>
    rw [List.pairwise_cons] at h
    simp only [ins]
    split
    · rename_i e
      have e := (ordT.zero _ _).1 e
      rw [List.pairwise_cons]
      exact ⟨fun a ha => by rw [e]; exact h.1 a ha, h.2⟩
    · split
      · rename_i e1 e2
        rw [List.pairwise_cons, List.pairwise_cons]
        refine ⟨fun a ha => ?_, h⟩
        simp only [List.mem_cons] at ha
        rcases ha with rfl | ha
        · exact e2
        · exact cmpT_lt e2 (h.1 a ha)
      · rename_i e1 e2
        rw [List.pairwise_cons]
        refine ⟨fun a ha => ?_, ih h.2⟩
        rcases mem_ins ha with rfl | ha
        · have := ordT.anti y.p a.p; omega
        · exact h.1 a ha

theorem ins_length (x : Lf) (L : List Lf) : (ins x L).length ≤ L.length + 1 ∧ L.length ≤ (ins x L).length := by
  induction L with
  | nil => simp [ins]
  | cons y L ih =>
    simp only [ins]
    split
    · simp
    · split
      · simp
      · simp only [List.length_cons]; omega

theorem put_list (x : Lf) (t : Tr) (h : Srt t.list) : (t.put x).list = ins x t.list := by
  induction t with
  | nil => rfl
  | node l y r h1 h2 =>
    obtain ⟨a1, a2, a3, a4, a5⟩ := srt_app h
    simp only [Tr.put, Tr.list]
    rcases cmpT_vals x.p y.p with e | e | e
    · rw [if_pos e, level_list, ins_ahead x y _ _ e]; simp only [Tr.list]; rw [h1 a1]
    · rw [if_neg (by omega), if_neg (by omega), ins_there x y _ _ a3 e]; rfl
    · rw [if_neg (by omega), if_pos e, level_list, ins_behind x y _ _ a3 e]; simp only [Tr.list]; rw [h2 a2]

theorem put_srt (x : Lf) (t : Tr) (h : Srt t.list) : Srt (t.put x).list := by
  rw [put_list x t h]; exact ins_srt x _ h

/- The heights. -/

theorem bal_turnR {l r : Tr} {y : Lf} (hl : l.bal) (hr : r.bal) (e : l.height = r.height + 2) (hle : ¬ 0 < l.lean) : (Tr.turnR (.node l y r)).bal ∧ ((Tr.turnR (.node l y r)).height = r.height + 2 ∨ (Tr.turnR (.node l y r)).height = r.height + 3) := by
  cases l with
  | nil => simp [Tr.height] at e
  | node a z b =>
    simp only [Tr.bal, Tr.height, Tr.lean, Tr.turnR] at *
    refine ⟨⟨hl.1, ⟨hl.2.1, hr, ?_, ?_⟩, ?_, ?_⟩, ?_⟩ <;> omega

theorem bal_turnL {l r : Tr} {y : Lf} (hl : l.bal) (hr : r.bal) (e : r.height = l.height + 2) (hle : ¬ r.lean < 0) : (Tr.turnL (.node l y r)).bal ∧ ((Tr.turnL (.node l y r)).height = l.height + 2 ∨ (Tr.turnL (.node l y r)).height = l.height + 3) := by
  cases r with
  | nil => simp [Tr.height] at e
  | node a z b =>
    simp only [Tr.bal, Tr.height, Tr.lean, Tr.turnL] at *
    refine ⟨⟨⟨hl, hr.1, ?_, ?_⟩, hr.2.1, ?_, ?_⟩, ?_⟩ <;> omega

theorem bal_turnRR {l r : Tr} {y : Lf} (hl : l.bal) (hr : r.bal) (e : l.height = r.height + 2) (hle : 0 < l.lean) : (Tr.turnRR (.node l y r)).bal ∧ (Tr.turnRR (.node l y r)).height = r.height + 2 := by
  cases l with
  | nil => simp [Tr.height] at e
  | node a z b =>
    cases b with
    | nil => simp only [Tr.lean, Tr.height] at hle; omega
    | node c u d =>
      simp only [Tr.bal, Tr.height, Tr.lean, Tr.turnRR, Tr.turnL, Tr.turnR] at *
      refine ⟨⟨⟨hl.1, hl.2.1.1, ?_, ?_⟩, ⟨hl.2.1.2.1, hr, ?_, ?_⟩, ?_, ?_⟩, ?_⟩ <;> omega

theorem bal_turnLL {l r : Tr} {y : Lf} (hl : l.bal) (hr : r.bal) (e : r.height = l.height + 2) (hle : r.lean < 0) : (Tr.turnLL (.node l y r)).bal ∧ (Tr.turnLL (.node l y r)).height = l.height + 2 := by
  cases r with
  | nil => simp [Tr.height] at e
  | node a z b =>
    cases a with
    | nil => simp only [Tr.lean, Tr.height] at hle; omega
    | node c u d =>
      simp only [Tr.bal, Tr.height, Tr.lean, Tr.turnLL, Tr.turnL, Tr.turnR] at *
      refine ⟨⟨⟨hl, hr.1.1, ?_, ?_⟩, ⟨hr.1.2.1, hr.2.1, ?_, ?_⟩, ?_, ?_⟩, ?_⟩ <;> omega

theorem put_bal (x : Lf) (t : Tr) (h : t.bal) : (t.put x).bal ∧ t.height ≤ (t.put x).height ∧ (t.put x).height ≤ t.height + 1 := by
  induction t with
  | nil => simp [Tr.put, Tr.bal, Tr.height]
  | node l y r h1 h2 =>
    obtain ⟨hl, hr, b1, b2⟩ := h
    simp only [Tr.put]
    rcases cmpT_vals x.p y.p with e | e | e
    · rw [if_pos e]
      obtain ⟨g1, g2, g3⟩ := h1 hl
      have hln : (Tr.node (l.put x) y r).lean = (r.height : Int) - (l.put x).height := rfl
      unfold Tr.level
      by_cases c : (l.put x).height = r.height + 2
      · rw [if_pos (by omega)]
        by_cases c2 : 0 < (Tr.node (l.put x) y r).left.lean
        · rw [if_pos c2]
          have := bal_turnRR (y := y) g1 hr c c2
          refine ⟨this.1, ?_⟩
          rw [this.2]; simp only [Tr.height]; omega
        · rw [if_neg c2]
          have := bal_turnR (y := y) g1 hr c c2
          refine ⟨this.1, ?_⟩
          simp only [Tr.height]; omega
      · rw [if_neg (by omega), if_neg (by omega)]
        refine ⟨⟨g1, hr, by omega, by omega⟩, ?_⟩
        simp only [Tr.height]; omega
    · rw [if_neg (by omega), if_neg (by omega)]
      exact ⟨⟨hl, hr, b1, b2⟩, Nat.le_refl _, Nat.le_succ _⟩
    · rw [if_neg (by omega), if_pos e]
      obtain ⟨g1, g2, g3⟩ := h2 hr
      have hln : (Tr.node l y (r.put x)).lean = ((r.put x).height : Int) - l.height := rfl
      unfold Tr.level
      by_cases c : (r.put x).height = l.height + 2
      · rw [if_neg (by omega), if_pos (by omega)]
        by_cases c2 : (Tr.node l y (r.put x)).right.lean < 0
        · rw [if_pos c2]
          have := bal_turnLL (y := y) hl g1 c c2
          refine ⟨this.1, ?_⟩
          rw [this.2]; simp only [Tr.height]; omega
        · rw [if_neg c2]
          have := bal_turnL (y := y) hl g1 c c2
          refine ⟨this.1, ?_⟩
          simp only [Tr.height]; omega
      · rw [if_neg (by omega), if_neg (by omega)]
        refine ⟨⟨hl, g1, by omega, by omega⟩, ?_⟩
        simp only [Tr.height]; omega

theorem bal_deep (n : Nat) : ∀ t : Tr, t.bal → 2 * n ≤ t.height → 2 ^ n ≤ t.size + 1 := by
  induction n with
  | zero => intro t _ _; simp
  | succ n ih =>
    intro t hb hh
    cases t with
    | nil => simp [Tr.height] at hh
    | node l x r =>
      obtain ⟨hl, hr, b1, b2⟩ := hb
      simp only [Tr.height] at hh
      have i1 := ih l hl (by omega)
      have i2 := ih r hr (by omega)
      simp only [Tr.size]
      rw [Nat.pow_succ]; omega

/- What is told. -/

theorem cmpT_nil (p : List UInt8) : 0 ≤ cmpT p [] := by
  rw [ordT.anti [] p]
  have h : cmpT [] p ≤ 0 := by
    unfold cmpT cmpP
    have hne := partsB_ne p
    cases hq : partsB p with
    | nil => exact absurd hq hne
    | cons q qs =>
      show lexC Lib.compareBytes [[]] (q :: qs) ≤ 0
      simp only [lexC]
      cases q with
      | nil => rw [if_pos ((ordB.zero [] []).2 rfl)]; cases qs <;> simp [lexC]
      | cons c q => simp [Lib.compareBytes]
  omega

theorem ge_list (f : List UInt8) (t : Tr) (h : Srt t.list) : t.ge f = t.list.filter fun x => decide (0 ≤ cmpT x.p f) := by
  induction t with
  | nil => rfl
  | node l x r h1 h2 =>
    obtain ⟨a1, a2, a3, a4, a5⟩ := srt_app h
    simp only [Tr.ge, Tr.list, List.filter_append, List.filter_cons]
    by_cases c : cmpT x.p f < 0
    · rw [if_pos c, decide_eq_false (by omega), h2 a2]
      have : l.list.filter (fun x => decide (0 ≤ cmpT x.p f)) = [] := by
        rw [List.filter_eq_nil_iff]
        intro a ha
        have := cmpT_lt (a3 a ha) c
        simp; omega
      rw [this]; simp
    · rw [if_neg c, decide_eq_true (by omega), h1 a1, h2 a2]; simp

theorem get_mem {t : Tr} (h : Srt t.list) (f : List UInt8) : t.get f = t.list.find? fun x => decide (f = x.p) := by
  induction t with
  | nil => rfl
  | node l x r h1 h2 =>
    obtain ⟨a1, a2, a3, a4, a5⟩ := srt_app h
    simp only [Tr.get, Tr.list, List.find?_append, List.find?_cons]
    rcases cmpT_vals f x.p with e | e | e
    · rw [if_pos e, h1 a1]
      have hne : f ≠ x.p := fun q => by rw [(ordT.zero _ _).2 q] at e; omega
      rw [decide_eq_false hne]
      have : r.list.find? (fun x => decide (f = x.p)) = none := by
        rw [List.find?_eq_none]
        intro b hb q
        simp at q
        have h3 := cmpT_lt (show cmpT f x.p < 0 by omega) (a4 b hb)
        rw [q, cmpT_self] at h3; omega
      rw [this]; simp
    · have q := (ordT.zero _ _).1 e
      rw [if_neg (by omega), if_neg (by omega), decide_eq_true q]
      have : l.list.find? (fun x => decide (f = x.p)) = none := by
        rw [List.find?_eq_none]
        intro b hb q2
        simp at q2
        have h3 := a3 b hb
        rw [← q2, q, cmpT_self] at h3; omega
      rw [this]; simp
    · rw [if_neg (by omega), if_pos e, h2 a2]
      have hne : f ≠ x.p := fun q => by rw [(ordT.zero _ _).2 q] at e; omega
      rw [decide_eq_false hne]
      have : l.list.find? (fun x => decide (f = x.p)) = none := by
        rw [List.find?_eq_none]
        intro b hb q2
        simp at q2
        have h3 := a3 b hb
        rw [← q2] at h3; omega
      rw [this]; simp

/-- Of a sorted list, what comes first and keeps to a bound, is all that does. -/
theorem take_filter (P : Lf → Bool) (L : List Lf) (hS : Srt L) (hP : ∀ a ∈ L, ∀ b ∈ L, cmpT a.p b.p < 0 → P b = true → P a = true) : L.takeWhile P = L.filter P := by
  induction L with
  | nil => rfl
  | cons a L ih =>
    unfold Srt at hS
    rw [List.pairwise_cons] at hS
    rw [List.takeWhile_cons, List.filter_cons]
    by_cases h : P a = true
    · rw [if_pos h, if_pos h, ih hS.2 (fun x hx y hy => hP x (by simp [hx]) y (by simp [hy]))]
    · rw [if_neg h, if_neg h]
      symm
      rw [List.filter_eq_nil_iff]
      intro b hb hb2
      exact h (hP a (by simp) b (by simp [hb]) (hS.1 b hb) hb2)

theorem srt_filter (P : Lf → Bool) {L : List Lf} (h : Srt L) : Srt (L.filter P) := List.Pairwise.filter _ h

/-- Is it ahead of to (an empty one is behind all)? -/
def ahead (to p : List UInt8) : Bool := to.isEmpty || decide (cmpT p to < 0)

def rangeL (f to : List UInt8) (L : List Lf) : List Lf := L.filter fun x => decide (0 ≤ cmpT x.p f) && ahead to x.p
def underL (d : List UInt8) (L : List Lf) : List Lf := L.filter fun x => withinB d x.p

theorem all_told (t : Tr) (h : Srt t.list) : (t.ge []).takeWhile (fun _ => true) = t.list := by
  rw [ge_list _ t h]
  have : t.list.filter (fun x => decide (0 ≤ cmpT x.p [])) = t.list := by
    rw [List.filter_eq_self]; intro a _; simpa using cmpT_nil a.p
  rw [this]
  induction t.list with
  | nil => rfl
  | cons a L ih => rw [List.takeWhile_cons, if_pos rfl, ih]

theorem range_told (t : Tr) (h : Srt t.list) (f to : List UInt8) : (t.ge f).takeWhile (fun x => ahead to x.p) = rangeL f to t.list := by
  rw [ge_list _ t h, take_filter _ _ (srt_filter _ h), List.filter_filter]
  · unfold rangeL
    congr 1
    funext x
    rw [Bool.and_comm]
  · intro a _ b _ hab hb
    unfold ahead at hb ⊢
    simp only [Bool.or_eq_true, decide_eq_true_eq] at hb ⊢
    rcases hb with hb | hb
    · exact .inl hb
    · exact .inr (cmpT_lt hab hb)

theorem under_told (t : Tr) (h : Srt t.list) (d : List UInt8) : (t.ge d).takeWhile (fun x => withinB d x.p) = underL d t.list := by
  have hge : ∀ x : Lf, withinB d x.p = true → 0 ≤ cmpT x.p d := by
    intro x hx
    by_cases e : d = []
    · subst e; exact cmpT_nil _
    · have h1 := within_first d x.p e hx
      have h2 := ordT.anti d x.p
      omega
  rw [ge_list _ t h, take_filter _ _ (srt_filter _ h), List.filter_filter]
  · unfold underL
    congr 1
    funext x
    cases hw : withinB d x.p with
    | false => rfl
    | true => simpa using hge x hw
  · intro a ha b _ hab hb
    simp only [List.mem_filter, decide_eq_true_eq] at ha
    have h1 : cmpT d a.p ≤ 0 := by have := ordT.anti a.p d; omega
    rcases (withinB_iff d b.p).1 hb with e | e | ⟨t, e⟩
    · rw [e]; rfl
    · rw [e] at hab; omega
    · rw [e] at hab; exact within_between d a.p t h1 (by omega)

end Go.Proofs.YtfoghemiaidnhaaGreat
