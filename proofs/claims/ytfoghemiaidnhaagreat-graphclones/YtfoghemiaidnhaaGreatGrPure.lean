/-
  Graphs as lists: commits, leaves, refs; what landing, reading, loading make of them.
-/
import Derived.Test.YtfoghemiaidnhaaGreatChKept
import Derived.Test.YtfoghemiaidnhaaGreatM10
namespace Go.Proofs.YtfoghemiaidnhaaGreat

/-- A commit. -/
structure Com where
  r : Int
  b : Int
  n : List UInt8
  c : List Ch
deriving DecidableEq

/-- A graph: its commits, its leaves in order, its refs in order. -/
structure Gr where
  cs : List Com
  ls : List Lf
  rs : List (List UInt8 × Int)

def voidG : Gr := ⟨[], [], []⟩

/-- The leaf of a path. -/
def findL (p : List UInt8) (L : List Lf) : Option Lf := L.find? fun y => decide (p = y.p)

/-- The first of these changes whose path was changed behind b: its path, and by whom. -/
def confl (ls : List Lf) (b : Int) : List Ch → Option (List UInt8 × Int)
  | [] => none
  | x :: l => match findL x.p ls with
    | some y => if b < y.r then some (x.p, y.r) else confl ls b l
    | none => confl ls b l

/-- The leaves behind these changes, by the revision r. -/
def putC (r : Int) (ls : List Lf) (l : List Ch) : List Lf := l.foldl (fun a x => ins ⟨x.p, x.d, r, x.g⟩ a) ls

/-- The ref n is moved to r. -/
def mvR (n : List UInt8) (r : Int) : List (List UInt8 × Int) → List (List UInt8 × Int)
  | [] => [(n, r)]
  | x :: l => if x.1 < n then x :: mvR n r l else if x.1 = n then (n, r) :: l else (n, r) :: x :: l

/-- A verdict: its code, revision, path, digest. -/
structure Vd where
  c : Int
  r : Int
  p : List UInt8
  d : Int
deriving DecidableEq

/-- May this not be asked? -/
noncomputable def badB (b : Int) (n : List UInt8) (L : List Ch) : Bool := !(errC L == 0) || (!n.isEmpty && !wordB false n) || decide (b < 0)

/-- The verdict that ends a landing, if there is one. -/
noncomputable def endV (G : Gr) (b : Int) (n : List UInt8) (L : List Ch) : Option Vd :=
  if badB b n L = true then some ⟨5, 0, [], 0⟩
  else if (G.cs.length : Int) < b then some ⟨4, G.cs.length, [], 0⟩
  else (confl G.ls b (sortC L)).map fun x => ⟨3, x.2, x.1, 0⟩

noncomputable def landV (G : Gr) (b : Int) (n : List UInt8) (L : List Ch) : Vd := (endV G b n L).getD ⟨2, (G.cs.length : Int) + 1, [], 0⟩

/-- The commit that lands. -/
def newC (G : Gr) (b : Int) (n : List UInt8) (L : List Ch) : Com := ⟨(G.cs.length : Int) + 1, b, n, sortC L⟩

/-- The refs behind a commit. -/
def rsAdd (n : List UInt8) (r : Int) (l : List (List UInt8 × Int)) : List (List UInt8 × Int) :=
  match n with
  | [] => l
  | c :: m => mvR (c :: m) r l

theorem rsAdd_some {n : List UInt8} (h : n ≠ []) (r : Int) (l : List (List UInt8 × Int)) : rsAdd n r l = mvR n r l := by
  cases n with
  | nil => exact absurd rfl h
  | cons c m => rfl

def addG (G : Gr) (c : Com) : Gr := ⟨G.cs ++ [c], putC c.r G.ls c.c, rsAdd c.n c.r G.rs⟩

noncomputable def landG (G : Gr) (b : Int) (n : List UInt8) (L : List Ch) : Gr :=
  match endV G b n L with
  | some _ => G
  | none => addG G (newC G b n L)

theorem landV_some {G : Gr} {b : Int} {n : List UInt8} {L : List Ch} {v : Vd} (h : endV G b n L = some v) : landV G b n L = v ∧ landG G b n L = G := by
  simp [landV, landG, h]

theorem landV_none {G : Gr} {b : Int} {n : List UInt8} {L : List Ch} (h : endV G b n L = none) : landV G b n L = ⟨2, (G.cs.length : Int) + 1, [], 0⟩ ∧ landG G b n L = addG G (newC G b n L) := by
  simp [landV, landG, h]

theorem endV_bad {G : Gr} {b : Int} {n : List UInt8} {L : List Ch} (h : badB b n L = true) : endV G b n L = some ⟨5, 0, [], 0⟩ := by simp [endV, h]
theorem endV_ahead {G : Gr} {b : Int} {n : List UInt8} {L : List Ch} (h : badB b n L = false) (h2 : (G.cs.length : Int) < b) : endV G b n L = some ⟨4, G.cs.length, [], 0⟩ := by simp [endV, h, h2]
theorem endV_conf {G : Gr} {b : Int} {n : List UInt8} {L : List Ch} (h : badB b n L = false) (h2 : ¬ (G.cs.length : Int) < b) : endV G b n L = (confl G.ls b (sortC L)).map fun x => ⟨3, x.2, x.1, 0⟩ := by simp [endV, h, h2]

theorem endV_none {G : Gr} {b : Int} {n : List UInt8} {L : List Ch} (h : endV G b n L = none) : badB b n L = false ∧ b ≤ (G.cs.length : Int) ∧ confl G.ls b (sortC L) = none := by
  unfold endV at h
  by_cases h1 : badB b n L = true
  · simp [h1] at h
  by_cases h2 : (G.cs.length : Int) < b
  · simp [h1, h2] at h
  simp [h1, h2] at h
  exact ⟨by simpa using h1, by omega, h⟩

theorem badB_false {b : Int} {n : List UInt8} {L : List Ch} (h : badB b n L = false) : CheckOK L ∧ (n = [] ∨ wordB false n = true) ∧ 0 ≤ b := by
  simp only [badB, Bool.or_eq_false_iff, Bool.not_eq_false', beq_iff_eq, Bool.and_eq_false_iff, decide_eq_false_iff_not, List.isEmpty_iff] at h
  obtain ⟨⟨h1, h2⟩, h3⟩ := h
  refine ⟨errC_zero.1 h1, h2, by omega⟩

/-- Which codes a landing has. -/
theorem landV_code (G : Gr) (b : Int) (n : List UInt8) (L : List Ch) : (landV G b n L).c = 2 ↔ endV G b n L = none := by
  constructor
  · intro h
    cases he : endV G b n L with
    | none => rfl
    | some v =>
      rw [(landV_some he).1] at h
      unfold endV at he
      split at he
      · cases he; simp at h
      split at he
      · cases he; simp at h
      · cases hc : confl G.ls b (sortC L) with
        | none => rw [hc] at he; simp at he
        | some x => rw [hc] at he; simp at he; subst he; simp at h
  · intro h; rw [(landV_none h).1]

/-- Refs whose names rise. -/
def SrR (l : List (List UInt8 × Int)) : Prop := l.Pairwise fun a b => a.1 < b.1

theorem mem_mvR {n : List UInt8} {r : Int} {l : List (List UInt8 × Int)} {x : List UInt8 × Int} (h : x ∈ mvR n r l) : x = (n, r) ∨ x ∈ l := by
  induction l with
  | nil => simp [mvR] at h; exact .inl h
  | cons y l ih =>
    simp only [mvR] at h
    split at h
    · rcases List.mem_cons.1 h with h | h
      · exact .inr (by simp [h])
      · rcases ih h with h | h
        · exact .inl h
        · exact .inr (by simp [h])
    split at h
    · rcases List.mem_cons.1 h with h | h
      · exact .inl h
      · exact .inr (by simp [h])
    · rcases List.mem_cons.1 h with h | h
      · exact .inl h
      · exact .inr h

theorem mvR_length (n : List UInt8) (r : Int) (l : List (List UInt8 × Int)) : (mvR n r l).length ≤ l.length + 1 := by
  induction l with
  | nil => simp [mvR]
  | cons y l ih =>
    simp only [mvR]
    split
    · simp; omega
    split
    · simp
    · simp

theorem lt_or {a b : List UInt8} (h1 : ¬ a < b) (h2 : ¬ a = b) : b < a := by
  rcases Classical.em (b < a) with h | h
  · exact h
  · exact absurd (List.le_antisymm (List.not_lt.1 h) (List.not_lt.1 h1)) h2

theorem mvR_srt {n : List UInt8} {r : Int} {l : List (List UInt8 × Int)} (h : SrR l) : SrR (mvR n r l) := by
  induction l with
  | nil => simp [mvR, SrR]
  | cons y l ih =>
    obtain ⟨h1, h2⟩ := List.pairwise_cons.1 h
    simp only [mvR]
    split
    · rename_i hlt
      refine List.pairwise_cons.2 ⟨fun x hx => ?_, ih h2⟩
      rcases mem_mvR hx with rfl | hx
      · exact hlt
      · exact h1 x hx
    split
    · rename_i hne
      refine List.pairwise_cons.2 ⟨fun x hx => ?_, h2⟩
      have := h1 x hx
      rw [hne] at this
      exact this
    · rename_i h3 h4
      have h5 := lt_or h3 h4
      refine List.pairwise_cons.2 ⟨fun x hx => ?_, h⟩
      rcases List.mem_cons.1 hx with rfl | hx
      · exact h5
      · exact List.lt_trans h5 (h1 x hx)

theorem findL_mem {p : List UInt8} {L : List Lf} {y : Lf} (h : findL p L = some y) : y ∈ L ∧ y.p = p := by
  unfold findL at h
  have h1 := List.mem_of_find?_eq_some h
  have h2 := List.find?_some h
  simp at h2
  exact ⟨h1, h2.symm⟩

theorem putC_cons (r : Int) (ls : List Lf) (x : Ch) (l : List Ch) : putC r ls (x :: l) = putC r (ins ⟨x.p, x.d, r, x.g⟩ ls) l := rfl
theorem putC_app (r : Int) (ls : List Lf) (l m : List Ch) : putC r ls (l ++ m) = putC r (putC r ls l) m := by simp [putC]

theorem putC_all (P : Lf → Prop) {r : Int} {l : List Ch} : ∀ {ls : List Lf}, (∀ x ∈ ls, P x) → (∀ x ∈ l, P ⟨x.p, x.d, r, x.g⟩) → ∀ x ∈ putC r ls l, P x := by
  induction l with
  | nil => intro ls h _; exact h
  | cons y l ih =>
    intro ls h1 h2
    rw [putC_cons]
    refine ih (fun x hx => ?_) (fun x hx => h2 x (by simp [hx]))
    rcases mem_ins hx with rfl | hx
    · exact h2 y (by simp)
    · exact h1 x hx

theorem putC_srt {r : Int} {l : List Ch} : ∀ {ls : List Lf}, Srt ls → Srt (putC r ls l) := by
  induction l with
  | nil => intro ls h; exact h
  | cons y l ih => intro ls h; rw [putC_cons]; exact ih (ins_srt _ _ h)

theorem putC_length {r : Int} {l : List Ch} : ∀ {ls : List Lf}, (putC r ls l).length ≤ ls.length + l.length := by
  induction l with
  | nil => intro ls; simp [putC]
  | cons y l ih => intro ls; rw [putC_cons]; have h1 := @ih (ins ⟨y.p, y.d, r, y.g⟩ ls); have h2 := (ins_length ⟨y.p, y.d, r, y.g⟩ ls).1; simp; omega

/-- What every graph is that landings made. -/
structure Wf (G : Gr) : Prop where
  srt : Srt G.ls
  srs : SrR G.rs
  path : ∀ x ∈ G.ls, x.p.length ≤ 64
  many : G.ls.length ≤ 16 * G.cs.length
  refs : G.rs.length ≤ G.cs.length
  name : ∀ x ∈ G.rs, 0 < x.1.length ∧ x.1.length ≤ 24
  rev : ∀ x ∈ G.ls, 0 < x.r ∧ x.r ≤ (G.cs.length : Int)
  rrev : ∀ x ∈ G.rs, 0 < x.2 ∧ x.2 ≤ (G.cs.length : Int)
  com : ∀ c ∈ G.cs, CheckOK c.c ∧ (∀ x ∈ c.c, x.p.length ≤ 64) ∧ c.n.length ≤ 24 ∧ sortC c.c = c.c
  revs : ∀ i (h : i < G.cs.length), G.cs[i].r = (i : Int) + 1 ∧ 0 ≤ G.cs[i].b ∧ G.cs[i].b ≤ (i : Int)

theorem wf_void : Wf voidG := ⟨List.Pairwise.nil, List.Pairwise.nil, by simp [voidG], by simp [voidG], by simp [voidG], by simp [voidG], by simp [voidG], by simp [voidG], by simp [voidG], by simp [voidG]⟩

theorem check_perm {L M : List Ch} (h : L.Perm M) : CheckOK L ↔ CheckOK M := by
  rw [checkOK_iff, checkOK_iff, h.length_eq]
  exact ⟨fun ⟨a, b, c, d⟩ => ⟨a, b, fun x hx => c x (h.mem_iff.2 hx), (h.map Ch.p).nodup_iff.1 d⟩, fun ⟨a, b, c, d⟩ => ⟨a, b, fun x hx => c x (h.mem_iff.1 hx), (h.map Ch.p).nodup_iff.2 d⟩⟩

theorem sortC_check {L : List Ch} : CheckOK (sortC L) ↔ CheckOK L := (check_perm (sortC_alike L).perm).symm

theorem sortC_again (L : List Ch) : sortC (sortC L) = sortC L := (sortC_alike (sortC L)).symm.one (sortC_ris _) (sortC_ris _)

theorem check_short {L : List Ch} (h : CheckOK L) : ∀ x ∈ L, x.p.length ≤ 64 := fun x hx => by
  obtain ⟨_, _, h3, _⟩ := (checkOK_iff L).1 h
  have := h3 x hx
  simp only [mayB, Bool.and_eq_true, decide_eq_true_eq] at this
  exact normB_len this.1

theorem wordB_len {n : List UInt8} (h : wordB false n = true) : 0 < n.length ∧ n.length ≤ 24 := by
  simp only [wordB, Bool.and_eq_true, decide_eq_true_eq] at h
  exact ⟨h.1.1, h.1.2⟩

theorem wf_add {G : Gr} (h : Wf G) {b : Int} {n : List UInt8} {L : List Ch} (he : endV G b n L = none) : Wf (addG G (newC G b n L)) := by
  obtain ⟨h1, h2, h3⟩ := endV_none he
  obtain ⟨h4, h5, h6⟩ := badB_false h1
  have h7 := sortC_check.2 h4
  have h8 := check_short h7
  have h9 : (sortC L).length ≤ 16 := h7.2.1
  have h10 : n.length ≤ 24 := by
    rcases h5 with rfl | h5
    · simp
    · exact (wordB_len h5).2
  refine ⟨putC_srt h.srt, ?_, ?_, ?_, ?_, ?_, ?_, ?_, ?_, ?_⟩
  · simp only [addG, newC]
    cases n with
    | nil => exact h.srs
    | cons c m => exact mvR_srt h.srs
  · exact putC_all (fun x => x.p.length ≤ 64) h.path h8
  · have := @putC_length ((G.cs.length : Int) + 1) (sortC L) G.ls
    have := h.many
    simp only [addG, newC, List.length_append, List.length_singleton]
    omega
  · have := h.refs
    have := mvR_length n ((G.cs.length : Int) + 1) G.rs
    simp only [addG, newC, List.length_append, List.length_singleton]
    cases n with
    | nil => simp only [rsAdd]; omega
    | cons c m => simp only [rsAdd]; omega
  · intro x hx
    simp only [addG, newC] at hx
    cases n with
    | nil => exact h.name x hx
    | cons c m =>
      rcases mem_mvR hx with rfl | hx
      · rcases h5 with h5 | h5
        · cases h5
        · exact wordB_len h5
      · exact h.name x hx
  · refine putC_all (fun x => 0 < x.r ∧ x.r ≤ (((G.cs ++ [newC G b n L]).length : Nat) : Int)) (fun x hx => ?_) (fun x _ => ?_)
    · have := h.rev x hx; simp; omega
    · simp [newC]
  · intro x hx
    simp only [addG, newC] at hx ⊢
    simp only [List.length_append, List.length_singleton]
    cases n with
    | nil => have := h.rrev x hx; omega
    | cons c m =>
      rcases mem_mvR hx with rfl | hx
      · simp only; omega
      · have := h.rrev x hx; omega
  · intro c hc
    rcases List.mem_append.1 hc with hc | hc
    · exact h.com c hc
    · simp at hc; subst hc
      exact ⟨h7, h8, h10, sortC_again L⟩
  · intro i hi
    simp only [addG, List.length_append, List.length_singleton] at hi
    simp only [addG]
    by_cases hlt : i < G.cs.length
    · rw [List.getElem_append_left hlt]; exact h.revs i hlt
    · have : i = G.cs.length := by omega
      subst this
      simp [newC]; omega

theorem wf_land {G : Gr} (h : Wf G) (b : Int) (n : List UInt8) (L : List Ch) : Wf (landG G b n L) := by
  cases he : endV G b n L with
  | some v => rw [(landV_some he).2]; exact h
  | none => rw [(landV_none he).2]; exact wf_add h he

theorem land_length (G : Gr) (b : Int) (n : List UInt8) (L : List Ch) : G.cs.length ≤ (landG G b n L).cs.length ∧ (landG G b n L).cs.length ≤ G.cs.length + 1 := by
  cases he : endV G b n L with
  | some v => rw [(landV_some he).2]; omega
  | none => rw [(landV_none he).2]; simp [addG]

/-- What a path reads as. -/
def readV (G : Gr) (p : List UInt8) : Vd :=
  if normB p = some p then
    match findL p G.ls with
    | some y => if y.g = true then ⟨10, 0, p, 0⟩ else ⟨9, y.r, p, y.d⟩
    | none => ⟨10, 0, p, 0⟩
  else ⟨5, 0, [], 0⟩

/-- One commit is loaded. -/
noncomputable def stepL (G : Gr) (c : Com) : Option Gr :=
  if (landV G c.b c.n c.c).c = 2 ∧ (landV G c.b c.n c.c).r = c.r ∧ sortC c.c = c.c then some (landG G c.b c.n c.c) else none

noncomputable def loadL : Gr → List Com → Option Gr
  | G, [] => some G
  | G, c :: l => (stepL G c).bind fun G' => loadL G' l

theorem loadL_app (G : Gr) (l m : List Com) : loadL G (l ++ m) = (loadL G l).bind fun G' => loadL G' m := by
  induction l generalizing G with
  | nil => rfl
  | cons c l ih =>
    simp only [List.cons_append, loadL]
    cases stepL G c with
    | none => rfl
    | some G' => simpa using ih G'

theorem wf_step {G G' : Gr} {c : Com} (h : Wf G) (hs : stepL G c = some G') : Wf G' ∧ G'.cs = G.cs ++ [c] := by
  unfold stepL at hs
  split at hs
  · rename_i hc
    obtain ⟨h1, h2, h3⟩ := hc
    cases hs
    have he := (landV_code _ _ _ _).1 h1
    refine ⟨wf_land h _ _ _, ?_⟩
    rw [(landV_none he).1] at h2
    rw [(landV_none he).2]
    simp only [addG, newC, h3]
    simp only at h2
    rw [h2]
  · cases hs

/-- What landed would land again. -/
theorem step_again {G : Gr} {b : Int} {n : List UInt8} {L : List Ch} (he : endV G b n L = none) : stepL G (newC G b n L) = some (landG G b n L) := by
  have h1 : errC (sortC L) = errC L := by
    obtain ⟨h1, _, _⟩ := endV_none he
    obtain ⟨h4, _, _⟩ := badB_false h1
    rw [errC_zero.2 h4, errC_zero.2 (sortC_check.2 h4)]
  have h2 : endV G b n (sortC L) = endV G b n L := by
    unfold endV badB
    rw [h1, sortC_again]
  have h3 : landV G b n (sortC L) = landV G b n L := by unfold landV; rw [h2]
  have h4 : landG G b n (sortC L) = landG G b n L := by unfold landG newC; rw [h2, sortC_again]
  show (if (landV G b n (sortC L)).c = 2 ∧ (landV G b n (sortC L)).r = (G.cs.length : Int) + 1 ∧ sortC (sortC L) = sortC L then some (landG G b n (sortC L)) else none) = _
  rw [if_pos ⟨by rw [h3, (landV_none he).1], by rw [h3, (landV_none he).1], sortC_again L⟩, h4]

/-- Graphs that landings made of nothing. -/
inductive Reach : Gr → Prop
  | void : Reach voidG
  | land {G : Gr} (b : Int) (n : List UInt8) (L : List Ch) : Reach G → Reach (landG G b n L)

theorem Reach.wf {G : Gr} (h : Reach G) : Wf G := by
  induction h with
  | void => exact wf_void
  | land b n L _ ih => exact wf_land ih b n L

theorem Reach.load {G : Gr} (h : Reach G) : loadL voidG G.cs = some G := by
  induction h with
  | void => rfl
  | @land G b n L _ ih =>
    cases he : endV G b n L with
    | some v => rw [(landV_some he).2]; exact ih
    | none =>
      rw [show (landG G b n L).cs = G.cs ++ [newC G b n L] from by rw [(landV_none he).2]; rfl, loadL_app, ih]
      show (stepL G (newC G b n L)).bind _ = _
      rw [step_again he]; rfl

theorem wf_loads : ∀ {l : List Com} {G G' : Gr}, Wf G → loadL G l = some G' → Wf G' ∧ G'.cs = G.cs ++ l := by
  intro l
  induction l with
  | nil => intro G G' h hl; cases hl; exact ⟨h, by simp⟩
  | cons c l ih =>
    intro G G' h hl
    simp only [loadL] at hl
    cases hs : stepL G c with
    | none => rw [hs] at hl; cases hl
    | some G1 =>
      rw [hs] at hl
      obtain ⟨h1, h2⟩ := wf_step h hs
      obtain ⟨h3, h4⟩ := ih h1 hl
      exact ⟨h3, by rw [h4, h2]; simp⟩

/-- Each beginning loads. -/
theorem Reach.part {G : Gr} (h : Reach G) (k : Nat) : ∃ G', loadL voidG (G.cs.take k) = some G' ∧ Wf G' ∧ G'.cs = G.cs.take k := by
  have h1 := h.load
  rw [← List.take_append_drop k G.cs, loadL_app] at h1
  cases h2 : loadL voidG (G.cs.take k) with
  | none => rw [h2] at h1; cases h1
  | some G' =>
    obtain ⟨h3, h4⟩ := wf_loads wf_void h2
    exact ⟨G', rfl, h3, by simpa [voidG] using h4⟩

/-- What does not begin with the first revision does not load. -/
theorem load_later {G : Gr} (h : Wf G) {k : Nat} (hk : 0 < k) (hl : k < G.cs.length) : loadL voidG (G.cs.drop k) = none := by
  rw [List.drop_eq_getElem_cons hl]
  simp only [loadL]
  have h1 := (h.revs k hl).1
  have : stepL voidG G.cs[k] = none := by
    unfold stepL
    rw [if_neg]
    rintro ⟨h2, h3, _⟩
    rw [(landV_none ((landV_code _ _ _ _).1 h2)).1] at h3
    simp [voidG] at h3
    omega
  rw [this]; rfl

end Go.Proofs.YtfoghemiaidnhaaGreat
