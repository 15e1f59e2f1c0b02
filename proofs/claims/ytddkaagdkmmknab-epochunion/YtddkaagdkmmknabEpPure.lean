/-
  Epochs, members, sets of replicas: what is said of them without memory.
-/
namespace Go.Proofs.Ytddkaagdkmmknab

/-- An epoch: from which slot on, and who. -/
structure Ep where
  f : Int
  m : List Int
deriving DecidableEq

/-- Members may be. -/
def May (m : List Int) : Prop := m ≠ [] ∧ m.Pairwise (· < ·) ∧ ∀ x ∈ m, 0 ≤ x ∧ x < 15

instance (m : List Int) : Decidable (May m) := by unfold May; infer_instance

/-- The numbers of a list, as a set. -/
def setB (m : List Int) (k : Nat) : Bool := decide ((k : Int) ∈ m)

/-- A set, with one number set. -/
def updB (S : Nat → Bool) (q : Nat) (v : Bool) (k : Nat) : Bool := if k = q then v else S k

/-- The numbers of a set, rising. -/
def told (S : Nat → Bool) : List Int := ((List.range 15).filter S).map fun k : Nat => (k : Int)

/-- What a change of a set is refused by; 0. -/
def chgE (S : Nat → Bool) (q : Nat) (add : Bool) : Int := if add && S q then 9 else if !add && !S q then 8 else if told (updB S q add) = [] then 1 else 0

theorem rise_one : ∀ {l m : List Int}, l.Pairwise (· < ·) → m.Pairwise (· < ·) → (∀ x, x ∈ l ↔ x ∈ m) → l = m
  | [], [], _, _, _ => rfl
  | [], y :: m, _, _, h => by have := (h y).2 (by simp); simp at this
  | x :: l, [], _, _, h => by have := (h x).1 (by simp); simp at this
  | x :: l, y :: m, hl, hm, h => by
    rw [List.pairwise_cons] at hl hm
    have hxy : x = y := by
      have h1 := (h x).1 (by simp)
      have h2 := (h y).2 (by simp)
      rcases List.mem_cons.1 h1 with h1 | h1
      · exact h1
      · rcases List.mem_cons.1 h2 with h2 | h2
        · exact h2.symm
        · have a := hm.1 x h1
          have b := hl.1 y h2
          omega
    subst hxy
    rw [rise_one hl.2 hm.2 fun z => ⟨fun hz => by
      rcases List.mem_cons.1 ((h z).1 (List.mem_cons_of_mem _ hz)) with e | e
      · have := hl.1 z hz; omega
      · exact e, fun hz => by
      rcases List.mem_cons.1 ((h z).2 (List.mem_cons_of_mem _ hz)) with e | e
      · have := hm.1 z hz; omega
      · exact e⟩]

theorem told_rise (S : Nat → Bool) : (told S).Pairwise (· < ·) := by
  unfold told
  rw [List.pairwise_map]
  exact (List.pairwise_lt_range.filter _).imp (fun h => by omega)

theorem mem_told {S : Nat → Bool} {x : Int} : x ∈ told S ↔ ∃ k : Nat, x = k ∧ k < 15 ∧ S k = true := by
  unfold told
  simp only [List.mem_map, List.mem_filter, List.mem_range]
  exact ⟨fun ⟨k, ⟨h1, h2⟩, h3⟩ => ⟨k, h3.symm, h1, h2⟩, fun ⟨k, h1, h2, h3⟩ => ⟨k, ⟨h2, h3⟩, h1.symm⟩⟩

theorem told_len (S : Nat → Bool) : (told S).length ≤ 15 := by
  unfold told
  rw [List.length_map]
  exact Nat.le_trans (List.length_filter_le _ _) (by simp)

theorem told_may {m : List Int} (h : May m) : told (setB m) = m :=
  rise_one (told_rise _) h.2.1 fun x => by
    rw [mem_told]
    refine ⟨fun ⟨k, hk, _, h1⟩ => by rw [hk]; simpa [setB] using h1, fun hx => ?_⟩
    have := h.2.2 x hx
    exact ⟨x.toNat, by omega, by omega, by simp only [setB, decide_eq_true_eq]; rw [show ((x.toNat : Nat) : Int) = x by omega]; exact hx⟩

theorem may_told {S : Nat → Bool} (h : told S ≠ []) : May (told S) := ⟨h, told_rise S, fun x hx => by
  obtain ⟨k, rfl, h1, _⟩ := mem_told.1 hx
  omega⟩

theorem told_congr {S T : Nat → Bool} (h : ∀ k, k < 15 → S k = T k) : told S = told T := by
  unfold told
  rw [List.filter_congr (fun k hk => by rw [h k (by simpa using hk)])]

theorem setB_told {S : Nat → Bool} {k : Nat} (h : k < 15) : setB (told S) k = S k := by
  unfold setB
  rw [Bool.eq_iff_iff, decide_eq_true_eq, mem_told]
  exact ⟨fun ⟨j, e, _, h2⟩ => by rw [show k = j by omega]; exact h2, fun h1 => ⟨k, rfl, h, h1⟩⟩

theorem may_len {m : List Int} (h : May m) : m.length ≤ 15 := by rw [← told_may h]; exact told_len _

/-- How many epochs are from a slot or sooner. -/
def cntL (L : List Ep) (z : Int) : Nat := (L.filter fun x => decide (x.f ≤ z)).length

/-- The place of a slot's epoch. -/
def plc (L : List Ep) (z : Int) : Nat := cntL L z - 1

def RiseL (L : List Ep) : Prop := L.Pairwise fun a b => a.f < b.f

/-- Epochs may be. -/
def OkL (L : List Ep) : Prop := L ≠ [] ∧ RiseL L ∧ ∀ x ∈ L, May x.m ∧ 0 ≤ x.f ∧ x.f ≤ 1099511627776

theorem cnt_le (L : List Ep) (z : Int) : cntL L z ≤ L.length := List.length_filter_le _ _

theorem cnt_iff : ∀ {L : List Ep} (_ : RiseL L) (z : Int) (i : Nat) (h : i < L.length), L[i].f ≤ z ↔ i < cntL L z
  | [], _, _, i, h => by simp at h
  | x :: L, hr, z, i, h => by
    obtain ⟨h1, h2⟩ := List.pairwise_cons.1 hr
    unfold cntL
    by_cases hx : x.f ≤ z
    · rw [List.filter_cons_of_pos (by simpa using hx), List.length_cons]
      cases i with
      | zero => simpa using hx
      | succ i =>
        have := cnt_iff h2 z i (by simpa using h)
        simp only [List.getElem_cons_succ]
        rw [this]
        unfold cntL
        omega
    · have hn : ∀ y ∈ x :: L, ¬ (decide (y.f ≤ z) = true) := by
        intro y hy
        rcases List.mem_cons.1 hy with rfl | hy
        · simpa using hx
        · have := h1 y hy
          simp; omega
      rw [List.filter_eq_nil_iff.2 hn]
      simp only [List.length_nil, Nat.not_lt_zero, iff_false]
      exact fun hle => hn _ (List.getElem_mem h) (by simpa using hle)

theorem plc_lt {L : List Ep} (h : L ≠ []) (z : Int) : plc L z < L.length := by
  have := cnt_le L z
  have := List.length_pos_iff.2 h
  unfold plc
  omega

/-- The members of a slot. -/
def atL (L : List Ep) (z : Int) : List Int := (L.getD (plc L z) ⟨0, []⟩).m

/-- Cut at a slot. -/
def cutL (L : List Ep) (z : Int) : List Ep := L.drop (plc L z)

/-- Whoever is a member in any of them. -/
def uniB (L : List Ep) (k : Nat) : Bool := L.any fun x => setB x.m k

def lastE (L : List Ep) : Ep := L.getLastD ⟨0, []⟩

/-- What a change is refused by; 0. -/
def chE (al : Int) (L : List Ep) (z q : Int) (add : Bool) : Int :=
  if z < 0 ∨ 1099511627776 - al < z ∨ ¬ (0 ≤ q ∧ q < 15) then 1 else if z < (lastE L).f then 12 else chgE (setB (lastE L).m) q.toNat add

/-- The epochs behind a change. -/
def chL (al : Int) (L : List Ep) (z q : Int) (add : Bool) : List Ep :=
  if chE al L z q add = 0 then L ++ [⟨z + al, told (updB (setB (lastE L).m) q.toNat add)⟩] else L

theorem okL_new {m : List Int} (h : May m) : OkL [⟨0, m⟩] := ⟨by simp, List.pairwise_singleton _ _, fun x hx => by simp at hx; subst hx; exact ⟨h, by simp, by simp⟩⟩

theorem okL_cut {L : List Ep} (h : OkL L) (z : Int) : OkL (cutL L z) :=
  ⟨fun e => by
    have := plc_lt h.1 z
    have h2 : (cutL L z).length = 0 := by rw [e]; rfl
    unfold cutL at h2
    rw [List.length_drop] at h2
    omega, h.2.1.sublist (List.drop_sublist _ _), fun x hx => h.2.2 x (List.mem_of_mem_drop hx)⟩

theorem lastE_mem {L : List Ep} (h : L ≠ []) : lastE L ∈ L := by
  unfold lastE
  rw [List.getLastD_eq_getLast?, List.getLast?_eq_some_getLast h]
  exact List.getLast_mem h

theorem chgE_zero {S : Nat → Bool} {q : Nat} {add : Bool} (h : chgE S q add = 0) : told (updB S q add) ≠ [] ∧ S q = !add := by
  unfold chgE at h
  cases hs : S q <;> cases add <;> simp [hs] at h ⊢ <;> exact h

theorem okL_ch {al : Int} {L : List Ep} (hal : 1 ≤ al ∧ al ≤ 8) (h : OkL L) (z q : Int) (add : Bool) : OkL (chL al L z q add) := by
  unfold chL
  split
  · rename_i h0
    unfold chE at h0
    split at h0
    · cases h0
    · rename_i h1
      split at h0
      · cases h0
      · rename_i h2
        obtain ⟨h3, _⟩ := chgE_zero h0
        refine ⟨by simp, ?_, ?_⟩
        · unfold RiseL
          rw [List.pairwise_append]
          refine ⟨h.2.1, List.pairwise_singleton _ _, fun x hx y hy => ?_⟩
          simp at hy
          subst hy
          show x.f < z + al
          have hl : x.f ≤ (lastE L).f := by
            have h5 := h.2.1
            obtain ⟨i, hi, rfl⟩ := List.getElem_of_mem hx
            have e : lastE L = L[L.length - 1]'(by omega) := by
              unfold lastE
              rw [List.getLastD_eq_getLast?, List.getLast?_eq_some_getLast h.1, Option.getD_some, List.getLast_eq_getElem]
            rw [e]
            by_cases hlt : i < L.length - 1
            · exact Int.le_of_lt (List.pairwise_iff_getElem.1 h5 i (L.length - 1) hi (by omega) hlt)
            · have : i = L.length - 1 := by omega
              subst this
              exact Int.le_refl _
          omega
        · intro x hx
          rcases List.mem_append.1 hx with hx | hx
          · exact h.2.2 x hx
          · simp at hx
            subst hx
            refine ⟨may_told h3, ?_, ?_⟩ <;> simp <;> omega
  · exact h

end Go.Proofs.Ytddkaagdkmmknab
