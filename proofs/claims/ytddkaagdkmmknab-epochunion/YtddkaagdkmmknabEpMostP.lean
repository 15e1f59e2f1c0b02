/-
  How many of some numbers are among others.
-/
import Derived.Test.YtddkaagdkmmknabEpPure
namespace Go.Proofs.Ytddkaagdkmmknab

/-- Each number once, where it stands first. -/
def nubL (l : List Int) : List Int := l.foldl (fun a x => if x ∈ a then a else a ++ [x]) []

theorem nub_snoc (l : List Int) (x : Int) : nubL (l ++ [x]) = if x ∈ nubL l then nubL l else nubL l ++ [x] := by
  unfold nubL
  rw [List.foldl_append]
  rfl

theorem snoc_ind {p : List Int → Prop} (h0 : p []) (h1 : ∀ l x, p l → p (l ++ [x])) (l : List Int) : p l := by
  have : ∀ k, p (l.take k) := by
    intro k
    induction k with
    | zero => simpa using h0
    | succ k ih =>
      by_cases hk : k < l.length
      · rw [List.take_succ_eq_append_getElem hk]; exact h1 _ _ ih
      · rw [List.take_of_length_le (by omega)]; rwa [List.take_of_length_le (by omega)] at ih
  have h := this l.length
  rwa [List.take_length] at h

theorem mem_nub (l : List Int) : ∀ x, x ∈ nubL l ↔ x ∈ l := by
  refine snoc_ind (p := fun l => ∀ x, x ∈ nubL l ↔ x ∈ l) (by simp [nubL]) (fun l y ih x => ?_) l
  rw [nub_snoc]
  split
  · rename_i h
    rw [ih, List.mem_append, List.mem_singleton]
    exact ⟨.inl, fun h' => h'.elim id (fun e => by subst e; exact (ih _).1 h)⟩
  · rw [List.mem_append, ih, List.mem_append]

theorem nub_nodup (l : List Int) : (nubL l).Nodup := by
  refine snoc_ind (p := fun l => (nubL l).Nodup) (by simp [nubL]) (fun l y ih => ?_) l
  rw [nub_snoc]
  split
  · exact ih
  · rename_i h
    rw [List.nodup_append]
    exact ⟨ih, by simp, fun a ha b hb e => by simp at hb; subst hb; subst e; exact h ha⟩

/-- How many different numbers of l are in m. -/
def cntM (m l : List Int) : Nat := ((nubL l).filter fun x => decide (x ∈ m)).length

theorem cnt_snoc (m l : List Int) (x : Int) : cntM m (l ++ [x]) = cntM m l + (if x ∈ m ∧ x ∉ l then 1 else 0) := by
  unfold cntM
  rw [nub_snoc]
  by_cases h : x ∈ nubL l
  · rw [if_pos h, if_neg (fun h' => h'.2 ((mem_nub l x).1 h))]
    rfl
  · have h' : x ∉ l := fun h' => h ((mem_nub l x).2 h')
    rw [if_neg h, List.filter_append, List.length_append]
    by_cases hm : x ∈ m <;> simp [hm, h']

theorem len_le : ∀ {l m : List Int}, l.Nodup → (∀ x ∈ l, x ∈ m) → l.length ≤ m.length
  | [], _, _, _ => Nat.zero_le _
  | x :: l, m, hd, hs => by
    obtain ⟨h1, h2⟩ := List.nodup_cons.1 hd
    have hx := hs x (by simp)
    have ih := len_le (m := m.erase x) h2 (fun y hy => (List.mem_erase_of_ne (show y ≠ x from fun e => h1 (by rw [← e]; exact hy))).2 (hs y (by simp [hy])))
    rw [List.length_erase_of_mem hx] at ih
    have := List.length_pos_of_mem hx
    simp only [List.length_cons]
    omega

theorem cnt_comm (m l : List Int) : cntM m l = cntM l m := by
  have key : ∀ a b : List Int, cntM a b ≤ cntM b a := fun a b =>
    len_le ((nub_nodup b).filter _) (fun x hx => by
      simp only [List.mem_filter, decide_eq_true_eq, mem_nub] at hx ⊢
      exact ⟨hx.2, hx.1⟩)
  exact Nat.le_antisymm (key m l) (key l m)

theorem nub_same {l : List Int} (h : l.Nodup) : nubL l = l := by
  refine snoc_ind (p := fun l => l.Nodup → nubL l = l) (fun _ => rfl) (fun l x ih hd => ?_) l h
  rw [List.nodup_append] at hd
  rw [nub_snoc, ih hd.1, if_neg (fun hx => hd.2.2 x hx x (by simp) rfl)]

/-- Most of them. -/
def mostB (m l : List Int) : Bool := decide (m.length / 2 + 1 ≤ cntM m l)

theorem two_parts (p q : Int → Bool) : ∀ m : List Int, (∀ x ∈ m, ¬ (p x = true ∧ q x = true)) → (m.filter p).length + (m.filter q).length ≤ m.length
  | [], _ => by simp
  | x :: m, h => by
    have ih := two_parts p q m (fun y hy => h y (by simp [hy]))
    have hx := h x (by simp)
    cases hp : p x <;> cases hq : q x <;> simp [hp, hq] at hx ⊢ <;> omega

/-- Two that are most have one in common. -/
theorem most_meet {m a b : List Int} (hd : m.Nodup) (ha : mostB m a = true) (hb : mostB m b = true) : ∃ x ∈ m, x ∈ a ∧ x ∈ b := by
  unfold mostB at ha hb
  rw [decide_eq_true_eq, cnt_comm] at ha hb
  unfold cntM at ha hb
  rw [nub_same hd] at ha hb
  by_cases h : ∃ x ∈ m, x ∈ a ∧ x ∈ b
  · exact h
  · have := two_parts (fun x => decide (x ∈ a)) (fun x => decide (x ∈ b)) m (fun x hx hp => h ⟨x, hx, by simpa using hp⟩)
    omega

theorem may_nodup {m : List Int} (h : May m) : m.Nodup := h.2.1.imp (fun h => by omega)

end Go.Proofs.Ytddkaagdkmmknab
