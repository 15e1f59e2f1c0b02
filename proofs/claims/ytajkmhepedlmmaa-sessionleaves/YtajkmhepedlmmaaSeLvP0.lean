/-
  Who stays, who leaves: one that is used stays while fewer others than the table has places are.
-/
import Derived.Test.YtajkmhepedlmmaaSeOnP0
namespace Go.Proofs.Ytajkmhepedlmmaa

/-- The name of the other one of that number. -/
def nmO (a : Nat) : List UInt8 := [120, UInt8.ofNat (97 + a % 16), UInt8.ofNat (97 + a / 16)]

theorem nmO_inj : ∀ a b : Fin 32, nmO a.val = nmO b.val → a = b := by decide

theorem nmO_ne {a b : Nat} (ha : a < 32) (hb : b < 32) (h : nmO a = nmO b) : a = b := by
  have := nmO_inj ⟨a, ha⟩ ⟨b, hb⟩ h
  simpa using this

def me : Se := ⟨-1, 0, [109, 101], vtC 0⟩

theorem me_ne (a : Nat) : me.n ≠ nmO a := by simp [me, nmO]

/-- It is there, ahead of all others; or it left. -/
def Stay (sz : Nat) (S : List Int) (L : List Se) : Prop :=
  (S.length < sz ∧ ∃ P, L = me :: P ∧ P.length = S.length ∧ (∀ p ∈ P, ∃ a : Nat, a < 32 ∧ p.i = a ∧ p.n = nmO a ∧ (a : Int) ∈ S) ∧ ∀ a : Nat, a < 32 → (a : Int) ∈ S → ∃ p ∈ P, p.n = nmO a) ∨
  (sz ≤ S.length ∧ ∀ x ∈ L, x.i ≠ -1)

def seen (S : List Int) (a : Nat) : List Int := if (a : Int) ∈ S then S else S ++ [(a : Int)]

theorem byN_some_of {n : List UInt8} {L : List Se} {x : Se} (hx : x ∈ L) (h : x.n = n) : ∃ i, byN n L = some i := by
  cases hb : byN n L with
  | some i => exact ⟨i, rfl⟩
  | none => exact absurd h (byN_none hb x hx)

theorem stay_new {sz : Nat} (h : 1 ≤ sz) : Stay sz [] [me] := .inl ⟨by simp; omega, [], rfl, rfl, by simp, by simp⟩

theorem stay_next {sz : Nat} {S : List Int} {L : List Se} (h : Stay sz S L) {a : Nat} (ha : a < 32) : Stay sz (seen S a) (openL sz (nmO a) a L) := by
  rcases h with ⟨hlt, P, rfl, hPl, h1, h2⟩ | ⟨hge, h1⟩
  · by_cases hm : (a : Int) ∈ S
    · have hS : seen S a = S := if_pos hm
      obtain ⟨p, hp, hpn⟩ := h2 a ha hm
      obtain ⟨i, hi⟩ := byN_some_of (L := me :: P) (List.mem_cons_of_mem _ hp) hpn
      obtain ⟨hil, hin⟩ := byN_lt hi
      have hO : openL sz (nmO a) a (me :: P) = useL (me :: P) i := by unfold openL; rw [hi]
      cases i with
      | zero => exact absurd hin (me_ne a)
      | succ i =>
        have hiP : i < P.length := by simpa using hil
        have hU : useL (me :: P) (i + 1) = me :: useL P i := by
          unfold useL outL
          simp
        rw [hS, hO, hU]
        have hpm := use_perm hiP
        exact .inl ⟨hlt, _, rfl, by rw [useL_length hiP]; exact hPl, fun q hq => h1 q (hpm.mem_iff.1 hq), fun b hb hbS => by
          obtain ⟨q, hq, hqn⟩ := h2 b hb hbS
          exact ⟨q, hpm.mem_iff.2 hq, hqn⟩⟩
    · have hS : seen S a = S ++ [(a : Int)] := if_neg hm
      have hN : byN (nmO a) (me :: P) = none := by
        unfold byN
        rw [List.findIdx?_eq_none_iff]
        intro x hx
        rcases List.mem_cons.1 hx with rfl | hx
        · simpa using me_ne a
        · obtain ⟨b, hb, _, hbn, hbS⟩ := h1 x hx
          simp only [decide_eq_false_iff_not]
          intro e
          rw [hbn] at e
          have := nmO_ne hb ha e
          subst this
          exact hm hbS
      have hI : byI (a : Int) (me :: P) = none := by
        unfold byI
        rw [List.findIdx?_eq_none_iff]
        intro x hx
        rcases List.mem_cons.1 hx with rfl | hx
        · simp [me]
        · obtain ⟨b, hb, hbi, _, hbS⟩ := h1 x hx
          simp only [decide_eq_false_iff_not]
          intro e
          rw [hbi] at e
          rw [e] at hbS
          exact hm hbS
      have hO : openL sz (nmO a) a (me :: P) = fitL sz (me :: P) ++ [⟨a, 0, nmO a, vtC 0⟩] := by
        unfold openL restI; rw [hN, hI]
      rw [hS, hO]
      by_cases hf : (me :: P).length = sz
      · have hfit : fitL sz (me :: P) = P := by unfold fitL; rw [if_pos hf]; rfl
        rw [hfit]
        refine .inr ⟨by simp at hf ⊢; omega, fun x hx => ?_⟩
        rcases List.mem_append.1 hx with hx | hx
        · obtain ⟨b, _, hbi, _⟩ := h1 x hx
          rw [hbi]; omega
        · simp at hx; subst hx; simp only; omega
      · have hfit : fitL sz (me :: P) = me :: P := by unfold fitL; rw [if_neg hf]
        rw [hfit]
        refine .inl ⟨by simp at hf ⊢; omega, P ++ [⟨a, 0, nmO a, vtC 0⟩], rfl, by simp [hPl], fun q hq => ?_, fun b hb hbS => ?_⟩
        · rcases List.mem_append.1 hq with hq | hq
          · obtain ⟨b, hb, hbi, hbn, hbS⟩ := h1 q hq
            exact ⟨b, hb, hbi, hbn, by simp [hbS]⟩
          · simp at hq; subst hq
            exact ⟨a, ha, rfl, rfl, by simp⟩
        · rcases List.mem_append.1 hbS with hbS | hbS
          · obtain ⟨q, hq, hqn⟩ := h2 b hb hbS
            exact ⟨q, by simp [hq], hqn⟩
          · simp at hbS
            have : b = a := by omega
            subst this
            exact ⟨⟨b, 0, nmO b, vtC 0⟩, by simp, rfl⟩
  · refine .inr ⟨?_, fun x hx => ?_⟩
    · unfold seen; split
      · exact hge
      · simp; omega
    · unfold openL at hx
      cases hb : byN (nmO a) L with
      | some i => rw [hb] at hx; obtain ⟨hi, _⟩ := byN_lt hb; exact h1 x (mem_useL hi hx)
      | none =>
        rw [hb] at hx
        rcases List.mem_append.1 hx with hx | hx
        · exact h1 x (((fit_sub sz _).trans (rest_sub _ L)).subset hx)
        · simp at hx; subst hx; simp only; omega

theorem stay_in {sz : Nat} {S : List Int} {L : List Se} (h : Stay sz S L) (hlt : S.length < sz) : askV (-1) 1 L = (vtC 0, false) := by
  rcases h with ⟨_, P, rfl, _⟩ | ⟨hge, _⟩
  · have : byI (-1) (me :: P) = some 0 := by unfold byI; simp [me, List.findIdx?_cons]
    unfold askV; rw [this]; simp [tellV, me]
  · omega

theorem stay_out {sz : Nat} {S : List Int} {L : List Se} (h : Stay sz S L) (hge : ¬ S.length < sz) : byI (-1) L = none := by
  rcases h with ⟨hlt, _⟩ | ⟨_, h1⟩
  · exact absurd hlt hge
  · unfold byI
    rw [List.findIdx?_eq_none_iff]
    intro x hx
    simpa using h1 x hx

end Go.Proofs.Ytajkmhepedlmmaa
