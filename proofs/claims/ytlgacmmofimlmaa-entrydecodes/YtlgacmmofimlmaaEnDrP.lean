/-
  The document's reading, plainly.
-/
import Derived.Test.YtlgacmmofimlmaaF13
import Derived.Test.YtlgacmmofimlmaaF11
import Derived.Test.YtlgacmmofimlmaaF5
namespace Go.Proofs.Ytlgacmmofimlmaa

abbrev St := List Int × Int

/-- A state of a reader: what failed has nothing left. -/
def Nl (s : St) : Prop := s.2 ≠ 0 → s.1 = []

/-- One behind the other, as long as nothing fails. -/
def itR {α : Type} (one : St → α × St) : Nat → St → List α × St
  | 0, s => ([], s)
  | n + 1, s => if (itR one n s).2.2 = 0 then ((itR one n s).1 ++ [(one (itR one n s).2).1], (one (itR one n s).2).2) else itR one n s

theorem itR_stop {α : Type} (one : St → α × St) (s : St) (i : Nat) (h : (itR one i s).2.2 ≠ 0) : ∀ n, i ≤ n → itR one n s = itR one i s := by
  intro n hn
  induction n with
  | zero => rw [show i = 0 by omega]
  | succ n ih =>
    by_cases e : i = n + 1
    · rw [e]
    · have h1 := ih (by omega)
      rw [itR, h1, if_neg h]

/-- What the program reads, all told, is the same where nothing failed; and so is what is left. -/
theorem itR_map {α : Type} (one : St → α → α × St) (z : α) (hb : ∀ e, e ≠ 0 → (one ([], e) z).2 = ([], e)) (hn : ∀ s, Nl s → Nl (one s z).2) (n : Nat) (s : St) (hs : Nl s) :
    (mapP one s (List.replicate n z)).2 = (itR (fun s => one s z) n s).2 ∧ ((itR (fun s => one s z) n s).2.2 = 0 → (mapP one s (List.replicate n z)).1 = (itR (fun s => one s z) n s).1) ∧ Nl (itR (fun s => one s z) n s).2 := by
  induction n with
  | zero => exact ⟨rfl, fun _ => rfl, hs⟩
  | succ n ih =>
    obtain ⟨h1, h2, h3⟩ := ih
    rw [List.replicate_succ', mapP_snoc, itR]
    simp only [h1]
    by_cases he : (itR (fun s => one s z) n s).2.2 = 0
    · rw [if_pos he]
      exact ⟨rfl, fun _ => by rw [h2 he], hn _ h3⟩
    · rw [if_neg he]
      have e0 := h3 he
      have e1 : (itR (fun s => one s z) n s).2 = ([], (itR (fun s => one s z) n s).2.2) := Prod.ext e0 rfl
      refine ⟨?_, fun h => absurd h he, h3⟩
      rw [e1]
      exact hb _ he

theorem cdc_nl {α : Type} {rd : Rdr α} {ok : α → Prop} {b : α → List Int} (h : Cdc rd ok b) (s : St) (hs : Nl s) : Nl (rd s).2 := by
  intro hne
  by_cases he : s.2 = 0
  · have e : s = (s.1, 0) := Prod.ext rfl he
    rw [e] at hne ⊢
    exact h.nil _ hne
  · have e : s = ([], s.2) := Prod.ext (hs he) rfl
    rw [e, h.bad _ he]

/-- A list, as the document reads it. -/
def tkL {α : Type} (one : St → α × St) (most : Int) (s : St) : List α × St :=
  if most < (eyeP.num s 0).1 then ([], ([], rdRefE (eyeP.num s 0).2.2)) else itR one (eyeP.num s 0).1.toNat (eyeP.num s 0).2

theorem tk_list {α : Type} (one : St → α → α × St) (z : α) {ok : α → Prop} {b : α → List Int} (hc : Cdc (fun s => one s z) ok b) (most : Int) (s : St) (hs : Nl s) :
    (listP eyeP one z s [] most).2 = (tkL (fun s => one s z) most s).2 ∧ ((tkL (fun s => one s z) most s).2.2 = 0 → (listP eyeP one z s [] most).1 = (tkL (fun s => one s z) most s).1) := by
  have hs1 : Nl (eyeP.num s 0).2 := cdc_nl cdc_num s hs
  unfold listP tkL
  by_cases hm : most < (eyeP.num s 0).1
  · have hm' : most < (rdNumE s.2 s.1).2.1 := hm
    have e : eyeP.upTo s (([] : List α).length : Int) most = (0, ([], rdRefE (rdNumE s.2 s.1).1)) := by show (if _ then _ else _) = _; rw [if_pos hm']
    rw [if_pos hm, e]
    simp only [padL_nil]
    exact ⟨rfl, fun _ => rfl⟩
  · have hm' : ¬ most < (rdNumE s.2 s.1).2.1 := hm
    have e : eyeP.upTo s (([] : List α).length : Int) most = eyeP.num s 0 := by show (if _ then _ else _) = _; rw [if_neg hm']; rfl
    rw [if_neg hm, e, padL_nil]
    have h := itR_map one z (fun e he => hc.bad e he) (fun s h => cdc_nl hc s h) (eyeP.num s 0).1.toNat (eyeP.num s 0).2 hs1
    exact ⟨h.1, h.2.1⟩

end Go.Proofs.Ytlgacmmofimlmaa
