/-
  Who changed a path last, step by step.
-/
import Derived.Test.YtfoghemiaidnhaaGreatGrHist
namespace Go.Proofs.YtfoghemiaidnhaaGreat

theorem lastC_take {p : List UInt8} {cs : List Com} {k : Nat} (h : k < cs.length) : lastC p (cs.take (k + 1)) = lastIn p cs[k].r (lastC p (cs.take k)) cs[k].c := by
  rw [List.take_succ_eq_append_getElem h, lastC_snoc]

theorem lastIn_take {p : List UInt8} {r : Int} {o : Option Lf} {l : List Ch} {j : Nat} (h : j < l.length) : lastIn p r o (l.take (j + 1)) = if l[j].p = p then some ⟨l[j].p, l[j].d, r, l[j].g⟩ else lastIn p r o (l.take j) := by
  rw [List.take_succ_eq_append_getElem h]
  unfold lastIn
  rw [List.foldl_append]; rfl

/-- Who changed it last: one of the commits, by its only change of that path. -/
theorem lastC_from {p : List UInt8} {cs : List Com} {y : Lf} : ∀ (o : Option Lf), cs.foldl (fun o c => lastIn p c.r o c.c) o = some y → (∃ c ∈ cs, ∃ x ∈ c.c, x.p = p ∧ y = ⟨x.p, x.d, c.r, x.g⟩) ∨ o = some y := by
  induction cs with
  | nil => intro o h; exact .inr h
  | cons c cs ih =>
    intro o h
    rw [List.foldl_cons] at h
    rcases ih _ h with ⟨c', h1, h2⟩ | h1
    · exact .inl ⟨c', by simp [h1], h2⟩
    · rcases lastIn_rev h1 with ⟨h2, x, hx, hp, he⟩ | h2
      · exact .inl ⟨c, by simp, x, hx, hp, he⟩
      · exact .inr h2

end Go.Proofs.YtfoghemiaidnhaaGreat
