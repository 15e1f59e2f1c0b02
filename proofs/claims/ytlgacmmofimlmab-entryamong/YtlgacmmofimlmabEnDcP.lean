/-
  The document's own Check of requests, plainly.
-/
import Derived.Test.YtlgacmmofimlmabF13
namespace Go.Proofs.Ytlgacmmofimlmab

/-- May changes be? -/
def mcB (L : List Ch) : Bool := decide (L.length ≤ 64) && L.all (fun c => decide (c.p.length ≤ 255) && !(c.g && decide (c.d ≠ 0)))

/-- A request with the fields of its Kind alone. -/
def ownR (r : Rq) : Rq :=
  if r.k = 0 then rq0
  else if r.k = 1 then ⟨r.k, r.n, 0, 0, 0, [], [], [], 0, 0, 0⟩
  else if r.k = 2 then ⟨r.k, [], r.s, r.q, r.b, r.f, r.c, [], 0, 0, 0⟩
  else if r.k = 4 then ⟨r.k, [], r.s, r.q, 0, [], [], r.p, 0, 0, 0⟩
  else if r.k = 5 then ⟨r.k, [], r.s, r.q, 0, [], [], [], r.fr, r.mn, 0⟩
  else if r.k = 6 ∨ r.k = 7 then ⟨r.k, [], r.s, r.q, 0, [], [], [], 0, 0, r.mb⟩
  else ⟨r.k, [], r.s, r.q, 0, [], [], [], 0, 0, 0⟩

def numsB (r : Rq) : Bool := decide (0 ≤ r.k) && decide (r.k < 8) && goodB r.s && goodB r.q && goodB r.b && goodB r.fr && goodB r.mn && goodB r.mb

def chkB (r : Rq) : Bool := numsB r && okT r.n && okT r.f && okT r.p && mcB r.c && decide (r = ownR r)

theorem mcB_iff (L : List Ch) (h : U64c L) : mcB L = true ↔ okChgs L := by
  unfold mcB okChgs
  simp only [Bool.and_eq_true, decide_eq_true_eq, List.all_eq_true]
  refine and_congr_right (fun _ => forall_congr' (fun c => forall_congr' (fun hc => ?_)))
  unfold okChg okT
  have hd := h c hc
  cases c.g
  · simp [hd]
  · simp

theorem good0 : goodB 0 = true := by decide
theorem okT0 : okT [] = true := by decide
theorem mcB0 : mcB [] = true := by decide

theorem chk_ok (r : Rq) (h : U64c r.c) : chkB r = true ↔ okReq r := by
  obtain ⟨k, n, s, q, b, f, c, p, fr, mn, mb⟩ := r
  have hc := mcB_iff c h
  unfold chkB numsB okReq okF' ownR
  simp only [Bool.and_eq_true, decide_eq_true_eq] at *
  have hk : goodB k = true ∧ k ≤ 7 ↔ 0 ≤ k ∧ k < 8 := by rw [good_iff]; omega
  rw [hk]
  by_cases h0 : k = 0
  · simp only [if_pos h0]
    unfold rq0
    constructor
    · rintro ⟨⟨⟨⟨⟨⟨⟨⟨⟨⟨⟨⟨g0, g1⟩, g2⟩, g3⟩, g4⟩, g5⟩, g6⟩, g7⟩, t1⟩, t2⟩, t3⟩, m⟩, e⟩
      exact ⟨⟨g0, g1⟩, by rw [e, h0]⟩
    · rintro ⟨⟨g0, g1⟩, e⟩
      rw [rq_eq] at e
      obtain ⟨_, rfl, rfl, rfl, rfl, rfl, rfl, rfl, rfl, rfl, rfl⟩ := e
      subst h0
      simp [good0, okT0, mcB0]
  by_cases h1 : k = 1
  · simp only [if_neg h0, if_pos h1]
    constructor
    · rintro ⟨⟨⟨⟨⟨⟨⟨⟨⟨⟨⟨⟨g0, g1⟩, g2⟩, g3⟩, g4⟩, g5⟩, g6⟩, g7⟩, t1⟩, t2⟩, t3⟩, m⟩, e⟩
      exact ⟨⟨g0, g1⟩, t1, e.symm⟩
    · rintro ⟨⟨g0, g1⟩, t1, e⟩
      rw [rq_eq] at e
      obtain ⟨_, _, rfl, rfl, rfl, rfl, rfl, rfl, rfl, rfl, rfl⟩ := e
      exact ⟨⟨⟨⟨⟨⟨⟨⟨⟨⟨⟨⟨g0, g1⟩, good0⟩, good0⟩, good0⟩, good0⟩, good0⟩, good0⟩, t1⟩, okT0⟩, okT0⟩, mcB0⟩, rfl⟩
  by_cases h2 : k = 2
  · simp only [if_neg h0, if_neg h1, if_pos h2]
    constructor
    · rintro ⟨⟨⟨⟨⟨⟨⟨⟨⟨⟨⟨⟨g0, g1⟩, g2⟩, g3⟩, g4⟩, g5⟩, g6⟩, g7⟩, t1⟩, t2⟩, t3⟩, m⟩, e⟩
      exact ⟨⟨g0, g1⟩, ⟨g2, g3, g4, t2, hc.1 m⟩, e.symm⟩
    · rintro ⟨⟨g0, g1⟩, ⟨g2, g3, g4, t2, m⟩, e⟩
      rw [rq_eq] at e
      obtain ⟨_, rfl, _, _, _, _, _, rfl, rfl, rfl, rfl⟩ := e
      exact ⟨⟨⟨⟨⟨⟨⟨⟨⟨⟨⟨⟨g0, g1⟩, g2⟩, g3⟩, g4⟩, good0⟩, good0⟩, good0⟩, okT0⟩, t2⟩, okT0⟩, hc.2 m⟩, rfl⟩
  by_cases h4 : k = 4
  · simp only [if_neg h0, if_neg h1, if_neg h2, if_pos h4]
    constructor
    · rintro ⟨⟨⟨⟨⟨⟨⟨⟨⟨⟨⟨⟨g0, g1⟩, g2⟩, g3⟩, g4⟩, g5⟩, g6⟩, g7⟩, t1⟩, t2⟩, t3⟩, m⟩, e⟩
      exact ⟨⟨g0, g1⟩, ⟨g2, g3, t3⟩, e.symm⟩
    · rintro ⟨⟨g0, g1⟩, ⟨g2, g3, t3⟩, e⟩
      rw [rq_eq] at e
      obtain ⟨_, rfl, _, _, rfl, rfl, rfl, _, rfl, rfl, rfl⟩ := e
      exact ⟨⟨⟨⟨⟨⟨⟨⟨⟨⟨⟨⟨g0, g1⟩, g2⟩, g3⟩, good0⟩, good0⟩, good0⟩, good0⟩, okT0⟩, okT0⟩, t3⟩, mcB0⟩, rfl⟩
  by_cases h5 : k = 5
  · simp only [if_neg h0, if_neg h1, if_neg h2, if_neg h4, if_pos h5]
    constructor
    · rintro ⟨⟨⟨⟨⟨⟨⟨⟨⟨⟨⟨⟨g0, g1⟩, g2⟩, g3⟩, g4⟩, g5⟩, g6⟩, g7⟩, t1⟩, t2⟩, t3⟩, m⟩, e⟩
      exact ⟨⟨g0, g1⟩, ⟨g2, g3, g5, g6⟩, e.symm⟩
    · rintro ⟨⟨g0, g1⟩, ⟨g2, g3, g5, g6⟩, e⟩
      rw [rq_eq] at e
      obtain ⟨_, rfl, _, _, rfl, rfl, rfl, rfl, _, _, rfl⟩ := e
      exact ⟨⟨⟨⟨⟨⟨⟨⟨⟨⟨⟨⟨g0, g1⟩, g2⟩, g3⟩, good0⟩, g5⟩, g6⟩, good0⟩, okT0⟩, okT0⟩, okT0⟩, mcB0⟩, rfl⟩
  by_cases h6 : k = 6 ∨ k = 7
  · simp only [if_neg h0, if_neg h1, if_neg h2, if_neg h4, if_neg h5, if_pos h6]
    constructor
    · rintro ⟨⟨⟨⟨⟨⟨⟨⟨⟨⟨⟨⟨g0, g1⟩, g2⟩, g3⟩, g4⟩, g5⟩, g6⟩, g7⟩, t1⟩, t2⟩, t3⟩, m⟩, e⟩
      exact ⟨⟨g0, g1⟩, ⟨g2, g3, g7⟩, e.symm⟩
    · rintro ⟨⟨g0, g1⟩, ⟨g2, g3, g7⟩, e⟩
      rw [rq_eq] at e
      obtain ⟨_, rfl, _, _, rfl, rfl, rfl, rfl, rfl, rfl, _⟩ := e
      exact ⟨⟨⟨⟨⟨⟨⟨⟨⟨⟨⟨⟨g0, g1⟩, g2⟩, g3⟩, good0⟩, good0⟩, good0⟩, g7⟩, okT0⟩, okT0⟩, okT0⟩, mcB0⟩, rfl⟩
  simp only [if_neg h0, if_neg h1, if_neg h2, if_neg h4, if_neg h5, if_neg h6]
  constructor
  · rintro ⟨⟨⟨⟨⟨⟨⟨⟨⟨⟨⟨⟨g0, g1⟩, g2⟩, g3⟩, g4⟩, g5⟩, g6⟩, g7⟩, t1⟩, t2⟩, t3⟩, m⟩, e⟩
    exact ⟨⟨g0, g1⟩, ⟨g2, g3⟩, e.symm⟩
  · rintro ⟨⟨g0, g1⟩, ⟨g2, g3⟩, e⟩
    rw [rq_eq] at e
    obtain ⟨_, rfl, _, _, rfl, rfl, rfl, rfl, rfl, rfl, rfl⟩ := e
    exact ⟨⟨⟨⟨⟨⟨⟨⟨⟨⟨⟨⟨g0, g1⟩, g2⟩, g3⟩, good0⟩, good0⟩, good0⟩, good0⟩, okT0⟩, okT0⟩, okT0⟩, mcB0⟩, rfl⟩

end Go.Proofs.Ytlgacmmofimlmab
