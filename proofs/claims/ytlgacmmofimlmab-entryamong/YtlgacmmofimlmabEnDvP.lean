/-
  The document's own MayVerdict, plainly. (Written by mk/mkownv.py.)
-/
import Derived.Test.YtlgacmmofimlmabEnDcP
import Derived.Test.YtlgacmmofimlmabF13
namespace Go.Proofs.Ytlgacmmofimlmab

/-- A verdict with the fields of its Code alone. -/
def ownV (v : Vt) : Vt :=
  if v.c = 1 then ⟨v.c, v.s, 0, [], 0, [], 0⟩
  else if v.c = 2 ∨ v.c = 4 ∨ v.c = 8 then ⟨v.c, 0, v.r, [], 0, [], 0⟩
  else if v.c = 3 then ⟨v.c, 0, v.r, v.p, 0, [], 0⟩
  else if v.c = 9 then ⟨v.c, 0, v.r, v.p, v.d, [], 0⟩
  else if v.c = 10 then ⟨v.c, 0, 0, v.p, 0, [], 0⟩
  else if v.c = 11 then ⟨v.c, 0, 0, [], 0, v.k, 0⟩
  else if v.c = 12 ∨ v.c = 13 ∨ v.c = 14 then ⟨v.c, 0, 0, [], 0, [], v.m⟩
  else ⟨v.c, 0, 0, [], 0, [], 0⟩

def kOk (x : Com) : Bool := goodB x.r && goodB x.b && okT x.n && mcB x.c

def headB (v : Vt) : Bool := decide (0 ≤ v.c) && decide (v.c < 15) && goodB v.s && goodB v.r && goodB v.m && okT v.p && decide (v.k.length ≤ 32) && decide (v = ownV v)

def mvB (v : Vt) : Bool := headB v && v.k.all kOk

theorem kOk_iff (x : Com) (h : U64c x.c) : kOk x = true ↔ okCom x := by
  unfold kOk okCom
  rw [Bool.and_eq_true, Bool.and_eq_true, Bool.and_eq_true, mcB_iff x.c h]
  exact ⟨fun ⟨⟨⟨a, b⟩, c⟩, d⟩ => ⟨a, b, c, d⟩, fun ⟨a, b, c, d⟩ => ⟨⟨⟨a, b⟩, c⟩, d⟩⟩

theorem ks_iff (L : List Com) (h : ∀ x ∈ L, U64c x.c) : L.length ≤ 32 ∧ L.all kOk = true ↔ okComs L := by
  unfold okComs
  rw [List.all_eq_true]
  exact and_congr_right (fun _ => forall_congr' (fun x => forall_congr' (fun hx => kOk_iff x (h x hx))))

theorem mv_ok (v : Vt) (h : U64v v) : mvB v = true ↔ okVer v := by
  obtain ⟨c, s, r, p, d, k, m⟩ := v
  have hc := ks_iff k h.2
  have hd := h.1
  simp only at hd
  unfold mvB headB okVer okG ownV
  simp only [Bool.and_eq_true, decide_eq_true_eq] at *
  have hk : goodB c = true ∧ c ≤ 14 ↔ 0 ≤ c ∧ c < 15 := by rw [good_iff]; omega
  rw [hk]
  by_cases h1 : c = 1
  · simp only [if_pos h1]
    constructor
    · rintro ⟨⟨⟨⟨⟨⟨⟨⟨g0, g1⟩, g2⟩, g3⟩, g4⟩, t1⟩, l⟩, e⟩, a⟩
      exact ⟨⟨g0, g1⟩, g2, e.symm⟩
    · rintro ⟨⟨g0, g1⟩, g2, e⟩
      rw [vt_eq] at e
      obtain ⟨_, _, rfl, rfl, rfl, rfl, rfl⟩ := e
      exact ⟨⟨⟨⟨⟨⟨⟨⟨g0, g1⟩, g2⟩, good0⟩, good0⟩, okT0⟩, by simp⟩, rfl⟩, by simp⟩
  by_cases h2 : c = 2 ∨ c = 4 ∨ c = 8
  · simp only [if_neg h1, if_pos h2]
    constructor
    · rintro ⟨⟨⟨⟨⟨⟨⟨⟨g0, g1⟩, g2⟩, g3⟩, g4⟩, t1⟩, l⟩, e⟩, a⟩
      exact ⟨⟨g0, g1⟩, g3, e.symm⟩
    · rintro ⟨⟨g0, g1⟩, g3, e⟩
      rw [vt_eq] at e
      obtain ⟨_, rfl, _, rfl, rfl, rfl, rfl⟩ := e
      exact ⟨⟨⟨⟨⟨⟨⟨⟨g0, g1⟩, good0⟩, g3⟩, good0⟩, okT0⟩, by simp⟩, rfl⟩, by simp⟩
  by_cases h3 : c = 3
  · simp only [if_neg h1, if_neg h2, if_pos h3]
    constructor
    · rintro ⟨⟨⟨⟨⟨⟨⟨⟨g0, g1⟩, g2⟩, g3⟩, g4⟩, t1⟩, l⟩, e⟩, a⟩
      exact ⟨⟨g0, g1⟩, ⟨t1, g3⟩, e.symm⟩
    · rintro ⟨⟨g0, g1⟩, ⟨t1, g3⟩, e⟩
      rw [vt_eq] at e
      obtain ⟨_, rfl, _, _, rfl, rfl, rfl⟩ := e
      exact ⟨⟨⟨⟨⟨⟨⟨⟨g0, g1⟩, good0⟩, g3⟩, good0⟩, t1⟩, by simp⟩, rfl⟩, by simp⟩
  by_cases h9 : c = 9
  · simp only [if_neg h1, if_neg h2, if_neg h3, if_pos h9]
    constructor
    · rintro ⟨⟨⟨⟨⟨⟨⟨⟨g0, g1⟩, g2⟩, g3⟩, g4⟩, t1⟩, l⟩, e⟩, a⟩
      exact ⟨⟨g0, g1⟩, ⟨t1, hd, g3⟩, e.symm⟩
    · rintro ⟨⟨g0, g1⟩, ⟨t1, _, g3⟩, e⟩
      rw [vt_eq] at e
      obtain ⟨_, rfl, _, _, _, rfl, rfl⟩ := e
      exact ⟨⟨⟨⟨⟨⟨⟨⟨g0, g1⟩, good0⟩, g3⟩, good0⟩, t1⟩, by simp⟩, rfl⟩, by simp⟩
  by_cases h10 : c = 10
  · simp only [if_neg h1, if_neg h2, if_neg h3, if_neg h9, if_pos h10]
    constructor
    · rintro ⟨⟨⟨⟨⟨⟨⟨⟨g0, g1⟩, g2⟩, g3⟩, g4⟩, t1⟩, l⟩, e⟩, a⟩
      exact ⟨⟨g0, g1⟩, t1, e.symm⟩
    · rintro ⟨⟨g0, g1⟩, t1, e⟩
      rw [vt_eq] at e
      obtain ⟨_, rfl, rfl, _, rfl, rfl, rfl⟩ := e
      exact ⟨⟨⟨⟨⟨⟨⟨⟨g0, g1⟩, good0⟩, good0⟩, good0⟩, t1⟩, by simp⟩, rfl⟩, by simp⟩
  by_cases h11 : c = 11
  · simp only [if_neg h1, if_neg h2, if_neg h3, if_neg h9, if_neg h10, if_pos h11]
    constructor
    · rintro ⟨⟨⟨⟨⟨⟨⟨⟨g0, g1⟩, g2⟩, g3⟩, g4⟩, t1⟩, l⟩, e⟩, a⟩
      exact ⟨⟨g0, g1⟩, hc.1 ⟨l, a⟩, e.symm⟩
    · rintro ⟨⟨g0, g1⟩, kk, e⟩
      rw [vt_eq] at e
      obtain ⟨_, rfl, rfl, rfl, rfl, _, rfl⟩ := e
      exact ⟨⟨⟨⟨⟨⟨⟨⟨g0, g1⟩, good0⟩, good0⟩, good0⟩, okT0⟩, (hc.2 kk).1⟩, rfl⟩, (hc.2 kk).2⟩
  by_cases h12 : c = 12 ∨ c = 13 ∨ c = 14
  · simp only [if_neg h1, if_neg h2, if_neg h3, if_neg h9, if_neg h10, if_neg h11, if_pos h12]
    constructor
    · rintro ⟨⟨⟨⟨⟨⟨⟨⟨g0, g1⟩, g2⟩, g3⟩, g4⟩, t1⟩, l⟩, e⟩, a⟩
      exact ⟨⟨g0, g1⟩, g4, e.symm⟩
    · rintro ⟨⟨g0, g1⟩, g4, e⟩
      rw [vt_eq] at e
      obtain ⟨_, rfl, rfl, rfl, rfl, rfl, _⟩ := e
      exact ⟨⟨⟨⟨⟨⟨⟨⟨g0, g1⟩, good0⟩, good0⟩, g4⟩, okT0⟩, by simp⟩, rfl⟩, by simp⟩
  simp only [if_neg h1, if_neg h2, if_neg h3, if_neg h9, if_neg h10, if_neg h11, if_neg h12]
  constructor
  · rintro ⟨⟨⟨⟨⟨⟨⟨⟨g0, g1⟩, g2⟩, g3⟩, g4⟩, t1⟩, l⟩, e⟩, a⟩
    exact ⟨⟨g0, g1⟩, e⟩
  · rintro ⟨⟨g0, g1⟩, e⟩
    rw [vt_eq] at e
    obtain ⟨_, rfl, rfl, rfl, rfl, rfl, rfl⟩ := e
    exact ⟨⟨⟨⟨⟨⟨⟨⟨g0, g1⟩, good0⟩, good0⟩, good0⟩, okT0⟩, by simp⟩, rfl⟩, by simp⟩

end Go.Proofs.Ytlgacmmofimlmab
