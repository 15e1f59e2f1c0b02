/-
  The document's writer: what it comes to.
-/
import Derived.Test.YtlgacmmofimlmaaF13
import Derived.Test.YtlgacmmofimlmaaF6
import Derived.Test.YtlgacmmofimlmaaF7
import Derived.Test.YtlgacmmofimlmaaF11
import Derived.Test.YtlgacmmofimlmaaF2
namespace Go.Proofs.Ytlgacmmofimlmaa
open Go.RowKit

/-- The document's writer at block p. -/
def AtW (p : Nat) (w : World) (O : List Nat) (s : List Int × Int) (m : Nat) : Prop := ∃ g : Option Nat, O = p :: g.toList ∧ RW w p g s.1 s.2 ∧ s.1.length + 300 * m ≤ 1000000000

def stepD (s : List Int × Int) (b : List Int) : List Int × Int := if s.2 = 0 then (s.1 ++ b, 0) else s
def refD (s : List Int × Int) : List Int × Int := if s.2 = 0 then (s.1, 1) else s

theorem stepD_trans (s : List Int × Int) (a b : List Int) : stepD (stepD s a) b = stepD s (a ++ b) := by
  unfold stepD
  by_cases h : s.2 = 0
  · simp [h]
  · simp [h]

theorem stepD_nil (s : List Int × Int) : stepD s [] = s := by
  unfold stepD
  by_cases h : s.2 = 0
  · rw [if_pos h, List.append_nil, ← h]
  · rw [if_neg h]

theorem stepD_length (s : List Int × Int) (b : List Int) : (stepD s b).1.length ≤ s.1.length + b.length := by
  unfold stepD
  split
  · simp
  · omega

theorem dw_went {p : Nat} {w w' : World} {g : Option Nat} {q : List Int × Int} {r : Ending} {m : Nat} (h : RWrote w p g q r w') (hl : q.1.length + 300 * m ≤ 1000000000) : Went (AtW p) w (p :: g.toList) q m w' := by
  obtain ⟨_, g', h2, h3, h4⟩ := h
  refine ⟨p :: g'.toList, ⟨g', rfl, h2, hl⟩, h4, fun k hk => ?_⟩
  rcases List.mem_cons.1 hk with h5 | h5
  · exact .inl (by rw [h5]; exact List.mem_cons_self ..)
  · rcases h3 k (by simpa using h5) with h6 | h6
    · exact .inl (List.mem_cons_of_mem _ (by simpa using h6))
    · exact .inr h6

theorem AtW.lt {p : Nat} {w : World} {O : List Nat} {s : List Int × Int} {m : Nat} (h : AtW p w O s m) : ∀ k ∈ O, k < w.heap.size := by
  obtain ⟨g, rfl, hw, _⟩ := h
  intro k hk
  obtain ⟨v, h1, h2, h3, _⟩ := hw
  rcases List.mem_cons.1 hk with h5 | h5
  · subst h5; exact lt_of_at h1
  · exact (World.ownsRow.lt h2 k (by rw [h3]; simpa using h5)).2

theorem AtW.kept {p : Nat} {w w' : World} {O S : List Nat} {s : List Int × Int} {m : Nat} (h : AtW p w O s m) (k : Kept S w w') (hO : ∀ i ∈ O, i ∉ S) : AtW p w' O s m := by
  obtain ⟨g, rfl, hw, hl⟩ := h
  exact ⟨g, rfl, RW.kept k hw (hO p (by simp)) (fun i hi => hO i (by rw [hi]; simp)), hl⟩

theorem AtW.less {p : Nat} {w : World} {O : List Nat} {s : List Int × Int} {m m' : Nat} (h : AtW p w O s m) (hm : m' ≤ m) : AtW p w O s m' := by
  obtain ⟨g, e, hw, hl⟩ := h
  exact ⟨g, e, hw, by omega⟩

def DwP (p : Nat) (w : World) (O : List Nat) (s : List Int × Int) (m : Nat) (r : Ending) (w' : World) : Prop := r = .returned (.tuple #[]) ∧ Went (AtW p) w O s m w'

theorem dw_of {p : Nat} {w : World} {O : List Nat} {s : List Int × Int} {m : Nat} {f : FuncId} {a : Array Value} {b : List Int} (hA : AtW p w O s (m + 1)) (hb : b.length ≤ 300) (h : ∀ g, RW w p g s.1 s.2 → s.1.length ≤ 1000000000 → Calls Try.prog f a w (RWrote w p g (stepD s b))) : Calls Try.prog f a w (DwP p w O (stepD s b) m) := by
  obtain ⟨g, rfl, hw, hl⟩ := hA
  refine (h g hw (by omega)).mono (fun r w' hr => ⟨hr.1, dw_went hr ?_⟩)
  have := stepD_length s b
  omega

theorem dw_num (p : Nat) (w : World) (O : List Nat) (s : List Int × Int) (m : Nat) (n : Int) (hn : goodB n = true) (hA : AtW p w O s (m + 1)) :
    Calls Try.prog 59 #[.pointer (some ⟨p, 0, none⟩), .int .i64 n] w (DwP p w O (stepD s (encNum n)) m) := by
  refine dw_of hA (by have := enc_length 5 n; unfold encNum; omega) (fun g hw hl => ?_)
  have h := rwnum_call w p g s.1 s.2 n hw hl
  have e : rrNum s.2 s.1 n = stepD s (encNum n) := by
    unfold rrNum stepD
    by_cases hs : s.2 = 0
    · rw [if_pos hs, if_pos hs, if_pos ((good_iff n).1 hn)]
    · rw [if_neg hs, if_neg hs]
  rw [e] at h
  exact h

theorem dw_text (p : Nat) (w : World) (O : List Nat) (s : List Int × Int) (m : Nat) (t : List UInt8) (ht : okT t = true) (hA : AtW p w O s (m + 1)) :
    Calls Try.prog 60 #[.pointer (some ⟨p, 0, none⟩), .string (str t)] w (DwP p w O (stepD s (bT t)) m) := by
  have hl0 : t.length ≤ 255 := by unfold okT at ht; simpa using ht
  have hi := intsT_length t
  unfold intsT at hi
  refine dw_of hA (by have := enc_length 5 (t.length : Int); unfold bT encNum intsT; rw [List.length_append]; omega) (fun g hw hl => ?_)
  have h := rwtext_call w p g s.1 s.2 (str t) hw hl (by rw [str_size]; omega)
  have e : rrRun s.2 s.1 (strOf (str t)) = stepD s (bT t) := by
    unfold rrRun stepD bT intsT
    by_cases hs : s.2 = 0
    · rw [if_pos hs, if_pos hs, if_pos (by omega), hi]
    · rw [if_neg hs, if_neg hs]
  rw [e] at h
  exact h

theorem dw_flag (p : Nat) (w : World) (O : List Nat) (s : List Int × Int) (m : Nat) (b : Bool) (hA : AtW p w O s (m + 1)) :
    Calls Try.prog 91 #[.pointer (some ⟨p, 0, none⟩), .bool b] w (DwP p w O (stepD s (bF b)) m) := by
  refine dw_of hA (by simp [bF]) (fun g hw hl => ?_)
  have h := rwflag_call w p g s.1 s.2 b hw hl
  have e : rrFlag s.2 s.1 b = stepD s (bF b) := by
    unfold rrFlag stepD bF
    by_cases hs : s.2 = 0
    · rw [if_pos hs]
    · rw [if_neg hs]
  rw [e] at h
  exact h

theorem dw_word (p : Nat) (w : World) (O : List Nat) (s : List Int × Int) (m : Nat) (x : Int) (hA : AtW p w O s (m + 1)) :
    Calls Try.prog 73 #[.pointer (some ⟨p, 0, none⟩), .int .u64 x] w (DwP p w O (stepD s (hiB 8 x)) m) := by
  refine dw_of hA (by rw [hiB_length]; omega) (fun g hw hl => ?_)
  have h := rwword_call w p g s.1 s.2 x hw hl
  have e : rrWord s.2 s.1 x = stepD s (hiB 8 x) := by
    unfold rrWord stepD
    by_cases hs : s.2 = 0
    · rw [if_pos hs]
    · rw [if_neg hs]
  rw [e] at h
  exact h

theorem dw_refuse (p : Nat) (w : World) (O : List Nat) (s : List Int × Int) (m : Nat) (hA : AtW p w O s m) :
    Calls Try.prog 58 #[.pointer (some ⟨p, 0, none⟩)] w (DwP p w O (refD s) m) := by
  obtain ⟨g, rfl, hw, hl⟩ := hA
  have e : rrRefuse s.2 s.1 = refD s := by
    unfold rrRefuse refD
    by_cases hs : s.2 = 0
    · rw [if_pos hs]
    · rw [if_neg hs]
  have h := rwrefuse_call w p g s.1 s.2 hw
  rw [e] at h
  refine h.mono (fun r w' hr => ⟨hr.1, dw_went hr ?_⟩)
  unfold refD
  split <;> exact hl

/-- Written so far, and a box of one's own is as it was. -/
def WB (p : Nat) (W : World) (O : List Nat) (b : Nat) (T : TypeId) (cs : List Value) (s : List Int × Int) (m : Nat) (w : World) : Prop := Went (AtW p) W O s m w ∧ Bx w b T cs

theorem wb_step {p : Nat} {W : World} {O : List Nat} {b : Nat} {T : TypeId} {cs : List Value} {s s' : List Int × Int} {m m' : Nat} {w : World} {f : FuncId} {a : Array Value} (h : WB p W O b T cs s m w) (hb : b < W.heap.size) (hO : b ∉ O)
    (c : ∀ O', (∀ k ∈ O', k ∈ O ∨ W.heap.size ≤ k) → Kept O W w → AtW p w O' s m → Calls Try.prog f a w (DwP p w O' s' m')) : Calls Try.prog f a w fun r w' => r = .returned (.tuple #[]) ∧ WB p W O b T cs s' m' w' := by
  obtain ⟨⟨O1, hA, hk, hn⟩, hB⟩ := h
  refine (c O1 hn hk hA).mono (fun r w' hr => ⟨hr.1, Went.trans hk hn hr.2, ?_⟩)
  obtain ⟨O2, _, hk2, _⟩ := hr.2
  refine hB.kept hk2 (fun hm => ?_)
  rcases hn b hm with h1 | h1
  · exact hO h1
  · omega

end Go.Proofs.Ytlgacmmofimlmaa
