/-
  The document's reader: what it comes to.
-/
import Derived.Test.YtlgacmmofimlmaaEnDrP
import Derived.Test.YtlgacmmofimlmaaF2
namespace Go.Proofs.Ytlgacmmofimlmaa
open Go.RowKit

/-- The document's reader at block p, its bytes below B. -/
def AtR (B p : Nat) (w : World) (s : St) : Prop := RR w B p s.1 s.2 ∧ s.1.length ≤ 1000000000

theorem AtR.nl {B p : Nat} {w : World} {s : St} (h : AtR B p w s) : Nl s := by
  obtain ⟨⟨_, _, _, _, _, _, _, h6⟩, _⟩ := h
  exact h6

theorem AtR.oct {B p : Nat} {w : World} {s : St} (h : AtR B p w s) : Oct s.1 := by
  obtain ⟨⟨_, _, _, _, _, _, h5, _⟩, _⟩ := h
  exact h5

theorem AtR.lt {B p : Nat} {w : World} {s : St} (h : AtR B p w s) : p < w.heap.size ∧ B ≤ p := by
  obtain ⟨⟨_, _, h1, _, _, h4, _, _⟩, _⟩ := h
  exact ⟨lt_of_at h1, h4⟩

theorem AtR.fail {B p : Nat} {w : World} {s : St} (h : AtR B p w s) : w.cell? ⟨p, 1, none⟩ = some (.int .i64 s.2) := by
  obtain ⟨⟨_, _, h1, _⟩, _⟩ := h
  exact h1.cells.2.1

theorem AtR.kept {S : List Nat} {B p : Nat} {w w' : World} {s : St} (h : AtR B p w s) (k : Kept S w w') (hp : p ∉ S) (hS : ∀ i ∈ S, B ≤ i) : AtR B p w' s := ⟨RR.kept k h.1 hp hS, h.2⟩

/-- What a call of the reader answers, and leaves. -/
def DrP (B p : Nat) (w : World) (q : Value × St) (r : Ending) (w' : World) : Prop := r = .returned q.1 ∧ AtR B p w' q.2 ∧ Kept [p] w w'

theorem dr_num (B p : Nat) (w : World) (s : St) (h : AtR B p w s) : Calls Try.prog 63 #[.pointer (some ⟨p, 0, none⟩)] w (DrP B p w (.int .i64 (eyeP.num s 0).1, (eyeP.num s 0).2)) :=
  (rrnum_call w B p s.1 s.2 h.1).mono (fun _ _ hr => ⟨hr.1, ⟨hr.2.1, Nat.le_trans rdNumE_short h.2⟩, hr.2.2⟩)

theorem dr_text (B p : Nat) (w : World) (s : St) (h : AtR B p w s) : Calls Try.prog 65 #[.pointer (some ⟨p, 0, none⟩), .int .i64 255] w (DrP B p w (.string (str (eyeP.text s []).1), (eyeP.text s []).2)) :=
  (rrtext_call w B p s.1 s.2 255 h.1 h.2).mono (fun _ _ hr => ⟨hr.1, ⟨hr.2.1, Nat.le_trans (by
    show (rdRunE s.2 255 s.1).2.2.length ≤ s.1.length
    unfold rdRunE
    split
    · exact rdRun_short.2
    · simp) h.2⟩, hr.2.2⟩)

theorem dr_flag (B p : Nat) (w : World) (s : St) (h : AtR B p w s) : Calls Try.prog 94 #[.pointer (some ⟨p, 0, none⟩)] w (DrP B p w (.bool (eyeP.flag s false).1, (eyeP.flag s false).2)) :=
  (rrflag_call w B p s.1 s.2 h.1).mono (fun _ _ hr => ⟨hr.1, ⟨hr.2.1, Nat.le_trans (by
    show (rdFlagE s.2 s.1).2.2.length ≤ s.1.length
    unfold rdFlagE
    split
    · cases s.1 with
      | nil => simp [rdFlag]
      | cons d l => by_cases hd : 1 < d <;> simp [rdFlag, hd]
    · simp) h.2⟩, hr.2.2⟩)

theorem dr_word (B p : Nat) (w : World) (s : St) (h : AtR B p w s) : Calls Try.prog 69 #[.pointer (some ⟨p, 0, none⟩)] w (DrP B p w (.int .u64 (eyeP.word s 0).1, (eyeP.word s 0).2)) :=
  (rrword_call w B p s.1 s.2 h.1).mono (fun _ _ hr => ⟨hr.1, ⟨hr.2.1, Nat.le_trans (by
    show (rdWordE s.2 s.1).2.2.length ≤ s.1.length
    unfold rdWordE
    split
    · unfold rdWord; split <;> simp
    · simp) h.2⟩, hr.2.2⟩)

theorem dr_refuse (B p : Nat) (w : World) (s : St) (h : AtR B p w s) : Calls Try.prog 64 #[.pointer (some ⟨p, 0, none⟩)] w (DrP B p w (.tuple #[], ([], rdRefE s.2))) :=
  (rrrefuse_call w B p s.1 s.2 h.1).mono (fun _ _ hr => ⟨hr.1, ⟨hr.2.1, Nat.zero_le _⟩, hr.2.2⟩)

theorem dr_end (B p : Nat) (w : World) (s : St) (h : AtR B p w s) : Calls Try.prog 37 #[.pointer (some ⟨p, 0, none⟩)] w fun r w' => r = .returned (.int .i64 (endE s)) ∧ w = w' := rrend_call w B p s.1 s.2 h.1

theorem itR_len {α : Type} (one : St → α × St) (s : St) : ∀ n, (itR one n s).1.length ≤ n
  | 0 => by simp [itR]
  | n + 1 => by
    have := itR_len one s n
    rw [itR]
    split
    · simp; omega
    · omega

theorem own_off {B p : Nat} {w w' : World} {v : Value} {L : List Ch} (h : OwnC B w v L) (k : Kept [p] w w') (hp : p < B) : OwnC B w' v L :=
  k.ownsRow h (fun i hi hm => by have := (World.ownsRow.lt h i hi).1; simp at hm; omega)

/-- A row that was made, and the reader behind it. -/
def TkP (B p : Nat) (w : World) (q : List Ch × St) (r : Ending) (w' : World) : Prop := ∃ v, r = .returned v ∧ OwnC w.heap.size w' v q.1 ∧ AtR B p w' q.2 ∧ Kept [p] w w'

def TkI (B p : Nat) (w : World) (s1 : St) (N : Nat) (lv iv : Value) (wr : World) : Prop :=
  ∃ (i : Nat) (L : List Ch) (st : St), iv = .int .i64 (i : Int) ∧ i ≤ N ∧ Hid (OwnC w.heap.size wr lv L) ∧ Hid (AtR B p wr st) ∧ Hid (Kept [p] w wr) ∧ Hid (itR chgR i s1 = (L, st))

theorem rdRefE_ne (e : Int) : rdRefE e ≠ 0 := by unfold rdRefE; split <;> omega

end Go.Proofs.Ytlgacmmofimlmaa
