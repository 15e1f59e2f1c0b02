/-
  A writer's other calls: texts, flags, words, and a thing.
-/
import Derived.Test.YtfmklcnilmhnbabWr3
import Derived.Test.YtfmklcnilmhnbabThing0
namespace Go.Proofs.Ytfmklcnilmhnbab
open Go.RowKit

set_option maxHeartbeats 1000000 in
theorem writeStr_any (w : World) (p : Nat) (g : Option Nat) (l : List Int) (e : Int) (s : ByteArray) (hw : Wr w p g l e) (hm : s.size ≤ 9223372036854775807) (hl : l.length ≤ 1000000000) :
    Calls Try.prog 54 #[.pointer (some ⟨p, 0, none⟩), .string s] w (Wrote w p g (wrRun e l (strOf s))) := by
  have hsl := strOf_length s
  have hom := strOf_oct s
  obtain ⟨m, hmm⟩ : ∃ m, m = strOf s := ⟨_, rfl⟩
  rw [← hmm] at hsl hom ⊢
  have HM : Hid (m = strOf s) := hmm
  have HSL : Hid (m.length = s.size) := hsl
  clear hsl hmm
  obtain ⟨v, h1, h2, h3, h4, h5, h6⟩ := hw
  have H1 : Hid (WrAt w p v e) := h1
  have H2 : Hid (Own w v l) := h2
  obtain ⟨c0, c1, c2, c3⟩ := h1.cells
  clear h1 h2
  by_cases he : e = 0
  · subst he
    by_cases hbig : 1048576 < s.size
    · have hb2 : (1048576 : Int) < (s.size : Int) := by omega
      have HQ : Hid (wrRun 0 l m = ([], 3)) := by show wrRun 0 l m = ([], 3); unfold wrRun; rw [if_pos rfl, if_neg (by rw [HSL.out]; omega)]
      go_enter Try.func54, Try.ntmps54
      go_wp2_with fail
      refine (writes_any _ _ _ _ H1.out).mono ?_
      rintro _ _ ⟨rfl, rfl⟩
      go_wp2_with fail
      refine (wfail_any _ _ _ _ _ H1.out).mono ?_
      rintro _ w1 ⟨rfl, hA1, hk⟩
      go_wp2
      go_returns
      rw [HQ.out]
      exact Wrote.failed hA1 hk
    · have hb2 : ¬ (1048576 : Int) < (s.size : Int) := by omega
      have HQ : Hid (wrRun 0 l m = (l ++ (encNum s.size ++ m), 0)) := by show wrRun 0 l m = _; unfold wrRun; rw [if_pos rfl, if_pos (by rw [HSL.out]; omega), HSL.out]
      go_enter Try.func54, Try.ntmps54
      go_wp2_with fail
      refine (writes_any _ _ _ _ H1.out).mono ?_
      rintro _ _ ⟨rfl, rfl⟩
      go_wp2_with fail
      refine (appendNumber_any _ _ _ _ H2.out (by omega) (by omega) hl).mono ?_
      rintro _ w1 ⟨v1, rfl, hO1, hfr1, hk1⟩
      have hpS : p ∉ v.ownBlock.toList := by rw [h3]; simp; exact h4
      have hA1 : WrAt w1 p v 0 := hk1.at H1.out hpS
      obtain ⟨d0, d1, d2, d3⟩ := hA1.cells
      have hpw := lt_of_at H1.out
      have hne : v1.ownBlock ≠ some p := by
        intro h7
        rcases hfr1 p h7 with h8 | h8
        · exact h4 (by rw [← h3]; exact h8)
        · omega
      have hlenA : (l ++ encNum (s.size : Int)).length ≤ 1000000006 := by have := enc_length 5 (s.size : Int); simp [encNum]; omega
      generalize hLA : l ++ encNum (s.size : Int) = LA at hO1 hlenA
      have HLA : Hid (l ++ encNum (s.size : Int) = LA) := hLA
      clear hLA
      obtain ⟨a1, n1, cc1, rfl, hs1, hb1⟩ := own_sl hO1
      clear c0 c1 c2 c3
      have hKp : Kept [p] w1 (w1.setCell ⟨p, 1, none⟩ (.slice a1 n1 cc1)) := (Kept.refl _ _).setCell (by simp) _
      have hO2 : Own (w1.setCell ⟨p, 1, none⟩ (.slice a1 n1 cc1)) (.slice a1 n1 cc1) LA := hKp.ownsRow hO1 (by intro k hk h7; simp at h7; subst h7; exact hne hk)
      have hA2 : WrAt (w1.setCell ⟨p, 1, none⟩ (.slice a1 n1 cc1)) p (.slice a1 n1 cc1) 0 := hA1.set1 _
      have hK2 : Kept (p :: g.toList) w (w1.setCell ⟨p, 1, none⟩ (.slice a1 n1 cc1)) := (hk1.mono (T := p :: g.toList) (by rw [h3]; intro i hi; exact .inl (by simp at hi ⊢; exact .inr hi))).setCell (by simp) _
      have hsz : w.heap.size ≤ (w1.setCell ⟨p, 1, none⟩ (.slice a1 n1 cc1)).heap.size := hK2.size
      go_wp2_with (at_builtin; refine wp_appS rfl _ _ rfl _ LA rfl hO2 s rfl (by omega) ?_)
      intro v3 w3 hO3 hf3 hk3
      have hA3 : WrAt w3 p (.slice a1 n1 cc1) 0 := hk3.at hA2 (by simpa using hne)
      obtain ⟨e0, e1, e2, e3⟩ := hA3.cells
      have hF3 : Fresh w g v3.ownBlock := by
        intro k hk
        rcases hf3 k hk with h8 | h8
        · rcases hfr1 k h8 with h9 | h9
          · exact .inl (by rw [← h3]; exact h9)
          · exact .inr h9
        · exact .inr (by omega)
      have hne3 : v3.ownBlock ≠ some p := by
        intro h7
        rcases hF3 p h7 with h8 | h8
        · exact h4 h8
        · omega
      have hK3 : Kept (p :: g.toList) w w3 := hK2.trans hk3 (by
        intro i hi
        rcases hfr1 i (by simpa using hi) with h9 | h9
        · left; rw [h3] at h9; rw [h9]; simp
        · exact .inr h9)
      have HOK : Hid (Wrote w p g (wrRun 0 l m) (.returned (.tuple #[])) (w3.setCell ⟨p, 1, none⟩ v3)) := by
        show Wrote w p g (wrRun 0 l m) (.returned (.tuple #[])) (w3.setCell ⟨p, 1, none⟩ v3)
        rw [HQ.out]
        refine wrote_ok hA3 ?_ ?_ hne3 hF3 hK3
        · rw [← List.append_assoc, HLA.out, HM.out]; exact hO3
        · exact h5.append ((encNum_oct _ (by omega) (by omega)).append hom)
      obtain ⟨a3, n3, cc3, rfl, _, _⟩ := own_sl hO3
      clear hO3 hO2 hA2 hA3 d0 d1 d2 d3 hf3 hk3
      go_wp2
      go_end0
      exact HOK.out
  · have hq : wrRun e l m = ([], e) := by unfold wrRun; rw [if_neg he]
    have HQ : Hid (wrRun e l m = ([], e)) := hq
    obtain ⟨rfl, rfl⟩ := h6 he
    have hb : (e == 0) = false := by simp [he]
    clear hq he h6
    go_enter Try.func54, Try.ntmps54
    go_wp2_with fail
    refine (writes_any _ _ _ _ H1.out).mono ?_
    rintro _ _ ⟨rfl, rfl⟩
    go_wp2
    go_returns
    rw [HQ.out]
    exact Wrote.failed H1.out (Kept.refl _ _)

theorem wbytes_call (w : World) (p : Nat) (g : Option Nat) (l : List Int) (e : Int) (ao : Option Addr) (n c : Nat) (m : List Int) (hw : Wr w p g l e) (hs : Sl w ao n c m) (hom : Oct m) (hl : l.length ≤ 1000000000) (hd : 0 < n → ∀ k ∈ blk ao, k ∉ p :: g.toList) :
    Calls Try.prog 36 #[.pointer (some ⟨p, 0, none⟩), .slice ao n c] w (Wrote w p g (wrRun e l m)) := by
  go_enter Try.func36, Try.ntmps36
  go_wp2_with fail
  refine (writeBytes_any _ _ _ _ _ _ _ _ _ hw hs hom hl hd).mono ?_
  rintro r w1 hW
  have h := hW.1
  subst h
  clear hs hw
  go_wp2
  go_end0
  exact hW

theorem wtext_call (w : World) (p : Nat) (g : Option Nat) (l : List Int) (e : Int) (s : ByteArray) (hw : Wr w p g l e) (hm : s.size ≤ 9223372036854775807) (hl : l.length ≤ 1000000000) :
    Calls Try.prog 35 #[.pointer (some ⟨p, 0, none⟩), .string s] w (Wrote w p g (wrRun e l (strOf s))) := by
  go_enter Try.func35, Try.ntmps35
  go_wp2_with fail
  refine (writeStr_any _ _ _ _ _ _ hw hm hl).mono ?_
  rintro r w1 hW
  have h := hW.1
  subst h
  clear hw
  go_wp2
  go_end0
  exact hW

def wrFlag (e : Int) (l : List Int) (b : Bool) : List Int × Int := if e = 0 then (l ++ [if b then 1 else 0], 0) else ([], e)
def wrWord (e : Int) (l : List Int) (x : Int) : List Int × Int := if e = 0 then (l ++ hiB 8 x, 0) else ([], e)
def wrRefuse (e : Int) : List Int × Int := if e = 0 then ([], 1) else ([], e)

/-- What is left when the bytes v1 have been laid into the writer's field. -/
theorem wrote_field {w w1 : World} {p : Nat} {g : Option Nat} {v v1 : Value} {l : List Int} (hA : WrAt w p v 0) (h3 : v.ownBlock = g) (h4 : g ≠ some p) (hO : Own w1 v1 l) (ho : Oct l) (hf : Fresh w v.ownBlock v1.ownBlock) (hK : Kept v.ownBlock.toList w w1) :
    WrAt w1 p v 0 ∧ Wrote w p g (l, 0) (.returned (.tuple #[])) (w1.setCell ⟨p, 1, none⟩ v1) := by
  have hpw := lt_of_at hA
  have hA1 : WrAt w1 p v 0 := hK.at hA (by rw [h3]; simp; exact h4)
  refine ⟨hA1, wrote_ok hA1 hO ho ?_ (by rw [← h3]; exact hf) (hK.mono (by rw [h3]; intro i hi; exact .inl (by simp at hi ⊢; exact .inr hi)))⟩
  intro h7
  rcases hf p h7 with h8 | h8
  · exact h4 (by rw [← h3]; exact h8)
  · omega

set_option maxHeartbeats 1000000 in
theorem wword_call (w : World) (p : Nat) (g : Option Nat) (l : List Int) (e x : Int) (hw : Wr w p g l e) (hl : l.length ≤ 1000000000) :
    Calls Try.prog 38 #[.pointer (some ⟨p, 0, none⟩), .int .u64 x] w (Wrote w p g (wrWord e l x)) := by
  obtain ⟨v, h1, h2, h3, h4, h5, h6⟩ := hw
  have H1 : Hid (WrAt w p v e) := h1
  have H2 : Hid (Own w v l) := h2
  obtain ⟨c0, c1, c2, c3⟩ := h1.cells
  clear h1 h2
  by_cases he : e = 0
  · subst he
    have HQ : Hid (wrWord 0 l x = (l ++ hiB 8 x, 0)) := by show wrWord 0 l x = _; unfold wrWord; rw [if_pos rfl]
    go_enter Try.func38, Try.ntmps38
    go_wp2_with fail
    refine (writes_any _ _ _ _ H1.out).mono ?_
    rintro _ _ ⟨rfl, rfl⟩
    go_wp2_with fail
    refine (appendHigh_any _ _ _ _ 8 H2.out (by omega) hl).mono ?_
    rintro _ w1 ⟨v1, rfl, hO1, hf1, hk1⟩
    obtain ⟨hA1, hW⟩ := wrote_field H1.out h3 h4 hO1 (h5.append (hiB_oct _ _)) hf1 hk1
    obtain ⟨d0, d1, d2, d3⟩ := hA1.cells
    have HW : Hid (Wrote w p g (l ++ hiB 8 x, 0) (.returned (.tuple #[])) (w1.setCell ⟨p, 1, none⟩ v1)) := hW
    obtain ⟨a1, n1, cc1, rfl, _, _⟩ := own_sl hO1
    clear hW hO1 c0 c1 c2 c3
    go_wp2
    go_end0
    rw [HQ.out]
    exact HW.out
  · have HQ : Hid (wrWord e l x = ([], e)) := by show wrWord e l x = _; unfold wrWord; rw [if_neg he]
    obtain ⟨rfl, rfl⟩ := h6 he
    have hb : (e == 0) = false := by simp [he]
    clear he h6
    go_enter Try.func38, Try.ntmps38
    go_wp2_with fail
    refine (writes_any _ _ _ _ H1.out).mono ?_
    rintro _ _ ⟨rfl, rfl⟩
    go_wp2
    go_returns
    rw [HQ.out]
    exact Wrote.failed H1.out (Kept.refl _ _)

set_option maxHeartbeats 1000000 in
theorem wflag_false (w : World) (p : Nat) (g : Option Nat) (l : List Int) (e : Int) (hw : Wr w p g l e) (hl : l.length ≤ 1000000000) :
    Calls Try.prog 37 #[.pointer (some ⟨p, 0, none⟩), .bool false] w (Wrote w p g (wrFlag e l false)) := by
  obtain ⟨v, h1, h2, h3, h4, h5, h6⟩ := hw
  subst h3
  have H1 : Hid (WrAt w p v e) := h1
  have H2 : Hid (Own w v l) := h2
  obtain ⟨c0, c1, c2, c3⟩ := h1.cells
  clear h1 h2
  by_cases he : e = 0
  · subst he
    have HQ : Hid (wrFlag 0 l false = (l ++ [0], 0)) := by show wrFlag 0 l false = _; unfold wrFlag; rw [if_pos rfl]; rfl
    go_enter Try.func37, Try.ntmps37
    go_wp2_with fail
    refine (writes_any _ _ _ _ H1.out).mono ?_
    rintro _ _ ⟨rfl, rfl⟩
    have hK0 : Kept v.ownBlock.toList w (w.alloc (.cells #[.int .u8 0] 5)) := (Kept.refl _ _).alloc _
    go_wp2_with (at_builtin; refine wp_app rfl _ _ rfl _ l rfl (World.ownsRow.alloc H2.out _) (some ⟨w.heap.size, 0, none⟩) 1 1 [0] rfl (Sl.lit rfl rfl (by decide)) (by omega) ?_)
    intro v1 w1 hO1 hf1 hk1
    have hf2 : Fresh w v.ownBlock v1.ownBlock := fun k hk => by
      rcases hf1 k hk with h7 | h7
      · exact .inl h7
      · exact .inr (Nat.le_trans hK0.size h7)
    obtain ⟨hA1, hW⟩ := wrote_field H1.out rfl h4 hO1 (h5.append (by intro x hx; simp at hx; omega)) hf2 (hK0.trans hk1 (fun i hi => .inl hi))
    obtain ⟨d0, d1, d2, d3⟩ := hA1.cells
    have HW : Hid (Wrote w p v.ownBlock (l ++ [0], 0) (.returned (.tuple #[])) (w1.setCell ⟨p, 1, none⟩ v1)) := hW
    obtain ⟨a1, n1, cc1, rfl, _, _⟩ := own_sl hO1
    clear hW hO1 hf1 hf2 hk1 c0 c1 c2 c3
    go_wp2
    go_end0
    rw [HQ.out]
    exact HW.out
  · have HQ : Hid (wrFlag e l false = ([], e)) := by show wrFlag e l false = _; unfold wrFlag; rw [if_neg he]
    obtain ⟨rfl, rfl⟩ := h6 he
    have hb : (e == 0) = false := by simp [he]
    clear he h6
    go_enter Try.func37, Try.ntmps37
    go_wp2_with fail
    refine (writes_any _ _ _ _ H1.out).mono ?_
    rintro _ _ ⟨rfl, rfl⟩
    go_wp2
    go_returns
    rw [HQ.out]
    exact Wrote.failed H1.out (Kept.refl _ _)

set_option maxHeartbeats 1000000 in
theorem wflag_true (w : World) (p : Nat) (g : Option Nat) (l : List Int) (e : Int) (hw : Wr w p g l e) (hl : l.length ≤ 1000000000) :
    Calls Try.prog 37 #[.pointer (some ⟨p, 0, none⟩), .bool true] w (Wrote w p g (wrFlag e l true)) := by
  obtain ⟨v, h1, h2, h3, h4, h5, h6⟩ := hw
  subst h3
  have H1 : Hid (WrAt w p v e) := h1
  have H2 : Hid (Own w v l) := h2
  obtain ⟨c0, c1, c2, c3⟩ := h1.cells
  clear h1 h2
  by_cases he : e = 0
  · subst he
    have HQ : Hid (wrFlag 0 l true = (l ++ [1], 0)) := by show wrFlag 0 l true = _; unfold wrFlag; rw [if_pos rfl]; rfl
    go_enter Try.func37, Try.ntmps37
    go_wp2_with fail
    refine (writes_any _ _ _ _ H1.out).mono ?_
    rintro _ _ ⟨rfl, rfl⟩
    have hK0 : Kept v.ownBlock.toList w (w.alloc (.cells #[.int .u8 1] 5)) := (Kept.refl _ _).alloc _
    go_wp2_with (at_builtin; refine wp_app rfl _ _ rfl _ l rfl (World.ownsRow.alloc H2.out _) (some ⟨w.heap.size, 0, none⟩) 1 1 [1] rfl (Sl.lit rfl rfl (by decide)) (by omega) ?_)
    intro v1 w1 hO1 hf1 hk1
    have hf2 : Fresh w v.ownBlock v1.ownBlock := fun k hk => by
      rcases hf1 k hk with h7 | h7
      · exact .inl h7
      · exact .inr (Nat.le_trans hK0.size h7)
    obtain ⟨hA1, hW⟩ := wrote_field H1.out rfl h4 hO1 (h5.append (by intro x hx; simp at hx; omega)) hf2 (hK0.trans hk1 (fun i hi => .inl hi))
    obtain ⟨d0, d1, d2, d3⟩ := hA1.cells
    have HW : Hid (Wrote w p v.ownBlock (l ++ [1], 0) (.returned (.tuple #[])) (w1.setCell ⟨p, 1, none⟩ v1)) := hW
    obtain ⟨a1, n1, cc1, rfl, _, _⟩ := own_sl hO1
    clear hW hO1 hf1 hf2 hk1 c0 c1 c2 c3
    go_wp2
    go_end0
    rw [HQ.out]
    exact HW.out
  · have HQ : Hid (wrFlag e l true = ([], e)) := by show wrFlag e l true = _; unfold wrFlag; rw [if_neg he]
    obtain ⟨rfl, rfl⟩ := h6 he
    have hb : (e == 0) = false := by simp [he]
    clear he h6
    go_enter Try.func37, Try.ntmps37
    go_wp2_with fail
    refine (writes_any _ _ _ _ H1.out).mono ?_
    rintro _ _ ⟨rfl, rfl⟩
    go_wp2
    go_returns
    rw [HQ.out]
    exact Wrote.failed H1.out (Kept.refl _ _)

theorem wflag_call (w : World) (p : Nat) (g : Option Nat) (l : List Int) (e : Int) (b : Bool) (hw : Wr w p g l e) (hl : l.length ≤ 1000000000) :
    Calls Try.prog 37 #[.pointer (some ⟨p, 0, none⟩), .bool b] w (Wrote w p g (wrFlag e l b)) := by
  cases b
  · exact wflag_false w p g l e hw hl
  · exact wflag_true w p g l e hw hl

set_option maxHeartbeats 1000000 in
theorem wrefuse_call (w : World) (p : Nat) (g : Option Nat) (l : List Int) (e : Int) (hw : Wr w p g l e) :
    Calls Try.prog 14 #[.pointer (some ⟨p, 0, none⟩)] w (Wrote w p g (wrRefuse e)) := by
  obtain ⟨v, h1, h2, h3, h4, h5, h6⟩ := hw
  have H1 : Hid (WrAt w p v e) := h1
  clear h1 h2
  by_cases he : e = 0
  · subst he
    have HQ : Hid (wrRefuse 0 = ([], 1)) := rfl
    go_enter Try.func14, Try.ntmps14
    go_wp2_with fail
    refine (writes_any _ _ _ _ H1.out).mono ?_
    rintro _ _ ⟨rfl, rfl⟩
    go_wp2_with fail
    refine (wfail_any _ _ _ _ _ H1.out).mono ?_
    rintro _ w1 ⟨rfl, hA1, hk⟩
    go_wp2
    go_returns
    rw [HQ.out]
    exact Wrote.failed hA1 hk
  · have HQ : Hid (wrRefuse e = ([], e)) := by show wrRefuse e = _; unfold wrRefuse; rw [if_neg he]
    obtain ⟨rfl, rfl⟩ := h6 he
    have hb : (e == 0) = false := by simp [he]
    clear he h6
    go_enter Try.func14, Try.ntmps14
    go_wp2_with fail
    refine (writes_any _ _ _ _ H1.out).mono ?_
    rintro _ _ ⟨rfl, rfl⟩
    go_wp2
    go_returns
    rw [HQ.out]
    exact Wrote.failed H1.out (Kept.refl _ _)

/-- What a writer comes to when a thing is written. -/
def wrThing (e : Int) (l : List Int) (t : Th) : List Int × Int :=
  if t.d ≤ 1 then wrNum e l t.n else if t.d = 2 then wrRun e l (strOf t.s) else if t.d = 3 then wrRun e l t.bl else if t.d = 4 then wrFlag e l t.f else if t.d = 5 then wrWord e l t.x else wrRefuse e

theorem Wrote.from {w wa w' : World} {p : Nat} {g : Option Nat} {q : List Int × Int} {r : Ending} (hK : Kept [] w wa) (h : Wrote wa p g q r w') : Wrote w p g q r w' := by
  obtain ⟨h1, g', h2, h3, h4⟩ := h
  refine ⟨h1, g', h2, fun k hk => ?_, (hK.mono (by simp)).trans h4 (fun i hi => .inl hi)⟩
  rcases h3 k hk with h5 | h5
  · exact .inl h5
  · exact .inr (Nat.le_trans hK.size h5)

set_option maxHeartbeats 2000000 in
theorem put_call (w : World) (p : Nat) (g : Option Nat) (l : List Int) (e : Int) (t : Th) (hw : Wr w p g l e) (hl : l.length ≤ 1000000000) (hs : t.s.size ≤ 9223372036854775807) (hb : Sl w t.bo t.bn t.bc t.bl) (ho : Oct t.bl) (hd : 0 < t.bn → ∀ k ∈ blk t.bo, k ∉ p :: g.toList) :
    Calls Try.prog 15 #[.pointer (some ⟨p, 0, none⟩), .agg #[.int .i64 t.d, .int .i64 t.n, .int .u64 t.x, .string t.s, .slice t.bo t.bn t.bc, .bool t.f]] w (Wrote w p g (wrThing e l t)) := by
  obtain ⟨d, n, x, s, bo, bn, bc, bl, f⟩ := t
  simp only at *
  have hK : Kept [] w (w.alloc (.cells #[.int .i64 d, .int .i64 n, .int .u64 x, .string s, .slice bo bn bc, .bool f] 42)) := (Kept.refl _ _).alloc _
  have hw1 : Wr (w.alloc (.cells #[.int .i64 d, .int .i64 n, .int .u64 x, .string s, .slice bo bn bc, .bool f] 42)) p g l e := Wr.kept hK hw (by simp) (by simp)
  have hb1 : Sl (w.alloc (.cells #[.int .i64 d, .int .i64 n, .int .u64 x, .string s, .slice bo bn bc, .bool f] 42)) bo bn bc bl := Sl.kept hK hb (by simp)
  have HW : Hid (Wr (w.alloc (.cells #[.int .i64 d, .int .i64 n, .int .u64 x, .string s, .slice bo bn bc, .bool f] 42)) p g l e) := hw1
  have HB : Hid (Sl (w.alloc (.cells #[.int .i64 d, .int .i64 n, .int .u64 x, .string s, .slice bo bn bc, .bool f] 42)) bo bn bc bl) := hb1
  have hp := hw.lt
  clear hw hb hw1 hb1
  obtain ⟨wa, hwa⟩ : ∃ wa, wa = w.alloc (.cells #[.int .i64 d, .int .i64 n, .int .u64 x, .string s, .slice bo bn bc, .bool f] 42) := ⟨_, rfl⟩
  rw [← hwa] at hK HW HB
  have HWA : Hid (wa = w.alloc (.cells #[.int .i64 d, .int .i64 n, .int .u64 x, .string s, .slice bo bn bc, .bool f] 42)) := hwa
  clear hwa
  have hcs : (d ≤ 1) ∨ (¬ d ≤ 1 ∧ d = 2) ∨ (¬ d ≤ 1 ∧ d ≠ 2 ∧ d = 3) ∨ (¬ d ≤ 1 ∧ d ≠ 2 ∧ d ≠ 3 ∧ d = 4) ∨ (¬ d ≤ 1 ∧ d ≠ 2 ∧ d ≠ 3 ∧ d ≠ 4 ∧ d = 5) ∨ (¬ d ≤ 1 ∧ d ≠ 2 ∧ d ≠ 3 ∧ d ≠ 4 ∧ d ≠ 5) := by omega
  rcases hcs with h1 | ⟨h1, h2⟩ | ⟨h1, h2, h3⟩ | ⟨h1, h2, h3, h4⟩ | ⟨h1, h2, h3, h4, h5⟩ | ⟨h1, h2, h3, h4, h5⟩
  · have HQ : Hid (wrThing e l ⟨d, n, x, s, bo, bn, bc, bl, f⟩ = wrNum e l n) := by show wrThing e l _ = _; unfold wrThing; rw [if_pos h1]
    go_enter Try.func15, Try.ntmps15
    go_wp2_with fail
    rw [← HWA.out]
    refine (wnum_call _ _ _ _ _ _ HW.out hl).mono ?_
    rintro r w2 hW2
    have hr := hW2.1
    subst hr
    have HW3 : Hid (Wrote w p g (wrThing e l ⟨d, n, x, s, bo, bn, bc, bl, f⟩) (.returned (.tuple #[])) w2) := by show Wrote w p g (wrThing e l _) _ w2; rw [HQ.out]; exact Wrote.from hK hW2
    clear hW2
    go_wp2
    go_returns
    exact HW3.out
  · have HQ : Hid (wrThing e l ⟨d, n, x, s, bo, bn, bc, bl, f⟩ = wrRun e l (strOf s)) := by show wrThing e l _ = _; unfold wrThing; rw [if_neg h1, if_pos h2]
    have hb2 : (d == 2) = true := by simp; omega
    clear h2
    go_enter Try.func15, Try.ntmps15
    go_wp2_with fail
    rw [← HWA.out]
    refine (wtext_call _ _ _ _ _ _ HW.out hs hl).mono ?_
    rintro r w2 hW2
    have hr := hW2.1
    subst hr
    have HW3 : Hid (Wrote w p g (wrThing e l ⟨d, n, x, s, bo, bn, bc, bl, f⟩) (.returned (.tuple #[])) w2) := by show Wrote w p g (wrThing e l _) _ w2; rw [HQ.out]; exact Wrote.from hK hW2
    clear hW2
    go_wp2
    go_returns
    exact HW3.out
  · have HQ : Hid (wrThing e l ⟨d, n, x, s, bo, bn, bc, bl, f⟩ = wrRun e l bl) := by show wrThing e l _ = _; unfold wrThing; rw [if_neg h1, if_neg h2, if_pos h3]
    have hb2 : (d == 2) = false := by simp; omega
    have hb3 : (d == 3) = true := by simp; omega
    clear h2 h3
    go_enter Try.func15, Try.ntmps15
    go_wp2_with fail
    rw [← HWA.out]
    refine (wbytes_call _ _ _ _ _ _ _ _ _ HW.out HB.out ho hl hd).mono ?_
    rintro r w2 hW2
    have hr := hW2.1
    subst hr
    have HW3 : Hid (Wrote w p g (wrThing e l ⟨d, n, x, s, bo, bn, bc, bl, f⟩) (.returned (.tuple #[])) w2) := by show Wrote w p g (wrThing e l _) _ w2; rw [HQ.out]; exact Wrote.from hK hW2
    clear hW2
    go_wp2
    go_returns
    exact HW3.out
  · have HQ : Hid (wrThing e l ⟨d, n, x, s, bo, bn, bc, bl, f⟩ = wrFlag e l f) := by show wrThing e l _ = _; unfold wrThing; rw [if_neg h1, if_neg h2, if_neg h3, if_pos h4]
    have hb2 : (d == 2) = false := by simp; omega
    have hb3 : (d == 3) = false := by simp; omega
    have hb4 : (d == 4) = true := by simp; omega
    clear h2 h3 h4
    go_enter Try.func15, Try.ntmps15
    go_wp2_with fail
    rw [← HWA.out]
    refine (wflag_call _ _ _ _ _ _ HW.out hl).mono ?_
    rintro r w2 hW2
    have hr := hW2.1
    subst hr
    have HW3 : Hid (Wrote w p g (wrThing e l ⟨d, n, x, s, bo, bn, bc, bl, f⟩) (.returned (.tuple #[])) w2) := by show Wrote w p g (wrThing e l _) _ w2; rw [HQ.out]; exact Wrote.from hK hW2
    clear hW2
    go_wp2
    go_returns
    exact HW3.out
  · have HQ : Hid (wrThing e l ⟨d, n, x, s, bo, bn, bc, bl, f⟩ = wrWord e l x) := by show wrThing e l _ = _; unfold wrThing; rw [if_neg h1, if_neg h2, if_neg h3, if_neg h4, if_pos h5]
    have hb2 : (d == 2) = false := by simp; omega
    have hb3 : (d == 3) = false := by simp; omega
    have hb4 : (d == 4) = false := by simp; omega
    have hb5 : (d == 5) = true := by simp; omega
    clear h2 h3 h4 h5
    go_enter Try.func15, Try.ntmps15
    go_wp2_with fail
    rw [← HWA.out]
    refine (wword_call _ _ _ _ _ _ HW.out hl).mono ?_
    rintro r w2 hW2
    have hr := hW2.1
    subst hr
    have HW3 : Hid (Wrote w p g (wrThing e l ⟨d, n, x, s, bo, bn, bc, bl, f⟩) (.returned (.tuple #[])) w2) := by show Wrote w p g (wrThing e l _) _ w2; rw [HQ.out]; exact Wrote.from hK hW2
    clear hW2
    go_wp2
    go_returns
    exact HW3.out
  · have HQ : Hid (wrThing e l ⟨d, n, x, s, bo, bn, bc, bl, f⟩ = wrRefuse e) := by show wrThing e l _ = _; unfold wrThing; rw [if_neg h1, if_neg h2, if_neg h3, if_neg h4, if_neg h5]
    have hb2 : (d == 2) = false := by simp; omega
    have hb3 : (d == 3) = false := by simp; omega
    have hb4 : (d == 4) = false := by simp; omega
    have hb5 : (d == 5) = false := by simp; omega
    clear h2 h3 h4 h5
    go_enter Try.func15, Try.ntmps15
    go_wp2_with fail
    rw [← HWA.out]
    refine (wrefuse_call _ _ _ _ _ HW.out).mono ?_
    rintro r w2 hW2
    have hr := hW2.1
    subst hr
    have HW3 : Hid (Wrote w p g (wrThing e l ⟨d, n, x, s, bo, bn, bc, bl, f⟩) (.returned (.tuple #[])) w2) := by show Wrote w p g (wrThing e l _) _ w2; rw [HQ.out]; exact Wrote.from hK hW2
    clear hW2
    go_wp2
    go_returns
    exact HW3.out

theorem wrThing_len (e : Int) (l : List Int) (t : Th) (h1 : t.s.size ≤ 2000) (h2 : t.bl.length ≤ 2000) : (wrThing e l t).1.length ≤ l.length + 2010 := by
  have hr : ∀ m : List Int, m.length ≤ 2000 → (wrRun e l m).1.length ≤ l.length + 2010 := by
    intro m hm
    unfold wrRun
    split
    · split
      · have := enc_length 5 (m.length : Int); simp [encNum]; omega
      · simp
    · simp
  unfold wrThing
  split
  · unfold wrNum
    split
    · split
      · have := enc_length 5 t.n; simp [encNum]; omega
      · simp
    · simp
  · split
    · exact hr _ (by rw [strOf_length]; exact h1)
    · split
      · exact hr _ h2
      · split
        · unfold wrFlag; split <;> simp
        · split
          · unfold wrWord; split <;> simp [hiB_length]
          · unfold wrRefuse; split <;> simp

end Go.Proofs.Ytfmklcnilmhnbab
