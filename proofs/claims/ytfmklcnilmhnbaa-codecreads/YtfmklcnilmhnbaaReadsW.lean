/-
  CodecReads: the walk.
-/
import Derived.Test.YtfmklcnilmhnbaaRR1
import Derived.Test.YtfmklcnilmhnbaaThing0
import Derived.Test.YtfmklcnilmhnbaaAwake
namespace Go.Proofs.Ytfmklcnilmhnbaa
open Go.RowKit

/-- The reader and the document's own, at the same place. -/
def Pair (w0 : World) (B pr : Nat) (Fr : List Nat) (pm : Nat) (n : Nat) (w : World) : Prop :=
  ∃ l e, Rd w pr Fr l e ∧ RR w B pm l e ∧ l.length ≤ n ∧ Kept [pr, pm] w0 w

theorem rr_tail {w : World} {B p : Nat} {l : List Int} {e : Int} (h : RR w B p l e) : ∃ ao c, w.cell? ⟨p, 0, none⟩ = some (.slice ao l.length c) ∧ w.cell? ⟨p, 1, none⟩ = some (.int .i64 e) := by
  obtain ⟨ao, c, c0, c1, _⟩ := h.cells
  exact ⟨ao, c, c0, c1⟩

theorem Rd.drewN {w : World} {p : Nat} {F : List Nat} {l : List Int} {e : Int} (h : Rd w p F l e) (q : Nat) : Rd (w.drewN q) p F l e := h
theorem RR.drewN {w : World} {B p : Nat} {l : List Int} {e : Int} (h : RR w B p l e) (q : Nat) : RR (w.drewN q) B p l e := h

theorem kept_pair {w wa w2 w3 : World} {p q : Nat} (h1 : Kept [] w wa) (h2 : Kept [p] wa w2) (h3 : Kept [q] w2 w3) : Kept [p, q] w w3 := by
  have a1 : Kept [p, q] w wa := h1.mono (by simp)
  exact (a1.trans h2 (by simp)).trans h3 (by simp)

/-- What End answers. -/
def endE (l : List Int) (e : Int) : Int := if e = 0 then (if l.length = 0 then 0 else 3) else e

theorem end_call2 (w : World) (p : Nat) (F : List Nat) (l : List Int) (e : Int) (hr : Rd w p F l e) :
    Calls Try.prog 28 #[.pointer (some ⟨p, 0, none⟩)] w fun r w' => r = .returned (.int .i64 (endE l e)) ∧ w = w' := end_call w p F l e hr

theorem rrend_call2 (w : World) (B p : Nat) (l : List Int) (e : Int) (hr : RR w B p l e) :
    Calls Try.prog 60 #[.pointer (some ⟨p, 0, none⟩)] w fun r w' => r = .returned (.int .i64 (endE l e)) ∧ w = w' := rrend_call w B p l e hr

theorem rdRunE_short {e most : Int} {l : List Int} : (rdRunE e most l).2.2.length ≤ l.length := by
  unfold rdRunE
  split
  · exact rdRun_short.2
  · simp

theorem rdFlagE_short {e : Int} {l : List Int} : (rdFlagE e l).2.2.length ≤ l.length := by
  unfold rdFlagE
  split
  · cases l with
    | nil => simp [rdFlag]
    | cons d l =>
      rw [rdFlag]
      split <;> simp
  · simp

theorem rdWordE_short {e : Int} {l : List Int} : (rdWordE e l).2.2.length ≤ l.length := by
  unfold rdWordE rdWord
  split
  · split <;> simp
  · simp

set_option maxHeartbeats 4000000 in
theorem alike_call (w : World) (B pr : Nat) (Fr : List Nat) (pm : Nat) (l : List Int) (e : Int) (t : Th) (hR : Rd w pr Fr l e) (hM : RR w B pm l e) (hpp : pr ≠ pm) (hpF : pm ∉ Fr) (hpB : B ≤ pr) (hl : l.length ≤ 20000) :
    Calls Try.prog 23 #[.pointer (some ⟨pr, 0, none⟩), .pointer (some ⟨pm, 0, none⟩), .agg #[.int .i64 t.d, .int .i64 t.n, .int .u64 t.x, .string t.s, .slice t.bo t.bn t.bc, .bool t.f]] w fun r w' => r = .returned (.bool true) ∧ Pair w B pr Fr pm l.length w' := by
  obtain ⟨d, n, x, s, bo, bn, bc, bl, f⟩ := t
  simp only at *
  have hK : Kept [] w (w.alloc (.cells #[.int .i64 d, .int .i64 n, .int .u64 x, .string s, .slice bo bn bc, .bool f] 45)) := (Kept.refl _ _).alloc _
  have HR : Hid (Rd (w.alloc (.cells #[.int .i64 d, .int .i64 n, .int .u64 x, .string s, .slice bo bn bc, .bool f] 45)) pr Fr l e) := Rd.kept hK hR (by simp) (by simp)
  have HM : Hid (RR (w.alloc (.cells #[.int .i64 d, .int .i64 n, .int .u64 x, .string s, .slice bo bn bc, .bool f] 45)) B pm l e) := RR.kept hK hM (by simp) (by simp)
  have hp := hR.lt
  have hp2 := hM.lt
  clear hR hM
  obtain ⟨wa, hwa⟩ : ∃ wa, wa = w.alloc (.cells #[.int .i64 d, .int .i64 n, .int .u64 x, .string s, .slice bo bn bc, .bool f] 45) := ⟨_, rfl⟩
  rw [← hwa] at hK HR HM
  have HWA : Hid (wa = w.alloc (.cells #[.int .i64 d, .int .i64 n, .int .u64 x, .string s, .slice bo bn bc, .bool f] 45)) := hwa
  clear hwa
  have hcs : (d ≤ 1) ∨ (¬ d ≤ 1 ∧ d = 2) ∨ (¬ d ≤ 1 ∧ d ≠ 2 ∧ d = 3) ∨ (¬ d ≤ 1 ∧ d ≠ 2 ∧ d ≠ 3 ∧ d = 4) ∨ (¬ d ≤ 1 ∧ d ≠ 2 ∧ d ≠ 3 ∧ d ≠ 4 ∧ d = 5) ∨ (¬ d ≤ 1 ∧ d ≠ 2 ∧ d ≠ 3 ∧ d ≠ 4 ∧ d ≠ 5) := by omega
  rcases hcs with h1 | ⟨h1, h2⟩ | ⟨h1, h2, h3⟩ | ⟨h1, h2, h3, h4⟩ | ⟨h1, h2, h3, h4, h5⟩ | ⟨h1, h2, h3, h4, h5⟩
  · have hsh := rdNumE_short (e := e) (l := l)
    go_enter Try.func23, Try.ntmps23
    go_wp2_with fail
    rw [← HWA.out]
    refine (num_call _ _ _ _ _ HR.out).mono ?_
    rintro _ w2 ⟨rfl, hR2, hk2⟩
    have hM2 := RR.kept hk2 HM.out (by simp; exact Ne.symm hpp) (by simp; exact hpB)
    go_wp2_with fail
    refine (rrnum_call _ _ _ _ _ hM2).mono ?_
    rintro _ w3 ⟨rfl, hM3, hk3⟩
    have hR3 := Rd.kept hk3 hR2 (by simp; exact hpp) (by intro k hk h; simp at h; subst h; exact hpF hk)
    generalize rdNumE e l = E at *
    obtain ⟨e3, x3, l3⟩ := E
    simp only at hR3 hM3 hsh
    have HR3 : Hid (Rd w3 pr Fr l3 e3) := hR3
    have HM3 : Hid (RR w3 B pm l3 e3) := hM3
    have HK3 : Hid (Kept [pr, pm] w w3) := kept_pair hK hk2 hk3
    obtain ⟨ao3, c3, g0, g1⟩ := rr_tail hM3
    clear hR2 hM2 hR3 hM3 hk2 hk3
    go_wp2_with fail
    go_quiet (first
      | (go_at_call 29; exact quiet_eq (left_call _ _ _ _ _ (Rd.drewN HR3.out _)))
      | (go_at_call 14; exact quiet_eq (fail_call _ _ _ _ _ (Rd.drewN HR3.out _)))
      | (go_at_call 28; exact quiet_eq (end_call2 _ _ _ _ _ (Rd.drewN HR3.out _)))
      | (go_at_call 60; exact quiet_eq (rrend_call2 _ _ _ _ _ (RR.drewN HM3.out _))))
    go_wp2
    go_ret
    exact ⟨by first | rfl | simp, l3, e3, Rd.drewN HR3.out _, RR.drewN HM3.out _, hsh, HK3.out.drewN _⟩
  · have hsh := rdRunE_short (e := e) (most := n) (l := l)
    have hb2 : (d == 2) = true := by simp; omega
    clear h2
    go_enter Try.func23, Try.ntmps23
    go_wp2_with fail
    rw [← HWA.out]
    refine (text_call _ _ _ _ _ _ HR.out).mono ?_
    rintro _ w2 ⟨rfl, hR2, hk2⟩
    have hM2 := RR.kept hk2 HM.out (by simp; exact Ne.symm hpp) (by simp; exact hpB)
    have hcn : w2.cell? ⟨w.heap.size, 1, none⟩ = some (.int .i64 n) := hk2.cell (by rw [HWA.out]; simp) (by simp; omega)
    go_wp2_with fail
    refine (rrtext_call _ _ _ _ _ _ hM2 (by omega)).mono ?_
    rintro _ w3 ⟨rfl, hM3, hk3⟩
    have hR3 := Rd.kept hk3 hR2 (by simp; exact hpp) (by intro k hk h; simp at h; subst h; exact hpF hk)
    generalize rdRunE e n l = E at *
    obtain ⟨e3, x3, l3⟩ := E
    simp only at hR3 hM3 hsh
    have HR3 : Hid (Rd w3 pr Fr l3 e3) := hR3
    have HM3 : Hid (RR w3 B pm l3 e3) := hM3
    have HK3 : Hid (Kept [pr, pm] w w3) := kept_pair hK hk2 hk3
    obtain ⟨ao3, c3, g0, g1⟩ := rr_tail hM3
    clear hR2 hM2 hR3 hM3 hk2 hk3
    go_wp2_with fail
    go_quiet (first
      | (go_at_call 29; exact quiet_eq (left_call _ _ _ _ _ (Rd.drewN HR3.out _)))
      | (go_at_call 14; exact quiet_eq (fail_call _ _ _ _ _ (Rd.drewN HR3.out _)))
      | (go_at_call 28; exact quiet_eq (end_call2 _ _ _ _ _ (Rd.drewN HR3.out _)))
      | (go_at_call 60; exact quiet_eq (rrend_call2 _ _ _ _ _ (RR.drewN HM3.out _))))
    go_wp2
    go_ret
    exact ⟨by first | rfl | simp, l3, e3, Rd.drewN HR3.out _, RR.drewN HM3.out _, hsh, HK3.out.drewN _⟩
  · have hsh := rdRunE_short (e := e) (most := n) (l := l)
    have hb2 : (d == 2) = false := by simp; omega
    have hb3 : (d == 3) = true := by simp; omega
    clear h2 h3
    go_enter Try.func23, Try.ntmps23
    go_wp2_with fail
    rw [← HWA.out]
    refine (bytes_call _ _ _ _ _ _ HR.out (by omega)).mono ?_
    rintro _ w2 ⟨a2, n2, c2, rfl, hs2, hb2, hR2, hk2⟩
    have hM2 := RR.kept hk2 HM.out (by simp; exact Ne.symm hpp) (by simp; exact hpB)
    have hcn : w2.cell? ⟨w.heap.size, 1, none⟩ = some (.int .i64 n) := hk2.cell (by rw [HWA.out]; simp) (by simp; omega)
    go_wp2_with fail
    refine (rrbytes_call _ _ _ _ _ _ hM2 (by omega)).mono ?_
    rintro _ w3' ⟨a3, n3, c3', rfl, hs3, hM3', hk3'⟩
    have hR3' := Rd.kept hk3' hR2 (by simp; exact hpp) (by intro k hk h; simp at h; subst h; exact hpF hk)
    have hs2' : Sl w3' a2 n2 c2 (rdRunE e n l).2.1 := Sl.kept hk3' hs2 (by intro k hk h; simp at h; subst h; have := (hb2 _ hk).1; have := hK.size; omega)
    go_wp2_with fail
    refine (same_call _ _ _ _ _ _ _ _ _ hs2' hs3).mono ?_
    rintro _ w3 ⟨rfl, hks⟩
    have hk3 := hk3'.trans hks (by simp)
    have hM3 := RR.kept hks hM3' (by simp) (by simp)
    clear hs2 hs3 hs2' hb2 hM3' hR3'
    have hR3 := Rd.kept hk3 hR2 (by simp; exact hpp) (by intro k hk h; simp at h; subst h; exact hpF hk)
    generalize rdRunE e n l = E at *
    obtain ⟨e3, x3, l3⟩ := E
    simp only at hR3 hM3 hsh
    have HR3 : Hid (Rd w3 pr Fr l3 e3) := hR3
    have HM3 : Hid (RR w3 B pm l3 e3) := hM3
    have HK3 : Hid (Kept [pr, pm] w w3) := kept_pair hK hk2 hk3
    obtain ⟨ao3, c3, g0, g1⟩ := rr_tail hM3
    clear hR2 hM2 hR3 hM3 hk2 hk3
    go_wp2_with fail
    go_quiet (first
      | (go_at_call 29; exact quiet_eq (left_call _ _ _ _ _ (Rd.drewN HR3.out _)))
      | (go_at_call 14; exact quiet_eq (fail_call _ _ _ _ _ (Rd.drewN HR3.out _)))
      | (go_at_call 28; exact quiet_eq (end_call2 _ _ _ _ _ (Rd.drewN HR3.out _)))
      | (go_at_call 60; exact quiet_eq (rrend_call2 _ _ _ _ _ (RR.drewN HM3.out _))))
    go_wp2
    go_ret
    exact ⟨by first | rfl | simp, l3, e3, Rd.drewN HR3.out _, RR.drewN HM3.out _, hsh, HK3.out.drewN _⟩
  · have hsh := rdFlagE_short (e := e) (l := l)
    have hb2 : (d == 2) = false := by simp; omega
    have hb3 : (d == 3) = false := by simp; omega
    have hb4 : (d == 4) = true := by simp; omega
    clear h2 h3 h4
    go_enter Try.func23, Try.ntmps23
    go_wp2_with fail
    rw [← HWA.out]
    refine (rFlag_call _ _ _ _ _ HR.out).mono ?_
    rintro _ w2 ⟨rfl, hR2, hk2⟩
    have hM2 := RR.kept hk2 HM.out (by simp; exact Ne.symm hpp) (by simp; exact hpB)
    go_wp2_with fail
    refine (rrflag_call _ _ _ _ _ hM2).mono ?_
    rintro _ w3 ⟨rfl, hM3, hk3⟩
    have hR3 := Rd.kept hk3 hR2 (by simp; exact hpp) (by intro k hk h; simp at h; subst h; exact hpF hk)
    generalize rdFlagE e l = E at *
    obtain ⟨e3, x3, l3⟩ := E
    simp only at hR3 hM3 hsh
    have HR3 : Hid (Rd w3 pr Fr l3 e3) := hR3
    have HM3 : Hid (RR w3 B pm l3 e3) := hM3
    have HK3 : Hid (Kept [pr, pm] w w3) := kept_pair hK hk2 hk3
    obtain ⟨ao3, c3, g0, g1⟩ := rr_tail hM3
    clear hR2 hM2 hR3 hM3 hk2 hk3
    go_wp2_with fail
    go_quiet (first
      | (go_at_call 29; exact quiet_eq (left_call _ _ _ _ _ (Rd.drewN HR3.out _)))
      | (go_at_call 14; exact quiet_eq (fail_call _ _ _ _ _ (Rd.drewN HR3.out _)))
      | (go_at_call 28; exact quiet_eq (end_call2 _ _ _ _ _ (Rd.drewN HR3.out _)))
      | (go_at_call 60; exact quiet_eq (rrend_call2 _ _ _ _ _ (RR.drewN HM3.out _))))
    go_wp2
    go_ret
    exact ⟨by first | rfl | simp, l3, e3, Rd.drewN HR3.out _, RR.drewN HM3.out _, hsh, HK3.out.drewN _⟩
  · have hsh := rdWordE_short (e := e) (l := l)
    have hb2 : (d == 2) = false := by simp; omega
    have hb3 : (d == 3) = false := by simp; omega
    have hb4 : (d == 4) = false := by simp; omega
    have hb5 : (d == 5) = true := by simp; omega
    clear h2 h3 h4 h5
    go_enter Try.func23, Try.ntmps23
    go_wp2_with fail
    rw [← HWA.out]
    refine (rWord_call _ _ _ _ _ HR.out).mono ?_
    rintro _ w2 ⟨rfl, hR2, hk2⟩
    have hM2 := RR.kept hk2 HM.out (by simp; exact Ne.symm hpp) (by simp; exact hpB)
    go_wp2_with fail
    refine (rrword_call _ _ _ _ _ hM2).mono ?_
    rintro _ w3 ⟨rfl, hM3, hk3⟩
    have hR3 := Rd.kept hk3 hR2 (by simp; exact hpp) (by intro k hk h; simp at h; subst h; exact hpF hk)
    generalize rdWordE e l = E at *
    obtain ⟨e3, x3, l3⟩ := E
    simp only at hR3 hM3 hsh
    have HR3 : Hid (Rd w3 pr Fr l3 e3) := hR3
    have HM3 : Hid (RR w3 B pm l3 e3) := hM3
    have HK3 : Hid (Kept [pr, pm] w w3) := kept_pair hK hk2 hk3
    obtain ⟨ao3, c3, g0, g1⟩ := rr_tail hM3
    clear hR2 hM2 hR3 hM3 hk2 hk3
    go_wp2_with fail
    go_quiet (first
      | (go_at_call 29; exact quiet_eq (left_call _ _ _ _ _ (Rd.drewN HR3.out _)))
      | (go_at_call 14; exact quiet_eq (fail_call _ _ _ _ _ (Rd.drewN HR3.out _)))
      | (go_at_call 28; exact quiet_eq (end_call2 _ _ _ _ _ (Rd.drewN HR3.out _)))
      | (go_at_call 60; exact quiet_eq (rrend_call2 _ _ _ _ _ (RR.drewN HM3.out _))))
    go_wp2
    go_ret
    exact ⟨by first | rfl | simp, l3, e3, Rd.drewN HR3.out _, RR.drewN HM3.out _, hsh, HK3.out.drewN _⟩
  · have hsh : ([] : List Int).length ≤ l.length := by simp
    have hb2 : (d == 2) = false := by simp; omega
    have hb3 : (d == 3) = false := by simp; omega
    have hb4 : (d == 4) = false := by simp; omega
    have hb5 : (d == 5) = false := by simp; omega
    clear h2 h3 h4 h5
    go_enter Try.func23, Try.ntmps23
    go_wp2_with fail
    rw [← HWA.out]
    refine (refuse_call _ _ _ _ _ HR.out).mono ?_
    rintro _ w2 ⟨rfl, hR2, hk2⟩
    have hM2 := RR.kept hk2 HM.out (by simp; exact Ne.symm hpp) (by simp; exact hpB)
    go_wp2_with fail
    refine (rrrefuse_call _ _ _ _ _ hM2).mono ?_
    rintro _ w3 ⟨rfl, hM3, hk3⟩
    have hR3 := Rd.kept hk3 hR2 (by simp; exact hpp) (by intro k hk h; simp at h; subst h; exact hpF hk)
    obtain ⟨e3, he3⟩ : ∃ e3, e3 = rdRefE e := ⟨_, rfl⟩
    obtain ⟨l3, hl3⟩ : ∃ l3 : List Int, l3 = [] := ⟨_, rfl⟩
    rw [← he3, ← hl3] at hR3 hM3
    rw [← hl3] at hsh
    clear he3 hl3
    have HR3 : Hid (Rd w3 pr Fr l3 e3) := hR3
    have HM3 : Hid (RR w3 B pm l3 e3) := hM3
    have HK3 : Hid (Kept [pr, pm] w w3) := kept_pair hK hk2 hk3
    obtain ⟨ao3, c3, g0, g1⟩ := rr_tail hM3
    clear hR2 hM2 hR3 hM3 hk2 hk3
    go_wp2_with fail
    go_quiet (first
      | (go_at_call 29; exact quiet_eq (left_call _ _ _ _ _ (Rd.drewN HR3.out _)))
      | (go_at_call 14; exact quiet_eq (fail_call _ _ _ _ _ (Rd.drewN HR3.out _)))
      | (go_at_call 28; exact quiet_eq (end_call2 _ _ _ _ _ (Rd.drewN HR3.out _)))
      | (go_at_call 60; exact quiet_eq (rrend_call2 _ _ _ _ _ (RR.drewN HM3.out _))))
    go_wp2
    go_ret
    exact ⟨by first | rfl | simp, l3, e3, Rd.drewN HR3.out _, RR.drewN HM3.out _, hsh, HK3.out.drewN _⟩

end Go.Proofs.Ytfmklcnilmhnbaa
