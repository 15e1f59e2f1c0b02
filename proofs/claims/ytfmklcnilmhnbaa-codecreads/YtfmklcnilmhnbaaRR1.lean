/-
  The document's own reader: bytes, flags, words.
-/
import Derived.Test.YtfmklcnilmhnbaaRR0
import Derived.Test.YtfmklcnilmhnbaaRefC
namespace Go.Proofs.Ytfmklcnilmhnbaa
open Go.RowKit

theorem RR.cells {w : World} {B p : Nat} {l : List Int} {e : Int} (hr : RR w B p l e) :
    ∃ ao c, w.cell? ⟨p, 0, none⟩ = some (.slice ao l.length c) ∧ w.cell? ⟨p, 1, none⟩ = some (.int .i64 e) ∧ (∀ o, w.frozen? ⟨p, o, none⟩ = false) ∧ l.length ≤ c ∧ c ≤ 9223372036854775807 ∧ Hid (Sl w ao l.length c l) ∧ Hid (RRAt w p (.slice ao l.length c) e) ∧ Hid (0 < l.length → ∀ k ∈ blk ao, k < B) := by
  obtain ⟨ao, c, h1, h2, h3, h4, h5, h6⟩ := hr
  obtain ⟨c0, c1, c3⟩ := h1.cells
  refine ⟨ao, c, c0, c1, c3, h2.2.1, ?_, h2, h1, h3⟩
  have := h2.2.2.1
  unfold maxLen at this
  omega

/-- The field B is set: what is left is behind the first k bytes. -/
theorem RR.cut {w : World} {B p : Nat} {l : List Int} {ao : Option Addr} {c : Nat} (hr : RR w B p l 0) (h2 : Sl w ao l.length c l) (h1 : RRAt w p (.slice ao l.length c) 0) (h3 : 0 < l.length → ∀ k ∈ blk ao, k < B) {k : Nat} (hk : k ≤ l.length)
    (a' : Option Addr) (m c' : Nat) (hm : m = l.length - k) (hv : (a' = ao ∧ c' = 0 ∧ c = k) ∨ (a' = Option.map (fun x => x.add k) ao ∧ c' = c - k)) :
    RR (w.setCell ⟨p, 0, none⟩ (.slice a' m c')) B p (l.drop k) 0 ∧ Kept [p] w (w.setCell ⟨p, 0, none⟩ (.slice a' m c')) := by
  obtain ⟨_, _, _, _, _, h4, h5, h6⟩ := hr
  have hKp : Kept [p] w (w.setCell ⟨p, 0, none⟩ (.slice a' m c')) := (Kept.refl _ _).setCell (by simp) _
  have hlen : (l.drop k).length = m := by simp [hm]
  have hbl : blk a' = blk ao := by
    rcases hv with ⟨rfl, _⟩ | ⟨rfl, _⟩
    · rfl
    · rw [blk_add]
  have hblk : 0 < (l.drop k).length → ∀ j ∈ blk a', j < B := fun h0 j hj => h3 (by omega) j (by rw [← hbl]; exact hj)
  have hs' : Sl w a' (l.drop k).length c' (l.drop k) := by
    rw [hlen, hm]
    rcases hv with ⟨rfl, rfl, rfl⟩ | ⟨rfl, rfl⟩
    · have h7 := h2.2.1
      exact h2.drop_all (by omega)
    · exact h2.drop hk
  refine ⟨⟨a', c', ?_, Sl.kept' hKp hs' (fun h0 j hj hm' => by have := hblk h0 j hj; simp at hm'; omega), hblk, h4, h5.drop _, by simp⟩, hKp⟩
  rw [hlen]
  exact h1.set0 _

theorem rdRunE_num {most e e1 x : Int} {l rest : List Int} (h : rdNumE e l = (e1, x, rest)) :
    rdRunE e most l = if e1 ≠ 0 then (e1, [], []) else if most < x then (3, [], []) else if (rest.length : Int) < x then (2, [], []) else (0, rest.take x.toNat, rest.drop x.toNat) := by
  unfold rdRunE
  unfold rdNumE at h
  by_cases he : e = 0
  · rw [if_pos he] at h ⊢; exact rdRun_num h
  · rw [if_neg he] at h ⊢
    cases h
    rw [if_pos he]

theorem stopE_zero (x : Int) : stopE 0 x = x := by unfold stopE; rw [if_pos rfl]

theorem rdNumE_x {e x : Int} {l rest : List Int} (ho : Oct l) (h : rdNumE e l = (0, x, rest)) : 0 ≤ x ∧ x ≤ 1099511627776 := by
  unfold rdNumE at h
  by_cases he : e = 0
  · rw [if_pos he] at h
    have := rdNum_one x l rest ho h
    exact ⟨this.1, this.2.1⟩
  · rw [if_neg he] at h; cases h; exact absurd rfl he

theorem rdNumE_short {e : Int} {l : List Int} : (rdNumE e l).2.2.length ≤ l.length := by
  unfold rdNumE
  split
  · rcases rdN_shape 6 0 0 l with ⟨_, k, h⟩ | ⟨_, h⟩
    · unfold rdNum; rw [h]; simp
    · unfold rdNum; rw [h]; simp
  · simp

set_option maxHeartbeats 2000000 in
theorem rrtake_call (w : World) (B p : Nat) (l : List Int) (e most : Int) (hr : RR w B p l e) (hl : l.length ≤ 1000000000) :
    Calls Try.prog 81 #[.pointer (some ⟨p, 0, none⟩), .int .i64 most] w fun r w' => ∃ a n c, r = .returned (.slice a n c) ∧ Sl w' a n c (rdRunE e most l).2.1 ∧ RR w' B p (rdRunE e most l).2.2 (rdRunE e most l).1 ∧ Kept [p] w w' := by
  have HR : Hid (RR w B p l e) := hr
  have hoct : Oct l := by obtain ⟨_, _, _, _, _, _, h5, _⟩ := hr; exact h5
  clear hr
  go_enter Try.func81, Try.ntmps81
  go_wp2_with fail
  refine (rrnum_call _ B _ l e HR.out).mono ?_
  rintro _ w1 ⟨rfl, hR1, hk1⟩
  obtain ⟨⟨e1, x, rest⟩, hE⟩ : ∃ E, rdNumE e l = E := ⟨_, rfl⟩
  have hsh0 : rest.length ≤ l.length := by have h9 := rdNumE_short (e := e) (l := l); rw [hE] at h9; exact h9
  rw [hE] at hR1 ⊢
  have hrun := rdRunE_num (most := most) hE
  have hx : e1 = 0 → 0 ≤ x ∧ x ≤ 1099511627776 := by intro h; subst h; exact rdNumE_x hoct hE
  have HR1 : Hid (RR w1 B p rest e1) := hR1
  obtain ⟨ao, c, c0, c1, c3, hc, hc2, HS, HA, H3⟩ := HR1.out.cells
  clear hE hR1
  by_cases he1 : e1 = 0
  · subst he1
    obtain ⟨hx0, hx1⟩ := hx rfl
    by_cases hbig : most < x
    · have HE : Hid (rdRunE e most l = (3, [], [])) := by show rdRunE e most l = _; rw [hrun, if_neg (by simp), if_pos hbig]
      clear hrun
      go_wp2_with fail
      refine (stop_any _ B _ rest 0 _ HR1.out).mono ?_
      rw [stopE_zero]
      rintro _ w2 ⟨rfl, hR2, hk2⟩
      obtain ⟨ao2, cc2, d0, d1, d3, _⟩ := hR2.cells
      have HR2 : Hid (RR w2 B p [] 3) := hR2
      clear hR2
      go_wp2
      go_ret
      rw [HE.out]
      exact ⟨none, 0, 0, rfl, Sl.nil _, HR2.out, hk1.trans hk2 (by simp)⟩
    · by_cases hsh : (rest.length : Int) < x
      · have HE : Hid (rdRunE e most l = (2, [], [])) := by show rdRunE e most l = _; rw [hrun, if_neg (by simp), if_neg hbig, if_pos hsh]
        clear hrun
        go_wp2_with fail
        refine (stop_any _ B _ rest 0 _ HR1.out).mono ?_
        rw [stopE_zero]
        rintro _ w2 ⟨rfl, hR2, hk2⟩
        obtain ⟨ao2, cc2, d0, d1, d3, _⟩ := hR2.cells
        have HR2 : Hid (RR w2 B p [] 2) := hR2
        clear hR2
        go_wp2
        go_ret
        rw [HE.out]
        exact ⟨none, 0, 0, rfl, Sl.nil _, HR2.out, hk1.trans hk2 (by simp)⟩
      · have HE : Hid (rdRunE e most l = (0, rest.take x.toNat, rest.drop x.toNat)) := by show rdRunE e most l = _; rw [hrun, if_neg (by simp), if_neg hbig, if_neg hsh]
        clear hrun hx
        obtain ⟨k, rfl⟩ := Int.eq_ofNat_of_zero_le hx0
        have hkr : k ≤ rest.length := by omega
        have hsl : Sl w1 ao k c (rest.take k) := HS.out.take hkr
        go_wp2_with fail
        refine (copy_call _ _ _ _ _ hsl (by omega)).mono ?_
        rintro _ w2 ⟨v2, rfl, hO2, hf2, hk2⟩
        obtain ⟨a2, n2, c2, rfl, hs2, hb2⟩ := own_sl hO2
        have hlt : p < w1.heap.size := HR1.out.lt
        have HR2 : Hid (RR w2 B p rest 0) := RR.kept hk2 HR1.out (by simp) (by simp)
        have HA2 : Hid (RRAt w2 p (.slice ao rest.length c) 0) := hk2.at HA.out (by simp)
        have HS2 : Hid (Sl w2 ao rest.length c rest) := Sl.kept hk2 HS.out (by simp)
        obtain ⟨d0, d1, d3⟩ := HA2.out.cells
        have hfr : ∀ k ∈ blk a2, w1.heap.size ≤ k := fun k hk => hf2 k (hb2 k hk).2
        have HFIN : Hid (∀ a' m c', m = rest.length - k → ((a' = ao ∧ c' = 0 ∧ c = k) ∨ (a' = Option.map (fun x => x.add k) ao ∧ c' = c - k)) →
            ∃ a n cc, (Ending.returned (.slice a2 n2 c2) : Ending) = .returned (.slice a n cc) ∧ Sl (w2.setCell ⟨p, 0, none⟩ (.slice a' m c')) a n cc (rest.take k) ∧ RR (w2.setCell ⟨p, 0, none⟩ (.slice a' m c')) B p (rest.drop k) 0 ∧ Kept [p] w (w2.setCell ⟨p, 0, none⟩ (.slice a' m c'))) := by
          intro a' m c' hm hv
          have h7 := RR.cut HR2.out HS2.out HA2.out H3.out hkr a' m c' hm hv
          refine ⟨a2, n2, c2, rfl, Sl.kept h7.2 hs2 (fun j hj hm' => ?_), h7.1, (hk1.trans hk2 (by simp)).trans h7.2 (by simp)⟩
          have := hfr j hj
          simp at hm'; omega
        clear hO2 hs2 hf2 hb2 hfr hsl c0 c1 c3
        go_wp2
        · go_ret
          rw [HE.out]
          exact HFIN.out _ _ _ (by omega) (.inl ⟨rfl, rfl, by omega⟩)
        · go_ret
          rw [HE.out]
          exact HFIN.out _ _ _ (by omega) (.inr ⟨rfl, rfl⟩)
  · have HE : Hid (rdRunE e most l = (e1, [], [])) := by show rdRunE e most l = _; rw [hrun, if_pos he1]
    have hb : (e1 == 0) = false := by simp [he1]
    have hl2 : rest = [] := by obtain ⟨_, _, _, _, _, _, _, h6⟩ := HR1.out; exact h6 he1
    subst hl2
    clear hrun hx
    go_wp2
    go_ret
    rw [HE.out]
    exact ⟨none, 0, 0, rfl, Sl.nil _, HR1.out, hk1⟩

set_option maxHeartbeats 1000000 in
theorem rrbytes_call (w : World) (B p : Nat) (l : List Int) (e most : Int) (hr : RR w B p l e) (hl : l.length ≤ 1000000000) :
    Calls Try.prog 55 #[.pointer (some ⟨p, 0, none⟩), .int .i64 most] w fun r w' => ∃ a n c, r = .returned (.slice a n c) ∧ Sl w' a n c (rdRunE e most l).2.1 ∧ RR w' B p (rdRunE e most l).2.2 (rdRunE e most l).1 ∧ Kept [p] w w' := by
  have HR : Hid (RR w B p l e) := hr
  clear hr
  go_enter Try.func55, Try.ntmps55
  go_wp2_with fail
  refine (rrtake_call _ B _ l e most HR.out hl).mono ?_
  rintro _ w1 ⟨a, n, c, rfl, h1, h2, h3⟩
  have H1 : Hid (Sl w1 a n c (rdRunE e most l).2.1) := h1
  have H2 : Hid (RR w1 B p (rdRunE e most l).2.2 (rdRunE e most l).1) := h2
  clear h1 h2
  go_wp2
  go_ret
  exact ⟨a, n, c, rfl, H1.out, H2.out, h3⟩

set_option maxHeartbeats 1000000 in
theorem rrtext_call (w : World) (B p : Nat) (l : List Int) (e most : Int) (hr : RR w B p l e) (hl : l.length ≤ 1000000000) :
    Calls Try.prog 54 #[.pointer (some ⟨p, 0, none⟩), .int .i64 most] w fun r w' => r = .returned (.string (strB (rdRunE e most l).2.1)) ∧ RR w' B p (rdRunE e most l).2.2 (rdRunE e most l).1 ∧ Kept [p] w w' := by
  have HR : Hid (RR w B p l e) := hr
  clear hr
  go_enter Try.func54, Try.ntmps54
  go_wp2_with fail
  refine (rrtake_call _ B _ l e most HR.out hl).mono ?_
  rintro _ w1 ⟨a, n, c, rfl, h1, h2, h3⟩
  have hcv := conv_text w1 a n c _ h1
  have H2 : Hid (RR w1 B p (rdRunE e most l).2.2 (rdRunE e most l).1) := h2
  clear h1 h2
  go_wp2
  go_ret
  exact ⟨rfl, H2.out, h3⟩

set_option maxHeartbeats 1000000 in
theorem rrrefuse_call (w : World) (B p : Nat) (l : List Int) (e : Int) (hr : RR w B p l e) :
    Calls Try.prog 59 #[.pointer (some ⟨p, 0, none⟩)] w fun r w' => r = .returned (.tuple #[]) ∧ RR w' B p [] (rdRefE e) ∧ Kept [p] w w' := by
  have HR : Hid (RR w B p l e) := hr
  clear hr
  go_enter Try.func59, Try.ntmps59
  go_wp2_with fail
  refine (stop_any _ B _ l e _ HR.out).mono ?_
  rintro _ w1 ⟨rfl, h2, h3⟩
  have H2 : Hid (RR w1 B p [] (rdRefE e)) := h2
  clear h2
  go_wp2
  go_returns
  exact ⟨rfl, H2.out, h3⟩

set_option maxHeartbeats 1000000 in
theorem rrflag_call (w : World) (B p : Nat) (l : List Int) (e : Int) (hr : RR w B p l e) :
    Calls Try.prog 56 #[.pointer (some ⟨p, 0, none⟩)] w fun r w' => r = .returned (.bool (rdFlagE e l).2.1) ∧ RR w' B p (rdFlagE e l).2.2 (rdFlagE e l).1 ∧ Kept [p] w w' := by
  have HR : Hid (RR w B p l e) := hr
  obtain ⟨ao, c, c0, c1, c3, hc, hc2, HS, HA, H3⟩ := hr.cells
  by_cases he : e = 0
  · subst he
    cases l with
    | nil =>
      have HE : Hid (rdFlagE 0 [] = (2, false, [])) := rfl
      clear hr
      go_enter Try.func56, Try.ntmps56
      go_wp2_with fail
      refine (stop_any _ B _ [] 0 _ HR.out).mono ?_
      rw [stopE_zero]
      rintro _ w1 ⟨rfl, hR2, hk2⟩
      obtain ⟨ao2, cc2, d0, d1, d3, _⟩ := hR2.cells
      have HR2 : Hid (RR w1 B p [] 2) := hR2
      clear hR2
      go_wp2
      go_ret
      rw [HE.out]
      exact ⟨rfl, HR2.out, hk2⟩
    | cons d l' =>
      have ho : 0 ≤ d ∧ d < 256 := by obtain ⟨_, _, _, _, _, _, h5, _⟩ := hr; exact h5.head
      obtain ⟨b, o, rfl, hcell⟩ := HS.out.some (by simp)
      have g1 : w.cell? ⟨b, o, none⟩ = some (.int .u8 d) := hcell 0 (by simp)
      obtain ⟨n, hn⟩ : ∃ n, n = (d :: l').length := ⟨_, rfl⟩
      have hn0 : 0 < n := by rw [hn]; simp
      have hne : ¬ n = 0 := by omega
      have HN : Hid (n = (d :: l').length) := hn
      rw [← hn] at c0 hc
      clear hr hcell hn
      by_cases hd : 1 < d
      · have HE : Hid (rdFlagE 0 (d :: l') = (4, false, [])) := by show rdFlagE 0 (d :: l') = _; unfold rdFlagE; rw [if_pos rfl, rdFlag, if_pos hd]
        go_enter Try.func56, Try.ntmps56
        go_wp2_with fail
        refine (stop_any _ B _ _ 0 _ HR.out).mono ?_
        rw [stopE_zero]
        rintro _ w1 ⟨rfl, hR2, hk2⟩
        obtain ⟨ao2, cc2, d0, d1, d3, _⟩ := hR2.cells
        have HR2 : Hid (RR w1 B p [] 4) := hR2
        clear hR2
        go_wp2
        go_ret
        rw [HE.out]
        exact ⟨rfl, HR2.out, hk2⟩
      · have HE : Hid (rdFlagE 0 (d :: l') = (0, d == 1, l')) := by show rdFlagE 0 (d :: l') = _; unfold rdFlagE; rw [if_pos rfl, rdFlag, if_neg hd]
        have HFIN : Hid (∀ a' m c', m = n - 1 → ((a' = some ⟨b, o, none⟩ ∧ c' = 0 ∧ c = 1) ∨ (a' = Option.map (fun x => x.add 1) (some (⟨b, o, none⟩ : Addr)) ∧ c' = c - 1)) →
            RR (w.setCell ⟨p, 0, none⟩ (.slice a' m c')) B p l' 0 ∧ Kept [p] w (w.setCell ⟨p, 0, none⟩ (.slice a' m c'))) := by
          intro a' m c' hm hv
          exact RR.cut HR.out HS.out HA.out H3.out (k := 1) (by simp) a' m c' (by rw [← HN.out]; exact hm) hv
        go_enter Try.func56, Try.ntmps56
        go_wp2
        · go_ret
          rw [HE.out]
          exact ⟨rfl, HFIN.out _ _ _ (by omega) (.inl ⟨rfl, rfl, by omega⟩)⟩
        · go_ret
          rw [HE.out]
          exact ⟨rfl, HFIN.out _ _ _ (by omega) (.inr ⟨rfl, rfl⟩)⟩
  · have HE : Hid (rdFlagE e l = (e, false, [])) := by show rdFlagE e l = _; unfold rdFlagE; rw [if_neg he]
    have hb : (e == 0) = false := by simp [he]
    have hl2 : l = [] := by obtain ⟨_, _, _, _, _, _, _, h6⟩ := hr; exact h6 he
    subst hl2
    clear hr
    go_enter Try.func56, Try.ntmps56
    go_wp2
    go_ret
    rw [HE.out]
    exact ⟨rfl, HR.out, Kept.refl _ _⟩

set_option maxHeartbeats 1000000 in
theorem rrword_call (w : World) (B p : Nat) (l : List Int) (e : Int) (hr : RR w B p l e) :
    Calls Try.prog 57 #[.pointer (some ⟨p, 0, none⟩)] w fun r w' => r = .returned (.int .u64 (rdWordE e l).2.1) ∧ RR w' B p (rdWordE e l).2.2 (rdWordE e l).1 ∧ Kept [p] w w' := by
  have HR : Hid (RR w B p l e) := hr
  have HO : Hid (Oct l) := by obtain ⟨_, _, _, _, _, _, h5, _⟩ := hr; exact h5
  obtain ⟨ao, c, c0, c1, c3, hc, hc2, HS, HA, H3⟩ := hr.cells
  by_cases he : e = 0
  · subst he
    clear hr
    by_cases hsh : l.length < 8
    · have hsh' : (l.length : Int) < 8 := by omega
      have HE : Hid (rdWordE 0 l = (2, 0, [])) := by show rdWordE 0 l = _; unfold rdWordE rdWord; rw [if_pos rfl, if_pos hsh]
      go_enter Try.func57, Try.ntmps57
      go_wp2_with fail
      refine (stop_any _ B _ _ 0 _ HR.out).mono ?_
      rw [stopE_zero]
      rintro _ w1 ⟨rfl, hR2, hk2⟩
      obtain ⟨ao2, cc2, d0, d1, d3, _⟩ := hR2.cells
      have HR2 : Hid (RR w1 B p [] 2) := hR2
      clear hR2
      go_wp2
      go_ret
      rw [HE.out]
      exact ⟨rfl, HR2.out, hk2⟩
    · have hsh' : ¬ (l.length : Int) < 8 := by omega
      have HE : Hid (rdWordE 0 l = (0, rdHi (l.take 8), l.drop 8)) := by show rdWordE 0 l = _; unfold rdWordE rdWord; rw [if_pos rfl, if_neg hsh]
      have HFIN : Hid (∀ a' m c', m = l.length - 8 → ((a' = ao ∧ c' = 0 ∧ c = 8) ∨ (a' = Option.map (fun x => x.add 8) ao ∧ c' = c - 8)) →
          RR (w.setCell ⟨p, 0, none⟩ (.slice a' m c')) B p (l.drop 8) 0 ∧ Kept [p] w (w.setCell ⟨p, 0, none⟩ (.slice a' m c'))) := by
        intro a' m c' hm hv
        exact RR.cut HR.out HS.out HA.out H3.out (k := 8) (by omega) a' m c' hm hv
      obtain ⟨b, o, rfl, hcell⟩ := HS.out.some (by omega)
      have HC : Hid (∀ i, i < l.length → w.cell? ⟨b, o + i, none⟩ = some (.int .u8 (l.getD i 0))) := hcell
      clear hcell
      go_enter Try.func57, Try.ntmps57
      go_wp2
      go_loop [3, 4] (fun t i => ∃ (k : Nat) (x : Int), k ≤ 8 ∧ i = .int .i64 k ∧ t = .int .u64 x ∧ Hid (x = rdHi (l.take k))) (fun _ i => 8 - (intOf i).toNat)
      case atStart => exact ⟨0, 0, by omega, rfl, rfl, rfl⟩
      case round =>
        obtain ⟨k, x, hk, rfl, rfl, HX⟩ := hrel
        by_cases hlt : k < 8
        · have g1 : w.cell? ⟨b, o + k, none⟩ = some (.int .u8 (l.getD k 0)) := HC.out k (by omega)
          have gd := getD_oct HO.out (show k < l.length by omega)
          have hb : 0 ≤ x ∧ x < 18446744073709551616 := by rw [HX.out]; exact rdHi_bd _ (HO.out.take k)
          have hts := take_snoc (show k < l.length by omega)
          have HTS : Hid (l.take (k + 1) = l.take k ++ [l.getD k 0]) := hts
          clear hts
          generalize hd : l.getD k 0 = d at g1 gd
          have HD : Hid (l.getD k 0 = d) := hd
          clear hd
          obtain ⟨gd0, gd1⟩ := gd
          have HOR : Hid (bits .or .u64 (IntKind.u64.wrap (x * 256)) d = x * 256 % 18446744073709551616 + d) := by
            have hor := u64_or_low x d hb.1 hb.2 gd0 gd1
            rw [← IntKind.wrap_u64] at hor
            show bits .or .u64 (IntKind.u64.wrap (x * 256)) d = x * 256 % 18446744073709551616 + d
            rw [hor, IntKind.wrap_u64]
          clear hb
          go_wp2
          go_round
          case rel => exact ⟨k + 1, _, by omega, by go_num, rfl, by show _ = rdHi (l.take (k + 1)); rw [HOR.out, HTS.out, rdHi_snoc, ← HX.out, HD.out]⟩
          case measure => simp [intOf]; omega
        · obtain rfl : k = 8 := by omega
          go_wp2
          · go_ret
            rw [HE.out]
            exact ⟨ret_int HX.out, HFIN.out _ _ _ (by omega) (.inl ⟨rfl, rfl, by omega⟩)⟩
          · go_ret
            rw [HE.out]
            exact ⟨ret_int HX.out, HFIN.out _ _ _ (by omega) (.inr ⟨rfl, rfl⟩)⟩
  · have HE : Hid (rdWordE e l = (e, 0, [])) := by show rdWordE e l = _; unfold rdWordE; rw [if_neg he]
    have hb : (e == 0) = false := by simp [he]
    have hl2 : l = [] := by obtain ⟨_, _, _, _, _, _, _, h6⟩ := hr; exact h6 he
    subst hl2
    clear hr
    go_enter Try.func57, Try.ntmps57
    go_wp2
    go_ret
    rw [HE.out]
    exact ⟨rfl, HR.out, Kept.refl _ _⟩

end Go.Proofs.Ytfmklcnilmhnbaa
