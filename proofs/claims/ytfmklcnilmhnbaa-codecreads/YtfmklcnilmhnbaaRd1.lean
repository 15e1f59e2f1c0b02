/-
  A reader's number, by its contract.
-/
import Derived.Test.YtfmklcnilmhnbaaRd0
import Derived.Test.YtfmklcnilmhnbaaPure
import Derived.Test.YtfmklcnilmhnbaaBits
namespace Go.Proofs.Ytfmklcnilmhnbaa
open Go.RowKit

set_option maxHeartbeats 400000 in
theorem newReader_any (w : World) (ao : Option Addr) (n c : Nat) (l : List Int) (hs : Sl w ao n c l) (hbig : n ≤ 140737488355328) :
    Calls Try.prog 10 #[.slice ao n c] w fun e w' => ∃ p a c', e = .returned (.pointer (some ⟨p, 0, none⟩)) ∧ w.heap.size ≤ p ∧ RdAt w' p (.slice a n c') 0 ∧ Sl w' a n c' l ∧ (∀ k ∈ blk a, w.heap.size ≤ k ∧ k < p) ∧ Kept [] w w' := by
  have HS : Hid (Sl w ao n c l) := hs
  clear hs
  go_enter Try.func10, Try.ntmps10
  go_wp2_with (go_at_call 34; refine (clone_any _ _ _ _ _ HS.out hbig).mono ?_; rintro _ w1 ⟨a, c', rfl, hsl, hb, hk⟩)
  go_ret
  refine ⟨_, a, c', rfl, hk.size, ?_, ?_, ?_, ?_⟩
  · exact heap_alloc_new _ _
  · exact Sl.kept ((Kept.refl [] w1).alloc _) hsl (by simp)
  · intro k hkb; have := hb k hkb; omega
  · exact hk.alloc _

theorem drop_cons {l : List Int} {k : Nat} {d : Int} {l' : List Int} (h : l.drop k = d :: l') : l.drop (k + 1) = l' ∧ k + 1 ≤ l.length := by
  have h1 : k < l.length := by
    by_cases hk : k < l.length
    · exact hk
    · rw [List.drop_eq_nil_of_le (by omega)] at h; simp at h
  rw [List.drop_eq_getElem_cons h1] at h
  exact ⟨(List.cons.inj h).2, h1⟩

theorem rdN_more (f i : Nat) (acc d : Int) (l : List Int) (h : 128 ≤ d) : rdN (f + 1) i acc (d :: l) = rdN f (i + 1) (acc + d % 128 * 2 ^ (7 * i)) l := by
  rw [rdN, if_pos h]
theorem rdN_bad (f i : Nat) (acc d : Int) (l : List Int) (h : d < 128) (h2 : (d = 0 ∧ 0 < i) ∨ 1099511627776 < acc + d % 128 * 2 ^ (7 * i)) : rdN (f + 1) i acc (d :: l) = (4, 0, []) := by
  rw [rdN, if_neg (by omega), if_pos h2]
theorem rdN_good (f i : Nat) (acc d : Int) (l : List Int) (h : d < 128) (h2 : ¬ ((d = 0 ∧ 0 < i) ∨ 1099511627776 < acc + d % 128 * 2 ^ (7 * i))) : rdN (f + 1) i acc (d :: l) = (0, acc + d % 128 * 2 ^ (7 * i), l) := by
  rw [rdN, if_neg (by omega), if_neg h2]

set_option maxHeartbeats 2000000 in
theorem number_any (w : World) (p : Nat) (ao : Option Addr) (n c : Nat) (l : List Int) (hR : RdAt w p (.slice ao n c) 0) (hs : Sl w ao n c l) (hp : p ∉ blk ao) (ho : Oct l) :
    Calls Try.prog 36 #[.pointer (some ⟨p, 0, none⟩)] w fun r w' =>
      (∃ a c' rest x, rdNum l = (0, x, rest) ∧ r = .returned (.int .i64 x) ∧ RdAt w' p (.slice a rest.length c') 0 ∧ Sl w' a rest.length c' rest ∧ blk a = blk ao ∧ Kept [p] w w') ∨
      (∃ e v, rdNum l = (e, 0, []) ∧ e ≠ 0 ∧ r = .panicked [{ v := .iface 27 (.int .i64 e), recovered := false }] ∧ RdAt w' p v 0 ∧ Kept [p] w w') := by
  have hn := hs.1
  subst hn
  have HR0 : Hid (RdAt w p (.slice ao l.length c) 0) := hR
  have HS0 : Hid (Sl w ao l.length c l) := hs
  clear hR hs
  go_enter Try.func36, Try.ntmps36
  go_wp2
  go_loopw [3, 6] (fun t i wr => ∃ (k : Nat) (a : Option Addr) (c' : Nat) (acc : Int), k ≤ 6 ∧ i = .int .i64 k ∧ t = .int .i64 acc ∧ 0 ≤ acc ∧ acc < 2 ^ (7 * k) ∧ rdNum l = rdN (6 - k) k acc (l.drop k) ∧ k ≤ l.length ∧
      RdAt wr p (.slice a (l.drop k).length c') 0 ∧ Sl wr a (l.drop k).length c' (l.drop k) ∧ blk a = blk ao ∧ Kept [p] w wr) (fun _ i _ => 6 - (intOf i).toNat)
  case atStart => exact ⟨0, ao, c, 0, by omega, rfl, rfl, by omega, by decide, rfl, Nat.zero_le _, HR0.out, HS0.out, rfl, Kept.refl _ _⟩
  case round =>
    obtain ⟨k, a, c', acc, hk, rfl, rfl, ha0, ha1, hrd, hkl, hR', hs', hb, hkept⟩ := hrel
    clear HR0 HS0
    have HB : Hid (blk a = blk ao) := hb
    have HA1 : Hid (acc < 2 ^ (7 * k)) := ha1
    by_cases hk6 : k = 6
    · subst hk6
      have HH : Hid (rdNum l = (4, 0, [])) := hrd
      have HR : Hid (RdAt wr p (.slice a (l.drop 6).length c') 0) := hR'
      clear hrd hb ha1 hR' hs'
      go_wp2
      exact ⟨rfl, .inr ⟨4, _, HH.out, by decide, rfl, HR.out, hkept⟩⟩
    · cases hl : l.drop k with
      | nil =>
        rw [hl] at hrd hR' hs'
        have HR : Hid (RdAt wr p (.slice a ([] : List Int).length c') 0) := hR'
        have HH : Hid (rdNum l = (2, 0, [])) := by
          show rdNum l = (2, 0, [])
          rw [hrd]
          obtain ⟨f, hf⟩ : ∃ f, 6 - k = f + 1 := ⟨5 - k, by omega⟩
          rw [hf]; rfl
        clear hR' hs' hrd hb ha1 hl
        have hklt : (k : Int) < 6 := by omega
        go_wp2_with fail
        refine (take_short _ _ _ _ _ 1 _ HR.out (by simp)).mono ?_
        rintro _ _ ⟨rfl, rfl⟩
        go_wp2
        exact ⟨rfl, .inr ⟨2, _, HH.out, by decide, rfl, HR.out, hkept⟩⟩
      | cons d l' =>
        rw [hl] at hrd hR' hs'
        obtain ⟨hdr, hlen⟩ := drop_cons hl
        have hd := (show Oct (d :: l') by rw [← hl]; exact ho.drop k).head
        have HR : Hid (RdAt wr p (.slice a (d :: l').length c') 0) := hR'
        have HS : Hid (Sl wr a (d :: l').length c' (d :: l')) := hs'
        have HH : Hid (rdNum l = rdN (6 - k) k acc (d :: l')) := hrd
        have HD : Hid (l.drop (k + 1) = l') := hdr
        obtain ⟨f, hf⟩ : ∃ f, 6 - k = f + 1 := ⟨5 - k, by omega⟩
        have HF : Hid (6 - k = f + 1) := hf
        have hbits := or_digit acc d k ha0 ha1 hd.1 hd.2 (by omega)
        have hlt := digit_lt acc d k ha0 ha1
        obtain ⟨X, hX⟩ : ∃ X, X = acc + d % 128 * 2 ^ (7 * k) := ⟨_, rfl⟩
        rw [← hX] at hbits hlt
        have HX : Hid (X = acc + d % 128 * 2 ^ (7 * k)) := hX
        have HLT : Hid (0 ≤ X ∧ X < 2 ^ (7 * (k + 1))) := hlt
        have hX0 := hlt.1
        clear hR' hs' hrd hdr hX hlt hf hb ha1 hl
        obtain ⟨hd0, hd1⟩ := hd
        have hklt : (k : Int) < 6 := by omega
        go_wp2_with fail
        refine (take_fits _ _ _ _ _ 1 _ _ HR.out HS.out (by rw [HB.out]; exact hp) (by simp)).mono ?_
        rintro _ w1 ⟨a1, c1, a2, c2, rfl, hR2, hs1, hs2, hb1, hb2, hk2⟩
        obtain ⟨b, o, hb3, hc1⟩ := hs1.some (by omega)
        subst hb3
        have hc2 := hc1 0 (by omega)
        clear hc1 hb1 hs1
        simp at hc2
        have HR2 : Hid (RdAt w1 p (.slice a2 l'.length c2) 0) := hR2
        have HS2 : Hid (Sl w1 a2 l'.length c2 l') := hs2
        have HB2 : Hid (blk a2 = blk ao) := hb2.trans HB.out
        have HK2 : Hid (Kept [p] w w1) := hkept.trans hk2 (by simp)
        clear hR2 hs2 hb2 hk2 hkept HR HS
        by_cases hd128 : 128 ≤ d
        · go_wp2
          go_roundw
          case rel =>
            refine ⟨k + 1, a2, c2, X, by omega, by go_num, rfl, hX0, HLT.out.2, ?_, hlen, ?_, ?_, HB2.out, HK2.out⟩
            · rw [HD.out, HH.out, HF.out, rdN_more _ _ _ _ _ hd128, ← HX.out, show 6 - (k + 1) = f by have := HF.out; omega]
            · rw [HD.out]; exact HR2.out
            · rw [HD.out]; exact HS2.out
          case measure => simp [intOf]; omega
        · have hd128' : d < 128 := by omega
          by_cases hz : d = 0
          · have hzb : (d == 0) = true := by simp [hz]
            by_cases hk0 : k = 0
            · have hkb : ¬ (0 : Int) < (k : Int) := by omega
              have hXm : ¬ (1099511627776 : Int) < X := by
                have h1 := HX.out; have h2 := HA1.out
                subst hk0; subst hz; omega
              have HZ : Hid (d = 0) := hz
              have HK0 : Hid (k = 0) := hk0
              clear hz hk0
              go_wp2
              go_ret
              refine .inl ⟨a2, c2, l', X, ?_, rfl, HR2.out, HS2.out, HB2.out, HK2.out⟩
              have h1 := HK0.out
              rw [HH.out, HF.out, rdN_good _ _ _ _ _ hd128' (by rw [← HX.out]; omega), ← HX.out]
            · have hkb : (0 : Int) < (k : Int) := by omega
              have HZ : Hid (d = 0) := hz
              clear hz hk0
              go_wp2
              refine ⟨rfl, .inr ⟨4, _, ?_, by decide, rfl, HR2.out, HK2.out⟩⟩
              rw [HH.out, HF.out, rdN_bad _ _ _ _ _ hd128' (.inl ⟨HZ.out, by omega⟩)]
          · have hzb : (d == 0) = false := by simp [hz]
            have HZ : Hid (¬ d = 0) := hz
            clear hz
            by_cases hXm : (1099511627776 : Int) < X
            · go_wp2
              refine ⟨rfl, .inr ⟨4, _, ?_, by decide, rfl, HR2.out, HK2.out⟩⟩
              rw [HH.out, HF.out, rdN_bad _ _ _ _ _ hd128' (.inr (by rw [← HX.out]; exact hXm))]
            · go_wp2
              go_ret
              refine .inl ⟨a2, c2, l', X, ?_, rfl, HR2.out, HS2.out, HB2.out, HK2.out⟩
              have h1 := HZ.out
              rw [HH.out, HF.out, rdN_good _ _ _ _ _ hd128' (by rw [← HX.out]; omega), ← HX.out]

end Go.Proofs.Ytfmklcnilmhnbaa
