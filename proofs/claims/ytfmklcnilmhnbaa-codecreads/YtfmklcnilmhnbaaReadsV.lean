/-
  CodecReads: the walk, whole.
-/
import Derived.Test.YtfmklcnilmhnbaaReadsW
namespace Go.Proofs.Ytfmklcnilmhnbaa
open Go.RowKit

/-- Between two things. -/
def Reads (w : World) (pr : Nat) (Fr : List Nat) (pm : Nat) (wr : World) : Prop :=
  ∃ l e, Rd wr pr Fr l e ∧ RR wr w.heap.size pm l e ∧ l.length ≤ 20000 ∧ Kept [] w wr

set_option maxRecDepth 100000 in
set_option maxHeartbeats 2000000 in
theorem reads_walk (w : World) (bo : Option Addr) (m d : Nat) (lb : List Int) (hs : Sl w bo m d lb) (ho : Oct lb) (ao : Option Addr) (n c : Nat) (L : List Th) (hL : Things w ao n c L) :
    Calls Try.prog 5 #[.slice bo m d, .slice ao n c] w fun r w' => r = .returned (.bool true) ∧ Below w.heap.size w w' := by
  have HS : Hid (Sl w bo m d lb) := hs
  have HL : Hid (Things w ao n c L) := hL
  have hnL := hL.1
  have hcL := hL.2.2.1
  have hcL2 := hL.2.1
  have hlen := hs.1
  clear hs hL
  by_cases hb : m ≤ 20000
  · have hb' : ¬ (20000 : Int) < (m : Int) := by omega
    go_enter Try.func5, Try.ntmps5
    go_wp2_with fail
    refine (awake_call _).mono ?_
    rintro _ w1 ⟨rfl, hk1⟩
    go_wp2_with fail
    refine (room_call _ _ _ _ _ (HL.out.kept hk1)).mono ?_
    rintro _ _ ⟨rfl, rfl⟩
    cases hr1 : roomy L with
    | false =>
      go_wp2
      go_ret
      exact ⟨rfl, hk1.below (Nat.le_refl _) (by simp)⟩
    | true =>
      clear hr1
      go_wp2_with fail
      refine (newReader_call _ _ _ _ _ (Sl.kept hk1 HS.out (by simp)) (by omega) ho).mono ?_
      rintro _ w2 ⟨pr, Fr, rfl, hpr, hFr, hFr', hrd2, hk2⟩
      have HPR : Hid (w.heap.size ≤ pr) := Nat.le_trans hk1.size hpr
      have hprl := hrd2.lt
      have hK2 : Kept [] w w2 := hk1.trans hk2 (by simp)
      obtain ⟨pm, hpm⟩ : ∃ pm, pm = w2.heap.size := ⟨_, rfl⟩
      have hK3 : Kept [] w2 (w2.alloc (.cells #[.slice bo m d, .int .i64 0] 52)) := (Kept.refl _ _).alloc _
      have hR3 : RR (w2.alloc (.cells #[.slice bo m d, .int .i64 0] 52)) w.heap.size pm lb 0 := by
        refine ⟨bo, d, ?_, ?_, ?_, ?_, ho, by simp⟩
        · unfold RRAt; rw [hlen, hpm]; exact heap_alloc_new _ _
        · rw [hlen]; exact Sl.kept hK3 (Sl.kept hK2 HS.out (by simp)) (by simp)
        · rw [hlen]; intro h0; exact HS.out.lt h0
        · rw [hpm]; exact hK2.size
      have HB : Hid (Reads w pr Fr pm (w2.alloc (.cells #[.slice bo m d, .int .i64 0] 52))) := ⟨lb, 0, Rd.kept hK3 hrd2 (by simp) (by simp), hR3, by omega, hK2.trans hK3 (by simp)⟩
      have HPP : Hid (pr ≠ pm) := by show pr ≠ pm; omega
      have HPF : Hid (pm ∉ Fr) := by intro h; have := hFr' pm h; omega
      have HPM : Hid (w.heap.size ≤ pm) := by show w.heap.size ≤ pm; rw [hpm]; exact hK2.size
      clear hR3 hrd2 hFr hFr' hprl
      have HPMe : Hid (pm = w2.heap.size) := hpm
      clear hpm
      go_wp2
      rw [← HPMe.out]
      go_loopw [7] (fun i wr => ∃ (k : Nat), k ≤ L.length ∧ i = .int .i64 k ∧ Reads w pr Fr pm wr) (fun i _ => L.length - (intOf i).toNat)
      case atStart => exact ⟨0, Nat.zero_le _, rfl, HB.out⟩
      case round =>
        obtain ⟨k, hk, rfl, hRds⟩ := hrel
        clear HB
        obtain ⟨l, e, hR, hM, hl2, hK⟩ := hRds
        by_cases hlt : k < L.length
        · obtain ⟨b, o, hao, hth⟩ := HL.out.some (by omega)
          subst hao
          have hth0 := (hth k hlt).kept hK
          clear hth
          generalize hq : L[k] = t at hth0
          clear hq
          have c0 := hth0.c0
          have c1 := hth0.c1
          have c2 := hth0.c2
          have c3 := hth0.c3
          have c4 := hth0.c4
          have c5 := hth0.c5
          have hkn : (k : Int) < (n : Int) := by omega
          go_wp2_with fail
          refine (alike_call wr w.heap.size pr Fr pm l e t hR hM HPP.out HPF.out HPR.out hl2).mono ?_
          rintro _ w6 ⟨rfl, l6, e6, hR6, hM6, hl6, hK6⟩
          have HN : Hid (Reads w pr Fr pm w6) := ⟨l6, e6, hR6, hM6, by omega, hK.trans hK6 (by intro i hi; right; have h7 := HPR.out; have h8 := HPM.out; simp at hi; rcases hi with h9 | h9 <;> omega)⟩
          clear hR6 hM6 hR hM hK6
          go_wp2
          go_roundw
          case rel => exact ⟨k + 1, by omega, by go_num, HN.out⟩
          case measure => simp [intOf]; omega
        · have hkn : ¬ (k : Int) < (n : Int) := by omega
          clear hR hM
          go_wp2
          go_ret
          exact ⟨rfl, hK.below (Nat.le_refl _) (by simp)⟩
  · have hb' : (20000 : Int) < (m : Int) := by omega
    go_enter Try.func5, Try.ntmps5
    go_wp2_with fail
    refine (awake_call _).mono ?_
    rintro _ w1 ⟨rfl, hk1⟩
    go_wp2
    go_ret
    exact ⟨rfl, hk1.below (Nat.le_refl _) (by simp)⟩

end Go.Proofs.Ytfmklcnilmhnbaa
