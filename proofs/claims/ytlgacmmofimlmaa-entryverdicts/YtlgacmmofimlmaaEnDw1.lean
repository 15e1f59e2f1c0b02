/-
  The document's putChanges.
-/
import Derived.Test.YtlgacmmofimlmaaEnDw0
import Derived.Test.YtlgacmmofimlmaaEnDcP
import Derived.Test.YtlgacmmofimlmaaF7
namespace Go.Proofs.Ytlgacmmofimlmaa
open Go.RowKit

/-- So far in the loop. -/
def PcI (p : Nat) (w : World) (O : List Nat) (s : List Int × Int) (m : Nat) (L : List Ch) (iv : Value) (wr : World) : Prop :=
  ∃ i : Nat, iv = .int .i64 (i : Int) ∧ i ≤ L.length ∧ Hid (Went (AtW p) w O (stepD s (encNum L.length ++ (L.take i).flatMap bC)) (m + 199 - 3 * i) wr)

theorem went_go {p : Nat} {w w1 w2 : World} {O : List Nat} {s s' : List Int × Int} {m m' : Nat} {f : FuncId} {a : Array Value} (h : Went (AtW p) w O s m w1) (c : ∀ O', AtW p w1 O' s m → Calls Try.prog f a w1 (DwP p w1 O' s' m')) (_ : w1 = w2) :
    Calls Try.prog f a w1 fun r w' => r = .returned (.tuple #[]) ∧ Went (AtW p) w O s' m' w' := by
  obtain ⟨O1, hA, hk, hn⟩ := h
  exact (c O1 hA).mono (fun r w' hr => ⟨hr.1, Went.trans hk hn hr.2⟩)

theorem flat_snoc {α : Type} (b : α → List Int) (L : List α) (i : Nat) (h : i < L.length) : (L.take (i + 1)).flatMap b = (L.take i).flatMap b ++ b L[i] := by
  rw [List.take_succ_eq_append_getElem h, List.flatMap_append]
  simp

set_option maxHeartbeats 8000000 in
set_option maxRecDepth 100000 in
theorem putC_call (p : Nat) (w : World) (O : List Nat) (s : List Int × Int) (m : Nat) (ao : Option Addr) (n c : Nat) (L : List Ch) (hS : SlC w ao n c L) (hd : 0 < n → ∀ k ∈ blk ao, k ∉ O) (hok : okChgs L) (hA : AtW p w O s (m + 200)) :
    Calls Try.prog 61 #[.pointer (some ⟨p, 0, none⟩), .slice ao n c] w (DwP p w O (stepD s (bCs L)) m) := by
  have hl := hS.1
  have hc := hS.2.1
  have hm := hS.2.2.1
  unfold maxLen at hm
  have HL : Hid (L.length = n) := hl
  have HOK := hide hok
  have HS := hide hS
  have HD := hide hd
  have h64 := hok.1
  have c1 := hide (dw_num p w O s (m + 199) (n : Int) ((good_iff _).2 (by omega)) hA)
  have HB : Hid (bCs L = encNum L.length ++ L.flatMap bC) := by show bCs L = _; unfold bCs bL; rw [if_pos h64]
  clear hS hd hok hA
  go_enter Try.func61, Try.ntmps61
  go_wp2_with fail
  refine c1.out.mono ?_
  clear c1
  rintro _ w1 ⟨rfl, hW1⟩
  have HW1 : Hid (Went (AtW p) w O (stepD s (encNum L.length ++ (L.take 0).flatMap bC)) (m + 199 - 3 * 0) w1) := by
    show Went _ _ _ _ _ _
    rw [HL.out]
    simpa using hW1
  clear hW1
  go_wp2_with fail
  go_loopw [4] (fun iv wr => PcI p w O s m L iv wr) (fun iv _ => n - (intOf iv).toNat)
  case atStart => exact ⟨0, rfl, Nat.zero_le _, HW1⟩
  case round =>
    obtain ⟨i, rfl, hi, HR⟩ := hrel
    by_cases hlt : i < n
    · have hlt' : (i : Int) < n := by omega
      have hic : i ≤ c := by omega
      have hiL : i < L.length := by omega
      have hSr : SlC wr ao n c L := by
        obtain ⟨O1, _, hk, _⟩ := HR.out
        exact HS.out.kept0 hk HD.out
      obtain ⟨g, o, rfl, hx⟩ := hSr.2.2.2 i hiL
      have hxo := HOK.out.2 _ (List.getElem_mem hiL)
      have HF := hide (flat_snoc bC L i hiL)
      obtain ⟨y, hy⟩ : ∃ y, y = L[i]'hiL := ⟨_, rfl⟩
      rw [← hy] at hx hxo HF
      obtain ⟨x0, x1, x2⟩ := hx
      have HSr := hide hSr
      have e3 : m + 199 - 3 * i = m + 199 - 3 * (i + 1) + 2 + 1 := by omega
      have hW0 := HR.out
      rw [e3] at hW0
      have HW0 := hide hW0
      have hgd : ∀ (wq : World) (sq : List Int × Int) (mq : Nat), Went (AtW p) w O sq mq wq → SlC wq (some ⟨g, o, none⟩) n c L := fun wq sq mq hq => by
        obtain ⟨O1, _, hk, _⟩ := hq
        exact HS.out.kept0 hk HD.out
      have HGD := hide hgd
      have HYL : Hid (y = L[i]'hiL) := hy
      clear hgd hW0 hSr e3 hy
      have cT := went_go HW0.out (fun O' h => dw_text p wr O' _ _ y.p hxo.1 h) rfl
      have HT := hide cT
      clear cT
      go_upto_region 5 with (go_at_call 60; refine HT.out.mono ?_; clear HT; rintro _ w2 ⟨rfl, hW2⟩; have HW2 := hide hW2; clear hW2)
      obtain ⟨g2, o2, e2, hx2⟩ := (HGD.out _ _ _ HW2.out).2.2.2 i hiL
      cases e2
      rw [← HYL.out] at hx2
      have x1b := hx2.c1
      have cG := went_go HW2.out (fun O' h => dw_flag p w2 O' _ _ y.g h) rfl
      have HG := hide cG
      clear cG hx2 x0 x1 x2
      go_upto_region 6 with (go_at_call 91; refine HG.out.mono ?_; clear HG; rintro _ w3 ⟨rfl, hW3⟩; have HW3 := hide hW3; clear hW3)
      obtain ⟨g2, o2, e2, hx3⟩ := (HGD.out _ _ _ HW3.out).2.2.2 i hiL
      cases e2
      rw [← HYL.out] at hx3
      have x1c := hx3.c1
      have x2c := hx3.c2
      clear hx3 x1b
      cases hyg : y.g
      · rw [hyg] at x1c
        have cD := went_go HW3.out (fun O' h => dw_word p w3 O' _ _ y.d h) rfl
        have HDD := hide cD
        clear cD
        have HFin : Hid (∀ wq, Went (AtW p) w O (stepD (stepD (stepD (stepD s (encNum L.length ++ (L.take i).flatMap bC)) (bT y.p)) (bF y.g)) (hiB 8 y.d)) (m + 199 - 3 * (i + 1)) wq → Went (AtW p) w O (stepD s (encNum L.length ++ (L.take (i + 1)).flatMap bC)) (m + 199 - 3 * (i + 1)) wq) := fun wq hq => by
          rw [stepD_trans, stepD_trans, stepD_trans] at hq
          have e : bC y = bT y.p ++ (bF false ++ hiB 8 y.d) := by unfold bC; rw [hyg]; simp
          rw [HF.out, e]
          rw [hyg] at hq
          simpa [List.append_assoc] using hq
        clear hyg
        go_wp2_with (go_at_call 73; refine HDD.out.mono ?_; clear HDD; rintro _ w4 ⟨rfl, hW4⟩; have HW4 := hide (HFin.out _ hW4); clear hW4)
        go_roundw
        case rel => exact ⟨i + 1, by go_num, by omega, HW4⟩
        case measure => simp [intOf]; omega
      · rw [hyg] at x1c
        have HW4 : Hid (Went (AtW p) w O (stepD s (encNum L.length ++ (L.take (i + 1)).flatMap bC)) (m + 199 - 3 * (i + 1)) w3) := by
          obtain ⟨O1, hA1, hk1, hn1⟩ := HW3.out
          have hA2 := hA1.less (m' := m + 199 - 3 * (i + 1)) (by omega)
          rw [stepD_trans, stepD_trans] at hA2
          refine ⟨O1, ?_, hk1, hn1⟩
          have e : bC y = bT y.p ++ bF true := by unfold bC; rw [hyg]; simp
          rw [HF.out, e]
          rw [hyg] at hA2
          simpa [List.append_assoc] using hA2
        clear hyg x2c
        go_wp2_with fail
        go_roundw
        case rel => exact ⟨i + 1, by go_num, by omega, HW4⟩
        case measure => simp [intOf]; omega
    · have hlt' : ¬ (i : Int) < n := by omega
      have HW4 : Hid (Went (AtW p) w O (stepD s (bCs L)) m wr) := by
        obtain ⟨O1, hA1, hk1, hn1⟩ := HR.out
        rw [List.take_of_length_le (by omega), ← HB.out] at hA1
        exact ⟨O1, hA1.less (by omega), hk1, hn1⟩
      go_wp2_with fail
      go_end0
      exact ⟨rfl, HW4.out⟩

end Go.Proofs.Ytlgacmmofimlmaa
