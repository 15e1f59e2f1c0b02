/-
  TreeDepth: the walk.
-/
import Derived.Test.YtcaimaofbakjcaaTrAwake
namespace Go.Proofs.Ytcaimaofbakjcaa
open Go.RowKit

theorem height_pos {t : Tr} (h : 1 ≤ t.size) : 1 ≤ t.height := by
  cases t with
  | nil => simp [Tr.size] at h
  | node l x r => simp only [Tr.height]; omega

theorem put_pos (x : Lf) (t : Tr) : 1 ≤ (t.put x).size := by
  have h := put_size x t
  cases t with
  | nil => simp [Tr.put, Tr.size]
  | node l y r => simp only [Tr.size] at h; omega

theorem few : ∀ h : Fin 18, 1 ≤ h.val → h.val = 1 ∨ h.val = 2 ∨ h.val = 3 ∨ h.val = 4 ∨ h.val = 5 ∨ h.val = 6 ∨ h.val = 7 ∨ h.val = 8 ∨ h.val = 9 ∨ h.val = 10 ∨ h.val = 11 ∨ h.val = 12 ∨ h.val = 13 ∨ h.val = 14 ∨ h.val = 15 ∨ h.val = 16 ∨ h.val = 17 := by decide

/-- How deep a tree of few leaves may be, and how many leaves it has then at least. -/
theorem depth_facts {t : Tr} (g : t.bal) (hs : t.size ≤ 300) (h1 : 1 ≤ t.size) : ∃ h : Nat, t.height = h ∧ 2 ^ (h / 2) ≤ t.size + 1 ∧
    (h = 1 ∨ h = 2 ∨ h = 3 ∨ h = 4 ∨ h = 5 ∨ h = 6 ∨ h = 7 ∨ h = 8 ∨ h = 9 ∨ h = 10 ∨ h = 11 ∨ h = 12 ∨ h = 13 ∨ h = 14 ∨ h = 15 ∨ h = 16 ∨ h = 17) := by
  have b9 := bal_deep 9 t g
  simp only [Nat.reducePow, Nat.reduceMul] at b9
  exact ⟨t.height, rfl, bal_deep (t.height / 2) t g (by omega), few ⟨t.height, by omega⟩ (height_pos h1)⟩

set_option maxHeartbeats 8000000 in
set_option maxRecDepth 100000 in
theorem depth_walk (w : World) (ao : Option Addr) (n c : Nat) (L : List Lf) (ht : SlL w ao n c L) :
    Calls Try.prog 6 #[.slice ao n c] w fun e w' => e = .returned (.bool true) ∧ Kept [] w w' := by
  have hn := ht.1
  subst hn
  have hm := ht.2.2.1
  have hc := ht.2.1
  unfold maxLen at hm
  cases hr : roomy L with
  | false =>
    go_enter Try.func6, Try.ntmps6
    go_wp2_with fail
    refine (awake_call _).mono ?_
    rintro e w0 ⟨rfl, hK0⟩
    have cr := room_call w0 ao L.length c L (ht.kept hK0)
    rw [hr] at cr
    go_wp2_with fail
    refine cr.mono ?_
    rintro e w' ⟨rfl, rfl⟩
    go_wp2_with fail
    go_ret
    exact ⟨rfl, hK0⟩
  | true =>
    obtain ⟨r1, r2⟩ := roomy_iff.1 hr
    have HL : Hid (∀ i (hi : i < L.length), ∃ b o, ao = some ⟨b, o, none⟩ ∧ LfAt w b (o + i * 4) L[i]) := ht.2.2.2
    have HP : Hid (∀ x ∈ L, x.p.length ≤ 300) := r2
    clear r2
    go_enter Try.func6, Try.ntmps6
    go_wp2_with fail
    refine (awake_call _).mono ?_
    rintro e w0 ⟨rfl, hK0⟩
    have cr := room_call w0 ao L.length c L (ht.kept hK0)
    rw [hr] at cr
    clear ht hr
    go_wp2_with fail
    refine cr.mono ?_
    rintro e w' ⟨rfl, rfl⟩
    clear cr
    go_wp2_with fail
    refine (new_call _).mono ?_
    rintro e w1 ⟨a, rfl, hA, hK1⟩
    replace hK1 := hK0.trans hK1 (by simp)
    go_wp2_with fail
    go_loopw [3, 4] (fun tv iv wr => ∃ (p : Option Addr) (t : Tr) (k : Nat), tv = .pointer p ∧ iv = .int .i64 (k : Int) ∧ k ≤ L.length ∧ TAt wr.heap.size wr p t ∧ Good t ∧ t.size ≤ k ∧ Kept [] w wr) (fun _ iv _ => L.length - (intOf iv).toNat)
    case atStart => exact ⟨a, .nil, 0, rfl, rfl, Nat.zero_le _, hA, good_nil, Nat.zero_le _, hK1⟩
    case round =>
      obtain ⟨p, t, k, rfl, rfl, hk, hT, hG, hsz, hK⟩ := hrel
      clear hA hK0 hK1
      by_cases hlt : k < L.length
      · obtain ⟨b, o, rfl, hx⟩ := HL.out k hlt
        obtain ⟨c0, c1, c2, c3⟩ := hx.kept hK
        have hxp := HP.out L[k] (List.getElem_mem hlt)
        have cP := tPut_call L[k] (by omega) _ wr p t hT (by omega)
        have hG2 := hG.put L[k]
        have hs2 := put_size L[k] t
        have hs3 := put_pos L[k] t
        generalize L[k] = x at *
        generalize t.put x = t2 at *
        unfold lfV at cP
        have dF := depth_facts hG2.2 (by omega) hs3
        have b1 : (0 : Int) ≤ t2.size := by omega
        have b2 : (t2.size : Int) ≤ 300 := by omega
        go_wp2_with fail
        refine cP.mono ?_
        rintro e w2 ⟨q, rfl, hT2, hK2⟩
        have cD := tDepth_call _ w2 q t2 hT2
        have cN := tLen_call _ w2 q t2 hT2
        have HF : Hid (TAt w2.heap.size w2 q t2 ∧ Good t2 ∧ t2.size ≤ k + 1 ∧ Kept [] w w2) := ⟨hT2, hG2, by omega, hK.trans hK2 (by simp)⟩
        clear hT2 hG2 hs2 hs3 hT hG hsz hx c0 c1 c2 c3 cP hK2 hK
        obtain ⟨hh, dH, dB, dF⟩ := dF
        rw [dH] at cD
        have dI : ((2 ^ (hh / 2) : Nat) : Int) ≤ t2.size + 1 := by omega
        clear dH dB
        generalize (t2.size : Int) = nn at *
        have hw0 : wrap64 (2 ^ (min (0 : Int) 40).toNat) = 1 := by kernel_rfl
        have hw1 : wrap64 (2 ^ (min (1 : Int) 40).toNat) = 2 := by kernel_rfl
        have hw2 : wrap64 (2 ^ (min (2 : Int) 40).toNat) = 4 := by kernel_rfl
        have hw3 : wrap64 (2 ^ (min (3 : Int) 40).toNat) = 8 := by kernel_rfl
        have hw4 : wrap64 (2 ^ (min (4 : Int) 40).toNat) = 16 := by kernel_rfl
        have hw5 : wrap64 (2 ^ (min (5 : Int) 40).toNat) = 32 := by kernel_rfl
        have hw6 : wrap64 (2 ^ (min (6 : Int) 40).toNat) = 64 := by kernel_rfl
        have hw7 : wrap64 (2 ^ (min (7 : Int) 40).toNat) = 128 := by kernel_rfl
        have hw8 : wrap64 (2 ^ (min (8 : Int) 40).toNat) = 256 := by kernel_rfl
        rcases dF with rfl | rfl | rfl | rfl | rfl | rfl | rfl | rfl | rfl | rfl | rfl | rfl | rfl | rfl | rfl | rfl | rfl
        all_goals (simp only [Nat.reduceDiv, Nat.reducePow] at dI; push_cast at dI)
        all_goals
          go_wp2_with fail
          refine cD.mono ?_
          rintro e w' ⟨rfl, rfl⟩
          go_wp2_with fail
          refine cN.mono ?_
          rintro e w' ⟨rfl, rfl⟩
          go_wp2_with fail
          refine cD.mono ?_
          rintro e w' ⟨rfl, rfl⟩
          go_wp2_with fail
          go_roundw
          case rel => exact ⟨q, t2, k + 1, rfl, by simp, by omega, HF.out.1, HF.out.2.1, HF.out.2.2.1, HF.out.2.2.2⟩
          case measure => simp [intOf]; omega
      · go_wp2_with fail
        go_ret
        exact ⟨rfl, hK⟩

end Go.Proofs.Ytcaimaofbakjcaa
