/-
  change.Same, the document's own Same; few and small.
-/
import Derived.Test.YtdmlcgmajpjmdaaChApp
import Derived.Test.YtdmlcgmajpjmdaaPaStr
namespace Go.Proofs.Ytdmlcgmajpjmdaa
open Go.RowKit

theorem take_sameC {L M : List Ch} {k : Nat} (h : L.take k = M.take k) (h1 : k < L.length) (h2 : k < M.length) (h3 : L[k] = M[k]) : L.take (k + 1) = M.take (k + 1) := by
  rw [List.take_succ_eq_append_getElem h1, List.take_succ_eq_append_getElem h2, h, h3]

theorem not_sameC {L M : List Ch} {k : Nat} (h1 : k < L.length) (h2 : k < M.length) (h3 : L[k] ≠ M[k]) : decide (L = M) = false := by
  rw [decide_eq_false_iff_not]
  intro e
  subst e
  exact h3 rfl

/-- How two changes are held against each other: the same, or the first thing in which they part. -/
theorem ch_parts (x y : Ch) : (x = y ∧ (str x.p).toList = (str y.p).toList ∧ x.g = y.g ∧ x.d = y.d) ∨ (x ≠ y ∧ ((¬ (str x.p).toList = (str y.p).toList) ∨ ((str x.p).toList = (str y.p).toList ∧ ¬ x.g = y.g) ∨
    ((str x.p).toList = (str y.p).toList ∧ x.g = y.g ∧ ¬ x.d = y.d))) := by
  have e : ∀ a b : List UInt8, ((str a).toList = (str b).toList ↔ a = b) := fun a b => by
    rw [Go.ByteArray.toList_eq, Go.ByteArray.toList_eq, str_data, str_data]
  rw [e]
  obtain ⟨p, g, d⟩ := x
  obtain ⟨p', g', d'⟩ := y
  simp only [Ch.mk.injEq]
  by_cases h1 : p = p' <;> by_cases h2 : g = g' <;> by_cases h3 : d = d' <;> simp [h1, h2, h3]

set_option maxHeartbeats 2000000 in
set_option maxRecDepth 100000 in
theorem rsame_call (w : World) (ao bo : Option Addr) (n m c d : Nat) (L M : List Ch) (hL : SlC w ao n c L) (hM : SlC w bo m d M) :
    Calls Try.prog 11 #[.slice ao n c, .slice bo m d] w fun r w' => r = .returned (.bool (decide (L = M))) ∧ ∃ q, w' = w.drewN q := by
  have hn := hL.1
  subst hn
  have hm := hM.1
  subst hm
  have l1 := hL.2.1
  have l2 := hL.2.2.1
  have m1 := hM.2.1
  have m2 := hM.2.2.1
  unfold maxLen at l2 m2
  by_cases hlen : L.length = M.length
  · by_cases h0 : L.length = 0
    · have e1 : L = [] := by simpa using h0
      have e2 : M = [] := by simpa [h0] using hlen.symm
      subst e1
      subst e2
      clear hL hM
      go_enter Try.func11, Try.ntmps11
      go_wp2
      refine wp_loop_rounds 1 ?_
      rw [rounds_succ]
      go_wp2
      go_ret
      exact ⟨rfl, 0, rfl⟩
    · obtain ⟨b, o, rfl, hA⟩ := hL.some (by omega)
      obtain ⟨b2, o2, rfl, hB⟩ := hM.some (by omega)
      have hi : (L.length : Int) = M.length := by omega
      obtain ⟨R, hR⟩ : ∃ R, R = decide (L = M) := ⟨_, rfl⟩
      rw [← hR]
      have HR : Hid (R = decide (L = M)) := hR
      have HA : Hid (∀ i (hi : i < L.length), ChAt w b (o + i * 3) L[i]) := hA
      have HB : Hid (∀ i (hi : i < M.length), ChAt w b2 (o2 + i * 3) M[i]) := hB
      clear hL hM hA hB hR
      go_enter Try.func11, Try.ntmps11
      go_wp2_with fail
      go_loopw [5] (fun i wr => ∃ (k q : Nat), k ≤ L.length ∧ i = .int .i64 k ∧ wr = w.drewN q ∧ Hid (L.take k = M.take k)) (fun i _ => L.length - (intOf i).toNat)
      case atStart => exact ⟨0, 0, Nat.zero_le _, rfl, rfl, rfl⟩
      case round =>
        obtain ⟨k, q, hk, rfl, rfl, hT⟩ := hrel
        by_cases hlt : k < L.length
        · obtain ⟨c0, c1, c2⟩ := HA.out k hlt
          obtain ⟨d0, d1, d2⟩ := HB.out k (by omega)
          have hlt' : (k : Int) < M.length := by omega
          have hk2 : k < M.length := by omega
          rcases ch_parts L[k] M[k] with ⟨he, e0, e1, e2⟩ | ⟨he, hne⟩
          · have HE : Hid (L.take (k + 1) = M.take (k + 1)) := take_sameC hT.out hlt hk2 he
            clear he
            go_wp2_with fail
            go_region
            go_wp2_with fail
            go_roundw
            case rel => exact ⟨k + 1, q + 1, by omega, by go_num, rfl, HE⟩
            case measure => simp [intOf]; omega
          · have HE : Hid (decide (L = M) = false) := not_sameC hlt hk2 he
            clear he
            rcases hne with e0 | ⟨e0, e1⟩ | ⟨e0, e1, e2⟩
            all_goals
              go_wp2_with fail
              go_region
              go_wp2_with fail
              go_ret
              exact ⟨by rw [HR.out, HE.out]; rfl, _, rfl⟩
        · have HE : Hid (decide (L = M) = true) := by
            show decide (L = M) = true
            have h1 := hT.out
            rw [List.take_of_length_le (by omega), List.take_of_length_le (by omega)] at h1
            simpa using h1
          go_wp2_with fail
          go_ret
          exact ⟨by rw [HR.out, HE.out]; rfl, _, rfl⟩
  · have hi : ¬ (L.length : Int) = M.length := by omega
    have HE : Hid (decide (L = M) = false) := by
      show decide (L = M) = false
      rw [decide_eq_false_iff_not]; intro e; exact hlen (by rw [e])
    obtain ⟨R, hR⟩ : ∃ R, R = decide (L = M) := ⟨_, rfl⟩
    rw [← hR]
    have HR : Hid (R = decide (L = M)) := hR
    clear hL hM hR
    go_enter Try.func11, Try.ntmps11
    go_wp2_with fail
    go_ret
    exact ⟨by rw [HR.out, HE.out]; rfl, 0, rfl⟩

set_option maxHeartbeats 2000000 in
set_option maxRecDepth 100000 in
theorem equal_call (w : World) (ao bo : Option Addr) (n m c d : Nat) (L M : List Ch) (hL : SlC w ao n c L) (hM : SlC w bo m d M) :
    Calls Try.prog 23 #[.slice ao n c, .slice bo m d] w fun r w' => r = .returned (.bool (decide (L = M))) ∧ ∃ q, w' = w.drewN q := by
  have hn := hL.1
  subst hn
  have hm := hM.1
  subst hm
  have l1 := hL.2.1
  have l2 := hL.2.2.1
  have m1 := hM.2.1
  have m2 := hM.2.2.1
  unfold maxLen at l2 m2
  by_cases hlen : L.length = M.length
  · by_cases h0 : L.length = 0
    · have e1 : L = [] := by simpa using h0
      have e2 : M = [] := by simpa [h0] using hlen.symm
      subst e1
      subst e2
      clear hL hM
      go_enter Try.func23, Try.ntmps23
      go_wp2
      refine wp_loop_rounds 1 ?_
      rw [rounds_succ]
      go_wp2
      go_ret
      exact ⟨rfl, 0, rfl⟩
    · obtain ⟨b, o, rfl, hA⟩ := hL.some (by omega)
      obtain ⟨b2, o2, rfl, hB⟩ := hM.some (by omega)
      have hi : (L.length : Int) = M.length := by omega
      obtain ⟨R, hR⟩ : ∃ R, R = decide (L = M) := ⟨_, rfl⟩
      rw [← hR]
      have HR : Hid (R = decide (L = M)) := hR
      have HA : Hid (∀ i (hi : i < L.length), ChAt w b (o + i * 3) L[i]) := hA
      have HB : Hid (∀ i (hi : i < M.length), ChAt w b2 (o2 + i * 3) M[i]) := hB
      clear hL hM hA hB hR
      go_enter Try.func23, Try.ntmps23
      go_wp2_with fail
      go_loopw [13] (fun i wr => ∃ (k q : Nat), k ≤ L.length ∧ i = .int .i64 k ∧ wr = w.drewN q ∧ Hid (L.take k = M.take k)) (fun i _ => L.length - (intOf i).toNat)
      case atStart => exact ⟨0, 0, Nat.zero_le _, rfl, rfl, rfl⟩
      case round =>
        obtain ⟨k, q, hk, rfl, rfl, hT⟩ := hrel
        by_cases hlt : k < L.length
        · obtain ⟨c0, c1, c2⟩ := HA.out k hlt
          obtain ⟨d0, d1, d2⟩ := HB.out k (by omega)
          have hlt' : (k : Int) < M.length := by omega
          have hk2 : k < M.length := by omega
          rcases ch_parts L[k] M[k] with ⟨he, e0, e1, e2⟩ | ⟨he, hne⟩
          · have HE : Hid (L.take (k + 1) = M.take (k + 1)) := take_sameC hT.out hlt hk2 he
            clear he
            go_wp2_with fail
            go_region
            go_wp2_with fail
            go_roundw
            case rel => exact ⟨k + 1, q + 1, by omega, by go_num, rfl, HE⟩
            case measure => simp [intOf]; omega
          · have HE : Hid (decide (L = M) = false) := not_sameC hlt hk2 he
            clear he
            rcases hne with e0 | ⟨e0, e1⟩ | ⟨e0, e1, e2⟩
            all_goals
              go_wp2_with fail
              go_region
              go_wp2_with fail
              go_ret
              exact ⟨by rw [HR.out, HE.out]; rfl, _, rfl⟩
        · have HE : Hid (decide (L = M) = true) := by
            show decide (L = M) = true
            have h1 := hT.out
            rw [List.take_of_length_le (by omega), List.take_of_length_le (by omega)] at h1
            simpa using h1
          go_wp2_with fail
          go_ret
          exact ⟨by rw [HR.out, HE.out]; rfl, _, rfl⟩
  · have hi : ¬ (L.length : Int) = M.length := by omega
    have HE : Hid (decide (L = M) = false) := by
      show decide (L = M) = false
      rw [decide_eq_false_iff_not]; intro e; exact hlen (by rw [e])
    obtain ⟨R, hR⟩ : ∃ R, R = decide (L = M) := ⟨_, rfl⟩
    rw [← hR]
    have HR : Hid (R = decide (L = M)) := hR
    clear hL hM hR
    go_enter Try.func23, Try.ntmps23
    go_wp2_with fail
    go_ret
    exact ⟨by rw [HR.out, HE.out]; rfl, 0, rfl⟩

set_option maxHeartbeats 1000000 in
theorem same_callC (w : World) (ao bo : Option Addr) (n m c d : Nat) (L M : List Ch) (hL : SlC w ao n c L) (hM : SlC w bo m d M) :
    Calls Try.prog 14 #[.slice ao n c, .slice bo m d] w fun r w' => r = .returned (.bool (decide (L = M))) ∧ ∃ q, w' = w.drewN q := by
  have cE := equal_call w ao bo n m c d L M hL hM
  generalize decide (L = M) = R at cE
  clear hL hM
  go_enter Try.func14, Try.ntmps14
  go_wp2_with fail
  refine cE.mono ?_
  rintro e w1 ⟨rfl, q, rfl⟩
  go_wp2_with fail
  go_ret
  exact ⟨rfl, q, rfl⟩

/-- Few and small. -/
def roomyC (L : List Ch) : Bool := decide (L.length ≤ 300) && L.all fun x => decide (x.p.length ≤ 300)

theorem not_roomyC {L : List Ch} {k : Nat} (hk : k < L.length) (h : 300 < L[k].p.length) : roomyC L = false := by
  unfold roomyC
  have h1 : (L.all fun x => decide (x.p.length ≤ 300)) = false := by
    rw [List.all_eq_false]
    exact ⟨L[k], List.getElem_mem hk, by simp; omega⟩
  rw [h1]; simp

theorem roomyC_iff {L : List Ch} : roomyC L = true ↔ L.length ≤ 300 ∧ ∀ x ∈ L, x.p.length ≤ 300 := by
  unfold roomyC; simp

set_option maxHeartbeats 2000000 in
theorem room_callC (w : World) (ao : Option Addr) (n c : Nat) (L : List Ch) (ht : SlC w ao n c L) :
    Calls Try.prog 9 #[.slice ao n c] w fun r w' => r = .returned (.bool (roomyC L)) ∧ w' = w := by
  have hn := ht.1
  subst hn
  have hm := ht.2.2.1
  have hc := ht.2.1
  unfold maxLen at hm
  by_cases hbig : 300 < L.length
  · have hb2 : (300 : Int) < (L.length : Int) := by omega
    have hr : roomyC L = false := by unfold roomyC; rw [decide_eq_false (by omega)]; rfl
    rw [hr]
    clear ht hr
    go_enter Try.func9, Try.ntmps9
    go_wp2
    go_ret
    exact ⟨rfl, rfl⟩
  · have hb2 : ¬ (300 : Int) < (L.length : Int) := by omega
    by_cases h0 : L.length = 0
    · have e1 : L = [] := by simpa using h0
      subst e1
      clear ht
      go_enter Try.func9, Try.ntmps9
      go_wp2
      refine wp_loop_rounds 1 ?_
      rw [rounds_succ]
      go_wp2
      go_ret
      exact ⟨rfl, rfl⟩
    · obtain ⟨b, o, rfl, hth⟩ := ht.some (by omega)
      have HT : Hid (∀ i (hi : i < L.length), ChAt w b (o + i * 3) L[i]) := hth
      obtain ⟨R, hR⟩ : ∃ R, R = roomyC L := ⟨_, rfl⟩
      rw [← hR]
      have HR : Hid (R = roomyC L) := hR
      clear ht hth hR
      go_enter Try.func9, Try.ntmps9
      go_wp2
      go_loop [3] (fun i => ∃ (k : Nat), k ≤ L.length ∧ i = .int .i64 k ∧ Hid (∀ i (hi : i < L.length), i < k → L[i].p.length ≤ 300)) (fun i => L.length - (intOf i).toNat)
      case atStart => exact ⟨0, Nat.zero_le _, rfl, fun i _ h => by omega⟩
      case round =>
        obtain ⟨k, hk, rfl, HK⟩ := hrel
        by_cases hlt : k < L.length
        · have hT := (HT.out k hlt).c0
          have hsz : ((str L[k].p).size : Int) = L[k].p.length := by rw [str_size]
          by_cases hs : 300 < L[k].p.length
          · have hs' : (300 : Int) < (L[k].p.length : Int) := by omega
            have HN : Hid (roomyC L = false) := not_roomyC hlt hs
            go_wp2
            go_ret
            exact ⟨by rw [HR.out, HN.out]; rfl, rfl⟩
          · have hs' : ¬ (300 : Int) < (L[k].p.length : Int) := by omega
            go_wp2
            go_round
            case rel =>
              refine ⟨k + 1, by omega, by go_num, fun i hi h => ?_⟩
              by_cases e : i = k
              · subst e; omega
              · exact HK.out i hi (by omega)
            case measure => simp [intOf]; omega
        · have HN : Hid (roomyC L = true) := roomyC_iff.2 ⟨by omega, fun x hx => by
            obtain ⟨i, hi, rfl⟩ := List.getElem_of_mem hx
            exact HK.out i hi (by omega)⟩
          go_wp2
          go_ret
          exact ⟨by rw [HR.out, HN.out]; rfl, rfl⟩

end Go.Proofs.Ytdmlcgmajpjmdaa
