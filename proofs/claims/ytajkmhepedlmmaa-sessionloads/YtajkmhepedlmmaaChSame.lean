/-
  change.Same, the document's own Same; few and small.
-/
import Derived.Test.YtajkmhepedlmmaaChApp
import Derived.Test.YtajkmhepedlmmaaM1
namespace Go.Proofs.Ytajkmhepedlmmaa
open Go.RowKit

theorem take_sameC {L M : List Ch} {k : Nat} (h : L.take k = M.take k) (h1 : k < L.length) (h2 : k < M.length) (h3 : L[k] = M[k]) : L.take (k + 1) = M.take (k + 1) := by
  rw [List.take_succ_eq_append_getElem h1, List.take_succ_eq_append_getElem h2, h, h3]

theorem not_sameC {L M : List Ch} {k : Nat} (h1 : k < L.length) (h2 : k < M.length) (h3 : L[k] ≠ M[k]) : decide (L = M) = false := by
  rw [decide_eq_false_iff_not]
  intro e
  subst e
  exact h3 rfl

/-- How two changes are held against each other: the same, or the first thing in which they part. -/
theorem ch_parts (x y : Ch) : (x = y ∧ (str x.p).toList = (str y.p).toList ∧ x.g = y.g ∧ x.d = y.d) ∨ (x ≠ y ∧ ((¬ (str x.p).toList = (str y.p).toList) ∨ ((str x.p).toList = (str y.p).toList ∧ ¬ x.g = y.g) ∨
    ((str x.p).toList = (str y.p).toList ∧ x.g = y.g ∧ ¬ x.d = y.d))) := by
  have e : ∀ a b : List UInt8, ((str a).toList = (str b).toList ↔ a = b) := fun a b => by
    rw [Go.ByteArray.toList_eq, Go.ByteArray.toList_eq, str_data, str_data]
  rw [e]
  obtain ⟨p, g, d⟩ := x
  obtain ⟨p', g', d'⟩ := y
  simp only [Ch.mk.injEq]
  by_cases h1 : p = p' <;> by_cases h2 : g = g' <;> by_cases h3 : d = d' <;> simp [h1, h2, h3]

set_option maxHeartbeats 2000000 in
set_option maxRecDepth 100000 in
theorem rsame_call (w : World) (ao bo : Option Addr) (n m c d : Nat) (L M : List Ch) (hL : SlC w ao n c L) (hM : SlC w bo m d M) :
    Calls Try.prog 55 #[.slice ao n c, .slice bo m d] w fun r w' => r = .returned (.bool (decide (L = M))) ∧ ∃ q, w' = w.drewN q := by
  have hn := hL.1
  subst hn
  have hm := hM.1
  subst hm
  have l1 := hL.2.1
  have l2 := hL.2.2.1
  have m1 := hM.2.1
  have m2 := hM.2.2.1
  unfold maxLen at l2 m2
  by_cases hlen : L.length = M.length
  · by_cases h0 : L.length = 0
    · have e1 : L = [] := by simpa using h0
      have e2 : M = [] := by simpa [h0] using hlen.symm
      subst e1
      subst e2
      clear hL hM
      go_enter Try.func55, Try.ntmps55
      go_wp2
      refine wp_loop_rounds 1 ?_
      rw [rounds_succ]
      go_wp2
      go_ret
      exact ⟨rfl, 0, rfl⟩
    · obtain ⟨b, o, rfl, hA⟩ := hL.some (by omega)
      obtain ⟨b2, o2, rfl, hB⟩ := hM.some (by omega)
      have hi : (L.length : Int) = M.length := by omega
      obtain ⟨R, hR⟩ : ∃ R, R = decide (L = M) := ⟨_, rfl⟩
      rw [← hR]
      have HR : Hid (R = decide (L = M)) := hR
      have HA : Hid (∀ i (hi : i < L.length), ChAt w b (o + i * 3) L[i]) := hA
      have HB : Hid (∀ i (hi : i < M.length), ChAt w b2 (o2 + i * 3) M[i]) := hB
      clear hL hM hA hB hR
      go_enter Try.func55, Try.ntmps55
      go_wp2_with fail
      go_loopw [5] (fun i wr => ∃ (k q : Nat), k ≤ L.length ∧ i = .int .i64 k ∧ wr = w.drewN q ∧ Hid (L.take k = M.take k)) (fun i _ => L.length - (intOf i).toNat)
      case atStart => exact ⟨0, 0, Nat.zero_le _, rfl, rfl, rfl⟩
      case round =>
        obtain ⟨k, q, hk, rfl, rfl, hT⟩ := hrel
        by_cases hlt : k < L.length
        · obtain ⟨c0, c1, c2⟩ := HA.out k hlt
          obtain ⟨d0, d1, d2⟩ := HB.out k (by omega)
          have hlt' : (k : Int) < M.length := by omega
          have hk2 : k < M.length := by omega
          rcases ch_parts L[k] M[k] with ⟨he, e0, e1, e2⟩ | ⟨he, hne⟩
          · have HE : Hid (L.take (k + 1) = M.take (k + 1)) := take_sameC hT.out hlt hk2 he
            clear he
            go_wp2_with fail
            go_region
            go_wp2_with fail
            go_roundw
            case rel => exact ⟨k + 1, q + 1, by omega, by go_num, rfl, HE⟩
            case measure => simp [intOf]; omega
          · have HE : Hid (decide (L = M) = false) := not_sameC hlt hk2 he
            clear he
            rcases hne with e0 | ⟨e0, e1⟩ | ⟨e0, e1, e2⟩
            all_goals
              go_wp2_with fail
              go_region
              go_wp2_with fail
              go_ret
              exact ⟨by rw [HR.out, HE.out]; rfl, _, rfl⟩
        · have HE : Hid (decide (L = M) = true) := by
            show decide (L = M) = true
            have h1 := hT.out
            rw [List.take_of_length_le (by omega), List.take_of_length_le (by omega)] at h1
            simpa using h1
          go_wp2_with fail
          go_ret
          exact ⟨by rw [HR.out, HE.out]; rfl, _, rfl⟩
  · have hi : ¬ (L.length : Int) = M.length := by omega
    have HE : Hid (decide (L = M) = false) := by
      show decide (L = M) = false
      rw [decide_eq_false_iff_not]; intro e; exact hlen (by rw [e])
    obtain ⟨R, hR⟩ : ∃ R, R = decide (L = M) := ⟨_, rfl⟩
    rw [← hR]
    have HR : Hid (R = decide (L = M)) := hR
    clear hL hM hR
    go_enter Try.func55, Try.ntmps55
    go_wp2_with fail
    go_ret
    exact ⟨by rw [HR.out, HE.out]; rfl, 0, rfl⟩

theorem rsame_kept (w : World) (ao bo : Option Addr) (n m c d : Nat) (L M : List Ch) (hL : SlC w ao n c L) (hM : SlC w bo m d M) :
    Calls Try.prog 55 #[.slice ao n c, .slice bo m d] w fun r w' => r = .returned (.bool (decide (L = M))) ∧ Kept [] w w' :=
  (rsame_call w ao bo n m c d L M hL hM).mono fun _ _ ⟨h1, q, h2⟩ => ⟨h1, by rw [h2]; exact drewN_kept w q⟩

/-- Few and small. -/
def roomyC (L : List Ch) : Bool := decide (L.length ≤ 300) && L.all fun x => decide (x.p.length ≤ 300)

theorem not_roomyC {L : List Ch} {k : Nat} (hk : k < L.length) (h : 300 < L[k].p.length) : roomyC L = false := by
  unfold roomyC
  have h1 : (L.all fun x => decide (x.p.length ≤ 300)) = false := by
    rw [List.all_eq_false]
    exact ⟨L[k], List.getElem_mem hk, by simp; omega⟩
  rw [h1]; simp

theorem roomyC_iff {L : List Ch} : roomyC L = true ↔ L.length ≤ 300 ∧ ∀ x ∈ L, x.p.length ≤ 300 := by
  unfold roomyC; simp

end Go.Proofs.Ytajkmhepedlmmaa
