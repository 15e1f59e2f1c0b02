/-
  path.Normal: the one form of the path that a text names.
-/
import Derived.Test.YtfoghemiaidnhaaGreatM3
namespace Go.Proofs.YtfoghemiaidnhaaGreat
open Go.RowKit

theorem resB_sub (k ps r : List (List UInt8)) (h : resB k ps = some r) : ∀ p ∈ r, p ∈ k ∨ p ∈ ps := by
  induction ps generalizing k with
  | nil => simp only [resB, Option.some.injEq] at h; subst h; exact fun p hp => .inl hp
  | cons q ps ih =>
    simp only [resB] at h
    intro p hp
    split at h
    · rcases ih k h p hp with h1 | h1
      · exact .inl h1
      · exact .inr (by simp [h1])
    · split at h
      · split at h
        · cases h
        · rcases ih _ h p hp with h1 | h1
          · exact .inl (List.dropLast_subset k h1)
          · exact .inr (by simp [h1])
      · rcases ih _ h p hp with h1 | h1
        · simp only [List.mem_append, List.mem_singleton] at h1
          rcases h1 with h1 | rfl
          · exact .inl h1
          · exact .inr (by simp)
        · exact .inr (by simp [h1])

theorem partsB_short (l : List UInt8) : ∀ p ∈ partsB l, p.length ≤ l.length := by
  induction l with
  | nil => simp [partsB]
  | cons c t ih =>
    rw [partsB_cons]
    intro p hp
    split at hp
    · simp only [List.mem_cons] at hp
      rcases hp with rfl | hp
      · simp
      · have := ih p hp; simp; omega
    · split at hp
      · simp only [List.mem_singleton] at hp; subst hp; simp
      · rename_i q qs hq
        rw [hq] at ih
        simp only [List.mem_cons] at hp
        rcases hp with rfl | hp
        · have := ih q (by simp); simp; omega
        · have := ih p (by simp [hp]); simp; omega

theorem all_take_succ' {α : Type} {f : α → Bool} {l : List α} {k : Nat} (h : k < l.length) (ha : (l.take k).all f = true) (hb : f l[k] = true) : (l.take (k + 1)).all f = true := by
  rw [List.take_succ_eq_append_getElem h, List.all_append, ha]; simp [hb]

set_option maxHeartbeats 4000000 in
set_option maxRecDepth 100000 in
theorem normal_call (l : List UInt8) (w : World) (hl : l.length ≤ 1000000000000) :
    Calls Tryz.prog 33 #[.string (str l)] w fun e w' => e = .returned (tup (normB l)) ∧ Kept [] w w' := by
  have cR := resolve_call l w (by omega)
  obtain ⟨T, hT⟩ : ∃ T, T = tup (normB l) := ⟨_, rfl⟩
  rw [← hT]
  go_enter Tryz.func33, Tryz.ntmps33
  go_wp2_with fail
  refine cR.mono ?_
  rintro e w1 ⟨hK1, ⟨k, b, hr, h0, h8, rfl, hb, hbw, hKA⟩ | ⟨hno, rfl⟩⟩
  · have hst := resB_stays [] _ k (by simp) (partsB_free l) hr
    have hsh : ∀ p ∈ k, p.length ≤ l.length := by
      intro p hp
      rcases resB_sub _ _ _ hr p hp with h | h
      · simp at h
      · exact partsB_short l p h
    have hj : (joinB k).length ≤ 140737488355328 := by
      have := joinB_le k 8 l.length h8 hsh; omega
    have hfin : normB l = finB k := by unfold normB; rw [hr]; rfl
    rw [hfin] at hT
    have cJ := join_call k b w1 h8 hb hKA hj
    have h8i : (k.length : Int) ≤ 8 := by omega
    clear hfin hr
    go_wp2_with fail
    go_loop [17] (fun i => ∃ j : Nat, j ≤ k.length ∧ i = .int .i64 j ∧ (k.take j).all (wordB true) = true) (fun i => k.length - (intOf i).toNat)
    case atStart => exact ⟨0, Nat.zero_le _, rfl, rfl⟩
    case round =>
      obtain ⟨j, hjk, rfl, hall⟩ := hrel
      by_cases hlt : j < k.length
      · obtain ⟨⟨s, hc, hs⟩, _⟩ := hKA.cell j (by omega)
        obtain rfl := hs k[j] (List.getElem?_eq_getElem hlt)
        have cP := isPart_call k[j] w1 (hst _ (List.getElem_mem hlt)).1 (by have := hsh _ (List.getElem_mem hlt); omega)
        go_wp2_with fail
        cases hw : wordB true k[j] with
        | false =>
          rw [hw] at cP
          have hall' : k.all (wordB true) = false := by
            rw [List.all_eq_false]; exact ⟨k[j], List.getElem_mem hlt, by simp [hw]⟩
          have hfn : finB k = none := by
            unfold finB; rw [if_neg (by simp [h0]; omega), if_neg (by simp [hall'])]
          rw [hfn] at hT
          subst hT
          refine cP.mono ?_
          rintro e w' ⟨rfl, rfl⟩
          go_wp2_with fail
          go_ret2
          exact ⟨rfl, hK1⟩
        | true =>
          rw [hw] at cP
          refine cP.mono ?_
          rintro e w' ⟨rfl, rfl⟩
          go_wp2_with fail
          go_round
          case rel => exact ⟨j + 1, by omega, by simp, all_take_succ' hlt hall hw⟩
          case measure => simp [intOf]; omega
      · obtain rfl : j = k.length := by omega
        rw [List.take_length] at hall
        have hfn : finB k = if (joinB k).length ≤ 64 then some (joinB k) else none := by
          unfold finB; rw [if_neg (by simp [h0]; omega), hall]; simp
        rw [hfn] at hT
        go_wp2_with fail
        refine cJ.mono ?_
        rintro e w2 ⟨rfl, hK2⟩
        rw [← hT]
        by_cases h64 : (joinB k).length ≤ 64
        · rw [if_pos h64] at hT
          subst hT
          unfold tup
          go_wp2_with fail
          go_ret2
          exact ⟨rfl, hK1.trans hK2 (by simp)⟩
        · rw [if_neg h64] at hT
          subst hT
          unfold tup
          go_wp2_with fail
          go_ret2
          exact ⟨rfl, hK1.trans hK2 (by simp)⟩
  · have hfin : normB l = none := by
      unfold normB
      cases hr : resB [] (partsB l) with
      | none => rfl
      | some k =>
        show finB k = none
        unfold finB
        rw [if_pos (hno k hr)]
    rw [hfin] at hT
    subst hT
    go_wp2_with fail
    go_ret2
    exact ⟨rfl, hK1⟩

end Go.Proofs.YtfoghemiaidnhaaGreat
