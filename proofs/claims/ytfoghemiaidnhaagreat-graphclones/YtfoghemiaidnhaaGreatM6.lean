/-
  Texts of this claim that are laid as one: PaRef2, PaRef3, PaRef4.
-/
import Derived.Test.YtfoghemiaidnhaaGreatM5
import Derived.Test.YtfoghemiaidnhaaGreatM3
import Derived.Test.YtfoghemiaidnhaaGreatPaNorm2
/-
  The document's own Name and Within.
-/
namespace Go.Proofs.YtfoghemiaidnhaaGreat
open Go.RowKit

set_option maxHeartbeats 4000000 in
set_option maxRecDepth 100000 in
theorem rletter_call (c : UInt8) (pt : Bool) (w : World) :
    Calls Tryz.prog 93 #[.int .u8 (c.toNat : Int), .bool pt] w fun e w' => e = .returned (.bool (letB pt c)) ∧ w' = w := by
  rw [letB_num]
  have h0 : (0 : Int) ≤ (c.toNat : Int) := by omega
  have h1 : (c.toNat : Int) < 256 := by have := c.toNat_lt; omega
  generalize (c.toNat : Int) = x at h0 h1
  rcases (show x < 45 ∨ x = 45 ∨ x = 46 ∨ x = 47 ∨ (48 ≤ x ∧ x ≤ 57) ∨ (57 < x ∧ x < 95) ∨ x = 95 ∨ x = 96 ∨ (97 ≤ x ∧ x ≤ 122) ∨ 122 < x from by omega) with h | h | h | h | h | h | h | h | h | h
  all_goals
    cases pt
    all_goals
      go_enter Tryz.func93, Tryz.ntmps93
      go_wp2
      go_ret
      refine ⟨congrArg Ending.returned (congrArg Value.bool ?_), rfl⟩
      first | rfl | (rw [Bool.eq_iff_iff]; simp; done) | (rw [Bool.eq_iff_iff]; simp; omega)

set_option maxHeartbeats 4000000 in
set_option maxRecDepth 100000 in
theorem rword_call (l : List UInt8) (pt : Bool) (w : World) (hl : l.length ≤ 140737488355328) :
    Calls Tryz.prog 71 #[.string (str l), .bool pt] w fun e w' => e = .returned (.bool (wordB pt l)) ∧ w' = w := by
  have hsz : ((str l).size : Int) = l.length := by rw [str_size]
  by_cases h0 : l = []
  · subst h0
    rw [show wordB pt [] = false from rfl]
    go_enter Tryz.func71, Tryz.ntmps71
    go_wp2_with fail
    go_ret
    exact ⟨rfl, rfl⟩
  have h0' : 0 < l.length := List.length_pos_iff.2 h0
  have hz : ((l.length : Int) == 0) = false := by simpa using h0
  by_cases h24 : l.length ≤ 24
  · have e1 : wordB pt l = l.all (letB pt) := by unfold wordB; rw [decide_eq_true h0', decide_eq_true h24]; simp
    rw [e1]
    have hi : (l.length : Int) ≤ 24 := by omega
    obtain ⟨R, hR⟩ : ∃ R, R = l.all (letB pt) := ⟨_, rfl⟩
    rw [← hR]
    go_enter Tryz.func71, Tryz.ntmps71
    go_wp2_with fail
    go_loop [5] (fun i => ∃ k : Nat, k ≤ l.length ∧ i = .int .i64 k ∧ (l.take k).all (letB pt) = true) (fun i => l.length - (intOf i).toNat)
    case atStart => exact ⟨0, Nat.zero_le _, rfl, rfl⟩
    case round =>
      obtain ⟨k, hk, rfl, hall⟩ := hrel
      by_cases hlt : k < l.length
      · have hlt' : k < (str l).size := by rw [str_size]; exact hlt
        have cB := rletter_call (str l)[k] pt
        have hget : (str l)[k] = l[k] := rfl
        rw [hget] at cB
        go_wp2_with fail
        cases hb : letB pt l[k] with
        | false =>
          rw [hb] at cB
          have hall' : l.all (letB pt) = false := by
            rw [List.all_eq_false]; exact ⟨l[k], List.getElem_mem hlt, by simp [hb]⟩
          rw [hall'] at hR
          subst hR
          refine (cB _).mono ?_
          rintro e w' ⟨rfl, rfl⟩
          go_wp2
          go_ret
          exact ⟨rfl, rfl⟩
        | true =>
          rw [hb] at cB
          refine (cB _).mono ?_
          rintro e w' ⟨rfl, rfl⟩
          go_wp2
          go_round
          case rel => exact ⟨k + 1, by omega, by simp, all_take_succ hlt hall hb⟩
          case measure => simp [intOf]; omega
      · obtain rfl : k = l.length := by omega
        rw [List.take_length] at hall
        rw [hall] at hR
        subst hR
        go_wp2
        go_ret
        exact ⟨rfl, rfl⟩
  · have e1 : wordB pt l = false := by unfold wordB; rw [decide_eq_false h24]; simp
    rw [e1]
    have hi : 24 < (l.length : Int) := by omega
    go_enter Tryz.func71, Tryz.ntmps71
    go_wp2_with fail
    go_ret
    exact ⟨rfl, rfl⟩

set_option maxHeartbeats 4000000 in
set_option maxRecDepth 100000 in
theorem rname_call (l : List UInt8) (w : World) (hl : l.length ≤ 140737488355328) :
    Calls Tryz.prog 39 #[.string (str l)] w fun e w' => e = .returned (.bool (wordB false l)) ∧ w' = w := by
  have cW := rword_call l false
  generalize wordB false l = b at cW
  go_enter Tryz.func39, Tryz.ntmps39
  go_wp2_with fail
  refine (cW _ hl).mono ?_
  rintro e w' ⟨rfl, rfl⟩
  go_wp2
  go_ret
  exact ⟨rfl, rfl⟩

end Go.Proofs.YtfoghemiaidnhaaGreat

/-
  The document's own Within.
-/
namespace Go.Proofs.YtfoghemiaidnhaaGreat
open Go.RowKit

theorem str_app (a b : List UInt8) : str a ++ str b = str (a ++ b) := by
  rw [str_of (str a ++ str b), ByteArray.data_append, Array.toList_append, str_data, str_data]

theorem eq_str (p q : List UInt8) : ((str p).toList == (str q).toList) = (p == q) := by rw [str_toList, str_toList]

theorem within_not {d p : List UInt8} (h0 : d ≠ []) (h1 : p ≠ d) (h : ¬ ∃ t, p = d ++ 47 :: t) : withinB d p = false := by
  rw [Bool.eq_false_iff]; intro h2
  rcases (withinB_iff _ _).1 h2 with h3 | h3 | h3
  · exact h0 h3
  · exact h1 h3
  · exact h h3

theorem within_hit {d p : List UInt8} (h0 : d ≠ []) (h2 : d.length < p.length) (h3 : p.take d.length = d) : withinB d p = ((p[d.length].toNat : Int) == 47) := by
  obtain ⟨c, t, rfl⟩ : ∃ c t, p = d ++ c :: t := by
    have h4 := (List.take_append_drop d.length p).symm
    rw [List.drop_eq_getElem_cons h2, h3] at h4
    exact ⟨_, _, h4⟩
  have e : (d ++ c :: t)[d.length] = c := by simp
  rw [e]
  by_cases h4 : c = 47
  · subst h4
    rw [(withinB_iff _ _).2 (.inr (.inr ⟨t, rfl⟩))]; rfl
  · rw [within_not h0 (by simp)]
    · have : c.toNat ≠ 47 := fun e => h4 (UInt8.toNat_inj.1 e)
      symm; simp; omega
    · rintro ⟨t', ht⟩
      have := List.append_cancel_left ht
      simp at this
      exact h4 this.1


end Go.Proofs.YtfoghemiaidnhaaGreat

/-
  The document's own Normal.
-/
namespace Go.Proofs.YtfoghemiaidnhaaGreat
open Go.RowKit

theorem ownS_pop {B : Nat} {w : World} {g c : Nat} {l : List (List UInt8)} (h : OwnS B w (.slice (some ⟨g, 0, none⟩) l.length c) l) (hne : l ≠ []) : OwnS B w (.slice (some ⟨g, 0, none⟩) (l.length - 1) c) l.dropLast := by
  obtain ⟨l', x, rfl⟩ : ∃ l' x, l = l' ++ [x] := ⟨l.dropLast, l.getLast hne, (List.dropLast_concat_getLast hne).symm⟩
  unfold OwnS at h ⊢
  rw [List.length_append, List.map_append] at h
  rw [List.dropLast_concat, show (l' ++ [x]).length - 1 = l'.length from by simp]
  exact ownsRow_pop (by simp) h

theorem join_zero (k : List (List UInt8)) (h : 0 < k.length) : joinB (k.take 1) = k[0] := by
  cases k with
  | nil => simp at h
  | cons p r => exact joinB_one p

theorem join_succ (k : List (List UInt8)) (j : Nat) (h0 : 0 < j) (h : j < k.length) : joinB (k.take (j + 1)) = joinB (k.take j) ++ [47] ++ k[j] := by
  have h1 : k.take j ≠ [] := by
    intro e
    have h2 : (k.take j).length = j := by rw [List.length_take]; omega
    rw [e, List.length_nil] at h2
    omega
  rw [List.take_succ_eq_append_getElem h, joinB_app _ _ h1 (by simp), joinB_one]; simp

set_option maxHeartbeats 4000000 in
set_option maxRecDepth 100000 in
theorem rnormal_call (l : List UInt8) (w : World) (hl : l.length ≤ 1000000000) :
    Calls Tryz.prog 47 #[.string (str l)] w fun e w' => e = .returned (tup (normB l)) ∧ Kept [] w w' := by
  have cR := rparts_call l w (by omega)
  have hN := partsB_le l
  have hfree := partsB_free l
  have hsh := partsB_short l
  obtain ⟨T, hT⟩ : ∃ T, T = tup (normB l) := ⟨_, rfl⟩
  rw [← hT]
  unfold normB at hT
  obtain ⟨R, hR⟩ : ∃ R, resB [] (partsB l) = R := ⟨_, rfl⟩
  rw [hR] at hT
  have hsub : ∀ k, R = some k → ∀ p ∈ k, p.length ≤ l.length := by
    intro k hk p hp
    rw [hk] at hR
    rcases resB_sub _ _ _ hR p hp with h | h
    · simp at h
    · exact hsh p h
  go_enter Tryz.func47, Tryz.ntmps47
  go_wp2_with fail
  refine cR.mono ?_
  rintro e w1 ⟨v, rfl, hO, hK1⟩
  have hne := partsB_ne l
  generalize partsB l = ps at *
  obtain ⟨gl, cl, rfl, hcl, hcell⟩ := hO.some hne
  have hgl := (World.ownsRow.lt hO gl rfl).2
  clear hO cR hfree hsh
  go_wp2_with fail
  go_loopw [5, 6] (fun ov iv wr => ∃ (i : Nat) (k : List (List UInt8)), iv = .int .i64 i ∧ i ≤ ps.length ∧ k.length ≤ i ∧ OwnS w1.heap.size wr ov k ∧ resB k (ps.drop i) = R ∧ Kept [] w1 wr) (fun _ iv _ => ps.length - (intOf iv).toNat)
  case atStart => exact ⟨0, [], rfl, Nat.zero_le _, Nat.zero_le _, OwnS.nil _ _, hR, Kept.refl _ _⟩
  case round =>
    obtain ⟨i, k, rfl, hi, hki, hO, hres, hK⟩ := hrel
    clear hR
    have hKw : Kept [] w wr := hK1.trans hK (by simp)
    by_cases hlt : i < ps.length
    · have hc := hK.cell (hcell i hlt) (by simp)
      rw [List.drop_eq_getElem_cons hlt] at hres
      simp only [resB] at hres
      have hii : (i : Int) < ps.length := by omega
      generalize hp : ps[i] = p at *
      obtain ⟨ao, c, rfl, hc2, _⟩ := hO.slice
      by_cases e0 : p = []
      · subst e0
        have t0 := str_void
        rw [if_pos (.inl rfl)] at hres
        go_wp2_with fail
        go_roundw
        case rel => exact ⟨i + 1, k, by simp, by omega, by omega, hO, hres, hK⟩
        case measure => simp [intOf]; omega
      · have t0 := str_full e0
        by_cases e1 : p = [46]
        · subst e1
          have t1 : ((str [46]).toList == [46]) = true := by rw [str_toList]; rfl
          rw [if_pos (.inr rfl)] at hres
          go_wp2_with fail
          go_roundw
          case rel => exact ⟨i + 1, k, by simp, by omega, by omega, hO, hres, hK⟩
          case measure => simp [intOf]; omega
        · have t1 : ((str p).toList == [46]) = false := by rw [str_toList]; simpa using e1
          rw [if_neg (by simp [e0, e1])] at hres
          by_cases e2 : p = [46, 46]
          · subst e2
            have t2 : ((str [46, 46]).toList == [46, 46]) = true := by rw [str_toList]; rfl
            rw [if_pos rfl] at hres
            by_cases h0 : k = []
            · subst h0
              rw [if_pos rfl] at hres
              subst hres
              subst hT
              go_wp2_with fail
              go_ret2
              exact ⟨rfl, hKw⟩
            · have hpos := List.length_pos_iff.2 h0
              have h0i : 0 < (k.length : Int) := by omega
              have hz : ((k.length : Int) == 0) = false := by simpa using h0
              rw [if_neg h0] at hres
              obtain ⟨g, c', hv, hc', _⟩ := hO.some h0
              cases hv
              have hO' := ownS_pop hO h0
              go_wp2_with fail
              go_roundw
              case rel => exact ⟨i + 1, k.dropLast, by simp, by omega, by simp; omega, hO', hres, hK⟩
              case measure => simp [intOf]; omega
          · have t2 : ((str p).toList == [46, 46]) = false := by rw [str_toList]; simpa using e2
            rw [if_neg e2] at hres
            go_wp2_with (at_builtin; refine wp_push rfl _ _ rfl w1.heap.size _ k rfl (World.ownsRow.alloc hO _) wr.heap.size p rfl ?c1 (by omega) (by have := hK.size; simp; omega) ?_)
            case c1 => rw [World.cell?_alloc_mark]; rfl
            intro v' w' hO' hg
            have hK' := grown_kept (hK.alloc _) (World.ownsRow.alloc hO _) (Nat.le_refl _) hg
            clear hg
            go_wp2
            go_roundw
            case rel => exact ⟨i + 1, k ++ [p], by simp, by omega, by simp; omega, hO', hres, hK'⟩
            case measure => simp [intOf]; omega
    · obtain rfl : i = ps.length := by omega
      rw [List.drop_length] at hres
      simp only [resB] at hres
      subst hres
      have hT' : T = tup (finB k) := hT
      have hsub' := hsub k rfl
      clear hT hsub
      by_cases h0 : k = []
      · subst h0
        obtain ⟨ao, c, rfl, hc2, _⟩ := hO.slice
        rw [show finB [] = none from rfl] at hT'
        subst hT'
        go_wp2_with fail
        go_ret2
        exact ⟨rfl, hKw⟩
      · have hpos := List.length_pos_iff.2 h0
        have hz : ((k.length : Int) == 0) = false := by simpa using h0
        obtain ⟨g, c', rfl, hc', hcl2⟩ := hO.some h0
        by_cases h8 : k.length ≤ 8
        · have h8i : (k.length : Int) ≤ 8 := by omega
          clear hcell hO hK
          go_wp2_with fail
          go_loop [7, 8] (fun pv iv => ∃ j : Nat, j ≤ k.length ∧ iv = .int .i64 j ∧ pv = .string (str (joinB (k.take j))) ∧ (k.take j).all (wordB true) = true) (fun _ iv => k.length - (intOf iv).toNat)
          case atStart => exact ⟨0, Nat.zero_le _, rfl, rfl, rfl⟩
          case round =>
            obtain ⟨j, hj, rfl, rfl, hall⟩ := hrel
            have hjl : (joinB (k.take j)).length ≤ 8 * (l.length + 1) := joinB_le _ 8 l.length (by simp; omega) (fun p hp => hsub' p (List.mem_of_mem_take hp))
            have sP : ((str (joinB (k.take j))).size : Int) = (joinB (k.take j)).length := by rw [str_size]
            by_cases hlt : j < k.length
            · have hc := hcl2 j hlt
              clear hcl2
              have hyl := hsub' k[j] (List.getElem_mem hlt)
              have hnx := all_take_succ' hlt hall
              have hno : wordB true k[j] = false → k.all (wordB true) = false := fun h => by
                rw [List.all_eq_false]; exact ⟨k[j], List.getElem_mem hlt, by simp [h]⟩
              have hz0 : j = 0 → joinB (k.take (j + 1)) = k[j] := fun h => by subst h; exact join_zero k hlt
              have hzs : 0 < j → joinB (k.take (j + 1)) = joinB (k.take j) ++ [47] ++ k[j] := fun h => join_succ k j h hlt
              generalize k[j] = y at *
              have sy : ((str y).size : Int) = y.length := by rw [str_size]
              have cW := rword_call y true wr (by omega)
              have hji : (j : Int) < k.length := by omega
              go_wp2_with fail
              cases hw : wordB true y with
              | false =>
                rw [hw] at cW
                rw [show finB k = none from by unfold finB; rw [if_neg (by simp [h0]; omega), if_neg (by simp [hno hw])]] at hT'
                subst hT'
                refine cW.mono ?_
                rintro e w' ⟨rfl, rfl⟩
                go_wp2_with fail
                go_ret2
                exact ⟨rfl, hKw⟩
              | true =>
                rw [hw] at cW
                replace hnx := hnx hw
                by_cases hj0 : j = 0
                · subst hj0
                  have e1 := hz0 rfl
                  have e2 : str (joinB (k.take 0)) ++ str y = str (joinB (k.take (0 + 1))) := by rw [e1]; exact str_app [] y
                  generalize joinB (k.take 0) = Q at *
                  generalize hQ' : joinB (k.take (0 + 1)) = Q' at *
                  clear hno hzs hz0 e1
                  refine cW.mono ?_
                  rintro e w' ⟨rfl, rfl⟩
                  go_wp2_with fail
                  go_round
                  case rel => exact ⟨0 + 1, by omega, by simp, by rw [hQ'], hnx⟩
                  case measure => simp [intOf]; omega
                · have e1 := hzs (by omega)
                  have e2 : str (joinB (k.take j)) ++ ⟨#[47]⟩ ++ str y = str (joinB (k.take (j + 1))) := by rw [e1, ← str_app, ← str_app]; rfl
                  have hj0i : (0 : Int) < j := by omega
                  generalize joinB (k.take j) = Q at *
                  generalize hQ' : joinB (k.take (j + 1)) = Q' at *
                  clear hno hzs hz0 e1
                  refine cW.mono ?_
                  rintro e w' ⟨rfl, rfl⟩
                  go_wp2_with fail
                  go_round
                  case rel => exact ⟨j + 1, by omega, by simp, by rw [hQ'], hnx⟩
                  case measure => simp [intOf]; omega
            · obtain rfl : j = k.length := by omega
              rw [List.take_length] at hall hjl sP
              rw [List.take_length]
              have hfn : finB k = if (joinB k).length ≤ 64 then some (joinB k) else none := by
                unfold finB; rw [if_neg (by simp [h0]; omega), hall]; simp
              rw [hfn] at hT'
              clear hfn
              generalize joinB k = J at *
              by_cases h64 : J.length ≤ 64
              · rw [if_pos h64] at hT'
                subst hT'
                have hi64 : (J.length : Int) ≤ 64 := by omega
                go_wp2_with fail
                go_ret2
                exact ⟨rfl, hKw⟩
              · rw [if_neg h64] at hT'
                subst hT'
                have hi64 : 64 < (J.length : Int) := by omega
                go_wp2_with fail
                go_ret2
                exact ⟨rfl, hKw⟩
        · have h8i : 8 < (k.length : Int) := by omega
          rw [show finB k = none from by unfold finB; rw [if_pos (.inr (by omega))]] at hT'
          subst hT'
          go_wp2_with fail
          go_ret2
          exact ⟨rfl, hKw⟩

end Go.Proofs.YtfoghemiaidnhaaGreat
