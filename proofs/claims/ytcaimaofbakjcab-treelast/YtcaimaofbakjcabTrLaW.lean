/-
  TreeLast: the walk.
-/
import Derived.Test.YtcaimaofbakjcabTrLaP
import Derived.Test.YtcaimaofbakjcabTrAwake
import Derived.Laws.Cover1
namespace Go.Proofs.Ytcaimaofbakjcab
open Go.RowKit

theorem insAll_srt (M L : List Lf) (h : Srt M) : Srt (insAll M L) := by
  induction L generalizing M with
  | nil => exact h
  | cons x L ih => exact ih _ (ins_srt x M h)

theorem insAll_snoc (L : List Lf) (k : Nat) (hk : k < L.length) : insAll [] (L.take (k + 1)) = ins L[k] (insAll [] (L.take k)) := by
  rw [List.take_succ_eq_append_getElem hk, insAll_app]; rfl

theorem mem_step {L : List Lf} {j k : Nat} (hj : j + 1 ≤ k) (hk : k < L.length) (p : List UInt8) : decide (p ∈ pathsL ((L.take (k + 1)).drop (j + 1))) = (decide (p ∈ pathsL ((L.take k).drop (j + 1))) || decide (L[k].p = p)) := by
  rw [List.take_succ_eq_append_getElem hk, List.drop_append_of_le_length (by simp; omega)]
  unfold pathsL
  rw [List.map_append, Bool.eq_iff_iff]
  simp only [decide_eq_true_eq, Bool.or_eq_true, List.mem_append, List.map_cons, List.map_nil, List.mem_singleton]
  constructor
  · rintro (h | h)
    · exact .inl h
    · exact .inr h.symm
  · rintro (h | h)
    · exact .inl h
    · exact .inr h.symm

theorem str_eq (a b : List UInt8) : ((str a).toList == (str b).toList) = decide (a = b) := by
  rw [Go.ByteArray.toList_eq, Go.ByteArray.toList_eq, str_data, str_data, Bool.eq_iff_iff]; simp

set_option maxHeartbeats 8000000 in
set_option maxRecDepth 100000 in
theorem last_walk (w : World) (ao : Option Addr) (n c : Nat) (L : List Lf) (ht : SlL w ao n c L) :
    Calls Try.prog 3 #[.slice ao n c] w fun e w' => e = .returned (.bool true) ∧ Kept [] w w' := by
  have hn := ht.1
  subst hn
  have hm := ht.2.2.1
  have hc := ht.2.1
  unfold maxLen at hm
  cases hr : roomy L with
  | false =>
    go_enter Try.func3, Try.ntmps3
    go_wp2_with fail
    refine (awake_call _).mono ?_
    rintro e w0 ⟨rfl, hK0⟩
    have cr := room_call w0 ao L.length c L (ht.kept hK0)
    rw [hr] at cr
    go_wp2_with fail
    refine cr.mono ?_
    rintro e w' ⟨rfl, rfl⟩
    go_wp2_with fail
    go_ret
    exact ⟨rfl, hK0⟩
  | true =>
    obtain ⟨r1, r2⟩ := roomy_iff.1 hr
    have HL : Hid (∀ i (hi : i < L.length), ∃ b o, ao = some ⟨b, o, none⟩ ∧ LfAt w b (o + i * 4) L[i]) := ht.2.2.2
    have HP : Hid (∀ x ∈ L, x.p.length ≤ 300) := r2
    clear r2
    go_enter Try.func3, Try.ntmps3
    go_wp2_with fail
    refine (awake_call _).mono ?_
    rintro e w0 ⟨rfl, hK0⟩
    have cr := room_call w0 ao L.length c L (ht.kept hK0)
    rw [hr] at cr
    clear ht hr
    go_wp2_with fail
    refine cr.mono ?_
    rintro e w' ⟨rfl, rfl⟩
    clear cr
    go_wp2_with fail
    refine (new_call _).mono ?_
    rintro e w1 ⟨a, rfl, hA, hK1⟩
    replace hK1 := hK0.trans hK1 (by simp)
    clear hK0
    go_wp2_with fail
    go_loopw [3, 4] (fun tv iv wr => ∃ (p : Option Addr) (t : Tr) (k : Nat), tv = .pointer p ∧ iv = .int .i64 (k : Int) ∧ k ≤ L.length ∧ TAt wr.heap.size wr p t ∧ Good t ∧ t.size ≤ k ∧ Hid (t.list = insAll [] (L.take k)) ∧ Kept [] w wr) (fun _ iv _ => L.length - (intOf iv).toNat)
    case atStart => exact ⟨a, .nil, 0, rfl, rfl, Nat.zero_le _, hA, good_nil, Nat.zero_le _, rfl, hK1⟩
    case round =>
      obtain ⟨p, t, k, rfl, rfl, hk, hT, hG, hsz, HM, hK⟩ := hrel
      clear hA hK1
      by_cases hlt : k < L.length
      · obtain ⟨b, o, rfl, hx⟩ := HL.out k hlt
        obtain ⟨c0, c1, c2, c3⟩ := hx.kept hK
        have hxp := HP.out L[k] (List.getElem_mem hlt)
        have cP := tPut_call L[k] (by omega) _ wr p t hT (by omega)
        have HG2 : Hid (Good (t.put L[k]) ∧ (t.put L[k]).size ≤ k + 1 ∧ (t.put L[k]).list = insAll [] (L.take (k + 1))) := ⟨hG.put L[k], by have := (put_size L[k] t).2; omega, by rw [put_list _ _ hG.1, HM.out, insAll_snoc L k hlt]⟩
        generalize L[k] = x at *
        unfold lfV at cP
        clear hx
        go_wp2_with fail
        refine cP.mono ?_
        rintro e w2 ⟨q, rfl, hT2, hK2⟩
        go_wp2_with fail
        go_roundw
        case rel => exact ⟨q, t.put x, k + 1, rfl, by simp, by omega, hT2, HG2.out.1, HG2.out.2.1, HG2.out.2.2, hK.trans hK2 (by simp)⟩
        case measure => simp [intOf]; omega
      · have HE : Hid (t.list = insAll [] L) := by
          show _ = _
          rw [HM.out, List.take_of_length_le (by omega)]
        have HN : Hid ((t.size : Int) = (lastL L).length) := by
          show _ = _
          rw [← tr_size, HE.out, unlike_count (by rw [← HE.out]; exact hG.1)]
        have HG : Hid (∀ i (hi : i < L.length), ∃ z, t.get L[i].p = some z ∧ (L[i].p ∉ pathsL (L.drop (i + 1)) → z = L[i])) := fun i hi => by
          rw [get_mem hG.1, HE.out]; exact last_there L i hi
        have HT : Hid (TAt wr.heap.size wr p t) := hT
        clear HM hT hG hsz
        go_wp2_with fail
        go_loopw [5, 6] (fun uv iv wq => ∃ (m : Nat) (iz : Int), iv = .int .i64 iz ∧ iz = (m : Int) - 1 ∧ m ≤ L.length ∧ uv = .int .i64 ((lastL (L.drop m)).length : Int) ∧ Kept [] wr wq) (fun _ iv _ => ((intOf iv) + 1).toNat)
        case atStart => exact ⟨L.length, _, rfl, rfl, Nat.le_refl _, by simp [lastL], Kept.refl _ _⟩
        case round =>
          obtain ⟨m, iz, rfl, hiz, hmL, rfl, hKq⟩ := hrel
          cases m with
          | zero =>
            obtain rfl : iz = -1 := by omega
            clear hiz
            have cN := tLen_call _ _ p t (HT.out.kept hKq)
            rw [HN.out] at cN
            rw [List.drop_zero]
            go_wp2_with fail
            refine cN.mono ?_
            rintro e w' ⟨rfl, rfl⟩
            go_wp2_with fail
            go_ret
            exact ⟨rfl, hK.trans hKq (by simp)⟩
          | succ j =>
            obtain rfl : iz = (j : Int) := by omega
            clear hiz
            have hjL : j < L.length := by omega
            obtain ⟨b, o, rfl, hx⟩ := HL.out j hjL
            have hKw := hK.trans hKq (by simp)
            have hx2 := hx.kept hKw
            have hll := lastL_le (L.drop (j + 1))
            have hdl : (L.drop (j + 1)).length ≤ 300 := by simp; omega
            have hj1 : (j : Int) < L.length := by omega
            go_wp2_with fail
            go_loopw [7, 8] (fun lv kv wz => ∃ (k q : Nat), kv = .int .i64 (k : Int) ∧ j + 1 ≤ k ∧ k ≤ L.length ∧ lv = .bool (decide (L[j].p ∈ pathsL ((L.take k).drop (j + 1)))) ∧ wz = World.drewN wr q) (fun _ kv _ => L.length - (intOf kv).toNat)
            case atStart => exact ⟨j + 1, 0, by simp, Nat.le_refl _, by omega, by simp [pathsL], rfl⟩
            case round =>
              obtain ⟨k, q, rfl, hjk, hkL, rfl, rfl⟩ := hrel
              by_cases hlt2 : k < L.length
              · have hst := mem_step hjk hlt2 L[j].p
                obtain ⟨b', o', hbo, hy⟩ := HL.out k hlt2
                obtain ⟨rfl, rfl⟩ : b = b' ∧ o = o' := by simpa using hbo
                have x0 := hx2.c0
                have y0 := (hy.kept hKw).c0
                have hk1 : (k : Int) < L.length := by omega
                have es := str_eq L[k].p L[j].p
                clear hy hbo
                cases hb : decide (L[j].p ∈ pathsL ((L.take k).drop (j + 1))) with
                | true =>
                  rw [hb, Bool.true_or] at hst
                  have HS : Hid (decide (L[j].p ∈ pathsL ((L.take (k + 1)).drop (j + 1))) = true) := hst
                  clear hst hb es
                  go_wp2_with fail
                  go_quiet (fail)
                  go_wp2_with fail
                  go_roundw
                  case rel => exact ⟨k + 1, _, by simp, by omega, by omega, by rw [HS.out], rfl⟩
                  case measure => simp [intOf]; omega
                | false =>
                  rw [hb, Bool.false_or] at hst
                  rw [← hst] at es
                  have HS : Hid (((str L[k].p).toList == (str L[j].p).toList) = decide (L[j].p ∈ pathsL ((L.take (k + 1)).drop (j + 1)))) := es
                  clear hst hb es
                  go_wp2_with fail
                  go_quiet (fail)
                  go_wp2_with fail
                  go_roundw
                  case rel => exact ⟨k + 1, _, by simp, by omega, by omega, by rw [HS.out], rfl⟩
                  case measure => simp [intOf]; omega
              · obtain rfl : k = L.length := by omega
                rw [List.take_length]
                obtain ⟨z, hz1, hz2⟩ := HG.out j hjL
                have hxp := HP.out L[j] (List.getElem_mem hjL)
                have hKq2 := kept_drewN hKq q
                have cG := tGet_call _ _ p t L[j].p (HT.out.kept hKq2) (by omega)
                rw [hz1] at cG
                have hld := lastL_drop hjL
                have x0 := hx2.c0
                unfold tupL lfV at cG
                cases hb : decide (L[j].p ∈ pathsL (L.drop (j + 1))) with
                | true =>
                  have hb' := of_decide_eq_true hb
                  rw [if_pos hb'] at hld
                  have HD : Hid (lastL (L.drop j) = lastL (L.drop (j + 1))) := hld
                  clear hld hz2 hb' hz1
                  go_wp2_with fail
                  refine cG.mono ?_
                  rintro e w4 ⟨rfl, hK4⟩
                  go_wp2_with fail
                  go_quiet (fail)
                  go_wp2_with fail
                  go_roundw
                  case rel => exact ⟨j, _, rfl, rfl, by omega, by rw [HD.out], kept_drewN ((hKq2.trans hK4 (by simp)).alloc _) _⟩
                  case measure => simp [intOf]
                | false =>
                  have hb' := of_decide_eq_false hb
                  rw [if_neg hb'] at hld
                  have HD : Hid (lastL (L.drop j) = L[j] :: lastL (L.drop (j + 1))) := hld
                  obtain rfl := hz2 hb'
                  clear hld hz2 hb' hz1
                  go_wp2_with fail
                  refine cG.mono ?_
                  rintro e w4 ⟨rfl, hK4⟩
                  have hKa := (Kept.refl [] w4).alloc (.cells #[.string (str L[j].p), .int .u64 L[j].d, .int .i64 L[j].r, .bool L[j].g] 30)
                  obtain ⟨a0, a1, a2, a3⟩ := cells4 (heap_alloc_new w4 (.cells #[.string (str L[j].p), .int .u64 L[j].d, .int .i64 L[j].r, .bool L[j].g] 30))
                  obtain ⟨y0, y1, y2, y3⟩ := hx2.kept (((kept_drewN (Kept.refl [] _) q).trans hK4 (by simp)).trans hKa (by simp))
                  go_wp2_with fail
                  go_quiet (fail)
                  go_wp2_with fail
                  go_roundw
                  case rel => exact ⟨j, _, rfl, rfl, by omega, by rw [HD.out]; simp, kept_drewN ((hKq2.trans hK4 (by simp)).alloc _) _⟩
                  case measure => simp [intOf]

end Go.Proofs.Ytcaimaofbakjcab
